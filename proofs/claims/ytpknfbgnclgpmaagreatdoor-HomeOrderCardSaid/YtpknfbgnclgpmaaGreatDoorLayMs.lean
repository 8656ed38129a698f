/-
  Several texts in one: MsZ, MsM, MsN, MsA, MsB, MsC, MsDa, MsW, MsEq.
-/
import Derived.Test.YtpknfbgnclgpmaaGreatDoorRows
import Derived.Test.YtpknfbgnclgpmaaGreatDoorLayBase
import Derived.Deep.QuietTactic
import Derived.BigQuiet
import Derived.Lib.QuietBelow
import Derived.Sort.Grow
import Derived.Stop.Asserts
import Derived.WalkKit
import Derived.WalkSpells
import Derived.Laws.StructEq
import Derived.ChangeKeysEq

/-
  A message in plain words, and its cells.
-/
namespace Go.Proofs.YtpknfbgnclgpmaaGreatDoor
open Go

/-- A message: seven numbers, and eight words. -/
structure Msg where
  kd : Int
  ln : Int
  fr : Int
  to : Int
  wh : Int
  ac : Int
  ow : Int
  w0 : Int
  w1 : Int
  w2 : Int
  w3 : Int
  w4 : Int
  w5 : Int
  w6 : Int
  w7 : Int

/-- Its k-th word. -/
def Msg.wd (m : Msg) (k : Nat) : Int := [m.w0, m.w1, m.w2, m.w3, m.w4, m.w5, m.w6, m.w7].getD k 0

abbrev mcells (m : Msg) : Array Value := #[.int .i64 m.kd, .int .i64 m.ln, .int .i64 m.fr, .int .i64 m.to, .int .i64 m.wh, .int .i64 m.ac, .int .i64 m.ow, .int .i64 m.w0, .int .i64 m.w1, .int .i64 m.w2, .int .i64 m.w3, .int .i64 m.w4, .int .i64 m.w5, .int .i64 m.w6, .int .i64 m.w7]
abbrev mv (m : Msg) : Value := .agg (mcells m)

end Go.Proofs.YtpknfbgnclgpmaaGreatDoor

/-
  Messages in plain words: which may be on a machine, their bytes, what bytes tell; messages and bytes tell one another.
-/
namespace Go.Proofs.YtpknfbgnclgpmaaGreatDoor
open Go

def isin (n k : Int) : Bool := decide (0 ≤ n) && decide (n < k)
/-- Is it a kind? Its network; does it go to a home? -/
def isKind (k : Int) : Bool := decide (1 ≤ k) && decide (k ≤ 11)
def net (k : Int) : Int := if isKind k = true then (if k ≤ 3 then 0 else if k ≤ 6 then 1 else 2) else -1
def toHome (k : Int) : Bool := k == 1 || (k == 2 || (k == 3 || k == 11))
/-- How many words messages of a kind bring. -/
def nw (c : Cfg) (k : Int) : Int := if k = 3 ∨ k = 7 then c.wo else 0

def bare (m : Msg) : Bool := m.wh == 0 && (m.ac == 0 && m.ow == 0)
def cth (c : Cfg) (m : Msg) : Bool := isin m.fr c.co && m.to == m.ln % c.ho
def htc (c : Cfg) (m : Msg) : Bool := m.fr == m.ln % c.ho && isin m.to c.co
def another (c : Cfg) (n k : Int) : Bool := isin n c.co && n != k
def ctc (c : Cfg) (m : Msg) : Bool := isin m.to c.co && another c m.fr m.to
def acks (c : Cfg) (a : Int) (b : Bool) : Bool := if b = true then isin a c.co else a == 0
def given (n : Int) : Bool := n == 1 || (n == 2 || n == 4)
def sender (c : Cfg) (m : Msg) : Bool := if m.wh = 0 then htc c m else if m.wh = 1 then ctc c m else false
def fwdB (c : Cfg) (m : Msg) (b : Bool) : Bool := htc c m && (another c m.wh m.to && (acks c m.ac b && m.ow == 0))
def datB (c : Cfg) (m : Msg) : Bool := sender c m && (acks c m.ac true && given m.ow)
def ansB (c : Cfg) (m : Msg) (b : Bool) : Bool := htc c m && (m.wh == 0 && (acks c m.ac b && m.ow == 0))
/-- What messages of its kind must have, but for lines and words. -/
def holdsB (c : Cfg) (m : Msg) : Bool :=
  if m.kd ≤ 3 ∨ m.kd = 11 then cth c m && bare m
  else if m.kd = 9 then ctc c m && bare m
  else if m.kd = 7 then datB c m
  else if m.kd ≤ 6 then fwdB c m (m.kd == 5)
  else ansB c m (m.kd == 8)
/-- May the k-th word be, if so many may be other than 0? -/
def wordB (n : Int) (m : Msg) (k : Nat) : Bool := decide (-2147483648 ≤ m.wd k) && (decide (m.wd k ≤ 2147483647) && (m.wd k == 0 || decide ((k : Int) < n)))
def wordsB (m : Msg) (n : Int) : Bool := (List.range 8).all (wordB n m)
/-- May the message be? -/
def mayM (c : Cfg) (m : Msg) : Bool := okC c && (isin m.ln c.li && (isKind m.kd && (holdsB c m && wordsB m (nw c m.kd))))

/-- A number as a byte. -/
def u8' (n : Int) : UInt8 := UInt8.ofNat n.toNat
/-- A number of 32 bits, one below 0 as 2^32 more. -/
def unsig (n : Int) : Int := if n < 0 then n + 4294967296 else n
def w4 (n : Int) : List UInt8 := [u8' (unsig n / 16777216), u8' (unsig n / 65536 % 256), u8' (unsig n / 256 % 256), u8' (unsig n % 256)]
def headB (m : Msg) : List UInt8 := [u8' m.kd, u8' (m.ln / 256), u8' (m.ln % 256), u8' m.fr, u8' m.to, u8' m.wh, u8' m.ac, u8' m.ow]
def wordsL (m : Msg) (k : Nat) : List UInt8 := (List.range k).flatMap fun j => w4 (m.wd j)
/-- The bytes of a message that may be. -/
def bytesM (c : Cfg) (m : Msg) : List UInt8 := headB m ++ wordsL m (nw c m.kd).toNat
/-- A message's bytes, and the error's number. -/
def putM (c : Cfg) (m : Msg) : List UInt8 × Int := if mayM c m = true then (bytesM c m, 0) else ([], 1)

def n8' (a : UInt8) : Int := a.toNat
def at8 (s : List UInt8) (k : Nat) : Int := n8' (s.getD k 0)
def sig (n : Int) : Int := if 2147483647 < n then n - 4294967296 else n
/-- The number of four bytes from a place on. -/
def rd4 (s : List UInt8) (k : Nat) : Int := sig (((at8 s k * 256 + at8 s (k + 1)) * 256 + at8 s (k + 2)) * 256 + at8 s (k + 3))
/-- The k-th word that bytes tell; 0 where they are too few. -/
def wdB (s : List UInt8) (k : Nat) : Int := if 8 + 4 * k + 3 < s.length then rd4 s (8 + 4 * k) else 0
/-- What the bytes ahead of words tell, and n words. -/
def headM (s : List UInt8) : Msg := ⟨at8 s 0, at8 s 1 * 256 + at8 s 2, at8 s 3, at8 s 4, at8 s 5, at8 s 6, at8 s 7, 0, 0, 0, 0, 0, 0, 0, 0⟩
def wdN (s : List UInt8) (n k : Nat) : Int := if k < n then rd4 s (8 + 4 * k) else 0
def tellN (s : List UInt8) (n : Nat) : Msg := ⟨at8 s 0, at8 s 1 * 256 + at8 s 2, at8 s 3, at8 s 4, at8 s 5, at8 s 6, at8 s 7, wdN s n 0, wdN s n 1, wdN s n 2, wdN s n 3, wdN s n 4, wdN s n 5, wdN s n 6, wdN s n 7⟩
/-- So many words are behind the head. -/
def cnt (s : List UInt8) : Nat := (s.length - 8) / 4
/-- Are the bytes just as many as their kind has? -/
def fitL (c : Cfg) (s : List UInt8) : Bool := decide (8 ≤ s.length) && (isKind (at8 s 0) && decide ((s.length : Int) = 8 + 4 * nw c (at8 s 0)))
def tkB (c : Cfg) (s : List UInt8) : Bool := okC c && (fitL c s && mayM c (tellN s (cnt s)))
abbrev m0 : Msg := ⟨0, 0, 0, 0, 0, 0, 0, 0, 0, 0, 0, 0, 0, 0, 0⟩
/-- What bytes tell, and the error's number. -/
def takM (c : Cfg) (s : List UInt8) : Msg × Int := if tkB c s = true then (tellN s (cnt s), 0) else (m0, 2)

/-! ### Bounds -/
theorem isin_of {n k : Int} (h : isin n k = true) : 0 ≤ n ∧ n < k := by unfold isin at h; simpa using h
theorem isin_yes {n k : Int} (h0 : 0 ≤ n) (h1 : n < k) : isin n k = true := by unfold isin; simp [h0, h1]
theorem isin_lo {n k : Int} (h : ¬ 0 ≤ n) : isin n k = false := by unfold isin; simp [h]
theorem isin_hi {n k : Int} (h : ¬ n < k) : isin n k = false := by unfold isin; simp [h]
theorem isKind_of {k : Int} (h : isKind k = true) : 1 ≤ k ∧ k ≤ 11 := by unfold isKind at h; simpa using h
theorem isKind_yes {k : Int} (h0 : 1 ≤ k) (h1 : k ≤ 11) : isKind k = true := by unfold isKind; simp [h0, h1]
theorem isKind_no {k : Int} (h : ¬ (1 ≤ k ∧ k ≤ 11)) : isKind k = false := by unfold isKind; simp; omega
theorem kinds {k : Int} (h : isKind k = true) : k = 1 ∨ k = 2 ∨ k = 3 ∨ k = 4 ∨ k = 5 ∨ k = 6 ∨ k = 7 ∨ k = 8 ∨ k = 9 ∨ k = 10 ∨ k = 11 := by have := isKind_of h; omega

theorem ok_sizes {c : Cfg} (h : okC c = true) : (1 ≤ c.co ∧ c.co ≤ 64) ∧ (1 ≤ c.ho ∧ c.ho ≤ 16) ∧ (1 ≤ c.wo ∧ c.wo ≤ 8) ∧ (1 ≤ c.li ∧ c.li ≤ 1024) := by
  rw [okC_eq] at h
  simp only [Bool.and_eq_true] at h
  obtain ⟨⟨⟨⟨⟨⟨⟨⟨⟨⟨h0, h1⟩, h2⟩, h3⟩, h4⟩, h5⟩, h6⟩, h7⟩, h8⟩, h9⟩, ⟨h10, h11⟩, h12⟩ := h
  have g0 := inB_of h0; have g1 := powB_of h1; have g4 := powB_of h4; have g5 := powB_of h5
  refine ⟨by omega, by omega, by omega, by omega⟩
theorem nw_bound {c : Cfg} (h : okC c = true) (k : Int) : 0 ≤ nw c k ∧ nw c k ≤ 8 := by
  have := ok_sizes h
  unfold nw
  split <;> omega
theorem may_all {c : Cfg} {m : Msg} (h : mayM c m = true) : okC c = true ∧ isin m.ln c.li = true ∧ isKind m.kd = true ∧ holdsB c m = true ∧ wordsB m (nw c m.kd) = true := by
  unfold mayM at h
  simpa only [Bool.and_eq_true] using h
theorem word_all {m : Msg} {n : Int} (h : wordsB m n = true) (k : Nat) (hk : k < 8) : -2147483648 ≤ m.wd k ∧ m.wd k ≤ 2147483647 ∧ (m.wd k = 0 ∨ (k : Int) < n) := by
  unfold wordsB at h
  rw [List.all_eq_true] at h
  have := h k (List.mem_range.2 hk)
  unfold wordB at this
  simpa using this
theorem words_yes {m : Msg} {n : Int} (h : ∀ k, k < 8 → wordB n m k = true) : wordsB m n = true := by
  unfold wordsB; rw [List.all_eq_true]; intro j hj; exact h j (List.mem_range.1 hj)
theorem words_not {m : Msg} {n : Int} (k : Nat) (hk : k < 8) (h : wordB n m k = false) : wordsB m n = false := by
  rcases Bool.eq_false_or_eq_true (wordsB m n) with h' | h'
  · unfold wordsB at h'; rw [List.all_eq_true] at h'
    have := h' k (List.mem_range.2 hk)
    rw [h] at this; cases this
  · exact h'

theorem another_of {c : Cfg} {n k : Int} (h : another c n k = true) : (0 ≤ n ∧ n < c.co) ∧ n ≠ k := by
  unfold another at h
  simp only [Bool.and_eq_true] at h
  exact ⟨isin_of h.1, by simpa using h.2⟩
theorem acks_of {c : Cfg} {a : Int} {b : Bool} (hc : okC c = true) (h : acks c a b = true) : 0 ≤ a ∧ a < 64 := by
  have := ok_sizes hc
  unfold acks at h
  split at h
  · have := isin_of h; omega
  · simp at h; omega
/-- The numbers of a message that may be are those of bytes. -/
theorem may_bytes {c : Cfg} {m : Msg} (h : mayM c m = true) : (1 ≤ m.kd ∧ m.kd ≤ 11) ∧ (0 ≤ m.ln ∧ m.ln < 1024) ∧ (0 ≤ m.fr ∧ m.fr < 64) ∧ (0 ≤ m.to ∧ m.to < 64) ∧ (0 ≤ m.wh ∧ m.wh < 64) ∧ (0 ≤ m.ac ∧ m.ac < 64) ∧ (0 ≤ m.ow ∧ m.ow ≤ 4) := by
  obtain ⟨hc, hl, hk, hh, _⟩ := may_all h
  have hs := ok_sizes hc
  have h1 := isin_of hl
  have h2 := isKind_of hk
  have hq0 := Int.emod_nonneg m.ln (show c.ho ≠ 0 by omega)
  have hq1 := Int.emod_lt_of_pos m.ln (show 0 < c.ho by omega)
  refine ⟨h2, by omega, ?_⟩
  unfold holdsB at hh
  split at hh
  · simp only [Bool.and_eq_true, cth, bare] at hh
    have a := isin_of hh.1.1
    have b := hh.1.2; have d := hh.2.1; have e := hh.2.2.1; have f := hh.2.2.2
    simp at b d e f
    omega
  · split at hh
    · simp only [Bool.and_eq_true, ctc, bare] at hh
      have a := isin_of hh.1.1
      have b := another_of hh.1.2; have d := hh.2.1; have e := hh.2.2.1; have f := hh.2.2.2
      simp at d e f
      omega
    · split at hh
      · simp only [Bool.and_eq_true, datB, given] at hh
        have a := acks_of hc hh.2.1
        have b := hh.2.2
        simp at b
        have d := hh.1
        unfold sender at d
        split at d
        · simp only [Bool.and_eq_true, htc] at d
          have e := isin_of d.2
          have f := d.1
          simp at f
          omega
        · split at d
          · simp only [Bool.and_eq_true, ctc] at d
            have e := isin_of d.1
            have f := another_of d.2
            omega
          · cases d
      · split at hh
        · simp only [Bool.and_eq_true, fwdB, htc] at hh
          have a := acks_of hc hh.2.2.1
          have b := another_of hh.2.1
          have d := isin_of hh.1.2
          have e := hh.1.1; have f := hh.2.2.2
          simp at e f
          omega
        · simp only [Bool.and_eq_true, ansB, htc] at hh
          have a := acks_of hc hh.2.2.1
          have d := isin_of hh.1.2
          have b := hh.2.1; have e := hh.1.1; have f := hh.2.2.2
          simp at b e f
          omega

/-! ### There and back -/
theorem n8_u8' {n : Int} (h0 : 0 ≤ n) (h1 : n ≤ 255) : n8' (u8' n) = n := by
  unfold n8' u8'
  rw [UInt8.toNat_ofNat']
  omega
theorem u8_n8' (a : UInt8) : u8' (n8' a) = a := by
  apply UInt8.toNat_inj.1
  unfold u8' n8'
  rw [UInt8.toNat_ofNat']
  have := a.toNat_lt
  simp
theorem n8_in (a : UInt8) : 0 ≤ n8' a ∧ n8' a ≤ 255 := by
  have := a.toNat_lt
  unfold n8'
  omega
theorem at8_in (s : List UInt8) (k : Nat) : 0 ≤ at8 s k ∧ at8 s k ≤ 255 := n8_in _
theorem w4_len (n : Int) : (w4 n).length = 4 := rfl
theorem head_len (m : Msg) : (headB m).length = 8 := rfl
theorem wordsL_len (m : Msg) : ∀ k, (wordsL m k).length = 4 * k
  | 0 => rfl
  | k + 1 => by
    have := wordsL_len m k
    unfold wordsL at *
    rw [List.range_succ, List.flatMap_append, List.length_append, this]
    simp [w4]
    omega
theorem wordsL_more (m : Msg) (k : Nat) : wordsL m (k + 1) = wordsL m k ++ w4 (m.wd k) := by
  unfold wordsL
  rw [List.range_succ, List.flatMap_append]
  simp
theorem unsig_in {n : Int} (h0 : -2147483648 ≤ n) (h1 : n ≤ 2147483647) : 0 ≤ unsig n ∧ unsig n < 4294967296 := by
  unfold unsig
  split <;> omega
theorem sig_unsig {n : Int} (h0 : -2147483648 ≤ n) (h1 : n ≤ 2147483647) : sig (unsig n) = n := by
  unfold sig unsig
  split <;> split <;> omega
theorem unsig_sig {n : Int} (h0 : 0 ≤ n) (h1 : n < 4294967296) : unsig (sig n) = n := by
  unfold sig unsig
  split <;> split <;> omega
theorem four (x : Int) : ((x / 16777216 * 256 + x / 65536 % 256) * 256 + x / 256 % 256) * 256 + x % 256 = x := by omega
theorem getD_app {s t : List UInt8} {k : Nat} : (s ++ t).getD (s.length + k) 0 = t.getD k 0 := by
  simp [List.getD_eq_getElem?_getD, List.getElem?_append_right]
theorem rd4_w4 {n : Int} (s t : List UInt8) (k : Nat) (hk : s.length = k) (h0 : -2147483648 ≤ n) (h1 : n ≤ 2147483647) : rd4 (s ++ (w4 n ++ t)) k = n := by
  subst hk
  have hu := unsig_in h0 h1
  have e : ∀ j, at8 (s ++ (w4 n ++ t)) (s.length + j) = n8' ((w4 n ++ t).getD j 0) := fun j => by unfold at8; rw [getD_app]
  unfold rd4
  rw [show s.length = s.length + 0 from rfl, e 0]
  rw [show s.length + 0 + 1 = s.length + 1 from rfl, show s.length + 0 + 2 = s.length + 2 from rfl, show s.length + 0 + 3 = s.length + 3 from rfl, e 1, e 2, e 3]
  simp only [w4, List.cons_append, List.getD_cons_zero, List.getD_cons_succ]
  rw [n8_u8' (by omega) (by omega), n8_u8' (by omega) (by omega), n8_u8' (by omega) (by omega), n8_u8' (by omega) (by omega), four, sig_unsig h0 h1]

end Go.Proofs.YtpknfbgnclgpmaaGreatDoor

/-
  Messages and bytes tell one another; what bytes tell, the document's way.
-/
namespace Go.Proofs.YtpknfbgnclgpmaaGreatDoor
open Go

theorem bytesM_len (c : Cfg) (m : Msg) : (bytesM c m).length = 8 + 4 * (nw c m.kd).toNat := by
  unfold bytesM
  rw [List.length_append, head_len, wordsL_len]
theorem cnt_bytes (c : Cfg) (m : Msg) : cnt (bytesM c m) = (nw c m.kd).toNat := by
  unfold cnt
  rw [bytesM_len]
  omega
theorem wordsL_cut (m : Msg) (n k : Nat) (h : k < n) : ∃ t, wordsL m n = wordsL m k ++ (w4 (m.wd k) ++ t) := by
  induction n with
  | zero => omega
  | succ n ih =>
    rw [wordsL_more]
    by_cases e : k = n
    · subst e
      exact ⟨[], by simp⟩
    · obtain ⟨t, ht⟩ := ih (by omega)
      exact ⟨t ++ w4 (m.wd n), by rw [ht]; simp⟩
theorem word_back {c : Cfg} {m : Msg} (h : mayM c m = true) (k : Nat) (hk : k < 8) : wdN (bytesM c m) (cnt (bytesM c m)) k = m.wd k := by
  obtain ⟨_, _, _, _, hw⟩ := may_all h
  obtain ⟨h0, h1, h2⟩ := word_all hw k hk
  unfold wdN
  rw [cnt_bytes]
  split
  · rename_i hlt
    obtain ⟨t, ht⟩ := wordsL_cut m (nw c m.kd).toNat k hlt
    unfold bytesM
    rw [ht, ← List.append_assoc]
    exact rd4_w4 _ _ _ (by rw [List.length_append, head_len, wordsL_len]) h0 h1
  · rcases h2 with h2 | h2
    · exact h2.symm
    · omega
theorem two_of (x : Int) : x / 256 * 256 + x % 256 = x := by omega
/-- A message that may be is told by its bytes. -/
theorem tell_bytes {c : Cfg} {m : Msg} (h : mayM c m = true) : tellN (bytesM c m) (cnt (bytesM c m)) = m := by
  obtain ⟨⟨a1, a2⟩, ⟨b1, b2⟩, ⟨c1, c2⟩, ⟨d1, d2⟩, ⟨e1, e2⟩, ⟨f1, f2⟩, g1, g2⟩ := may_bytes h
  have w := word_back h
  have e : ∀ k, k < 8 → at8 (bytesM c m) k = n8' ((headB m).getD k 0) := fun k hk => by
    unfold at8 bytesM
    rw [List.getD_eq_getElem?_getD, List.getElem?_append_left (by rw [head_len]; exact hk), ← List.getD_eq_getElem?_getD]
  unfold tellN
  rw [w 0 (by omega), w 1 (by omega), w 2 (by omega), w 3 (by omega), w 4 (by omega), w 5 (by omega), w 6 (by omega), w 7 (by omega)]
  rw [e 0 (by omega), e 1 (by omega), e 2 (by omega), e 3 (by omega), e 4 (by omega), e 5 (by omega), e 6 (by omega), e 7 (by omega)]
  simp only [headB, List.getD_cons_zero, List.getD_cons_succ]
  rw [n8_u8' (by omega) (by omega), n8_u8' (by omega) (by omega), n8_u8' (by omega) (by omega), n8_u8' (by omega) (by omega), n8_u8' (by omega) (by omega), n8_u8' (by omega) (by omega), n8_u8' (by omega) (by omega), n8_u8' (by omega) (by omega), two_of]
  cases m
  rfl
theorem fit_bytes {c : Cfg} {m : Msg} (h : mayM c m = true) : fitL c (bytesM c m) = true := by
  obtain ⟨hc, _, hk, _, _⟩ := may_all h
  have hn := nw_bound hc m.kd
  have e : at8 (bytesM c m) 0 = m.kd := congrArg Msg.kd (tell_bytes h)
  unfold fitL
  rw [e, bytesM_len, hk]
  simp
  omega
/-- There and back. -/
theorem take_put {c : Cfg} {m : Msg} (h : mayM c m = true) : takM c (bytesM c m) = (m, 0) := by
  have ht : tkB c (bytesM c m) = true := by
    unfold tkB
    rw [(may_all h).1, fit_bytes h, tell_bytes h, h]
    rfl
  unfold takM
  rw [if_pos ht, tell_bytes h]

theorem wd_tell (s : List UInt8) (n k : Nat) (h : k < 8) : (tellN s n).wd k = wdN s n k := by
  rcases (show k = 0 ∨ k = 1 ∨ k = 2 ∨ k = 3 ∨ k = 4 ∨ k = 5 ∨ k = 6 ∨ k = 7 by omega) with rfl | rfl | rfl | rfl | rfl | rfl | rfl | rfl <;> rfl
theorem four_bytes (a b d e : UInt8) : w4 (sig (((n8' a * 256 + n8' b) * 256 + n8' d) * 256 + n8' e)) = [a, b, d, e] := by
  have ha := n8_in a; have hb := n8_in b; have hd := n8_in d; have he := n8_in e
  unfold w4
  rw [unsig_sig (by omega) (by omega), show (((n8' a * 256 + n8' b) * 256 + n8' d) * 256 + n8' e) / 16777216 = n8' a by omega, show (((n8' a * 256 + n8' b) * 256 + n8' d) * 256 + n8' e) / 65536 % 256 = n8' b by omega,
    show (((n8' a * 256 + n8' b) * 256 + n8' d) * 256 + n8' e) / 256 % 256 = n8' d by omega, show (((n8' a * 256 + n8' b) * 256 + n8' d) * 256 + n8' e) % 256 = n8' e by omega, u8_n8', u8_n8', u8_n8', u8_n8']
theorem getD_mem (s : List UInt8) (j : Nat) (h : j < s.length) : s[j]? = some (s.getD j 0) := by
  rw [List.getD_eq_getElem?_getD, List.getElem?_eq_getElem h]; rfl
theorem take_one (s : List UInt8) (j : Nat) (h : j < s.length) : s.take (j + 1) = s.take j ++ [s.getD j 0] := by
  rw [List.take_add_one, getD_mem s j h]; rfl
theorem w4_rd4 (s : List UInt8) (j : Nat) (h : j + 3 < s.length) : s.take j ++ w4 (rd4 s j) = s.take (j + 4) := by
  unfold rd4 at8
  rw [four_bytes, show j + 4 = j + 1 + 1 + 1 + 1 from rfl, take_one s _ (by omega), take_one s _ (by omega), take_one s _ (by omega), take_one s _ (by omega)]
  simp
theorem words_tell (s : List UInt8) (n : Nat) (hn : n ≤ 8) (hs : s.length = 8 + 4 * n) : ∀ k, k ≤ n → s.take 8 ++ wordsL (tellN s n) k = s.take (8 + 4 * k)
  | 0, _ => by simp [wordsL]
  | k + 1, h => by
    rw [wordsL_more, ← List.append_assoc, words_tell s n hn hs k (by omega), wd_tell s n k (by omega)]
    unfold wdN
    rw [if_pos (by omega), w4_rd4 s _ (by omega)]
    rfl
theorem head_tell (s : List UInt8) (n : Nat) (h : 8 ≤ s.length) : headB (tellN s n) = s.take 8 := by
  match s, h with
  | a0 :: a1 :: a2 :: a3 :: a4 :: a5 :: a6 :: a7 :: r, _ =>
    have h1 := n8_in a1
    have h2 := n8_in a2
    simp only [headB, tellN, at8, List.getD_cons_zero, List.getD_cons_succ, List.take_succ_cons, List.take_zero]
    rw [show (n8' a1 * 256 + n8' a2) / 256 = n8' a1 by omega, show (n8' a1 * 256 + n8' a2) % 256 = n8' a2 by omega, u8_n8', u8_n8', u8_n8', u8_n8', u8_n8', u8_n8', u8_n8', u8_n8']
theorem fit_all {c : Cfg} {s : List UInt8} (hc : okC c = true) (h : fitL c s = true) : isKind (at8 s 0) = true ∧ cnt s = (nw c (at8 s 0)).toNat ∧ s.length = 8 + 4 * cnt s ∧ cnt s ≤ 8 := by
  have hn := nw_bound hc (at8 s 0)
  unfold fitL at h
  simp only [Bool.and_eq_true, decide_eq_true_eq] at h
  obtain ⟨_, h1, h2⟩ := h
  have : cnt s = (nw c (at8 s 0)).toNat := by unfold cnt; omega
  exact ⟨h1, this, by omega, by omega⟩
theorem bytes_fit {c : Cfg} {s : List UInt8} (hc : okC c = true) (h : fitL c s = true) : bytesM c (tellN s (cnt s)) = s := by
  obtain ⟨_, h1, h2, h3⟩ := fit_all hc h
  have hw := words_tell s (cnt s) h3 h2 (cnt s) (Nat.le_refl _)
  unfold bytesM
  rw [show (tellN s (cnt s)).kd = at8 s 0 from rfl, ← h1, head_tell s _ (by omega), hw, List.take_of_length_le (by omega)]
theorem tk_all {c : Cfg} {s : List UInt8} (h : tkB c s = true) : okC c = true ∧ fitL c s = true ∧ mayM c (tellN s (cnt s)) = true := by
  unfold tkB at h
  simpa only [Bool.and_eq_true] using h
/-- What bytes tell has these. -/
theorem bytes_tell {c : Cfg} {s : List UInt8} (h : tkB c s = true) : putM c (tellN s (cnt s)) = (s, 0) := by
  obtain ⟨hc, hf, hm⟩ := tk_all h
  unfold putM
  rw [if_pos hm, bytes_fit hc hf]
/-- The document's way: they are as many as they may be, a message is guessed, it may be, and it has these bytes. -/
theorem doc_iff (c : Cfg) (s : List UInt8) : tkB c s = true ↔ (8 ≤ s.length ∧ s.length ≤ 40) ∧ (mayM c (tellN s (cnt s)) = true ∧ bytesM c (tellN s (cnt s)) = s) := by
  constructor
  · intro h
    obtain ⟨hc, hf, hm⟩ := tk_all h
    obtain ⟨_, h1, h2, h3⟩ := fit_all hc hf
    exact ⟨by omega, hm, bytes_fit hc hf⟩
  · rintro ⟨_, hm, hb⟩
    have hf := fit_bytes hm
    rw [hb] at hf
    unfold tkB
    rw [(may_all hm).1, hf, hm]
    rfl
/-- A word that bytes tell, the document's way. -/
theorem wdN_eq (s : List UInt8) (k : Nat) : wdN s (cnt s) k = wdB s k := by
  unfold wdN wdB cnt
  by_cases h : k < (s.length - 8) / 4
  · rw [if_pos h, if_pos (by omega)]
  · rw [if_neg h, if_neg (by omega)]

end Go.Proofs.YtpknfbgnclgpmaaGreatDoor

/-
  What the smallest functions of package message do, one contract each.
-/
namespace Go.Proofs.YtpknfbgnclgpmaaGreatDoor
open Go Go.RowKit Go.Sort

abbrev ccells (c : Cfg) : Array Value := #[.int .i64 c.co, .int .i64 c.ho, .int .i64 c.se, .int .i64 c.wa, .int .i64 c.wo, .int .i64 c.li, .int .i64 c.po, .int .i64 c.ms, .int .i64 c.bu, .int .i64 c.wb, .int .i64 c.r0, .int .i64 c.r1, .int .i64 c.r2]

theorem isOneOf_any (n k : Int) (w : World) :
    Calls Tryz.prog 123 #[.int .i64 n, .int .i64 k] w fun e w' => e = .returned (.bool (isin n k)) ∧ w = w' := by
  go_enter Tryz.func123, Tryz.ntmps123
  go_wp2
  · have h : 0 ≤ n := by assumption
    go_ret
    exact ⟨ret_bool (by simp [isin, h]), rfl⟩
  · have h : n < 0 := by assumption
    go_ret
    exact ⟨ret_bool (by simp [isin]; omega), rfl⟩

theorem homeOf_any (c : Cfg) (l : Int) (w : World) (h0 : 0 ≤ l) (hh : 1 ≤ c.ho) (h2 : c.ho ≤ 16) :
    Calls Tryz.prog 176 #[cv c, .int .i64 l] w fun e w' => e = .returned (.int .i64 (l % c.ho)) ∧ Below w.heap.size w w' := by
  have hne : (c.ho == 0) = false := by simp; omega
  go_enter Tryz.func176, Tryz.ntmps176
  go_wp2
  go_ret
  exact ⟨rfl, (Below.refl _ _).alloc (Nat.le_refl _) _⟩

theorem isBare_any (m : Msg) (w : World) :
    Calls Tryz.prog 175 #[mv m] w fun e w' => e = .returned (.bool (bare m)) ∧ Below w.heap.size w w' := by
  go_enter Tryz.func175, Tryz.ntmps175
  go_wp2
  all_goals go_ret
  all_goals exact ⟨ret_bool (by simp_all [bare]), (Below.refl _ _).alloc (Nat.le_refl _) _⟩

theorem isAnother_any (c : Cfg) (n k : Int) (w : World) :
    Calls Tryz.prog 182 #[cv c, .int .i64 n, .int .i64 k] w fun e w' => e = .returned (.bool (another c n k)) ∧ Below w.heap.size w w' := by
  go_enter Tryz.func182, Tryz.ntmps182
  go_wp2_with (go_at_call 123; refine (isOneOf_any _ _ _).mono ?_; rintro e w1 ⟨rfl, rfl⟩)
  all_goals go_ret
  all_goals exact ⟨ret_bool (by simp_all [another]), (Below.refl _ _).alloc (Nat.le_refl _) _⟩

theorem areAcks_any (c : Cfg) (a : Int) (b : Bool) (w : World) :
    Calls Tryz.prog 183 #[cv c, .int .i64 a, .bool b] w fun e w' => e = .returned (.bool (acks c a b)) ∧ Below w.heap.size w w' := by
  go_enter Tryz.func183, Tryz.ntmps183
  go_wp2_with (go_at_call 123; refine (isOneOf_any _ _ _).mono ?_; rintro e w1 ⟨rfl, rfl⟩)
  all_goals go_ret
  all_goals exact ⟨ret_bool (by simp_all [acks]), (Below.refl _ _).alloc (Nat.le_refl _) _⟩

theorem isGiven_any (n : Int) (w : World) :
    Calls Tryz.prog 189 #[.int .i64 n] w fun e w' => e = .returned (.bool (given n)) ∧ w = w' := by
  go_enter Tryz.func189, Tryz.ntmps189
  go_wp2
  all_goals go_ret
  all_goals exact ⟨ret_bool (by simp_all [given, Bool.or_assoc]), rfl⟩

/-- As the class of a quiet region wants them. -/
theorem isOneOf_is {n k : Int} {b : Bool} (h : isin n k = b) (w : World) :
    Calls Tryz.prog 123 #[.int .i64 n, .int .i64 k] w fun e w' => e = .returned (.bool b) ∧ Below w.heap.size w w' := by
  subst h
  exact (isOneOf_any n k w).mono fun _ _ ⟨h, hw⟩ => ⟨h, hw ▸ Below.refl _ _⟩

/-- The call's own first two blocks still hold these cells, and nothing that was there has changed. -/
structure K2 (w : World) (A B : Array Value) (w1 : World) : Prop where
  a : ∀ o, w1.cell? ⟨w.heap.size, o, none⟩ = A[o]?
  b : ∀ o, w1.cell? ⟨w.heap.size + 1, o, none⟩ = B[o]?
  lt : w.heap.size + 1 < w1.heap.size
  below : Below w.heap.size w w1
theorem K2.box (w : World) (A B : Array Value) (t t' : TypeId) : K2 w A B ((w.alloc (.cells A t)).alloc (.cells B t')) where
  a := fun o => (((Below.refl _ (w.alloc (.cells A t))).alloc (Nat.le_refl _) (.cells B t')).cell (p := ⟨w.heap.size, o, none⟩) (by simp)).trans (World.cell?_alloc_mark w A t (0, 0) o)
  b := fun o => by
    exact (show w.heap.size + 1 = (w.alloc (.cells A t)).heap.size by simp) ▸ World.cell?_alloc_mark (w.alloc (.cells A t)) B t' (0, 0) o
  lt := by simp
  below := ((Below.refl _ _).alloc (Nat.le_refl _) _).alloc (by simp) _
theorem K2.step {w w1 w2 : World} {A B : Array Value} (h : K2 w A B w1) (hb : Below w1.heap.size w1 w2) : K2 w A B w2 where
  a := fun o => (hb.cell (p := ⟨w.heap.size, o, none⟩) (by have := h.lt; simp only; omega)).trans (h.a o)
  b := fun o => (hb.cell (p := ⟨w.heap.size + 1, o, none⟩) h.lt).trans (h.b o)
  lt := Nat.lt_of_lt_of_le h.lt hb.size
  below := bstep h.below hb
theorem K2.grown {w w1 : World} {A B : Array Value} (h : K2 w A B w1) : (∀ o d os, (grow (redrawn w1 d) os).cell? ⟨w.heap.size, o, none⟩ = A[o]?) ∧ (∀ o d os, (grow (redrawn w1 d) os).cell? ⟨w.heap.size + 1, o, none⟩ = B[o]?) :=
  ⟨fun o d os => (h.step (below_regrown w1 d os)).a o, fun o d os => (h.step (below_regrown w1 d os)).b o⟩
/-- The call's own first three blocks. -/
structure K3 (w : World) (A B C : Array Value) (w1 : World) : Prop where
  a : ∀ o, w1.cell? ⟨w.heap.size, o, none⟩ = A[o]?
  b : ∀ o, w1.cell? ⟨w.heap.size + 1, o, none⟩ = B[o]?
  c : ∀ o, w1.cell? ⟨w.heap.size + 2, o, none⟩ = C[o]?
  lt : w.heap.size + 2 < w1.heap.size
  below : Below w.heap.size w w1
theorem K3.box (w : World) (A B C : Array Value) (t t' t'' : TypeId) : K3 w A B C (((w.alloc (.cells A t)).alloc (.cells B t')).alloc (.cells C t'')) where
  a := ((K2.box w A B t t').step ((Below.refl _ _).alloc (Nat.le_refl _) _)).a
  b := ((K2.box w A B t t').step ((Below.refl _ _).alloc (Nat.le_refl _) _)).b
  c := fun o => by
    exact (show w.heap.size + 2 = ((w.alloc (.cells A t)).alloc (.cells B t')).heap.size by simp) ▸ World.cell?_alloc_mark ((w.alloc (.cells A t)).alloc (.cells B t')) C t'' (0, 0) o
  lt := by simp
  below := (((Below.refl _ _).alloc (Nat.le_refl _) _).alloc (by simp) _).alloc (by simp; omega) _
theorem K3.step {w w1 w2 : World} {A B C : Array Value} (h : K3 w A B C w1) (hb : Below w1.heap.size w1 w2) : K3 w A B C w2 where
  a := fun o => (hb.cell (p := ⟨w.heap.size, o, none⟩) (by have := h.lt; simp only; omega)).trans (h.a o)
  b := fun o => (hb.cell (p := ⟨w.heap.size + 1, o, none⟩) (by have := h.lt; simp only; omega)).trans (h.b o)
  c := fun o => (hb.cell (p := ⟨w.heap.size + 2, o, none⟩) h.lt).trans (h.c o)
  lt := Nat.lt_of_lt_of_le h.lt hb.size
  below := bstep h.below hb

end Go.Proofs.YtpknfbgnclgpmaaGreatDoor

/-
  From whom to whom a message goes: one contract each.
-/
namespace Go.Proofs.YtpknfbgnclgpmaaGreatDoor
open Go Go.RowKit Go.Sort

/-- A line and a machine of which a home may be asked. -/
structure Hm (c : Cfg) (m : Msg) : Prop where
  l0 : 0 ≤ m.ln
  h1 : 1 ≤ c.ho
  h2 : c.ho ≤ 16

theorem cth_any (c : Cfg) (m : Msg) (w : World) (hm : Hm c m) :
    Calls Tryz.prog 174 #[cv c, mv m] w fun e w' => e = .returned (.bool (cth c m)) ∧ Below w.heap.size w w' := by
  obtain ⟨l0, h1, h2⟩ := hm
  have KK := K2.box w (ccells c) (mcells m) 24 38
  obtain ⟨hA, hB⟩ := KK.grown
  have HL := Lib.hid KK.below
  clear KK
  rcases Bool.eq_false_or_eq_true (isin m.fr c.co) with h | h
  · have H := Lib.hid h
    clear h
    go_enter Tryz.func174, Tryz.ntmps174
    go_wp2
    refine wp_region_quiet_below (by kernel_rfl) (by kernel_rfl) ?_
    repeat (go_big_quiet_step (first
      | (go_at_call 123; exact Calls.regrown_of (isOneOf_is H.out _))
      | (go_at_call 176; exact Calls.regrown_of (homeOf_any c _ _ l0 h1 h2))))
    refine wpQuiet_nil ?_
    rintro w2 ⟨pp, rfl⟩
    go_wp2
    go_ret
    exact ⟨ret_bool (by simp [cth, H.out]), bstep HL.out (below_regrown _ _ _)⟩
  · have H := Lib.hid h
    clear h
    go_enter Tryz.func174, Tryz.ntmps174
    go_wp2
    refine wp_region_quiet_below (by kernel_rfl) (by kernel_rfl) ?_
    repeat (go_big_quiet_step (first
      | (go_at_call 123; exact Calls.regrown_of (isOneOf_is H.out _))
      | (go_at_call 176; exact Calls.regrown_of (homeOf_any c _ _ l0 h1 h2))))
    refine wpQuiet_nil ?_
    rintro w2 ⟨pp, rfl⟩
    go_wp2
    go_ret
    exact ⟨ret_bool (by simp [cth, H.out]), bstep HL.out (below_regrown _ _ _)⟩

theorem htc_any (c : Cfg) (m : Msg) (w : World) (hm : Hm c m) :
    Calls Tryz.prog 181 #[cv c, mv m] w fun e w' => e = .returned (.bool (htc c m)) ∧ Below w.heap.size w w' := by
  obtain ⟨l0, h1, h2⟩ := hm
  have KK := K2.box w (ccells c) (mcells m) 24 38
  obtain ⟨hA, hB⟩ := KK.grown
  have HL := Lib.hid KK.below
  clear KK
  by_cases h : m.fr = m.ln % c.ho
  · have h' : (m.fr == m.ln % c.ho) = true := by simpa using h
    clear h
    go_enter Tryz.func181, Tryz.ntmps181
    go_wp2
    refine wp_region_quiet_below (by kernel_rfl) (by kernel_rfl) ?_
    repeat (go_big_quiet_step (first
      | (go_at_call 123; exact Calls.regrown_of (isOneOf_is rfl _))
      | (go_at_call 176; exact Calls.regrown_of (homeOf_any c _ _ l0 h1 h2))))
    refine wpQuiet_nil ?_
    rintro w2 ⟨pp, rfl⟩
    go_wp2
    go_ret
    exact ⟨ret_bool (by simp [htc, h']), bstep HL.out (below_regrown _ _ _)⟩
  · have h' : (m.fr == m.ln % c.ho) = false := by simpa using h
    clear h
    go_enter Tryz.func181, Tryz.ntmps181
    go_wp2
    refine wp_region_quiet_below (by kernel_rfl) (by kernel_rfl) ?_
    repeat (go_big_quiet_step (first
      | (go_at_call 123; exact Calls.regrown_of (isOneOf_is rfl _))
      | (go_at_call 176; exact Calls.regrown_of (homeOf_any c _ _ l0 h1 h2))))
    refine wpQuiet_nil ?_
    rintro w2 ⟨pp, rfl⟩
    go_wp2
    go_ret
    exact ⟨ret_bool (by simp [htc, h']), bstep HL.out (below_regrown _ _ _)⟩

theorem ctc_any (c : Cfg) (m : Msg) (w : World) :
    Calls Tryz.prog 190 #[cv c, mv m] w fun e w' => e = .returned (.bool (ctc c m)) ∧ Below w.heap.size w w' := by
  go_enter Tryz.func190, Tryz.ntmps190
  go_wp2_with (first
    | (go_at_call 123; refine (isOneOf_any _ _ _).mono ?_; rintro e w1 ⟨rfl, rfl⟩)
    | (go_at_call 182; refine (isAnother_any c _ _ _).mono ?_; rintro e w1 ⟨rfl, hb1⟩))
  · have h : isin m.to c.co = true := by assumption
    go_ret
    exact ⟨ret_bool (by simp [ctc, h]), bstep (((Below.refl _ _).alloc (Nat.le_refl _) _).alloc (by simp) _) hb1⟩
  · have h : ¬ isin m.to c.co = true := by assumption
    go_ret
    exact ⟨ret_bool (by simp [ctc, h]), ((Below.refl _ _).alloc (Nat.le_refl _) _).alloc (by simp) _⟩

theorem sender_any (c : Cfg) (m : Msg) (w : World) (hm : Hm c m) :
    Calls Tryz.prog 188 #[cv c, mv m] w fun e w' => e = .returned (.bool (sender c m)) ∧ Below w.heap.size w w' := by
  have HM := Lib.hid hm
  clear hm
  go_enter Tryz.func188, Tryz.ntmps188
  go_wp2_with (first
    | (go_at_call 181; refine (htc_any c m _ HM.out).mono ?_; rintro e w1 ⟨rfl, hb1⟩)
    | (go_at_call 190; refine (ctc_any c m _).mono ?_; rintro e w1 ⟨rfl, hb1⟩))
  all_goals go_ret
  all_goals first
    | exact ⟨ret_bool (by simp_all [sender]), bstep (((Below.refl _ _).alloc (Nat.le_refl _) _).alloc (by simp) _) hb1⟩
    | exact ⟨ret_bool (by simp_all [sender]), ((Below.refl _ _).alloc (Nat.le_refl _) _).alloc (by simp) _⟩

end Go.Proofs.YtpknfbgnclgpmaaGreatDoor

/-
  Which rule a kind has; the methods of the rules, one contract each.
-/
namespace Go.Proofs.YtpknfbgnclgpmaaGreatDoor
open Go Go.RowKit Go.Sort

/-- A kind's rule, as an interface value. -/
def ruleV (k : Int) : Value :=
  if k = 1 ∨ k = 2 then .iface 192 (.agg #[]) else if k = 3 then .iface 194 (.agg #[]) else if k = 4 ∨ k = 6 then .iface 196 (.agg #[.bool false])
  else if k = 5 then .iface 196 (.agg #[.bool true]) else if k = 7 then .iface 197 (.agg #[]) else if k = 8 then .iface 198 (.agg #[.bool true])
  else if k = 10 then .iface 198 (.agg #[.bool false]) else if k = 9 then .iface 199 (.agg #[]) else if k = 11 then .iface 200 (.agg #[]) else .nilIface

theorem ret_rule {a a' : Value} {b b' : Bool} (h : a = a') (h' : b = b') : Ending.returned (.tuple #[a, .bool b]) = .returned (.tuple #[a', .bool b']) := by rw [h, h']

set_option maxHeartbeats 1000000 in
theorem ruleOf_any (k : Int) (w : World) :
    Calls Tryz.prog 93 #[.int .i64 k] w fun e w' => e = .returned (.tuple #[ruleV k, .bool (isKind k)]) ∧ w = w' := by
  go_enter Tryz.func93, Tryz.ntmps93
  go_wp2
  all_goals go_ret2
  all_goals refine ⟨ret_rule (by simp_all [ruleV]) ?_, rfl⟩
  all_goals unfold isKind
  all_goals simp_all
  all_goals omega

/-! Where a method is found. -/
theorem m_request_holds (w : World) : (method 348 192 (.agg #[]) "mesne/message.holds").run Tryz.prog w = .ok (171, .agg #[]) w := by kernel_rfl
theorem m_forward_holds (b : Bool) (w : World) : (method 348 196 (.agg #[.bool b]) "mesne/message.holds").run Tryz.prog w = .ok (178, .agg #[.bool b]) w := by kernel_rfl
theorem m_data_holds (w : World) : (method 348 197 (.agg #[]) "mesne/message.holds").run Tryz.prog w = .ok (184, .agg #[]) w := by kernel_rfl
theorem m_answer_holds (b : Bool) (w : World) : (method 348 198 (.agg #[.bool b]) "mesne/message.holds").run Tryz.prog w = .ok (191, .agg #[.bool b]) w := by kernel_rfl
theorem m_ack_holds (w : World) : (method 348 199 (.agg #[]) "mesne/message.holds").run Tryz.prog w = .ok (194, .agg #[]) w := by kernel_rfl
theorem m_done_holds (w : World) : (method 348 200 (.agg #[]) "mesne/message.holds").run Tryz.prog w = .ok (197, .agg #[]) w := by kernel_rfl
theorem m_put_holds (w : World) : (method 348 194 (.agg #[]) "mesne/message.holds").run Tryz.prog w = .ok (171, .agg #[]) w := by kernel_rfl
theorem m_put_words (w : World) : (method 348 194 (.agg #[]) "mesne/message.words").run Tryz.prog w = .ok (177, .agg #[]) w := by kernel_rfl
theorem m_data_words (w : World) : (method 348 197 (.agg #[]) "mesne/message.words").run Tryz.prog w = .ok (187, .agg #[]) w := by kernel_rfl

end Go.Proofs.YtpknfbgnclgpmaaGreatDoor

/-
  Which rule a kind has, and how many words it brings.
-/
namespace Go.Proofs.YtpknfbgnclgpmaaGreatDoor
open Go Go.RowKit Go.Sort

theorem rule_cases {k : Int} (h : isKind k = true) :
    ((k = 1 ∨ k = 2) ∧ ruleV k = .iface 192 (.agg #[])) ∨ (k = 3 ∧ ruleV k = .iface 194 (.agg #[])) ∨ ((k = 4 ∨ k = 5 ∨ k = 6) ∧ ruleV k = .iface 196 (.agg #[.bool (k == 5)]))
    ∨ (k = 7 ∧ ruleV k = .iface 197 (.agg #[])) ∨ ((k = 8 ∨ k = 10) ∧ ruleV k = .iface 198 (.agg #[.bool (k == 8)])) ∨ (k = 9 ∧ ruleV k = .iface 199 (.agg #[])) ∨ (k = 11 ∧ ruleV k = .iface 200 (.agg #[])) := by
  rcases kinds h with rfl | rfl | rfl | rfl | rfl | rfl | rfl | rfl | rfl | rfl | rfl <;> simp [ruleV]

/-! How many words. -/
theorem put_words (c : Cfg) (w : World) : Calls Tryz.prog 177 #[.agg #[], cv c] w fun e w' => e = .returned (.int .i64 c.wo) ∧ Below w.heap.size w w' := by
  go_enter Tryz.func177, Tryz.ntmps177
  go_wp2
  go_ret
  exact ⟨rfl, ((Below.refl _ _).alloc (Nat.le_refl _) _).alloc (by simp) _⟩
theorem data_words (c : Cfg) (w : World) : Calls Tryz.prog 187 #[.agg #[], cv c] w fun e w' => e = .returned (.int .i64 c.wo) ∧ Below w.heap.size w w' := by
  go_enter Tryz.func187, Tryz.ntmps187
  go_wp2
  go_ret
  exact ⟨rfl, ((Below.refl _ _).alloc (Nat.le_refl _) _).alloc (by simp) _⟩

theorem a_request (v : Value) (w : World) : (Instr.typeAssert (.iface 192 v) 159 211 true).run Tryz.prog w = .ok (.tuple #[.nilIface, .bool false]) w := run_typeAssert_lacksB Tryz.underlying211 (by kernel_rfl) (by kernel_rfl) v _ w
theorem a_forward (v : Value) (w : World) : (Instr.typeAssert (.iface 196 v) 159 211 true).run Tryz.prog w = .ok (.tuple #[.nilIface, .bool false]) w := run_typeAssert_lacksB Tryz.underlying211 (by kernel_rfl) (by kernel_rfl) v _ w
theorem a_answer (v : Value) (w : World) : (Instr.typeAssert (.iface 198 v) 159 211 true).run Tryz.prog w = .ok (.tuple #[.nilIface, .bool false]) w := run_typeAssert_lacksB Tryz.underlying211 (by kernel_rfl) (by kernel_rfl) v _ w
theorem a_ack (v : Value) (w : World) : (Instr.typeAssert (.iface 199 v) 159 211 true).run Tryz.prog w = .ok (.tuple #[.nilIface, .bool false]) w := run_typeAssert_lacksB Tryz.underlying211 (by kernel_rfl) (by kernel_rfl) v _ w
theorem a_done (v : Value) (w : World) : (Instr.typeAssert (.iface 200 v) 159 211 true).run Tryz.prog w = .ok (.tuple #[.nilIface, .bool false]) w := run_typeAssert_lacksB Tryz.underlying211 (by kernel_rfl) (by kernel_rfl) v _ w
theorem a_put (v : Value) (w : World) : (Instr.typeAssert (.iface 194 v) 159 211 true).run Tryz.prog w = .ok (.tuple #[.iface 194 v, .bool true]) w := run_typeAssert_hasB Tryz.underlying211 (by kernel_rfl) v _ w
theorem a_data (v : Value) (w : World) : (Instr.typeAssert (.iface 197 v) 159 211 true).run Tryz.prog w = .ok (.tuple #[.iface 197 v, .bool true]) w := run_typeAssert_hasB Tryz.underlying211 (by kernel_rfl) v _ w

theorem wordsOf_no {T : Nat} {v : Value} (c : Cfg) (w : World) (ha : ∀ w, (Instr.typeAssert (.iface T v) 159 211 true).run Tryz.prog w = .ok (.tuple #[.nilIface, .bool false]) w) :
    Calls Tryz.prog 125 #[.iface T v, cv c] w fun e w' => e = .returned (.int .i64 0) ∧ Below w.heap.size w w' := by
  go_enter Tryz.func125, Tryz.ntmps125
  go_wp2
  go_ret
  exact ⟨rfl, (Below.refl _ _).alloc (Nat.le_refl _) _⟩
theorem wordsOf_yes {T K : Nat} {v : Value} (c : Cfg) (w : World) (ha : ∀ w, (Instr.typeAssert (.iface T v) 159 211 true).run Tryz.prog w = .ok (.tuple #[.iface T v, .bool true]) w) (hm : ∀ w, (method 348 T v "mesne/message.words").run Tryz.prog w = .ok (K, v) w) (he : ∀ args w, (callFunc K args).run Tryz.prog w = .ok (.enter K args) w)
    (hc : ∀ w, Calls Tryz.prog K #[v, cv c] w fun e w' => e = .returned (.int .i64 c.wo) ∧ Below w.heap.size w w') :
    Calls Tryz.prog 125 #[.iface T v, cv c] w fun e w' => e = .returned (.int .i64 c.wo) ∧ Below w.heap.size w w' := by
  go_enter Tryz.func125, Tryz.ntmps125
  go_wp2_with (fail)
  refine (hc _).mono ?_
  rintro e w1 ⟨rfl, hb1⟩
  go_wp2
  go_ret
  exact ⟨rfl, bbox hb1⟩
/-- wordsOf, of a kind's rule. -/
theorem wordsOf_any (k : Int) (c : Cfg) (w : World) (h : isKind k = true) :
    Calls Tryz.prog 125 #[ruleV k, cv c] w fun e w' => e = .returned (.int .i64 (nw c k)) ∧ Below w.heap.size w w' := by
  rcases rule_cases h with ⟨hk, e⟩ | ⟨hk, e⟩ | ⟨hk, e⟩ | ⟨hk, e⟩ | ⟨hk, e⟩ | ⟨hk, e⟩ | ⟨hk, e⟩
  · rw [e, show nw c k = 0 by unfold nw; rw [if_neg (by omega)]]
    exact wordsOf_no c w (a_request _)
  · rw [e, show nw c k = c.wo by unfold nw; rw [if_pos (by omega)]]
    exact wordsOf_yes c w (a_put _) m_put_words (fun _ _ => by kernel_rfl) (put_words c)
  · rw [e, show nw c k = 0 by unfold nw; rw [if_neg (by omega)]]
    exact wordsOf_no c w (a_forward _)
  · rw [e, show nw c k = c.wo by unfold nw; rw [if_pos (by omega)]]
    exact wordsOf_yes c w (a_data _) m_data_words (fun _ _ => by kernel_rfl) (data_words c)
  · rw [e, show nw c k = 0 by unfold nw; rw [if_neg (by omega)]]
    exact wordsOf_no c w (a_answer _)
  · rw [e, show nw c k = 0 by unfold nw; rw [if_neg (by omega)]]
    exact wordsOf_no c w (a_ack _)
  · rw [e, show nw c k = 0 by unfold nw; rw [if_neg (by omega)]]
    exact wordsOf_no c w (a_done _)

end Go.Proofs.YtpknfbgnclgpmaaGreatDoor

/-
  What areWords does.
-/
namespace Go.Proofs.YtpknfbgnclgpmaaGreatDoor
open Go Go.RowKit Go.Sort

/-! The words. -/
theorem words_at (m : Msg) (k : Nat) (hk : k < 8) (w : World) :
    (Instr.index 36 (.agg #[.int .i64 m.w0, .int .i64 m.w1, .int .i64 m.w2, .int .i64 m.w3, .int .i64 m.w4, .int .i64 m.w5, .int .i64 m.w6, .int .i64 m.w7]) (.int .i64 k)).run Tryz.prog w = .ok (.int .i64 (m.wd k)) w := by
  rcases (show k = 0 ∨ k = 1 ∨ k = 2 ∨ k = 3 ∨ k = 4 ∨ k = 5 ∨ k = 6 ∨ k = 7 by omega) with rfl | rfl | rfl | rfl | rfl | rfl | rfl | rfl
  all_goals kernel_rfl

set_option maxHeartbeats 1000000 in
theorem areWords_any (m : Msg) (n : Int) (w : World) :
    Calls Tryz.prog 124 #[.agg #[.int .i64 m.w0, .int .i64 m.w1, .int .i64 m.w2, .int .i64 m.w3, .int .i64 m.w4, .int .i64 m.w5, .int .i64 m.w6, .int .i64 m.w7], .int .i64 n] w fun e w' => e = .returned (.bool (wordsB m n)) ∧ Below w.heap.size w w' := by
  go_enter Tryz.func124, Tryz.ntmps124
  go_wp2
  go_loop [8] (fun i => ∃ k : Nat, k ≤ 8 ∧ i = .int .i64 k ∧ Hid (∀ j, j < k → wordB n m j = true)) (fun i => 8 - (intOf i).toNat)
  case atStart => exact ⟨0, by omega, rfl, Lib.hid (fun j hj => by omega)⟩
  case round =>
    obtain ⟨k, hk, rfl, HJ⟩ := hrel
    by_cases hlt : k < 8
    · have hi := fun w => words_at m k hlt w
      rcases Bool.eq_false_or_eq_true (wordB n m k) with hw | hw
      · have HK : Hid (∀ j, j < k + 1 → wordB n m j = true) := Lib.hid (fun j hj => by
          by_cases e : j = k
          · subst e; exact hw
          · exact HJ.out j (by omega))
        have hx := hw
        unfold wordB at hx
        simp at hx
        obtain ⟨h1, h2, h3⟩ := hx
        generalize m.wd k = x at *
        clear hw
        rcases (show ((x != 0) = false ∧ x = 0) ∨ ((x != 0) = true ∧ x ≠ 0) by by_cases hz : x = 0 <;> simp [hz]) with ⟨hz, hz'⟩ | ⟨hz, hz'⟩
        all_goals go_wp2
        all_goals try (exfalso; omega)
        all_goals (go_round <;> first | exact ⟨k + 1, by omega, by go_num, HK⟩ | (simp [intOf]; done) | (simp [intOf]; omega))
      · have HK := Lib.hid (words_not k hlt hw)
        have hx := hw
        unfold wordB at hx
        simp at hx
        generalize m.wd k = x at *
        have hx : x < -2147483648 ∨ 2147483647 < x ∨ (x ≠ 0 ∧ n ≤ (k : Int)) := by
          by_cases a : -2147483648 ≤ x
          · by_cases b : x ≤ 2147483647
            · have := hx a b
              omega
            · omega
          · omega
        clear hw
        rcases (show ((x != 0) = false ∧ x = 0) ∨ ((x != 0) = true ∧ x ≠ 0) by by_cases hz : x = 0 <;> simp [hz]) with ⟨hz, hz'⟩ | ⟨hz, hz'⟩
        all_goals go_wp2
        all_goals try (exfalso; omega)
        all_goals go_ret
        all_goals exact ⟨ret_bool HK.out.symm, (Below.refl _ _).alloc (Nat.le_refl _) _⟩
    · have HY := Lib.hid (words_yes (m := m) (n := n) (fun j hj => HJ.out j (by omega)))
      go_wp2
      go_ret
      exact ⟨ret_bool HY.out.symm, (Below.refl _ _).alloc (Nat.le_refl _) _⟩

end Go.Proofs.YtpknfbgnclgpmaaGreatDoor

/-
  A message is the same as itself.
-/
namespace Go.Proofs.YtpknfbgnclgpmaaGreatDoor
open Go Go.RowKit

theorem infoInt : (Tryz.prog.info? 3).map (fun i => (i.zero, i.size, i.bytes)) = some (some (.int .i64 0), 1, 8) := by kernel_rfl
/-- Words are the same as themselves. -/
theorem words_same (d : Nat) (a0 a1 a2 a3 a4 a5 a6 a7 : Int) (w : World) : (Op.equalIn (d + 2) 36 (.agg #[.int .i64 a0, .int .i64 a1, .int .i64 a2, .int .i64 a3, .int .i64 a4, .int .i64 a5, .int .i64 a6, .int .i64 a7]) (.agg #[.int .i64 a0, .int .i64 a1, .int .i64 a2, .int .i64 a3, .int .i64 a4, .int .i64 a5, .int .i64 a6, .int .i64 a7])).run Tryz.prog w = .ok true w := by
  obtain ⟨i0, hi0, hz0, hz1, hz2⟩ := info_parts infoInt
  rw [run_equalIn_array w (d + 1) _ _ Tryz.underlying36 hi0]
  have hc3 : Tryz.prog.cellsOf 3 = 1 := by kernel_rfl
  rw [hc3]
  have hu := Tryz.underlying3
  simp [Op.eqItems, List.range, List.range.loop, go_sem]
theorem msg_eql (m : Msg) (w : World) : (binOp .eql 38 (mv m) (mv m)).run Tryz.prog w = .ok (.bool true) w := by
  have ha := fun d => words_same d m.w0 m.w1 m.w2 m.w3 m.w4 m.w5 m.w6 m.w7
  simp [go_sem, ha]
theorem msg_neq (m : Msg) (w : World) : (binOp .neq 38 (mv m) (mv m)).run Tryz.prog w = .ok (.bool false) w := by
  have ha := fun d => words_same d m.w0 m.w1 m.w2 m.w3 m.w4 m.w5 m.w6 m.w7
  simp [go_sem, ha]

end Go.Proofs.YtpknfbgnclgpmaaGreatDoor
