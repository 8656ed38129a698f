/-
  Messages in plain words: which may be on a machine, their bytes, what bytes tell; messages and bytes tell one another.
-/
import Derived.Test.YtdggjbaapnkcgaaSize
namespace Go.Proofs.Ytdggjbaapnkcgaa
open Go

/-- A message: seven numbers, and eight words. -/
structure Msg where
  kd : Int
  ln : Int
  fr : Int
  to : Int
  wh : Int
  ac : Int
  ow : Int
  w0 : Int
  w1 : Int
  w2 : Int
  w3 : Int
  w4 : Int
  w5 : Int
  w6 : Int
  w7 : Int

/-- Its k-th word. -/
def Msg.wd (m : Msg) (k : Nat) : Int := [m.w0, m.w1, m.w2, m.w3, m.w4, m.w5, m.w6, m.w7].getD k 0

def isin (n k : Int) : Bool := decide (0 ≤ n) && decide (n < k)
/-- Is it a kind? Its network; does it go to a home? -/
def isKind (k : Int) : Bool := decide (1 ≤ k) && decide (k ≤ 11)
def net (k : Int) : Int := if isKind k = true then (if k ≤ 3 then 0 else if k ≤ 6 then 1 else 2) else -1
def toHome (k : Int) : Bool := k == 1 || (k == 2 || (k == 3 || k == 11))
/-- How many words messages of a kind bring. -/
def nw (c : Cfg) (k : Int) : Int := if k = 3 ∨ k = 7 then c.wo else 0

def bare (m : Msg) : Bool := m.wh == 0 && (m.ac == 0 && m.ow == 0)
def cth (c : Cfg) (m : Msg) : Bool := isin m.fr c.co && m.to == m.ln % c.ho
def htc (c : Cfg) (m : Msg) : Bool := m.fr == m.ln % c.ho && isin m.to c.co
def another (c : Cfg) (n k : Int) : Bool := isin n c.co && n != k
def ctc (c : Cfg) (m : Msg) : Bool := isin m.to c.co && another c m.fr m.to
def acks (c : Cfg) (a : Int) (b : Bool) : Bool := if b = true then isin a c.co else a == 0
def given (n : Int) : Bool := n == 1 || (n == 2 || n == 4)
def sender (c : Cfg) (m : Msg) : Bool := if m.wh = 0 then htc c m else if m.wh = 1 then ctc c m else false
def fwdB (c : Cfg) (m : Msg) (b : Bool) : Bool := htc c m && (another c m.wh m.to && (acks c m.ac b && m.ow == 0))
def datB (c : Cfg) (m : Msg) : Bool := sender c m && (acks c m.ac true && given m.ow)
def ansB (c : Cfg) (m : Msg) (b : Bool) : Bool := htc c m && (m.wh == 0 && (acks c m.ac b && m.ow == 0))
/-- What messages of its kind must have, but for lines and words. -/
def holdsB (c : Cfg) (m : Msg) : Bool :=
  if m.kd ≤ 3 ∨ m.kd = 11 then cth c m && bare m
  else if m.kd = 9 then ctc c m && bare m
  else if m.kd = 7 then datB c m
  else if m.kd ≤ 6 then fwdB c m (m.kd == 5)
  else ansB c m (m.kd == 8)
/-- May the k-th word be, if so many may be other than 0? -/
def wordB (n : Int) (m : Msg) (k : Nat) : Bool := decide (-2147483648 ≤ m.wd k) && (decide (m.wd k ≤ 2147483647) && (m.wd k == 0 || decide ((k : Int) < n)))
def wordsB (m : Msg) (n : Int) : Bool := (List.range 8).all (wordB n m)
/-- May the message be? -/
def mayM (c : Cfg) (m : Msg) : Bool := okC c && (isin m.ln c.li && (isKind m.kd && (holdsB c m && wordsB m (nw c m.kd))))

/-- A number as a byte. -/
def u8' (n : Int) : UInt8 := UInt8.ofNat n.toNat
/-- A number of 32 bits, one below 0 as 2^32 more. -/
def unsig (n : Int) : Int := if n < 0 then n + 4294967296 else n
def w4 (n : Int) : List UInt8 := [u8' (unsig n / 16777216), u8' (unsig n / 65536 % 256), u8' (unsig n / 256 % 256), u8' (unsig n % 256)]
def headB (m : Msg) : List UInt8 := [u8' m.kd, u8' (m.ln / 256), u8' (m.ln % 256), u8' m.fr, u8' m.to, u8' m.wh, u8' m.ac, u8' m.ow]
def wordsL (m : Msg) (k : Nat) : List UInt8 := (List.range k).flatMap fun j => w4 (m.wd j)
/-- The bytes of a message that may be. -/
def bytesM (c : Cfg) (m : Msg) : List UInt8 := headB m ++ wordsL m (nw c m.kd).toNat
/-- A message's bytes, and the error's number. -/
def putM (c : Cfg) (m : Msg) : List UInt8 × Int := if mayM c m = true then (bytesM c m, 0) else ([], 1)

def n8' (a : UInt8) : Int := a.toNat
def at8 (s : List UInt8) (k : Nat) : Int := n8' (s.getD k 0)
def sig (n : Int) : Int := if 2147483647 < n then n - 4294967296 else n
/-- The number of four bytes from a place on. -/
def rd4 (s : List UInt8) (k : Nat) : Int := sig (((at8 s k * 256 + at8 s (k + 1)) * 256 + at8 s (k + 2)) * 256 + at8 s (k + 3))
/-- The k-th word that bytes tell; 0 where they are too few. -/
def wdB (s : List UInt8) (k : Nat) : Int := if 8 + 4 * k + 3 < s.length then rd4 s (8 + 4 * k) else 0
/-- What the bytes ahead of words tell, and n words. -/
def headM (s : List UInt8) : Msg := ⟨at8 s 0, at8 s 1 * 256 + at8 s 2, at8 s 3, at8 s 4, at8 s 5, at8 s 6, at8 s 7, 0, 0, 0, 0, 0, 0, 0, 0⟩
def wdN (s : List UInt8) (n k : Nat) : Int := if k < n then rd4 s (8 + 4 * k) else 0
def tellN (s : List UInt8) (n : Nat) : Msg := ⟨at8 s 0, at8 s 1 * 256 + at8 s 2, at8 s 3, at8 s 4, at8 s 5, at8 s 6, at8 s 7, wdN s n 0, wdN s n 1, wdN s n 2, wdN s n 3, wdN s n 4, wdN s n 5, wdN s n 6, wdN s n 7⟩
/-- So many words are behind the head. -/
def cnt (s : List UInt8) : Nat := (s.length - 8) / 4
/-- Are the bytes just as many as their kind has? -/
def fitL (c : Cfg) (s : List UInt8) : Bool := decide (8 ≤ s.length) && (isKind (at8 s 0) && decide ((s.length : Int) = 8 + 4 * nw c (at8 s 0)))
def tkB (c : Cfg) (s : List UInt8) : Bool := okC c && (fitL c s && mayM c (tellN s (cnt s)))
abbrev m0 : Msg := ⟨0, 0, 0, 0, 0, 0, 0, 0, 0, 0, 0, 0, 0, 0, 0⟩
/-- What bytes tell, and the error's number. -/
def takM (c : Cfg) (s : List UInt8) : Msg × Int := if tkB c s = true then (tellN s (cnt s), 0) else (m0, 2)

/-! ### Bounds -/
theorem isin_of {n k : Int} (h : isin n k = true) : 0 ≤ n ∧ n < k := by unfold isin at h; simpa using h
theorem isin_yes {n k : Int} (h0 : 0 ≤ n) (h1 : n < k) : isin n k = true := by unfold isin; simp [h0, h1]
theorem isin_lo {n k : Int} (h : ¬ 0 ≤ n) : isin n k = false := by unfold isin; simp [h]
theorem isin_hi {n k : Int} (h : ¬ n < k) : isin n k = false := by unfold isin; simp [h]
theorem isKind_of {k : Int} (h : isKind k = true) : 1 ≤ k ∧ k ≤ 11 := by unfold isKind at h; simpa using h
theorem isKind_yes {k : Int} (h0 : 1 ≤ k) (h1 : k ≤ 11) : isKind k = true := by unfold isKind; simp [h0, h1]
theorem isKind_no {k : Int} (h : ¬ (1 ≤ k ∧ k ≤ 11)) : isKind k = false := by unfold isKind; simp; omega
theorem kinds {k : Int} (h : isKind k = true) : k = 1 ∨ k = 2 ∨ k = 3 ∨ k = 4 ∨ k = 5 ∨ k = 6 ∨ k = 7 ∨ k = 8 ∨ k = 9 ∨ k = 10 ∨ k = 11 := by have := isKind_of h; omega

theorem ok_sizes {c : Cfg} (h : okC c = true) : (1 ≤ c.co ∧ c.co ≤ 64) ∧ (1 ≤ c.ho ∧ c.ho ≤ 16) ∧ (1 ≤ c.wo ∧ c.wo ≤ 8) ∧ (1 ≤ c.li ∧ c.li ≤ 1024) := by
  rw [okC_eq] at h
  simp only [Bool.and_eq_true] at h
  obtain ⟨⟨⟨⟨⟨⟨⟨⟨⟨⟨h0, h1⟩, h2⟩, h3⟩, h4⟩, h5⟩, h6⟩, h7⟩, h8⟩, h9⟩, ⟨h10, h11⟩, h12⟩ := h
  have g0 := inB_of h0; have g1 := powB_of h1; have g4 := powB_of h4; have g5 := powB_of h5
  refine ⟨by omega, by omega, by omega, by omega⟩
theorem nw_bound {c : Cfg} (h : okC c = true) (k : Int) : 0 ≤ nw c k ∧ nw c k ≤ 8 := by
  have := ok_sizes h
  unfold nw
  split <;> omega
theorem may_all {c : Cfg} {m : Msg} (h : mayM c m = true) : okC c = true ∧ isin m.ln c.li = true ∧ isKind m.kd = true ∧ holdsB c m = true ∧ wordsB m (nw c m.kd) = true := by
  unfold mayM at h
  simpa only [Bool.and_eq_true] using h
theorem word_all {m : Msg} {n : Int} (h : wordsB m n = true) (k : Nat) (hk : k < 8) : -2147483648 ≤ m.wd k ∧ m.wd k ≤ 2147483647 ∧ (m.wd k = 0 ∨ (k : Int) < n) := by
  unfold wordsB at h
  rw [List.all_eq_true] at h
  have := h k (List.mem_range.2 hk)
  unfold wordB at this
  simpa using this
theorem words_yes {m : Msg} {n : Int} (h : ∀ k, k < 8 → wordB n m k = true) : wordsB m n = true := by
  unfold wordsB; rw [List.all_eq_true]; intro j hj; exact h j (List.mem_range.1 hj)
theorem words_not {m : Msg} {n : Int} (k : Nat) (hk : k < 8) (h : wordB n m k = false) : wordsB m n = false := by
  rcases Bool.eq_false_or_eq_true (wordsB m n) with h' | h'
  · unfold wordsB at h'; rw [List.all_eq_true] at h'
    have := h' k (List.mem_range.2 hk)
    rw [h] at this; cases this
  · exact h'

theorem another_of {c : Cfg} {n k : Int} (h : another c n k = true) : (0 ≤ n ∧ n < c.co) ∧ n ≠ k := by
  unfold another at h
  simp only [Bool.and_eq_true] at h
  exact ⟨isin_of h.1, by simpa using h.2⟩
theorem acks_of {c : Cfg} {a : Int} {b : Bool} (hc : okC c = true) (h : acks c a b = true) : 0 ≤ a ∧ a < 64 := by
  have := ok_sizes hc
  unfold acks at h
  split at h
  · have := isin_of h; omega
  · simp at h; omega
/-- The numbers of a message that may be are those of bytes. -/
theorem may_bytes {c : Cfg} {m : Msg} (h : mayM c m = true) : (1 ≤ m.kd ∧ m.kd ≤ 11) ∧ (0 ≤ m.ln ∧ m.ln < 1024) ∧ (0 ≤ m.fr ∧ m.fr < 64) ∧ (0 ≤ m.to ∧ m.to < 64) ∧ (0 ≤ m.wh ∧ m.wh < 64) ∧ (0 ≤ m.ac ∧ m.ac < 64) ∧ (0 ≤ m.ow ∧ m.ow ≤ 4) := by
  obtain ⟨hc, hl, hk, hh, _⟩ := may_all h
  have hs := ok_sizes hc
  have h1 := isin_of hl
  have h2 := isKind_of hk
  have hq0 := Int.emod_nonneg m.ln (show c.ho ≠ 0 by omega)
  have hq1 := Int.emod_lt_of_pos m.ln (show 0 < c.ho by omega)
  refine ⟨h2, by omega, ?_⟩
  unfold holdsB at hh
  split at hh
  · simp only [Bool.and_eq_true, cth, bare] at hh
    have a := isin_of hh.1.1
    have b := hh.1.2; have d := hh.2.1; have e := hh.2.2.1; have f := hh.2.2.2
    simp at b d e f
    omega
  · split at hh
    · simp only [Bool.and_eq_true, ctc, bare] at hh
      have a := isin_of hh.1.1
      have b := another_of hh.1.2; have d := hh.2.1; have e := hh.2.2.1; have f := hh.2.2.2
      simp at d e f
      omega
    · split at hh
      · simp only [Bool.and_eq_true, datB, given] at hh
        have a := acks_of hc hh.2.1
        have b := hh.2.2
        simp at b
        have d := hh.1
        unfold sender at d
        split at d
        · simp only [Bool.and_eq_true, htc] at d
          have e := isin_of d.2
          have f := d.1
          simp at f
          omega
        · split at d
          · simp only [Bool.and_eq_true, ctc] at d
            have e := isin_of d.1
            have f := another_of d.2
            omega
          · cases d
      · split at hh
        · simp only [Bool.and_eq_true, fwdB, htc] at hh
          have a := acks_of hc hh.2.2.1
          have b := another_of hh.2.1
          have d := isin_of hh.1.2
          have e := hh.1.1; have f := hh.2.2.2
          simp at e f
          omega
        · simp only [Bool.and_eq_true, ansB, htc] at hh
          have a := acks_of hc hh.2.2.1
          have d := isin_of hh.1.2
          have b := hh.2.1; have e := hh.1.1; have f := hh.2.2.2
          simp at b e f
          omega

/-! ### There and back -/
theorem n8_u8' {n : Int} (h0 : 0 ≤ n) (h1 : n ≤ 255) : n8' (u8' n) = n := by
  unfold n8' u8'
  rw [UInt8.toNat_ofNat']
  omega
theorem u8_n8' (a : UInt8) : u8' (n8' a) = a := by
  apply UInt8.toNat_inj.1
  unfold u8' n8'
  rw [UInt8.toNat_ofNat']
  have := a.toNat_lt
  simp
theorem n8_in (a : UInt8) : 0 ≤ n8' a ∧ n8' a ≤ 255 := by
  have := a.toNat_lt
  unfold n8'
  omega
theorem at8_in (s : List UInt8) (k : Nat) : 0 ≤ at8 s k ∧ at8 s k ≤ 255 := n8_in _
theorem w4_len (n : Int) : (w4 n).length = 4 := rfl
theorem head_len (m : Msg) : (headB m).length = 8 := rfl
theorem wordsL_len (m : Msg) : ∀ k, (wordsL m k).length = 4 * k
  | 0 => rfl
  | k + 1 => by
    have := wordsL_len m k
    unfold wordsL at *
    rw [List.range_succ, List.flatMap_append, List.length_append, this]
    simp [w4]
    omega
theorem wordsL_more (m : Msg) (k : Nat) : wordsL m (k + 1) = wordsL m k ++ w4 (m.wd k) := by
  unfold wordsL
  rw [List.range_succ, List.flatMap_append]
  simp
theorem unsig_in {n : Int} (h0 : -2147483648 ≤ n) (h1 : n ≤ 2147483647) : 0 ≤ unsig n ∧ unsig n < 4294967296 := by
  unfold unsig
  split <;> omega
theorem sig_unsig {n : Int} (h0 : -2147483648 ≤ n) (h1 : n ≤ 2147483647) : sig (unsig n) = n := by
  unfold sig unsig
  split <;> split <;> omega
theorem unsig_sig {n : Int} (h0 : 0 ≤ n) (h1 : n < 4294967296) : unsig (sig n) = n := by
  unfold sig unsig
  split <;> split <;> omega
theorem four (x : Int) : ((x / 16777216 * 256 + x / 65536 % 256) * 256 + x / 256 % 256) * 256 + x % 256 = x := by omega
theorem getD_app {s t : List UInt8} {k : Nat} : (s ++ t).getD (s.length + k) 0 = t.getD k 0 := by
  simp [List.getD_eq_getElem?_getD, List.getElem?_append_right]
theorem rd4_w4 {n : Int} (s t : List UInt8) (k : Nat) (hk : s.length = k) (h0 : -2147483648 ≤ n) (h1 : n ≤ 2147483647) : rd4 (s ++ (w4 n ++ t)) k = n := by
  subst hk
  have hu := unsig_in h0 h1
  have e : ∀ j, at8 (s ++ (w4 n ++ t)) (s.length + j) = n8' ((w4 n ++ t).getD j 0) := fun j => by unfold at8; rw [getD_app]
  unfold rd4
  rw [show s.length = s.length + 0 from rfl, e 0]
  rw [show s.length + 0 + 1 = s.length + 1 from rfl, show s.length + 0 + 2 = s.length + 2 from rfl, show s.length + 0 + 3 = s.length + 3 from rfl, e 1, e 2, e 3]
  simp only [w4, List.cons_append, List.getD_cons_zero, List.getD_cons_succ]
  rw [n8_u8' (by omega) (by omega), n8_u8' (by omega) (by omega), n8_u8' (by omega) (by omega), n8_u8' (by omega) (by omega), four, sig_unsig h0 h1]

end Go.Proofs.Ytdggjbaapnkcgaa
