/-
  Scripts and their bytes, in plain words: which scripts may be, their bytes, what bytes tell, and that scripts and bytes tell one another.
-/
import Derived.Test.YtjnbpohjdgnknaaDoorPgX
namespace Go.Proofs.YtjnbpohjdgnknaaDoor
open Go

/-- A script: sizes, programs, picks (each a kind and two numbers). -/
structure Scr where
  c : Cfg
  ps : List (List Op)
  pk : List Op

def byteB (n : Int) : Bool := decide (0 ≤ n ∧ n ≤ 255)
def pickB (x : Op) : Bool := byteB x.k && (byteB x.a && byteB x.v)
/-- It may be. -/
def mayS (s : Scr) : Bool := okC s.c && (decide ((s.ps.length : Int) = s.c.co) && (s.ps.all (fitsB s.c) && s.pk.all pickB))

/-- A number as a byte. -/
def u8 (n : Int) : UInt8 := UInt8.ofNat n.toNat
def cntB (n : Nat) : List UInt8 := if n < 128 then [UInt8.ofNat n] else [UInt8.ofNat (128 + n / 128), UInt8.ofNat (n % 128)]
def sizesB (c : Cfg) : List UInt8 := [u8 c.co, u8 (lg c.ho), u8 (lg c.se), u8 c.wa, u8 (lg c.wo), u8 (lg c.li), u8 c.po, u8 c.ms, u8 c.bu, u8 c.wb, u8 c.r0, u8 c.r1, u8 c.r2]
def progB (l : List Op) : List UInt8 := cntB (text l).length ++ text l
def pickL (x : Op) : List UInt8 := [u8 x.k, u8 x.a, u8 x.v]
def btsM (s : Scr) : List UInt8 := sizesB s.c ++ (s.ps.flatMap progB ++ s.pk.flatMap pickL)
/-- A script's bytes, and the error's number. -/
def bts (s : Scr) : List UInt8 × Int := if mayS s = true then (btsM s, 0) else ([], 1)

def cntM : List UInt8 → Except Int (Nat × List UInt8)
  | [] => .error 3
  | a :: r => if a.toNat < 128 then .ok (a.toNat, r) else
      match r with
      | [] => .error 3
      | b :: r' => if a.toNat = 128 ∨ 128 ≤ b.toNat then .error 2 else .ok ((a.toNat - 128) * 128 + b.toNat, r')
def progK (c : Cfg) : Except Int (Nat × List UInt8) → Except Int (List Op × List UInt8)
  | .error e => .error e
  | .ok (n, r) => if r.length < n then .error 3 else
      if (prs (r.take n)).2 = 0 then (if fitsB c (prs (r.take n)).1 = true then .ok ((prs (r.take n)).1, r.drop n) else .error 5) else .error (prs (r.take n)).2
def progM (c : Cfg) (r : List UInt8) : Except Int (List Op × List UInt8) := progK c (cntM r)
/-- One program more. -/
def moreM (c : Cfg) : Except Int (List (List Op) × List UInt8) → Except Int (List (List Op) × List UInt8)
  | .error e => .error e
  | .ok (ls, r) => match progM c r with
    | .error e => .error e
    | .ok (l, r') => .ok (ls ++ [l], r')
def progsM (c : Cfg) (r : List UInt8) : Nat → Except Int (List (List Op) × List UInt8)
  | 0 => .ok ([], r)
  | k + 1 => moreM c (progsM c r k)
def picksM : List UInt8 → List Op × List UInt8
  | a :: b :: c :: r => (⟨a.toNat, b.toNat, c.toNat⟩ :: (picksM r).1, (picksM r).2)
  | r => ([], r)
def pw (a : UInt8) : Int := if 20 < a.toNat then 0 else 2 ^ a.toNat
def n8 (a : UInt8) : Int := a.toNat
def cfgM (b : List UInt8) : Cfg := ⟨n8 (b.getD 0 0), pw (b.getD 1 0), pw (b.getD 2 0), n8 (b.getD 3 0), pw (b.getD 4 0), pw (b.getD 5 0), n8 (b.getD 6 0), n8 (b.getD 7 0), n8 (b.getD 8 0), n8 (b.getD 9 0), n8 (b.getD 10 0), n8 (b.getD 11 0), n8 (b.getD 12 0)⟩
def endM (c : Cfg) : Except Int (List (List Op) × List UInt8) → Except Int Scr
  | .error e => .error e
  | .ok (ls, r) => if (picksM r).2 = [] then .ok ⟨c, ls, (picksM r).1⟩ else .error 3
/-- What bytes tell. -/
def rdM (b : List UInt8) : Except Int Scr :=
  if b.length < 13 then .error 3
  else if okC (cfgM b) = true then endM (cfgM b) (progsM (cfgM b) (b.drop 13) (cfgM b).co.toNat)
  else .error 1

/-! ### A script is told by its bytes -/

theorem u8_back {n : Int} (h : byteB n = true) : ((u8 n).toNat : Int) = n := by
  unfold byteB at h
  simp only [decide_eq_true_eq] at h
  unfold u8
  rw [UInt8.toNat_ofNat']
  omega
theorem byte_of {n : Int} (h0 : 0 ≤ n) (h1 : n ≤ 255) : byteB n = true := by unfold byteB; simp [h0, h1]
theorem n8_u8 {n : Int} (h : byteB n = true) : n8 (u8 n) = n := u8_back h
theorem u8_n8 (a : UInt8) : u8 (n8 a) = a := by
  apply UInt8.toNat_inj.1
  unfold u8 n8
  rw [UInt8.toNat_ofNat']
  have := a.toNat_lt
  simp
theorem n8_bound (a : UInt8) : 0 ≤ n8 a ∧ n8 a ≤ 255 := by
  have := a.toNat_lt
  unfold n8
  omega

theorem ofNat_back {n : Nat} (h : n < 256) : (UInt8.ofNat n).toNat = n := by
  rw [UInt8.toNat_ofNat']; omega
theorem cnt_back (n : Nat) (h : n < 16384) (r : List UInt8) : cntM (cntB n ++ r) = .ok (n, r) := by
  unfold cntB
  by_cases hs : n < 128
  · rw [if_pos hs]
    simp only [List.cons_append, List.nil_append, cntM]
    rw [ofNat_back (by omega), if_pos hs]
  · rw [if_neg hs]
    simp only [List.cons_append, List.nil_append, cntM]
    rw [ofNat_back (by omega), ofNat_back (by omega), if_neg (by omega), if_neg (by omega)]
    congr 2
    omega
theorem fits_parts {c : Cfg} {l : List Op} (h : fitsB c l = true) : l.length ≤ 64 ∧ (∀ x ∈ l, mayB x = true) ∧ okC c = true := by
  unfold fitsB at h
  simp only [Bool.and_eq_true, decide_eq_true_eq] at h
  exact ⟨h.2.1, fun x hx => List.all_eq_true.1 h.2.2.1 x hx, h.1⟩
theorem prs_text {c : Cfg} {l : List Op} (h : fitsB c l = true) : prs (text l) = (l, 0) ∧ (text l).length ≤ 1152 := by
  obtain ⟨h1, h2, _⟩ := fits_parts h
  have hl := text_len l h2
  refine ⟨?_, by omega⟩
  unfold prs
  rw [if_neg (by omega), read_text l h2]
  simp
  omega
theorem prog_back {c : Cfg} {l : List Op} (h : fitsB c l = true) (r : List UInt8) : progM c (progB l ++ r) = .ok (l, r) := by
  obtain ⟨h1, h2⟩ := prs_text h
  unfold progM progB
  rw [List.append_assoc, cnt_back _ (by omega)]
  simp only [progK]
  rw [if_neg (by simp), List.take_left, h1, List.drop_left]
  simp [h]
theorem progs_back {c : Cfg} : ∀ (ls : List (List Op)) (r : List UInt8), (∀ l ∈ ls, fitsB c l = true) → ∀ k, k ≤ ls.length → progsM c (ls.flatMap progB ++ r) k = .ok (ls.take k, (ls.drop k).flatMap progB ++ r)
  | ls, r, _, 0, _ => by simp [progsM]
  | ls, r, h, k + 1, hk => by
    rw [progsM, progs_back ls r h k (by omega)]
    have hd : ls.drop k = ls[k] :: ls.drop (k + 1) := List.drop_eq_getElem_cons (by omega)
    rw [hd]
    simp only [moreM, List.flatMap_cons, List.append_assoc]
    rw [prog_back (h _ (List.getElem_mem _))]
    simp only
    rw [List.take_succ_eq_append_getElem (by omega)]
theorem picks_back (l : List Op) (h : ∀ x ∈ l, pickB x = true) : picksM (l.flatMap pickL) = (l, []) := by
  induction l with
  | nil => rfl
  | cons x l ih =>
    have hx := h x (by simp)
    unfold pickB at hx
    simp only [Bool.and_eq_true] at hx
    have ih' := ih fun y hy => h y (by simp [hy])
    show picksM (u8 x.k :: u8 x.a :: u8 x.v :: l.flatMap pickL) = _
    rw [picksM, ih', u8_back hx.1, u8_back hx.2.1, u8_back hx.2.2]
theorem pow_byte {n hi : Int} (h : powB n hi = true) (hh : hi ≤ 1024) : pw (u8 (lg n)) = n := by
  unfold powB at h
  simp at h
  obtain ⟨hp, h0⟩ := h
  obtain ⟨k, hk, rfl⟩ := (isPow_iff n).1 hp
  rw [lg_two k hk]
  have hk10 : k ≤ 10 := by
    rcases Nat.lt_or_ge 10 k with h | h
    · exfalso
      have : (2 : Int) ^ 11 ≤ 2 ^ k := by
        have := Nat.pow_le_pow_right (n := 2) (by omega) (show 11 ≤ k by omega)
        exact_mod_cast this
      omega
    · exact h
  unfold pw u8
  rw [UInt8.toNat_ofNat']
  have : (k : Int).toNat % 2 ^ 8 = k := by simp; omega
  rw [this, if_neg (by omega)]
theorem sizes_back {c : Cfg} (h : okC c = true) (r : List UInt8) : cfgM (sizesB c ++ r) = c := by
  rw [okC_eq] at h
  simp only [Bool.and_eq_true] at h
  obtain ⟨⟨⟨⟨⟨⟨⟨⟨⟨⟨h0, h1⟩, h2⟩, h3⟩, h4⟩, h5⟩, h6⟩, h7⟩, h8⟩, h9⟩, ⟨h10, h11⟩, h12⟩ := h
  have e : ∀ (n lo hi : Int), inB n lo hi = true → 0 ≤ lo → hi ≤ 255 → n8 (u8 n) = n := fun n lo hi hn hl hh => by
    have := inB_of hn
    exact n8_u8 (byte_of (by omega) (by omega))
  unfold cfgM sizesB
  simp only [List.cons_append, List.nil_append, List.getD_cons_zero, List.getD_cons_succ]
  rw [e _ _ _ h0 (by omega) (by omega), pow_byte h1 (by omega), pow_byte h2 (by omega), e _ _ _ h3 (by omega) (by omega), pow_byte h4 (by omega), pow_byte h5 (by omega), e _ _ _ h6 (by omega) (by omega), e _ _ _ h7 (by omega) (by omega), e _ _ _ h8 (by omega) (by omega), e _ _ _ h9 (by omega) (by omega)]
  simp only [room, List.getD_cons_zero, List.getD_cons_succ] at h10 h11 h12
  rw [e _ _ _ h10 (by omega) (by omega), e _ _ _ h11 (by omega) (by omega), e _ _ _ h12 (by omega) (by omega)]
theorem sizes_len (c : Cfg) : (sizesB c).length = 13 := rfl
theorem may_parts {s : Scr} (h : mayS s = true) : okC s.c = true ∧ (s.ps.length : Int) = s.c.co ∧ (∀ l ∈ s.ps, fitsB s.c l = true) ∧ (∀ x ∈ s.pk, pickB x = true) := by
  unfold mayS at h
  simp only [Bool.and_eq_true, decide_eq_true_eq, List.all_eq_true] at h
  exact ⟨h.1, h.2.1, h.2.2.1, h.2.2.2⟩
/-- A script that may be is told by its bytes. -/
theorem rd_bts {s : Scr} (h : mayS s = true) : rdM (btsM s) = .ok s := by
  obtain ⟨h0, h1, h2, h3⟩ := may_parts h
  have hc : cfgM (btsM s) = s.c := sizes_back h0 _
  have hd : (btsM s).drop 13 = s.ps.flatMap progB ++ s.pk.flatMap pickL := by
    unfold btsM
    rw [List.drop_append_of_le_length (by simp [sizes_len]), List.drop_eq_nil_of_le (by simp [sizes_len]), List.nil_append]
  have hl : ¬ (btsM s).length < 13 := by
    unfold btsM
    rw [List.length_append, sizes_len]
    omega
  unfold rdM
  rw [if_neg hl, hc, if_pos h0, hd, show s.c.co.toNat = s.ps.length by omega, progs_back s.ps _ h2 _ (Nat.le_refl _)]
  simp only [endM, List.drop_length, List.flatMap_nil, List.nil_append, List.take_length]
  rw [picks_back s.pk h3]
  simp

/-! ### What is read has these bytes -/

theorem cnt_inv {r r' : List UInt8} {n : Nat} (h : cntM r = .ok (n, r')) : r = cntB n ++ r' ∧ n < 16384 := by
  match r, h with
  | a :: r, h =>
    have ha := a.toNat_lt
    unfold cntM at h
    simp only at h
    by_cases hs : a.toNat < 128
    · rw [if_pos hs] at h
      injection h with h
      injection h with h1 h2
      subst h1 h2
      refine ⟨?_, by omega⟩
      unfold cntB
      rw [if_pos hs]
      simp
    · rw [if_neg hs] at h
      match r, h with
      | b :: r, h =>
        have hb := b.toNat_lt
        simp only at h
        by_cases hc : a.toNat = 128 ∨ 128 ≤ b.toNat
        · rw [if_pos hc] at h; cases h
        · rw [if_neg hc] at h
          injection h with h
          injection h with h1 h2
          subst h1 h2
          refine ⟨?_, by omega⟩
          unfold cntB
          rw [if_neg (by omega)]
          have e1 : UInt8.ofNat (128 + ((a.toNat - 128) * 128 + b.toNat) / 128) = a := UInt8.toNat_inj.1 (by rw [ofNat_back (by omega)]; omega)
          have e2 : UInt8.ofNat (((a.toNat - 128) * 128 + b.toNat) % 128) = b := UInt8.toNat_inj.1 (by rw [ofNat_back (by omega)]; omega)
          rw [e1, e2]
          rfl
theorem prs_ok {s : List UInt8} (h : (prs s).2 = 0) : text (prs s).1 = s ∧ (∀ x ∈ (prs s).1, mayB x = true) := by
  unfold prs at *
  by_cases h4 : 4000 < s.length
  · rw [if_pos h4] at h; cases h
  · rw [if_neg h4] at h ⊢
    cases hr : readM s with
    | none => rw [hr] at h; cases h
    | some l =>
      rw [hr] at h
      simp only at h ⊢
      by_cases h64 : 64 < l.length
      · rw [if_pos h64] at h; cases h
      · rw [if_neg h64]
        exact text_read hr
theorem prog_inv {c : Cfg} {r r' : List UInt8} {l : List Op} (h : progM c r = .ok (l, r')) : r = progB l ++ r' ∧ fitsB c l = true := by
  unfold progM at h
  cases hc : cntM r with
  | error e => rw [hc] at h; cases h
  | ok p =>
    obtain ⟨n, q⟩ := p
    rw [hc] at h
    obtain ⟨hr, hn⟩ := cnt_inv hc
    simp only [progK] at h
    by_cases h1 : q.length < n
    · rw [if_pos h1] at h; cases h
    · rw [if_neg h1] at h
      by_cases h2 : (prs (q.take n)).2 = 0
      · rw [if_pos h2] at h
        by_cases h3 : fitsB c (prs (q.take n)).1 = true
        · rw [if_pos h3] at h
          injection h with h
          injection h with e1 e2
          subst e1 e2
          obtain ⟨ht, _⟩ := prs_ok h2
          refine ⟨?_, h3⟩
          unfold progB
          rw [ht, List.length_take, Nat.min_eq_left (by omega), List.append_assoc, List.take_append_drop, hr]
        · rw [if_neg h3] at h; cases h
      · rw [if_neg h2] at h; cases h
theorem progs_inv {c : Cfg} {r : List UInt8} : ∀ {k : Nat} {ls : List (List Op)} {r' : List UInt8}, progsM c r k = .ok (ls, r') → r = ls.flatMap progB ++ r' ∧ ls.length = k ∧ (∀ l ∈ ls, fitsB c l = true)
  | 0, ls, r', h => by
    unfold progsM at h
    injection h with h
    injection h with h1 h2
    subst h1 h2
    exact ⟨rfl, rfl, by simp⟩
  | k + 1, ls, r', h => by
    unfold progsM at h
    cases hp : progsM c r k with
    | error e => rw [hp] at h; cases h
    | ok p =>
      obtain ⟨ms, q⟩ := p
      obtain ⟨h1, h2, h3⟩ := progs_inv hp
      rw [hp] at h
      simp only [moreM] at h
      cases hq : progM c q with
      | error e => rw [hq] at h; cases h
      | ok p =>
        obtain ⟨l, q'⟩ := p
        rw [hq] at h
        simp only at h
        injection h with h
        injection h with e1 e2
        subst e1 e2
        obtain ⟨g1, g2⟩ := prog_inv hq
        refine ⟨?_, by simp [h2], ?_⟩
        · rw [h1, g1]; simp
        · intro x hx
          rcases List.mem_append.1 hx with hx | hx
          · exact h3 x hx
          · rw [List.mem_singleton.1 hx]; exact g2
theorem picks_inv : ∀ (r : List UInt8), r = (picksM r).1.flatMap pickL ++ (picksM r).2 ∧ (∀ x ∈ (picksM r).1, pickB x = true) ∧ (picksM r).2.length < 3
  | a :: b :: c :: r => by
    obtain ⟨h1, h2, h3⟩ := picks_inv r
    have e : picksM (a :: b :: c :: r) = (⟨a.toNat, b.toNat, c.toNat⟩ :: (picksM r).1, (picksM r).2) := by rw [picksM]
    rw [e]
    refine ⟨?_, ?_, h3⟩
    · have ep : pickL ⟨a.toNat, b.toNat, c.toNat⟩ = [a, b, c] := by
        show [u8 (n8 a), u8 (n8 b), u8 (n8 c)] = _
        rw [u8_n8, u8_n8, u8_n8]
      simp only [List.flatMap_cons, ep, List.cons_append, List.nil_append]
      rw [← h1]
    · intro x hx
      rcases List.mem_cons.1 hx with rfl | hx
      · have ha := n8_bound a
        have hb := n8_bound b
        have hc := n8_bound c
        unfold pickB
        show (byteB (n8 a) && (byteB (n8 b) && byteB (n8 c))) = true
        rw [byte_of ha.1 ha.2, byte_of hb.1 hb.2, byte_of hc.1 hc.2]
        rfl
      · exact h2 x hx
  | [] => ⟨by simp [picksM], by simp [picksM], by simp [picksM]⟩
  | [a] => ⟨by simp [picksM], by simp [picksM], by simp [picksM]⟩
  | [a, b] => ⟨by simp [picksM], by simp [picksM], by simp [picksM]⟩
theorem byte_pow {a : UInt8} {hi : Int} (h : powB (pw a) hi = true) : u8 (lg (pw a)) = a := by
  unfold pw at *
  by_cases h20 : 20 < a.toNat
  · rw [if_pos h20] at h
    exfalso
    have := powB_of h
    omega
  · rw [if_neg h20, lg_two _ (by omega)]
    exact u8_n8 a
theorem sizes_inv {b : List UInt8} (hl : ¬ b.length < 13) (h : okC (cfgM b) = true) : sizesB (cfgM b) = b.take 13 := by
  rw [okC_eq] at h
  simp only [Bool.and_eq_true] at h
  obtain ⟨⟨⟨⟨⟨⟨⟨⟨⟨⟨h0, h1⟩, h2⟩, h3⟩, h4⟩, h5⟩, h6⟩, h7⟩, h8⟩, h9⟩, ⟨h10, h11⟩, h12⟩ := h
  match b, hl with
  | b0 :: b1 :: b2 :: b3 :: b4 :: b5 :: b6 :: b7 :: b8 :: b9 :: b10 :: b11 :: b12 :: r, _ =>
    unfold cfgM at *
    simp only [List.getD_cons_zero, List.getD_cons_succ] at *
    unfold sizesB
    simp only [u8_n8]
    rw [byte_pow h1, byte_pow h2, byte_pow h4, byte_pow h5]
    simp
theorem rd_parts {b : List UInt8} {s : Scr} (h : rdM b = .ok s) : ¬ b.length < 13 ∧ okC (cfgM b) = true ∧ s.c = cfgM b ∧ ∃ r, progsM (cfgM b) (b.drop 13) (cfgM b).co.toNat = .ok (s.ps, r) ∧ picksM r = (s.pk, []) := by
  unfold rdM at h
  by_cases h0 : b.length < 13
  · rw [if_pos h0] at h; cases h
  · rw [if_neg h0] at h
    by_cases h1 : okC (cfgM b) = true
    · rw [if_pos h1] at h
      cases hp : progsM (cfgM b) (b.drop 13) (cfgM b).co.toNat with
      | error e => rw [hp] at h; cases h
      | ok p =>
        obtain ⟨ls, r⟩ := p
        rw [hp] at h
        simp only [endM] at h
        by_cases h2 : (picksM r).2 = []
        · rw [if_pos h2] at h
          injection h with h
          subst h
          exact ⟨h0, h1, rfl, r, rfl, Prod.ext rfl h2⟩
        · rw [if_neg h2] at h; cases h
    · rw [if_neg h1] at h; cases h
theorem co_nat {c : Cfg} (h : okC c = true) : (c.co.toNat : Int) = c.co := by
  rw [okC_eq] at h
  simp only [Bool.and_eq_true] at h
  have := inB_of h.1.1.1.1.1.1.1.1.1.1
  omega
/-- What is read may be, and has these bytes. -/
theorem bts_rd {b : List UInt8} {s : Scr} (h : rdM b = .ok s) : btsM s = b ∧ mayS s = true := by
  obtain ⟨h0, h1, h2, r, h3, h4⟩ := rd_parts h
  obtain ⟨g1, g2, g3⟩ := progs_inv h3
  obtain ⟨k1, k2, k3⟩ := picks_inv r
  rw [h4] at k1 k2
  simp only [List.append_nil] at k1
  constructor
  · unfold btsM
    rw [h2, sizes_inv h0 h1, ← k1, ← g1, List.take_append_drop]
  · unfold mayS
    simp only [Bool.and_eq_true, decide_eq_true_eq, List.all_eq_true]
    rw [h2]
    exact ⟨h1, by rw [g2]; exact co_nat h1, g3, k2⟩

/-! ### Bytes behind a script -/

theorem cfg_more {b : List UInt8} (hl : ¬ b.length < 13) (t : List UInt8) : cfgM (b ++ t) = cfgM b := by
  have e : ∀ i, i < 13 → (b ++ t).getD i 0 = b.getD i 0 := fun i hi => by
    simp only [List.getD_eq_getElem?_getD]
    rw [List.getElem?_append_left (by omega)]
  unfold cfgM
  rw [e 0 (by omega), e 1 (by omega), e 2 (by omega), e 3 (by omega), e 4 (by omega), e 5 (by omega), e 6 (by omega), e 7 (by omega), e 8 (by omega), e 9 (by omega), e 10 (by omega), e 11 (by omega), e 12 (by omega)]
theorem more_progs {c : Cfg} {r r' : List UInt8} (t : List UInt8) {ls : List (List Op)} {k : Nat} (h : progsM c r k = .ok (ls, r')) : progsM c (r ++ t) k = .ok (ls, r' ++ t) := by
  obtain ⟨g1, g2, g3⟩ := progs_inv h
  rw [g1, List.append_assoc, progs_back ls _ g3 k (by omega), ← g2]
  simp
theorem picks_more (l : List Op) (h : ∀ x ∈ l, pickB x = true) (t : List UInt8) : picksM (l.flatMap pickL ++ t) = (l ++ (picksM t).1, (picksM t).2) := by
  induction l with
  | nil => simp
  | cons x l ih =>
    have hx := h x (by simp)
    unfold pickB at hx
    simp only [Bool.and_eq_true] at hx
    have ih' := ih fun y hy => h y (by simp [hy])
    show picksM (u8 x.k :: u8 x.a :: u8 x.v :: (l.flatMap pickL ++ t)) = _
    rw [picksM, ih', u8_back hx.1, u8_back hx.2.1, u8_back hx.2.2]
    rfl
theorem rd_more {b : List UInt8} {s : Scr} (h : rdM b = .ok s) (t : List UInt8) : rdM (b ++ t) = if (picksM t).2 = [] then .ok ⟨s.c, s.ps, s.pk ++ (picksM t).1⟩ else .error 3 := by
  obtain ⟨h0, h1, h2, r, h3, h4⟩ := rd_parts h
  obtain ⟨k1, k2, k3⟩ := picks_inv r
  rw [h4] at k1 k2
  simp only [List.append_nil] at k1
  have hm := picks_more s.pk k2 t
  rw [← k1] at hm
  have hl : ¬ (b ++ t).length < 13 := by rw [List.length_append]; omega
  unfold rdM
  rw [if_neg hl, cfg_more h0, if_pos h1, List.drop_append_of_le_length (by omega), more_progs t h3]
  simp only [endM]
  rw [hm, h2]
theorem rd_more3 {b : List UInt8} {s : Scr} (h : rdM b = .ok s) (x y z : UInt8) : rdM (b ++ [x, y, z]) = .ok ⟨s.c, s.ps, s.pk ++ [⟨x.toNat, y.toNat, z.toNat⟩]⟩ := by
  rw [rd_more h, if_pos (by simp [picksM])]
  simp [picksM]
theorem rd_more1 {b : List UInt8} {s : Scr} (h : rdM b = .ok s) (x : UInt8) : rdM (b ++ [x]) = .error 3 := by
  rw [rd_more h, if_neg (by simp [picksM])]
theorem rd_more2 {b : List UInt8} {s : Scr} (h : rdM b = .ok s) (x y : UInt8) : rdM (b ++ [x, y]) = .error 3 := by
  rw [rd_more h, if_neg (by simp [picksM])]

end Go.Proofs.YtjnbpohjdgnknaaDoor
