/-
  The document's way to read a text, in plain words: digits, the operation that a word may tell, and words between blanks.
-/
import Derived.Test.YtobpeaigapnpdaaDoorPgM
namespace Go.Proofs.YtobpeaigapnpdaaDoor
open Go

/-! ### Digits -/

def dstep (n : Int) (c : UInt8) : Int := 10 * n + (c.toNat : Int) - 48
def dgs (s : List UInt8) : Int := (s.take 12).foldl dstep 0
theorem fold_bound : ∀ (l : List UInt8) (k : Nat) (n : Int), -(23 * (10 ^ k - 1)) ≤ n → n ≤ 23 * (10 ^ k - 1) → -(23 * (10 ^ (k + l.length) - 1)) ≤ l.foldl dstep n ∧ l.foldl dstep n ≤ 23 * (10 ^ (k + l.length) - 1)
  | [], k, n, h0, h1 => ⟨h0, h1⟩
  | c :: l, k, n, h0, h1 => by
    have hc : c.toNat < 256 := c.toNat_lt
    have e : k + (c :: l).length = k + 1 + l.length := by simp; omega
    rw [e]
    have hp : (10 : Int) ^ (k + 1) = 10 * 10 ^ k := by rw [Int.pow_succ, Int.mul_comm]
    exact fold_bound l (k + 1) (dstep n c) (by rw [hp]; unfold dstep; omega) (by rw [hp]; unfold dstep; omega)
theorem fold_le (l : List UInt8) (h : l.length ≤ 12) : -23000000000000 ≤ l.foldl dstep 0 ∧ l.foldl dstep 0 ≤ 23000000000000 := by
  have hb := fold_bound l 0 0 (by simp) (by simp)
  have hp : (10 : Int) ^ l.length ≤ 10 ^ 12 := by
    have : (10 : Nat) ^ l.length ≤ 10 ^ 12 := Nat.pow_le_pow_right (by omega) h
    exact_mod_cast this
  rw [Nat.zero_add] at hb
  have e : (10 : Int) ^ 12 = 1000000000000 := by decide
  omega
theorem fold_dec (u : Nat) : (Lib.decDigits u).foldl dstep 0 = u := by
  induction u using Nat.strongRecOn with
  | _ u ih =>
    by_cases h : u < 10
    · rw [dec_small h]
      show dstep 0 (UInt8.ofNat (48 + u)) = u
      unfold dstep
      rw [toNat_dig h]
      omega
    · rw [dec_big h, List.foldl_append, ih (u / 10) (by omega)]
      show dstep _ (UInt8.ofNat (48 + u % 10)) = u
      unfold dstep
      rw [toNat_dig (by omega)]
      omega
theorem dgs_dec (u : Nat) (h : u < 10 ^ 12) : dgs (Lib.decDigits u) = u := by
  unfold dgs
  rw [List.take_of_length_le (dec_len 11 u h), fold_dec]

/-! ### What a word may tell -/

/-- Where the first = stands. -/
def eqAt (s : List UInt8) : Nat := s.findIdx (· == 61)
/-- The operation that a word may tell. -/
def guessOp (s : List UInt8) : Op :=
  if s = [] then ⟨0, 0, 0⟩ else
    ⟨kindR (s.getD 0 0).toNat,
     if kindR (s.getD 0 0).toNat = 4 then 0 else dgs ((s.take (max (eqAt s) 1)).drop 1),
     if eqAt s + 1 < s.length ∧ (s.getD (eqAt s + 1) 0).toNat = 45 then -dgs (s.drop (eqAt s + 2)) else if eqAt s < s.length then dgs (s.drop (eqAt s + 1)) else 0⟩

theorem itoa_noeq (n : Int) : ∀ c ∈ Lib.itoa n, (c == 61) = false := by
  intro c hc
  rcases itoa_mem hc with rfl | ⟨h0, h1⟩
  · decide
  · rw [beq_eq_false_iff_ne]
    intro e
    subst e
    exact absurd h1 (by decide)
theorem find_none {s : List UInt8} (h : ∀ c ∈ s, (c == 61) = false) : eqAt s = s.length := List.findIdx_eq_length.2 h
theorem find_some {a b : List UInt8} (h : ∀ c ∈ a, (c == 61) = false) : eqAt (a ++ 61 :: b) = a.length := by
  induction a with
  | nil => rfl
  | cons c a ih =>
    have h1 := h c (by simp)
    show List.findIdx _ (c :: (a ++ 61 :: b)) = _
    rw [List.findIdx_cons, h1]
    have := ih (fun d hd => h d (by simp [hd]))
    unfold eqAt at this
    simp [this]
theorem dgs_itoa {n : Int} (h0 : 0 ≤ n) (h1 : n ≤ 2147483648) : dgs (Lib.itoa n) = n := by
  rw [itoa_pos h0, dgs_dec n.toNat (by omega)]
  omega

theorem guess_txt (x : Op) (h : mayB x = true) : guessOp (txt x) = x := by
  obtain ⟨h0, h1, h2, h3, hk⟩ := may_iff.1 h
  have big : ∀ (c : UInt8) (k : Int), kindR c.toNat = k → (k = 2 ∨ k = 3) → (c == 61) = false → x.k = k → guessOp (c :: (Lib.itoa x.a ++ 61 :: Lib.itoa x.v)) = x := by
    intro c k hc hk2 h61 hxk
    have e1 : eqAt (c :: (Lib.itoa x.a ++ 61 :: Lib.itoa x.v)) = (Lib.itoa x.a).length + 1 := by
      have := find_some (a := c :: Lib.itoa x.a) (b := Lib.itoa x.v) (by
        intro d hd
        rcases List.mem_cons.1 hd with rfl | hd
        · exact h61
        · exact itoa_noeq _ d hd)
      simpa using this
    have hk4 : ¬ k = 4 := by omega
    unfold guessOp
    rw [if_neg (by simp), e1]
    have e2 : ((c :: (Lib.itoa x.a ++ 61 :: Lib.itoa x.v)).take (max ((Lib.itoa x.a).length + 1) 1)).drop 1 = Lib.itoa x.a := by
      rw [show max ((Lib.itoa x.a).length + 1) 1 = (Lib.itoa x.a).length + 1 by omega]
      simp
    have e3 : (c :: (Lib.itoa x.a ++ 61 :: Lib.itoa x.v)).drop ((Lib.itoa x.a).length + 1 + 1) = Lib.itoa x.v := by
      show (Lib.itoa x.a ++ 61 :: Lib.itoa x.v).drop ((Lib.itoa x.a).length + 1) = _
      rw [List.drop_append]
      simp
    have e4 : (c :: (Lib.itoa x.a ++ 61 :: Lib.itoa x.v)).drop ((Lib.itoa x.a).length + 1 + 2) = (Lib.itoa x.v).drop 1 := by
      rw [show (Lib.itoa x.a).length + 1 + 2 = ((Lib.itoa x.a).length + 1 + 1) + 1 by omega, ← List.drop_drop, e3]
    have e5 : (c :: (Lib.itoa x.a ++ 61 :: Lib.itoa x.v)).getD ((Lib.itoa x.a).length + 1 + 1) 0 = (Lib.itoa x.v).getD 0 0 := by
      rw [List.getD_eq_getElem?_getD, List.getD_eq_getElem?_getD, ← e3, List.getElem?_drop]
      simp
    rw [e2, e3, e4, e5]
    refine Op.ext' (hc.trans hxk.symm) ?_ ?_
    · show (if kindR c.toNat = 4 then 0 else dgs (Lib.itoa x.a)) = x.a
      rw [hc, if_neg hk4, dgs_itoa h0 (by omega)]
    · show (if (Lib.itoa x.a).length + 1 + 1 < (c :: (Lib.itoa x.a ++ 61 :: Lib.itoa x.v)).length ∧ ((Lib.itoa x.v).getD 0 0).toNat = 45 then -dgs ((Lib.itoa x.v).drop 1) else if (Lib.itoa x.a).length + 1 < (c :: (Lib.itoa x.a ++ 61 :: Lib.itoa x.v)).length then dgs (Lib.itoa x.v) else 0) = x.v
      by_cases hv : x.v < 0
      · have el : (Lib.itoa x.v).length = (Lib.decDigits x.v.natAbs).length + 1 := by rw [itoa_below hv]; rfl
        have := dec_len_ne x.v.natAbs
        rw [if_pos ⟨by simp; omega, by rw [itoa_below hv]; rfl⟩, itoa_below hv]
        show -dgs (Lib.decDigits x.v.natAbs) = x.v
        rw [dgs_dec _ (by omega)]
        omega
      · have hd0 : ∀ l : List UInt8, l ≠ [] → (∀ d ∈ l, 48 ≤ d.toNat ∧ d.toNat ≤ 57) → ¬ (l.getD 0 0).toNat = 45 := by
          intro l hl hd
          cases l with
          | nil => exact absurd rfl hl
          | cons d l =>
            have := hd d (by simp)
            show ¬ d.toNat = 45
            omega
        have hne : ¬ ((Lib.itoa x.v).getD 0 0).toNat = 45 := by
          rw [itoa_pos (by omega)]
          exact hd0 _ (dec_ne _) (dec_digits _)
        rw [if_neg (fun e => hne e.2), if_pos (by simp), dgs_itoa (by omega) (by omega)]
  rcases hk with hk | hk | ⟨hk, hv⟩ | ⟨hk, ha, hv⟩
  · rw [txt_2 hk]; exact big 83 2 (by decide) (.inl rfl) (by decide) hk
  · rw [txt_3 hk]; exact big 88 3 (by decide) (.inr rfl) (by decide) hk
  · rw [txt_1 hk]
    have e1 : eqAt (76 :: Lib.itoa x.a) = (Lib.itoa x.a).length + 1 := by
      have := find_none (s := 76 :: Lib.itoa x.a) (by
        intro d hd
        rcases List.mem_cons.1 hd with rfl | hd
        · decide
        · exact itoa_noeq _ d hd)
      simpa using this
    unfold guessOp
    rw [if_neg (by simp), e1]
    refine Op.ext' (by rw [hk]; rfl) ?_ ?_
    · show (if kindR (76 : UInt8).toNat = 4 then 0 else dgs (((76 :: Lib.itoa x.a).take (max ((Lib.itoa x.a).length + 1) 1)).drop 1)) = x.a
      rw [if_neg (by decide), show max ((Lib.itoa x.a).length + 1) 1 = (Lib.itoa x.a).length + 1 by omega]
      have : ((76 :: Lib.itoa x.a).take ((Lib.itoa x.a).length + 1)).drop 1 = Lib.itoa x.a := by simp
      rw [this, dgs_itoa h0 (by omega)]
    · show (if _ then _ else _) = x.v
      rw [if_neg (by simp), if_neg (by simp), hv]
  · rw [txt_4 hk]
    refine Op.ext' (by rw [hk]; rfl) (by rw [ha]; rfl) (by rw [hv]; rfl)

/-! ### Words between blanks -/

def split : List UInt8 → List (List UInt8)
  | [] => [[]]
  | c :: cs => if c = 32 then [] :: split cs else match split cs with
    | [] => [[c]]
    | w :: ws => (c :: w) :: ws
theorem split_word (a : List UInt8) (h : ∀ c ∈ a, c ≠ 32) : split a = [a] := by
  induction a with
  | nil => rfl
  | cons c a ih =>
    have := ih (fun d hd => h d (by simp [hd]))
    show (if c = 32 then _ else _) = _
    rw [if_neg (h c (by simp)), this]
theorem split_cons (a b : List UInt8) (h : ∀ c ∈ a, c ≠ 32) : split (a ++ 32 :: b) = a :: split b := by
  induction a with
  | nil => show (if (32 : UInt8) = 32 then _ else _) = _; rw [if_pos rfl]
  | cons c a ih =>
    have := ih (fun d hd => h d (by simp [hd]))
    show (if c = 32 then _ else match split (a ++ 32 :: b) with | [] => [[c]] | w :: ws => (c :: w) :: ws) = _
    rw [if_neg (h c (by simp)), this]
theorem split_text (x : Op) (l : List Op) : split (text (x :: l)) = (x :: l).map txt := by
  induction l generalizing x with
  | nil => rw [show text [x] = txt x by simp [text], split_word _ (txt_no x)]; rfl
  | cons y l ih => rw [text_cons2, split_cons _ _ (txt_no x), ih y]; rfl

/-- Of a text's words the first ones are the texts of these operations, and the rest begins there. -/
def Cut (s : List UInt8) (l : List Op) (k : Nat) : Prop := s.take k = done l ∧ split s = l.map txt ++ split (s.drop k) ∧ (∀ x ∈ l, mayB x = true)
theorem cut0 (s : List UInt8) : Cut s [] 0 := ⟨rfl, rfl, by simp⟩
/-- No blank stands between two places. -/
def Plain (s : List UInt8) (a b : Nat) : Prop := ∀ j, a ≤ j → j < b → s.getD j 0 ≠ 32
theorem word_no {s : List UInt8} {a b : Nat} (h : Plain s a b) : ∀ c ∈ (s.take b).drop a, c ≠ 32 := by
  intro c hc
  obtain ⟨j, hj, rfl⟩ := List.getElem_of_mem hc
  rw [List.length_drop, List.length_take] at hj
  have := h (a + j) (by omega) (by omega)
  rw [List.getElem_drop, List.getElem_take]
  rwa [List.getD_eq_getElem?_getD, List.getElem?_eq_getElem (by omega)] at this
theorem drop_word {s : List UInt8} {a b : Nat} (h : a ≤ b) (hb : b < s.length) (hc : s.getD b 0 = 32) : s.drop a = (s.take b).drop a ++ 32 :: s.drop (b + 1) := by
  have e : s = s.take b ++ 32 :: s.drop (b + 1) := by
    have h1 : s.drop b = 32 :: s.drop (b + 1) := by
      rw [List.drop_eq_getElem_cons hb]
      rw [List.getD_eq_getElem?_getD, List.getElem?_eq_getElem hb] at hc
      simp at hc
      rw [hc]
    rw [← h1, List.take_append_drop]
  have e2 : s.drop a = (s.take b ++ 32 :: s.drop (b + 1)).drop a := by rw [← e]
  rw [e2, List.drop_append_of_le_length (by rw [List.length_take]; omega)]
/-- A word that is an operation's text. -/
theorem cut_blank {s : List UInt8} {l : List Op} {a b : Nat} {x : Op} (h : Cut s l a) (hp : Plain s a b) (hab : a ≤ b) (hb : b < s.length) (hc : s.getD b 0 = 32) (hx : mayB x = true) (ht : txt x = (s.take b).drop a) : Cut s (l ++ [x]) (b + 1) := by
  obtain ⟨h1, h2, h3⟩ := h
  have hd := drop_word hab hb hc
  refine ⟨?_, ?_, ?_⟩
  · rw [done_snoc, ht, ← h1]
    have e1 : s.take (b + 1) = s.take b ++ [32] := by
      rw [List.take_succ_eq_append_getElem hb]
      rw [List.getD_eq_getElem?_getD, List.getElem?_eq_getElem hb] at hc
      simp at hc
      rw [hc]
    have e2 : s.take b = s.take a ++ (s.take b).drop a := by
      have e3 := (List.take_append_drop a (s.take b)).symm
      rwa [List.take_take, Nat.min_eq_left hab] at e3
    rw [e1]
    conv => lhs; rw [e2]
    simp
  · rw [h2, hd, split_cons _ _ (word_no hp), List.map_append]
    simp [ht]
  · intro y hy
    rcases List.mem_append.1 hy with hy | hy
    · exact h3 y hy
    · simp only [List.mem_singleton] at hy; rw [hy]; exact hx
theorem cut_word {s : List UInt8} {l : List Op} {a b : Nat} (h : Cut s l a) (hp : Plain s a b) (hab : a ≤ b) (hb : b = s.length ∨ (b < s.length ∧ s.getD b 0 = 32)) : (s.take b).drop a ∈ split s := by
  rw [h.2.1]
  rcases hb with rfl | ⟨hb, hc⟩
  · rw [List.take_length]
    have : split (s.drop a) = [s.drop a] := split_word _ (by have := word_no hp; rwa [List.take_length] at this)
    rw [this]; simp
  · rw [drop_word hab hb hc, split_cons _ _ (word_no hp)]
    simp
/-- A word that is none: the text is none. -/
theorem cut_none {s : List UInt8} {l : List Op} {a b : Nat} (h : Cut s l a) (hp : Plain s a b) (hab : a ≤ b) (hs : s ≠ []) (hb : b = s.length ∨ (b < s.length ∧ s.getD b 0 = 32))
    (hn : ¬ (mayB (guessOp ((s.take b).drop a)) = true ∧ txt (guessOp ((s.take b).drop a)) = (s.take b).drop a)) : readM s = none := by
  cases hr : readM s with
  | none => rfl
  | some m =>
    exfalso
    obtain ⟨ht, hm⟩ := text_read hr
    cases m with
    | nil => exact hs ht.symm
    | cons y m =>
      have hw := cut_word h hp hab hb
      rw [← ht, split_text, List.mem_map] at hw
      rw [ht] at hw
      obtain ⟨x, hx, e⟩ := hw
      rw [← e, guess_txt x (hm x hx)] at hn
      exact hn ⟨hm x hx, rfl⟩
theorem cut_end {s : List UInt8} {l : List Op} {a : Nat} {x : Op} (h : Cut s l a) (hx : mayB x = true) (ht : txt x = (s.take s.length).drop a) : readM s = some (l ++ [x]) := by
  have e : text (l ++ [x]) = s := by
    rw [text_snoc, ht, ← h.1, List.take_length, List.take_append_drop]
  rw [← e]
  exact read_text _ (by
    intro y hy
    rcases List.mem_append.1 hy with hy | hy
    · exact h.2.2 y hy
    · simp only [List.mem_singleton] at hy; rw [hy]; exact hx)

end Go.Proofs.YtobpeaigapnpdaaDoor
