/-
  Sets of sharers in plain words: what a set is, of which cores were added: in whichever order, and however often.
-/
import Derived.Test.YtfnemldjhfcalaaShG
import Derived.Maps.Views
namespace Go.Proofs.Ytfnemldjhfcalaa
open Go Go.RowKit

/-- The numbers below c of which f says yes, rising. -/
def canon (c : Nat) (f : Int → Bool) : List Int := (upTo c).filter f
theorem canon_succ_yes {c : Nat} {f : Int → Bool} (h : f c = true) : canon (c + 1) f = canon c f ++ [(c : Int)] := by
  unfold canon
  rw [upTo_succ, List.filter_append]
  simp only [List.filter_cons, List.filter_nil, h]
  simp
theorem canon_succ_no {c : Nat} {f : Int → Bool} (h : f c = false) : canon (c + 1) f = canon c f := by
  unfold canon
  rw [upTo_succ, List.filter_append]
  simp only [List.filter_cons, List.filter_nil, h]
  simp
theorem mem_upTo {c : Nat} {x : Int} : x ∈ upTo c ↔ 0 ≤ x ∧ x < c := by
  unfold upTo
  rw [List.mem_map]
  constructor
  · rintro ⟨k, hk, rfl⟩
    have := List.mem_range.1 hk
    exact ⟨Int.natCast_nonneg k, Int.ofNat_lt.2 this⟩
  · rintro ⟨h0, h1⟩
    exact ⟨x.toNat, List.mem_range.2 (by omega), Int.toNat_of_nonneg h0⟩
theorem mem_canon {c : Nat} {f : Int → Bool} {x : Int} : x ∈ canon c f ↔ (0 ≤ x ∧ x < c) ∧ f x = true := by
  unfold canon
  rw [List.mem_filter, mem_upTo]
theorem canon_congr {c : Nat} {f g : Int → Bool} (h : ∀ y : Int, 0 ≤ y → y < c → f y = g y) : canon c f = canon c g := by
  unfold canon
  exact List.filter_congr fun y hy => h y (mem_upTo.1 hy).1 (mem_upTo.1 hy).2
theorem canon_none (c : Nat) : canon c (fun _ => false) = [] := by unfold canon; simp
theorem canon_len (c : Nat) (f : Int → Bool) : (canon c f).length ≤ c := by
  have := List.length_filter_le f (upTo c)
  rw [upTo_len] at this
  exact this
theorem canon_mono {f g : Int → Bool} : ∀ {c : Nat}, (∀ y : Int, 0 ≤ y → y < c → f y = true → g y = true) → (canon c f).length ≤ (canon c g).length
  | 0, _ => Nat.le_refl _
  | c + 1, h => by
    have ih := canon_mono (f := f) (g := g) (c := c) (fun y h0 h1 => h y h0 (by omega))
    rcases Bool.eq_false_or_eq_true (f c) with hf | hf
    · rw [canon_succ_yes hf, canon_succ_yes (h c (by omega) (by omega) hf)]
      simpa using ih
    · rw [canon_succ_no hf]
      rcases Bool.eq_false_or_eq_true (g c) with hg | hg
      · rw [canon_succ_yes hg, List.length_append]
        omega
      · rw [canon_succ_no hg]
        exact ih
theorem upTo_sorted : ∀ c : Nat, (upTo c).Pairwise (· < ·)
  | 0 => List.Pairwise.nil
  | c + 1 => by
    rw [upTo_succ, List.pairwise_append]
    exact ⟨upTo_sorted c, List.pairwise_singleton _ _, fun a ha b hb => by rw [List.mem_singleton.1 hb]; exact (mem_upTo.1 ha).2⟩
theorem canon_sorted (c : Nat) (f : Int → Bool) : (canon c f).Pairwise (· < ·) := (upTo_sorted c).filter f
theorem rises_of {c : Int} : ∀ {l : List Int} {a : Int}, l.Pairwise (· < ·) → (∀ y ∈ l, a ≤ y ∧ 0 ≤ y ∧ y < c) → risesB c a l = true
  | [], _, _, _ => rfl
  | x :: l, a, hp, h => by
    have hx := h x (List.mem_cons_self ..)
    rw [List.pairwise_cons] at hp
    have ih := rises_of (c := c) (l := l) (a := x + 1) hp.2 fun y hy => by
      have h1 := hp.1 y hy
      have h2 := h y (List.mem_cons_of_mem _ hy)
      omega
    simp only [risesB, hasB, ih, Bool.and_eq_true, Bool.not_eq_true', decide_eq_false_iff_not, decide_eq_true_eq, and_true]
    omega
theorem canon_rises (c : Nat) (f : Int → Bool) : risesB c 0 (canon c f) = true := rises_of (canon_sorted c f) fun y hy => by
  have := (mem_canon.1 hy).1
  omega

/-- One number more. -/
def orB (f : Int → Bool) (x : Int) : Int → Bool := fun y => f y || y == x
theorem insAt_end (l : List Int) (x : Int) : insAt l l.length x = l ++ [x] := by simp [insAt]
theorem insAt_snoc (l : List Int) (i : Nat) (x y : Int) (h : i ≤ l.length) : insAt (l ++ [y]) i x = insAt l i x ++ [y] := by
  unfold insAt
  rw [List.take_append_of_le_length h, List.drop_append_of_le_length h]
  simp
theorem less_all {l : List Int} {x : Int} (h : ∀ y ∈ l, y < x) : less l x = l.length := by
  unfold less
  rw [List.countP_eq_length]
  exact fun y hy => by simpa using h y hy
theorem less_le (l : List Int) (x : Int) : less l x ≤ l.length := List.countP_le_length
theorem less_snoc (l : List Int) (x y : Int) (h : ¬ y < x) : less (l ++ [y]) x = less l x := by
  unfold less
  rw [List.countP_append]
  simp [h]
theorem canon_ins {f : Int → Bool} {x : Int} (h0 : 0 ≤ x) (hf : f x = false) : ∀ {c : Nat}, x < c → insAt (canon c f) (less (canon c f) x) x = canon c (orB f x)
  | 0, hc => by omega
  | c + 1, hc => by
    by_cases hx : x = c
    · subst hx
      have e : canon c (orB f c) = canon c f := canon_congr fun y _ hy => by
        have : (y == (c : Int)) = false := by simp; omega
        simp [orB, this]
      rw [canon_succ_no hf, canon_succ_yes (by simp [orB]), e, less_all fun y hy => by have := (mem_canon.1 hy).1; omega, insAt_end]
    · have ih := canon_ins h0 hf (c := c) (by omega)
      rcases Bool.eq_false_or_eq_true (f c) with hg | hg
      · rw [canon_succ_yes hg, canon_succ_yes (by simp [orB, hg]), less_snoc _ _ _ (by omega), insAt_snoc _ _ _ _ (less_le _ _), ih]
      · rw [canon_succ_no hg, canon_succ_no (by simp [orB, hg]; omega), ih]
theorem canon_more {c : Nat} {f : Int → Bool} {x : Int} (h0 : 0 ≤ x) (hc : x < c) (hf : f x = false) : (canon c (orB f x)).length = (canon c f).length + 1 := by
  rw [← canon_ins h0 hf hc]
  exact insAt_len _ _ _ (less_le _ _)
theorem canon_again {c : Nat} {f : Int → Bool} {x : Int} (hf : f x = true) : canon c (orB f x) = canon c f := canon_congr fun y _ _ => by
  unfold orB
  by_cases h : y = x
  · subst h
    simp [hf]
  · simp [h]

/-- What a set is, to which those were added of which f says yes. -/
def stOf (c : Nat) (m : Int) (f : Int → Bool) : St := if ((canon c f).length : Int) ≤ m then ⟨c, m, canon c f, false⟩ else ⟨c, m, [], true⟩
theorem stOf_few {c : Nat} {m : Int} {f : Int → Bool} (h : ((canon c f).length : Int) ≤ m) : stOf c m f = ⟨c, m, canon c f, false⟩ := by unfold stOf; rw [if_pos h]
theorem stOf_many {c : Nat} {m : Int} {f : Int → Bool} (h : ¬ ((canon c f).length : Int) ≤ m) : stOf c m f = ⟨c, m, [], true⟩ := by unfold stOf; rw [if_neg h]
theorem stOf_c (c : Nat) (m : Int) (f : Int → Bool) : (stOf c m f).c = c := by unfold stOf; split <;> rfl
theorem stOf_m (c : Nat) (m : Int) (f : Int → Bool) : (stOf c m f).m = m := by unfold stOf; split <;> rfl
theorem stOf_len (c : Nat) (m : Int) (f : Int → Bool) : (stOf c m f).l.length ≤ c := by
  unfold stOf
  split
  · exact canon_len c f
  · exact Nat.zero_le _
theorem stOf_congr {c : Nat} {m : Int} {f g : Int → Bool} (h : ∀ y : Int, 0 ≤ y → y < c → f y = g y) : stOf c m f = stOf c m g := by
  unfold stOf
  rw [canon_congr h]
theorem stOf_may {c : Nat} {m : Int} {f : Int → Bool} (h1 : 1 ≤ c) (h2 : c ≤ 64) (h3 : 0 ≤ m) (h4 : m ≤ 8) : (stOf c m f).may = true := by
  unfold St.may
  by_cases h : ((canon c f).length : Int) ≤ m
  · rw [stOf_few h]
    simp [mayB, canon_rises, h3, h4, h]
    omega
  · rw [stOf_many h]
    simp [mayB, risesB, h3, h4]
    omega
theorem hasB_iff {c x : Int} : hasB c x = true ↔ 0 ≤ x ∧ x < c := by simp [hasB]
theorem toldB_few {c : Nat} {f : Int → Bool} {x : Int} (hx : 0 ≤ x) (hc : x < c) : toldB (canon c f) false x = f x := by
  unfold toldB
  rw [Bool.false_or, Bool.eq_iff_iff, List.contains_iff_mem, mem_canon]
  simp [hx, hc]
/-- A core more. -/
theorem add_yes {c : Nat} {m : Int} {f : Int → Bool} {x : Int} (h1 : 1 ≤ c) (h2 : c ≤ 64) (h3 : 0 ≤ m) (h4 : m ≤ 8) (hx : hasB c x = true) : addS (stOf c m f) x = (stOf c m (orB f x), 0) := by
  obtain ⟨hx0, hxc⟩ := hasB_iff.1 hx
  unfold addS
  rw [if_pos (stOf_may h1 h2 h3 h4), if_pos (by rw [stOf_c]; exact hx)]
  congr 1
  by_cases h : ((canon c f).length : Int) ≤ m
  · rw [stOf_few h]
    unfold withS
    rw [toldB_few hx0 hxc]
    rcases Bool.eq_false_or_eq_true (f x) with hf | hf
    · rw [if_pos hf, stOf_few (by rw [canon_again hf]; exact h), canon_again hf]
    · rw [if_neg (by rw [hf]; simp)]
      have hl := canon_more hx0 hxc hf
      by_cases hm : ((canon c f).length : Int) = m
      · rw [if_pos hm, stOf_many (by omega)]
      · rw [if_neg hm, stOf_few (by omega), canon_ins hx0 hf hxc]
  · rw [stOf_many h]
    have hl := canon_mono (f := f) (g := orB f x) (c := c) (fun y _ _ hy => by simp [orB, hy])
    rw [stOf_many (by omega)]
    rfl
theorem add_no {c : Nat} {m : Int} {f : Int → Bool} {x : Int} (h1 : 1 ≤ c) (h2 : c ≤ 64) (h3 : 0 ≤ m) (h4 : m ≤ 8) (hx : hasB c x = false) : addS (stOf c m f) x = (z0, 5) := by
  unfold addS
  rw [if_pos (stOf_may h1 h2 h3 h4), if_neg (by rw [stOf_c, hx]; simp)]
theorem may_new {c m : Int} : mayB c m [] false = true ↔ 1 ≤ c ∧ c ≤ 64 ∧ 0 ≤ m ∧ m ≤ 8 := by
  simp only [mayB, risesB, Bool.and_eq_true, decide_eq_true_eq, List.length_nil]
  simp
  omega
theorem new_st {c : Nat} {m : Int} (h1 : 1 ≤ c) (h2 : c ≤ 64) (h3 : 0 ≤ m) (h4 : m ≤ 8) : newS c m = (stOf c m (fun _ => false), 0) := by
  have e : canon c (fun _ => false) = [] := by unfold canon; simp
  unfold newS
  rw [if_pos (may_new.2 (by omega)), stOf_few (by rw [e]; simpa using h3), e]
/-- Who was added may be one. -/
theorem has_yes {c : Nat} {m : Int} {f : Int → Bool} {x : Int} (h1 : 1 ≤ c) (h2 : c ≤ 64) (h3 : 0 ≤ m) (h4 : m ≤ 8) (hx : hasB c x = true) (hf : f x = true) : hasAll (stOf c m f).c (stOf c m f).m (stOf c m f).l (stOf c m f).al x = true := by
  obtain ⟨hx0, hxc⟩ := hasB_iff.1 hx
  have hm : mayB (stOf c m f).c (stOf c m f).m (stOf c m f).l (stOf c m f).al = true := stOf_may h1 h2 h3 h4
  unfold hasAll
  rw [hm, stOf_c, hx]
  by_cases h : ((canon c f).length : Int) ≤ m
  · rw [stOf_few h, toldB_few hx0 hxc, hf]
    rfl
  · rw [stOf_many h]
    rfl
theorem targets_few {c : Nat} {m : Int} {f : Int → Bool} (h1 : 1 ≤ c) (h2 : c ≤ 64) (h3 : 0 ≤ m) (h4 : m ≤ 8) (h : ((canon c f).length : Int) ≤ m) : targetsS (stOf c m f) [] = canon c f := by
  unfold targetsS
  rw [if_pos (stOf_may h1 h2 h3 h4), stOf_few h]
  unfold pickS
  simp only [Int.toNat_natCast]
  exact canon_congr fun y h0 hy => by
    rw [toldB_few h0 hy]
    simp
theorem targets_new (c m : Int) : targetsS (newS c m).1 [] = [] := by
  unfold newS
  split
  · unfold targetsS pickS
    split
    · simp [toldB]
    · rfl
  · unfold targetsS
    split
    · simp [z0, pickS, upTo]
    · rfl

end Go.Proofs.Ytfnemldjhfcalaa
