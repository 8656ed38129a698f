/-
  Those that may be sharers, but some: in plain words.
-/
import Derived.Test.YtlkeecghofldeaaShN
namespace Go.Proofs.Ytlkeecghofldeaa
open Go Go.RowKit Go.Maps

theorem pickS_canon (l : List Int) (al : Bool) (but : List Int) (c : Nat) : pickS l al but c = canon c fun x => toldB l al x && !but.contains x := rfl
theorem canon_split (f g : Int → Bool) : ∀ c : Nat, (canon c fun x => f x && !g x).length + (canon c fun x => f x && g x).length = (canon c f).length
  | 0 => rfl
  | c + 1 => by
    have ih := canon_split f g c
    rcases Bool.eq_false_or_eq_true (f c) with hf | hf
    · rcases Bool.eq_false_or_eq_true (g c) with hg | hg
      · rw [canon_succ_no (by rw [hf, hg]; rfl), canon_succ_yes (f := fun x => f x && g x) (by rw [hf, hg]; rfl), canon_succ_yes hf, List.length_append, List.length_append]
        simp only [List.length_singleton]
        omega
      · rw [canon_succ_yes (f := fun x => f x && !g x) (by rw [hf, hg]; rfl), canon_succ_no (f := fun x => f x && g x) (by rw [hf, hg]; rfl), canon_succ_yes hf, List.length_append, List.length_append]
        simp only [List.length_singleton]
        omega
    · rw [canon_succ_no (f := fun x => f x && !g x) (by rw [hf]; rfl), canon_succ_no (f := fun x => f x && g x) (by rw [hf]; rfl), canon_succ_no hf]
      exact ih
theorem SetIs.congr {D : DataW Unit} {c : Nat} {f g : Int → Bool} (h : SetIs D c f) (hfg : ∀ y : Int, 0 ≤ y → y < c → f y = g y) : SetIs D c g := by
  refine ⟨h.tidy, fun y => ?_, by rw [h.size, canon_congr hfg]⟩
  rw [h.has]
  rcases Bool.eq_false_or_eq_true (hasB c y) with hy | hy
  · obtain ⟨h0, h1⟩ := hasB_iff.1 hy
    rw [hfg y h0 h1]
  · rw [hy, Bool.false_and, Bool.false_and]
/-- Of those that are left out, the first k that may be sharers. -/
def outF (l : List Int) (al : Bool) (but : List Int) (k : Nat) : Int → Bool := fun y => toldB l al y && (but.take k).contains y
theorem outF_zero (l : List Int) (al : Bool) (but : List Int) : outF l al but 0 = fun _ => false := by
  funext y
  simp [outF]
theorem take_next (l : List Int) (k : Nat) (h : k < l.length) : l.take (k + 1) = l.take k ++ [l.getD k 0] := by
  rw [List.take_add_one]
  simp [List.getElem?_eq_getElem h, List.getD_eq_getElem?_getD]
theorem outF_yes {l : List Int} {al : Bool} {but : List Int} {k : Nat} (hk : k < but.length) (h : toldB l al (but.getD k 0) = true) (y : Int) : orB (outF l al but k) (but.getD k 0) y = outF l al but (k + 1) y := by
  unfold orB outF
  rw [take_next but k hk]
  by_cases e : y = but.getD k 0
  · subst e
    simp only [h]
    simp
  · have e' : (y == but.getD k 0) = false := by simpa using e
    rw [e', Bool.or_false, Bool.eq_iff_iff]
    rw [List.getD_eq_getElem?_getD] at e
    simp
    exact fun _ h => absurd h e
theorem outF_no {l : List Int} {al : Bool} {but : List Int} {k c : Nat} (hk : k < but.length) (h : hasB c (but.getD k 0) = false ∨ toldB l al (but.getD k 0) = false) (y : Int) (h0 : 0 ≤ y) (h1 : y < c) : outF l al but k y = outF l al but (k + 1) y := by
  unfold outF
  rw [take_next but k hk]
  by_cases e : y = but.getD k 0
  · rcases h with h | h
    · rw [← e, hasB_iff.2 ⟨h0, h1⟩] at h
      cases h
    · rw [e, h]
      rfl
  · rw [Bool.eq_iff_iff]
    rw [List.getD_eq_getElem?_getD] at e
    simp
    exact fun _ h => absurd h e
theorem outF_all (l : List Int) (al : Bool) (but : List Int) : outF l al but but.length = fun y => toldB l al y && but.contains y := by
  unfold outF
  rw [List.take_length]
theorem getD_lt {l : List Int} (h : l.Pairwise (· < ·)) {i j : Nat} (hi : i < j) (hj : j < l.length) : l.getD i 0 < l.getD j 0 := by
  have := List.pairwise_iff_getElem.1 h i j (by omega) hj hi
  simpa [List.getD_eq_getElem?_getD, hj, show i < l.length by omega] using this
theorem getD_in {l : List Int} {j : Nat} (h : j < l.length) : l.getD j 0 ∈ l := by
  rw [List.getD_eq_getElem?_getD, List.getElem?_eq_getElem h]
  exact List.getElem_mem h

end Go.Proofs.Ytlkeecghofldeaa
