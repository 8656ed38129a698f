/-
  Lists that rise, in plain words: told by what they contain.
-/
import Derived.Test.YtpknfbgnclgpmaaGreatDoorLaySh
namespace Go.Proofs.YtpknfbgnclgpmaaGreatDoor.Sh
open Go Go.RowKit Go.Sort

theorem sorted_ext : ∀ {l m : List Int}, l.Pairwise (· < ·) → m.Pairwise (· < ·) → (∀ y, y ∈ l ↔ y ∈ m) → l = m
  | [], [], _, _, _ => rfl
  | [], y :: m, _, _, h => absurd ((h y).2 (List.mem_cons_self ..)) (by simp)
  | x :: l, [], _, _, h => absurd ((h x).1 (List.mem_cons_self ..)) (by simp)
  | x :: l, y :: m, hl, hm, h => by
    rw [List.pairwise_cons] at hl hm
    have e : x = y := by
      rcases List.mem_cons.1 ((h x).1 (List.mem_cons_self ..)) with e | hx
      · exact e
      · rcases List.mem_cons.1 ((h y).2 (List.mem_cons_self ..)) with e | hy
        · exact e.symm
        · have h1 := hl.1 y hy
          have h2 := hm.1 x hx
          omega
    subst e
    congr 1
    refine sorted_ext hl.2 hm.2 fun z => ⟨fun hz => ?_, fun hz => ?_⟩
    · rcases List.mem_cons.1 ((h z).1 (List.mem_cons_of_mem _ hz)) with e | hz'
      · have := hl.1 z hz
        omega
      · exact hz'
    · rcases List.mem_cons.1 ((h z).2 (List.mem_cons_of_mem _ hz)) with e | hz'
      · have := hm.1 z hz
        omega
      · exact hz'
theorem canon_self {c : Nat} {l : List Int} (h : risesB c 0 l = true) : canon c (fun y => l.contains y) = l := by
  obtain ⟨hp, ha⟩ := rises_all h
  refine sorted_ext (canon_sorted c _) hp fun y => ?_
  rw [mem_canon, List.contains_iff_mem]
  exact ⟨fun h => h.2, fun h => ⟨⟨(ha y h).2.1, (ha y h).2.2⟩, h⟩⟩
/-- Those below k that are x, or in a list. -/
def moreL (l : List Int) (x : Int) (k : Nat) : List Int := canon k fun y => y == x || l.contains y
theorem moreL_ins {c : Nat} {l : List Int} {x : Int} (h : risesB c 0 l = true) (h0 : 0 ≤ x) (hc : x < c) (hx : l.contains x = false) : moreL l x c = insAt l (less l x) x := by
  have h1 := canon_ins (f := fun y => l.contains y) h0 hx hc
  rw [canon_self h] at h1
  rw [h1]
  exact canon_congr fun y _ _ => by unfold orB; rw [Bool.or_comm]
theorem moreL_len (l : List Int) (x : Int) (k : Nat) : (moreL l x k).length ≤ k := canon_len _ _

end Go.Proofs.YtpknfbgnclgpmaaGreatDoor.Sh
