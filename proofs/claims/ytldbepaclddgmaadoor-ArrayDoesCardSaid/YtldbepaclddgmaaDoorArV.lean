/-
  The document's array, further: Set.
-/
import Derived.Test.YtldbepaclddgmaaDoorArU
namespace Go.Proofs.YtldbepaclddgmaaDoor
open Go Go.RowKit Go.Sort

theorem refFind_any {w : World} {b g : Nat} {c : Cfg} {L : List Wy} (h : Ar w b g c L) (gd : Good c L) (line : Int) {x : Wy} {k : Int} {q : Bool} (e : fnd c L line = (x, k, q)) :
    Calls Tryd.prog 14 #[.pointer (some ⟨b, 0, none⟩), .int .i64 line] w (RetF w x k q) := by
  rcases hp : plc c L line with _ | m
  · rw [fnd_none hp] at e
    simp only [Prod.mk.injEq] at e
    obtain ⟨e1, e2, e3⟩ := e
    subst e1 e2 e3
    exact refFind_no h gd line hp
  · obtain ⟨_, _, y, hy, _⟩ := h.sz.plc_some hp
    rw [fnd_some hp hy] at e
    simp only [Prod.mk.injEq] at e
    obtain ⟨e1, e2, e3⟩ := e
    subst e1 e2 e3
    exact refFind_yes h gd line m y hp hy

theorem Ar.drew {w : World} {b g : Nat} {c : Cfg} {L : List Wy} (h : Ar w b g c L) : Ar w.drew b g c L := h.keep (Nat.le_refl _) rfl rfl
/-- What the document's Set leaves, once state and words may be. -/
theorem refSet_tell {w w1 : World} {b g : Nat} {c : Cfg} {L : List Wy} (h : Ar w b g c L) {line st : Int} {d : Wd} {k : Nat} {x : Wy} (hp : plc c L line = some k) (hx : L[soN c line + k]? = some x) (hs : stOk st = true ∧ wOk c d = true) (hb : Below w.heap.size w w1) :
    ∃ M, Ar (((w1.setCells g ((soN c line + k) * 11) [.int .i64 st]).setCells g ((soN c line + k) * 11 + 2) (dcells d).toList).drew) b g c M ∧ TurnG g w (((w1.setCells g ((soN c line + k) * 11) [.int .i64 st]).setCells g ((soN c line + k) * 11 + 2) (dcells d).toList).drew) ∧
      (st ≠ 0 → setP c L line st d = (0, M)) ∧
      (st = 0 → ∀ w5 : World, Ar w5 b g c M → TurnG g w w5 → w5.there g ((soN c line + k) * 11 + 2) 8 ∧ GaveA w b g c (setP c L line st d) (.returned (.int .i64 0)) (w5.setCells g ((soN c line + k) * 11 + 2) (dcells d0).toList)) := by
  have hi := (List.getElem?_eq_some_iff.1 hx).1
  have h1 := (h.below hb).store hx { x with st := st } 0 [.int .i64 st] (by simp) (fun m hm => by simp at hm; subst hm; rfl) (fun m hm hm2 => by
    simp at hm2
    rcases (show m = 1 ∨ m = 2 ∨ m = 3 ∨ m = 4 ∨ m = 5 ∨ m = 6 ∨ m = 7 ∨ m = 8 ∨ m = 9 ∨ m = 10 by omega) with rfl | rfl | rfl | rfl | rfl | rfl | rfl | rfl | rfl | rfl
    all_goals rfl)
  have h2 := h1.store (i := soN c line + k) (x := { x with st := st }) (by rw [List.getElem?_set, if_pos rfl, if_pos hi]) { x with st := st, wd := d } 2 (dcells d).toList (by simp) (fun m hm => by
    have hm8 : m < 8 := by simpa using hm
    rcases (show m = 0 ∨ m = 1 ∨ m = 2 ∨ m = 3 ∨ m = 4 ∨ m = 5 ∨ m = 6 ∨ m = 7 by omega) with rfl | rfl | rfl | rfl | rfl | rfl | rfl | rfl
    all_goals rfl) (fun m hm hm2 => by
    simp at hm2
    rcases (show m = 0 ∨ m = 1 ∨ m = 10 by omega) with rfl | rfl | rfl
    all_goals rfl)
  rw [List.set_set] at h2
  have t1 := turn_setCells g ((soN c line + k) * 11 + 0) [.int .i64 st] w1
  have t2 := turn_setCells g ((soN c line + k) * 11 + 2) (dcells d).toList (w1.setCells g ((soN c line + k) * 11 + 0) [.int .i64 st])
  rw [Nat.add_zero] at h2 t1 t2
  have hi2 : (L.set (soN c line + k) { x with st := st, wd := d })[soN c line + k]? = some { x with st := st, wd := d } := by rw [List.getElem?_set, if_pos rfl, if_pos hi]
  refine ⟨_, h2.drew, (((TurnG.of_below hb).trans t1).trans t2).drew, fun h0 => ?_, fun h0 w5 ha ht => ?_⟩
  · rw [setP_yes st d hp hs hx]
    congr 2
    unfold setY
    rw [if_neg h0]
  · subst h0
    have h3 := ha.store hi2 (setY 0 d x) 2 (dcells d0).toList (by simp) (fun m hm => by
      have hm8 : m < 8 := by simpa using hm
      rcases (show m = 0 ∨ m = 1 ∨ m = 2 ∨ m = 3 ∨ m = 4 ∨ m = 5 ∨ m = 6 ∨ m = 7 by omega) with rfl | rfl | rfl | rfl | rfl | rfl | rfl | rfl
      all_goals rfl) (fun m hm hm2 => by
      simp at hm2
      rcases (show m = 0 ∨ m = 1 ∨ m = 10 by omega) with rfl | rfl | rfl
      all_goals rfl)
    rw [List.set_set] at h3
    refine ⟨ha.there hi2 2 8 (by omega), ?_⟩
    rw [setP_yes 0 d hp hs hx]
    exact ⟨rfl, h3, ht.trans (turn_setCells g _ _ w5)⟩

end Go.Proofs.YtldbepaclddgmaaDoor
