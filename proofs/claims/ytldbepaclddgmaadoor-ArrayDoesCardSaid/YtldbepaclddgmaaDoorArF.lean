/-
  What Set of an array does.
-/
import Derived.Test.YtldbepaclddgmaaDoorArE
namespace Go.Proofs.YtldbepaclddgmaaDoor
open Go Go.RowKit

/-- The words that are set. -/
def wd2 (st : Int) (d : Wd) : Wd := if st = 0 then d0 else d

theorem TurnG.drew {g : Nat} {w w' : World} (h : TurnG g w w') : TurnG g w w'.drew := ⟨h.os, h.tape, h.output, h.size, h.other⟩
theorem GaveA.drew {w w' : World} {b g : Nat} {c : Cfg} {r : Int × List Wy} {e : Ending} (h : GaveA w b g c r e w') : GaveA w b g c r e w'.drew := ⟨h.res, h.ar.keep (Nat.le_refl _) rfl rfl, h.turn.drew⟩
theorem set_tell {w : World} {b g : Nat} {c : Cfg} {L : List Wy} (h : Ar w b g c L) {line st : Int} {d : Wd} {k : Nat} {x : Wy} (hp : plc c L line = some k) (hx : L[soN c line + k]? = some x) (hs : stOk st = true ∧ wOk c d = true) {w1 : World} (hb : Below w.heap.size w w1) :
    GaveA w b g c (setP c L line st d) (.returned (.int .i64 0)) ((w1.setCells g (soN c line * 11 + k * 11) [.int .i64 st]).setCells g (soN c line * 11 + k * 11 + 2) (dcells (wd2 st d)).toList) := by
  rw [setP_yes st d hp hs hx]
  have h1 := (h.below hb).store hx { x with st := st } 0 [.int .i64 st] (by simp) (fun m hm => by simp at hm; subst hm; rfl) (fun m hm hm2 => by
    simp at hm2
    rcases (show m = 1 ∨ m = 2 ∨ m = 3 ∨ m = 4 ∨ m = 5 ∨ m = 6 ∨ m = 7 ∨ m = 8 ∨ m = 9 ∨ m = 10 by omega) with rfl | rfl | rfl | rfl | rfl | rfl | rfl | rfl | rfl | rfl
    all_goals rfl)
  have hi := (List.getElem?_eq_some_iff.1 hx).1
  have h2 := h1.store (i := soN c line + k) (x := { x with st := st }) (by rw [List.getElem?_set, if_pos rfl, if_pos hi]) (setY st d x) 2 (dcells (wd2 st d)).toList (by simp) (fun m hm => by
    have hm8 : m < 8 := by simpa using hm
    unfold wd2
    rcases (show m = 0 ∨ m = 1 ∨ m = 2 ∨ m = 3 ∨ m = 4 ∨ m = 5 ∨ m = 6 ∨ m = 7 by omega) with rfl | rfl | rfl | rfl | rfl | rfl | rfl | rfl
    all_goals rfl) (fun m hm hm2 => by
    simp at hm2
    rcases (show m = 0 ∨ m = 1 ∨ m = 10 by omega) with rfl | rfl | rfl
    all_goals rfl)
  rw [List.set_set] at h2
  have t1 := turn_setCells g ((soN c line + k) * 11 + 0) [.int .i64 st] w1
  have t2 := turn_setCells g ((soN c line + k) * 11 + 2) (dcells (wd2 st d)).toList (w1.setCells g ((soN c line + k) * 11 + 0) [.int .i64 st])
  rw [Nat.add_mul, Nat.add_zero] at h2 t1 t2
  exact ⟨rfl, h2, ((TurnG.of_below hb).trans t1).trans t2⟩
theorem blk_cells {w : World} {g : Nat} {cs : Array Value} {t : TypeId} (h : w.heap[g]? = some (.cells cs t (0, 0))) (o : Nat) : w.cell? ⟨g, o, none⟩ = cs[o]? := by simp [World.cell?, h]
set_option maxHeartbeats 2000000 in
theorem set_any {w : World} {b g : Nat} {c : Cfg} {L : List Wy} (h : Ar w b g c L) (hT : Tb w) (line st : Int) (d : Wd) :
    Calls Tryd.prog 21 #[.pointer (some ⟨b, 0, none⟩), .int .i64 line, .int .i64 st, .agg (dcells d)] w (GaveA w b g c (setP c L line st d)) := by
  have hB0 : ∀ o, Below w.heap.size w (w.alloc o) := fun o => (Below.refl _ _).alloc (Nat.le_refl _) _
  have HEl : ∀ n, setP c L line st d = (n, L) → Hid (∀ w', Below w.heap.size w w' → GaveA w b g c (setP c L line st d) (.returned (.int .i64 n)) w') := fun n e => Lib.hid (fun w' hb => by
    rw [e]
    exact ⟨rfl, h.below hb, .of_below hb⟩)
  rcases hp : plc c L line with _ | k
  · have HW := Lib.hid (fun o => wayOf_no (h.below (hB0 o)) (hT.keeps (hB0 o)) line hp)
    have HE := HEl 5 (setP_no st d hp)
    clear h hT hp HEl
    go_enter Tryd.func21, Tryd.ntmps21
    go_wp2_with (go_at_call 32; refine (HW.out _).mono ?_; rintro e w1 ⟨rfl, hb1⟩)
    go_ret
    exact HE.out _ (bbox hb1)
  · obtain ⟨hl, hk, x, hx, hx'⟩ := h.sz.plc_some hp
    have HW := Lib.hid (fun o => wayOf_yes (h.below (hB0 o)) (hT.keeps (hB0 o)) line k hp)
    have HF := Lib.hid (fun w1 (hb : Below w.heap.size w w1) => fits_any (h.below hb) d)
    have hX : ∀ {w1 : World}, Below (w.alloc (.cells (dcells d) 35)).heap.size (w.alloc (.cells (dcells d) 35)) w1 → w1.heap[w.heap.size]? = some (.cells (dcells d) 35 (0, 0)) := fun hb => box_at hb
    rcases Bool.eq_false_or_eq_true (stOk st) with hs | hs
    · rcases Bool.eq_false_or_eq_true (wOk c d) with hd | hd
      · rw [hd] at HF
        rcases Bool.eq_false_or_eq_true (decide (st = 0)) with h0 | h0
        · have h0' : st = 0 := by simpa using h0
          clear h0
          have HE : Hid (∀ w1, Below w.heap.size w w1 → GaveA w b g c (setP c L line st d) (.returned (.int .i64 0)) ((w1.setCells g (soN c line * 11 + k * 11) [.int .i64 st]).setCells g (soN c line * 11 + k * 11 + 2) (dcells (wd2 st d)).toList)) := Lib.hid (fun w1 hb => set_tell h hp hx ⟨hs, hd⟩ hb)
          rw [show wd2 st d = d0 by unfold wd2; rw [if_pos h0']] at HE
          have HC : Hid (∀ w1, Below w.heap.size w w1 → (∀ o, w1.frozen? ⟨g, o, none⟩ = false) ∧ w1.rangeAt g (soN c line * 11 + k * 11) (yc x)) := Lib.hid (fun w1 hb => ⟨(h.below hb).fz, (h.below hb).way_at hx⟩)
          have hne : ¬ g = w.heap.size := by have := h.gl; omega
          generalize soN c line * 11 + k * 11 = B at *
          clear h hT hp hl hk hx hx' HEl
          have h0 : (st == 0) = true := by simpa using h0'
          clear h0'
          go_enter Tryd.func21, Tryd.ntmps21
          go_wp2_with (first
            | (go_at_call 32; refine (HW.out _).mono ?_; rintro e w1 ⟨rfl, hb1⟩)
            | (go_at_call 33; refine (isState_any _ _).mono ?_; rintro e w2 ⟨rfl, rfl⟩; rw [hs]; have hcc := blk_cells (hX hb1))
            | (go_at_call 34; refine (HF.out _ (bbox hb1)).mono ?_; rintro e w3 ⟨rfl, hb3⟩)
            | ((with_reducible refine wpList_store_row (o := ⟨none, _, _, _, _, _⟩) rfl 35 (.tmp 7) (.tmp 30) rfl w.heap.size (dcells d0) ?sx ?sy 35 ?old ?sg ?si ?so ?s1 ?_); (case sx => rfl); (case sy => rfl); (case old => exact dcells d); (case sg => exact (hb3.block w.heap.size (zbox hb1)).trans (hX hb1)); (case si => kernel_rfl); (case so => rfl); (case s1 => kernel_rfl)))
          have hb4 := below_setRow (bstep (bbox hb1) hb3) (Nat.le_refl _) (dcells d0)
          obtain ⟨hfz, hrg⟩ := HC.out _ hb4
          have hE := HE.out _ hb4
          have hcd := blk_cells (setRow_heap _ _ _ _ _ _ ((hb3.block w.heap.size (zbox hb1)).trans (hX hb1)) : (w3.setRow w.heap.size (dcells d0)).heap[w.heap.size]? = _)
          generalize w3.setRow w.heap.size (dcells d0) = w4 at *
          have q0 := hrg 0 _ rfl
          rw [Nat.add_zero] at q0
          have q2 := hrg 2 _ rfl
          have q3 := hrg 3 _ rfl
          have q4 := hrg 4 _ rfl
          have q5 := hrg 5 _ rfl
          have q6 := hrg 6 _ rfl
          have q7 := hrg 7 _ rfl
          have q8 := hrg 8 _ rfl
          have q9 := hrg 9 _ rfl
          clear hcc hrg HC HE HW HF
          go_region
          all_goals
            go_wp2
            go_ret
            exact hE.drew
        · have h0' : (st == 0) = false := by simpa using h0
          clear h0
          have HE : Hid (∀ w1, Below w.heap.size w w1 → GaveA w b g c (setP c L line st d) (.returned (.int .i64 0)) ((w1.setCells g (soN c line * 11 + k * 11) [.int .i64 st]).setCells g (soN c line * 11 + k * 11 + 2) (dcells (wd2 st d)).toList)) := Lib.hid (fun w1 hb => set_tell h hp hx ⟨hs, hd⟩ hb)
          rw [show wd2 st d = d by unfold wd2; rw [if_neg (by simpa using h0')]] at HE
          have HC : Hid (∀ w1, Below w.heap.size w w1 → (∀ o, w1.frozen? ⟨g, o, none⟩ = false) ∧ w1.rangeAt g (soN c line * 11 + k * 11) (yc x)) := Lib.hid (fun w1 hb => ⟨(h.below hb).fz, (h.below hb).way_at hx⟩)
          have hne : ¬ g = w.heap.size := by have := h.gl; omega
          generalize soN c line * 11 + k * 11 = B at *
          clear h hT hp hl hk hx hx' HEl
          go_enter Tryd.func21, Tryd.ntmps21
          go_wp2_with (first
            | (go_at_call 32; refine (HW.out _).mono ?_; rintro e w1 ⟨rfl, hb1⟩)
            | (go_at_call 33; refine (isState_any _ _).mono ?_; rintro e w2 ⟨rfl, rfl⟩; rw [hs]; have hcc := blk_cells (hX hb1))
            | (go_at_call 34; refine (HF.out _ (bbox hb1)).mono ?_; rintro e w3 ⟨rfl, hb3⟩))
          obtain ⟨hfz, hrg⟩ := HC.out _ (bstep (bbox hb1) hb3)
          have hE := HE.out _ (bstep (bbox hb1) hb3)
          have hcd := blk_cells ((hb3.block w.heap.size (zbox hb1)).trans (hX hb1))
          have q0 := hrg 0 _ rfl
          rw [Nat.add_zero] at q0
          have q2 := hrg 2 _ rfl
          have q3 := hrg 3 _ rfl
          have q4 := hrg 4 _ rfl
          have q5 := hrg 5 _ rfl
          have q6 := hrg 6 _ rfl
          have q7 := hrg 7 _ rfl
          have q8 := hrg 8 _ rfl
          have q9 := hrg 9 _ rfl
          clear hcc hrg HC HE HW HF
          go_region
          go_wp2
          go_ret
          exact hE.drew
      · have HE := HEl 1 (setP_bad st d hp (by simp [hd]))
        rw [hd] at HF
        generalize soN c line = so at *
        clear h hT hp hl hk hx hx' HEl
        go_enter Tryd.func21, Tryd.ntmps21
        go_wp2_with (first
          | (go_at_call 32; refine (HW.out _).mono ?_; rintro e w1 ⟨rfl, hb1⟩)
          | (go_at_call 33; refine (isState_any _ _).mono ?_; rintro e w2 ⟨rfl, rfl⟩; rw [hs]; have hcc := blk_cells (hX hb1))
          | (go_at_call 34; refine (HF.out _ (bbox hb1)).mono ?_; rintro e w3 ⟨rfl, hb3⟩))
        go_ret
        exact HE.out _ (bstep (bbox hb1) hb3)
    · have HE := HEl 1 (setP_bad st d hp (by simp [hs]))
      generalize soN c line = so at *
      clear h hT hp hl hk hx hx' HEl
      go_enter Tryd.func21, Tryd.ntmps21
      go_wp2_with (first
        | (go_at_call 32; refine (HW.out _).mono ?_; rintro e w1 ⟨rfl, hb1⟩)
        | (go_at_call 33; refine (isState_any _ _).mono ?_; rintro e w2 ⟨rfl, rfl⟩; rw [hs]))
      go_ret
      exact HE.out _ (bbox hb1)

end Go.Proofs.YtldbepaclddgmaaDoor
