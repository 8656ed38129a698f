/-
  What same tells of two pictures of the same lists: that they are the same.
-/
import Derived.Test.YtlfhkjjjocmpbaaGreatDoorCcYb
import Derived.Test.YtlfhkjjjocmpbaaGreatDoorCcXa
import Derived.Deep.MidRow
import Derived.Deep.CutRange
import Derived.Deep.DeepCutAuto
import Derived.Test.YtlfhkjjjocmpbaaGreatDoorLayMs
namespace Go.Proofs.YtlfhkjjjocmpbaaGreatDoor.Cc
open Go Go.RowKit

/-- Rows of things where a slice says. -/
def RowsIn {α : Type} (f : α → List Value) (sz : Nat) (w : World) (p : Option Addr) (l : List α) : Prop := ∀ i x, l[i]? = some x → ∃ g, p = some ⟨g, 0, none⟩ ∧ g < w.heap.size ∧ w.rangeAt g (i * sz) (f x)
theorem RowsIn.step {α : Type} {f : α → List Value} {sz : Nat} {w w' : World} {p : Option Addr} {l : List α} (h : RowsIn f sz w p l) (hb : Below w.heap.size w w') : RowsIn f sz w' p l := fun i x hx => by
  obtain ⟨g, e, hg, hr⟩ := h i x hx
  exact ⟨g, e, Nat.lt_of_lt_of_le hg hb.size, fun j v hv => (hb.cell (p := ⟨g, i * sz + j, none⟩) hg).trans (hr j v hv)⟩
theorem row_neq (x : Ar.Wy) (w : World) : (binOp .neq wayB (.agg (Ar.ycells x)) (.agg (Ar.ycells x))).run Tryz.prog w = .ok (.bool false) w := by
  have ha := fun d => words_same d x.wd.w0 x.wd.w1 x.wd.w2 x.wd.w3 x.wd.w4 x.wd.w5 x.wd.w6 x.wd.w7
  simp [go_sem, ha]
theorem row_neqM (x : Mh.Ms) (w : World) : (binOp .neq missB (.agg (Mh.mcells x)) (.agg (Mh.mcells x))).run Tryz.prog w = .ok (.bool false) w := by
  have ha := fun d => words_same d x.wd.w0 x.wd.w1 x.wd.w2 x.wd.w3 x.wd.w4 x.wd.w5 x.wd.w6 x.wd.w7
  simp [go_sem, ha]
theorem row_neqE (x : Wb.En) (w : World) : (binOp .neq entB (.agg (Wb.mcells x)) (.agg (Wb.mcells x))).run Tryz.prog w = .ok (.bool false) w := by
  have ha := fun d => words_same d x.wd.w0 x.wd.w1 x.wd.w2 x.wd.w3 x.wd.w4 x.wd.w5 x.wd.w6 x.wd.w7
  simp [go_sem, ha]
theorem Sp.drew {w0 w : World} {bx : Bx} (h : Sp w0 bx w) : Sp w0 bx w.drew := h.step (Below.refl _ _).drew
theorem range_drew {w : World} {g o : Nat} {cs : List Value} (h : w.rangeAt g o cs) : w.drew.rangeAt g o cs := fun j v hv => h j v hv
set_option maxRecDepth 100000 in
set_option maxHeartbeats 8000000 in
theorem same_any (w : World) (L : List Ar.Wy) (F : List Mh.Ms) (B : List Wb.En) (p1 p2 p3 q1 q2 q3 : Option Addr) (c1 c2 c3 e1 e2 e3 : Nat) (hL : L.length ≤ 4096) (hF : F.length ≤ 4096) (hB : B.length ≤ 4096)
    (h1 : RowsIn Ar.yc 11 w p1 L) (h2 : RowsIn Mh.mc 15 w p2 F) (h3 : RowsIn Wb.mc 10 w p3 B) (k1 : RowsIn Ar.yc 11 w q1 L) (k2 : RowsIn Mh.mc 15 w q2 F) (k3 : RowsIn Wb.mc 10 w q3 B) :
    Calls Tryz.prog 15 #[.agg #[.slice p1 L.length c1, .slice p2 F.length c2, .slice p3 B.length c3], .agg #[.slice q1 L.length e1, .slice q2 F.length e2, .slice q3 B.length e3]] w fun e w' => e = .returned (.bool true) ∧ Below w.heap.size w w' := by
  have H0 := Lib.hid (sp_two w (.cells #[.slice p1 L.length c1, .slice p2 F.length c2, .slice p3 B.length c3] 51) (.cells #[.slice q1 L.length e1, .slice q2 F.length e2, .slice q3 B.length e3] 51))
  have HR := Lib.hid (And.intro h1 (And.intro h2 (And.intro h3 (And.intro k1 (And.intro k2 k3)))))
  clear h1 h2 h3 k1 k2 k3
  go_enter Tryz.func15, Tryz.ntmps15
  go_wp2
  go_loopw [36] (fun i wr => ∃ k : Nat, k ≤ L.length ∧ i = .int .i64 k ∧ Sp w [(w.heap.size + 1, .cells #[.slice q1 L.length e1, .slice q2 F.length e2, .slice q3 B.length e3] 51), (w.heap.size, .cells #[.slice p1 L.length c1, .slice p2 F.length c2, .slice p3 B.length c3] 51)] wr) (fun i _ => L.length - (intOf i).toNat)
  case atStart => exact ⟨0, Nat.zero_le _, rfl, H0.out⟩
  case round =>
    obtain ⟨k, hk, rfl, hs⟩ := hrel
    have H1 := Lib.hid hs
    clear hs H0
    have hca := c_cell (H1.out.ok (w.heap.size, .cells #[.slice p1 L.length c1, .slice p2 F.length c2, .slice p3 B.length c3] 51) (by simp)).1
    have hcb := c_cell (H1.out.ok (w.heap.size + 1, .cells #[.slice q1 L.length e1, .slice q2 F.length e2, .slice q3 B.length e3] 51) (by simp)).1
    by_cases hlt : k < L.length
    · have hk4 : (k : Int) ≤ 4096 := by omega
      have hkl : (k : Int) < L.length := by omega
      obtain ⟨x, hx⟩ : ∃ x, L[k]? = some x := ⟨_, List.getElem?_eq_getElem hlt⟩
      obtain ⟨g1, rfl, _, r1⟩ := (HR.out.1.step H1.out.bl) k x hx
      obtain ⟨g2, rfl, _, r2⟩ := (HR.out.2.2.2.1.step H1.out.bl) k x hx
      have R1 := Lib.hid r1
      have R2 := Lib.hid r2
      have hqn := row_neq x
      clear r1 r2 hx
      go_upto_region 6 with fail
      clear hca hcb
      refine wp_region_noPanic ?_
      refine wp_region_held_drew (S := (fun w' : World => ((∀ o, w'.cell? ⟨w.heap.size, o, none⟩ = (#[.slice (some ⟨g1, 0, none⟩) L.length c1, .slice p2 F.length c2, .slice p3 B.length c3] : Array Value)[o]?) ∧ (∀ o, w'.cell? ⟨w.heap.size + 1, o, none⟩ = (#[.slice (some ⟨g2, 0, none⟩) L.length e1, .slice q2 F.length e2, .slice q3 B.length e3] : Array Value)[o]?)) ∧ (w'.rangeAt g1 (k * 11) (Ar.yc x) ∧ w'.rangeAt g2 (k * 11) (Ar.yc x)))) (by kernel_rfl) ⟨⟨c_cell (H1.out.ok (w.heap.size, .cells #[.slice (some ⟨g1, 0, none⟩) L.length c1, .slice p2 F.length c2, .slice p3 B.length c3] 51) (by simp)).1, c_cell (H1.out.ok (w.heap.size + 1, .cells #[.slice (some ⟨g2, 0, none⟩) L.length e1, .slice q2 F.length e2, .slice q3 B.length e3] 51) (by simp)).1⟩, R1.out, R2.out⟩ (fun hh0 => ?_)
      replace H1 := Lib.hid H1.out.drew
      generalize World.drew wr = wr at *
      refine wpAnyH_take (fuel := 10) (i := 0) (oi := ⟨some 39, _, _, _, _, _⟩) (v := .pointer (some ⟨w.heap.size, 0, none⟩)) rfl (by kernel_rfl) (by kernel_rfl) (by kernel_rfl) (fun _ _ _ h => h) (Or.inl ⟨by rfl, ?_⟩) hh0 ?_
      · intro w' _
        go_simp
      simp only [Act.put, List.setIfInBounds_toArray, List.set_cons_zero, List.set_cons_succ]
      refine wpAnyH_take (fuel := 9) (i := 1) (oi := ⟨some 40, _, _, _, _, _⟩) (v := .slice (some ⟨g1, 0, none⟩) L.length c1) rfl (by kernel_rfl) (by kernel_rfl) (by kernel_rfl) (fun _ _ _ h => h) (Or.inl ⟨by rfl, ?_⟩) hh0 ?_
      · rintro w' ⟨⟨ha, hb⟩, _⟩
        go_simp
      simp only [Act.put, List.setIfInBounds_toArray, List.set_cons_zero, List.set_cons_succ]
      refine wpAnyH_take (fuel := 8) (i := 2) (oi := ⟨some 41, _, _, _, _, _⟩) (v := .int .i64 k) rfl (by kernel_rfl) (by kernel_rfl) (by kernel_rfl) (fun _ _ _ h => h) (Or.inl ⟨by rfl, ?_⟩) hh0 ?_
      · intro w' _
        go_simp
      simp only [Act.put, List.setIfInBounds_toArray, List.set_cons_zero, List.set_cons_succ]
      refine wpAnyH_take (fuel := 7) (i := 3) (oi := ⟨some 42, _, _, _, _, _⟩) (v := .pointer (some ⟨g1, k * 11, none⟩)) rfl (by kernel_rfl) (by kernel_rfl) (by kernel_rfl) (fun _ _ _ h => h) (Or.inl ⟨by rfl, ?_⟩) hh0 ?_
      · intro w' _
        go_simp
      simp only [Act.put, List.setIfInBounds_toArray, List.set_cons_zero, List.set_cons_succ]
      refine wpAnyH_take (fuel := 6) (i := 4) (oi := ⟨some 43, _, _, _, _, _⟩) (v := .agg (Ar.ycells x)) rfl (by kernel_rfl) (by kernel_rfl) (by kernel_rfl) (fun _ _ _ h => h) (yieldsIf_load_mid (by rfl) wayB (.tmp 42) rfl g1 (k * 11) rfl (Ar.yc x) _ (fun w hS => hS.2.1) Tryz.underlying69 rfl (by kernel_rfl)) hh0 ?_
      simp only [Act.put, List.setIfInBounds_toArray, List.set_cons_zero, List.set_cons_succ]
      refine wpAnyH_take (fuel := 5) (i := 5) (oi := ⟨some 44, _, _, _, _, _⟩) (v := .pointer (some ⟨w.heap.size + 1, 0, none⟩)) rfl (by kernel_rfl) (by kernel_rfl) (by kernel_rfl) (fun _ _ _ h => h) (Or.inl ⟨by rfl, ?_⟩) hh0 ?_
      · intro w' _
        go_simp
      simp only [Act.put, List.setIfInBounds_toArray, List.set_cons_zero, List.set_cons_succ]
      refine wpAnyH_take (fuel := 4) (i := 6) (oi := ⟨some 45, _, _, _, _, _⟩) (v := .slice (some ⟨g2, 0, none⟩) L.length e1) rfl (by kernel_rfl) (by kernel_rfl) (by kernel_rfl) (fun _ _ _ h => h) (Or.inl ⟨by rfl, ?_⟩) hh0 ?_
      · rintro w' ⟨⟨ha, hb⟩, _⟩
        go_simp
      simp only [Act.put, List.setIfInBounds_toArray, List.set_cons_zero, List.set_cons_succ]
      refine wpAnyH_take (fuel := 3) (i := 7) (oi := ⟨some 46, _, _, _, _, _⟩) (v := .int .i64 k) rfl (by kernel_rfl) (by kernel_rfl) (by kernel_rfl) (fun _ _ _ h => h) (Or.inl ⟨by rfl, ?_⟩) hh0 ?_
      · intro w' _
        go_simp
      simp only [Act.put, List.setIfInBounds_toArray, List.set_cons_zero, List.set_cons_succ]
      refine wpAnyH_take (fuel := 2) (i := 8) (oi := ⟨some 47, _, _, _, _, _⟩) (v := .pointer (some ⟨g2, k * 11, none⟩)) rfl (by kernel_rfl) (by kernel_rfl) (by kernel_rfl) (fun _ _ _ h => h) (Or.inl ⟨by rfl, ?_⟩) hh0 ?_
      · intro w' _
        go_simp
      simp only [Act.put, List.setIfInBounds_toArray, List.set_cons_zero, List.set_cons_succ]
      refine wpAnyH_take (fuel := 1) (i := 9) (oi := ⟨some 48, _, _, _, _, _⟩) (v := .agg (Ar.ycells x)) rfl (by kernel_rfl) (by kernel_rfl) (by kernel_rfl) (fun _ _ _ h => h) (yieldsIf_load_mid (by rfl) wayB (.tmp 47) rfl g2 (k * 11) rfl (Ar.yc x) _ (fun w hS => hS.2.2) Tryz.underlying69 rfl (by kernel_rfl)) hh0 ?_
      simp only [Act.put, List.setIfInBounds_toArray, List.set_cons_zero, List.set_cons_succ]
      refine wpAnyH_take (fuel := 0) (i := 10) (oi := ⟨some 49, _, _, _, _, _⟩) (v := .bool false) rfl (by kernel_rfl) (by kernel_rfl) (by kernel_rfl) (fun _ _ _ h => h) (Or.inl ⟨by rfl, ?_⟩) hh0 ?_
      · intro w' _
        go_simp
      simp only [Act.put, List.setIfInBounds_toArray, List.set_cons_zero, List.set_cons_succ]
      refine wpAnyH_done (by kernel_rfl) ?_ _
      refine NoPanic.normal ?_
      clear hh0
      go_wp2
      go_roundw
      case rel => exact ⟨k + 1, by omega, by go_num, H1.out⟩
      case measure => simp [intOf]; omega
    · have H2 := H1
      clear H1
      go_wp2
      go_loopw [54] (fun i wr => ∃ k : Nat, k ≤ F.length ∧ i = .int .i64 k ∧ Sp w [(w.heap.size + 1, .cells #[.slice q1 L.length e1, .slice q2 F.length e2, .slice q3 B.length e3] 51), (w.heap.size, .cells #[.slice p1 L.length c1, .slice p2 F.length c2, .slice p3 B.length c3] 51)] wr) (fun i _ => F.length - (intOf i).toNat)
      case atStart => exact ⟨0, Nat.zero_le _, rfl, H2.out⟩
      case round =>
        obtain ⟨k, hk, rfl, hs⟩ := hrel
        have H1 := Lib.hid hs
        clear hs H2
        have hca := c_cell (H1.out.ok (w.heap.size, .cells #[.slice p1 L.length c1, .slice p2 F.length c2, .slice p3 B.length c3] 51) (by simp)).1
        have hcb := c_cell (H1.out.ok (w.heap.size + 1, .cells #[.slice q1 L.length e1, .slice q2 F.length e2, .slice q3 B.length e3] 51) (by simp)).1
        by_cases hlt : k < F.length
        · have hk4 : (k : Int) ≤ 4096 := by omega
          have hkl : (k : Int) < F.length := by omega
          obtain ⟨x, hx⟩ : ∃ x, F[k]? = some x := ⟨_, List.getElem?_eq_getElem hlt⟩
          obtain ⟨g1, rfl, _, r1⟩ := (HR.out.2.1.step H1.out.bl) k x hx
          obtain ⟨g2, rfl, _, r2⟩ := (HR.out.2.2.2.2.1.step H1.out.bl) k x hx
          have R1 := Lib.hid r1
          have R2 := Lib.hid r2
          have hqn := row_neqM x
          clear r1 r2 hx
          go_upto_region 12 with fail
          clear hca hcb
          refine wp_region_noPanic ?_
          refine wp_region_held_drew (S := (fun w' : World => ((∀ o, w'.cell? ⟨w.heap.size, o, none⟩ = (#[.slice p1 L.length c1, .slice (some ⟨g1, 0, none⟩) F.length c2, .slice p3 B.length c3] : Array Value)[o]?) ∧ (∀ o, w'.cell? ⟨w.heap.size + 1, o, none⟩ = (#[.slice q1 L.length e1, .slice (some ⟨g2, 0, none⟩) F.length e2, .slice q3 B.length e3] : Array Value)[o]?)) ∧ (w'.rangeAt g1 (k * 15) (Mh.mc x) ∧ w'.rangeAt g2 (k * 15) (Mh.mc x)))) (by kernel_rfl) ⟨⟨c_cell (H1.out.ok (w.heap.size, .cells #[.slice p1 L.length c1, .slice (some ⟨g1, 0, none⟩) F.length c2, .slice p3 B.length c3] 51) (by simp)).1, c_cell (H1.out.ok (w.heap.size + 1, .cells #[.slice q1 L.length e1, .slice (some ⟨g2, 0, none⟩) F.length e2, .slice q3 B.length e3] 51) (by simp)).1⟩, R1.out, R2.out⟩ (fun hh0 => ?_)
          replace H1 := Lib.hid H1.out.drew
          generalize World.drew wr = wr at *
          refine wpAnyH_take (fuel := 10) (i := 0) (oi := ⟨some 57, _, _, _, _, _⟩) (v := .pointer (some ⟨w.heap.size, 1, none⟩)) rfl (by kernel_rfl) (by kernel_rfl) (by kernel_rfl) (fun _ _ _ h => h) (Or.inl ⟨by rfl, ?_⟩) hh0 ?_
          · intro w' _
            go_simp
          simp only [Act.put, List.setIfInBounds_toArray, List.set_cons_zero, List.set_cons_succ]
          refine wpAnyH_take (fuel := 9) (i := 1) (oi := ⟨some 58, _, _, _, _, _⟩) (v := .slice (some ⟨g1, 0, none⟩) F.length c2) rfl (by kernel_rfl) (by kernel_rfl) (by kernel_rfl) (fun _ _ _ h => h) (Or.inl ⟨by rfl, ?_⟩) hh0 ?_
          · rintro w' ⟨⟨ha, hb⟩, _⟩
            go_simp
          simp only [Act.put, List.setIfInBounds_toArray, List.set_cons_zero, List.set_cons_succ]
          refine wpAnyH_take (fuel := 8) (i := 2) (oi := ⟨some 59, _, _, _, _, _⟩) (v := .int .i64 k) rfl (by kernel_rfl) (by kernel_rfl) (by kernel_rfl) (fun _ _ _ h => h) (Or.inl ⟨by rfl, ?_⟩) hh0 ?_
          · intro w' _
            go_simp
          simp only [Act.put, List.setIfInBounds_toArray, List.set_cons_zero, List.set_cons_succ]
          refine wpAnyH_take (fuel := 7) (i := 3) (oi := ⟨some 60, _, _, _, _, _⟩) (v := .pointer (some ⟨g1, k * 15, none⟩)) rfl (by kernel_rfl) (by kernel_rfl) (by kernel_rfl) (fun _ _ _ h => h) (Or.inl ⟨by rfl, ?_⟩) hh0 ?_
          · intro w' _
            go_simp
          simp only [Act.put, List.setIfInBounds_toArray, List.set_cons_zero, List.set_cons_succ]
          refine wpAnyH_take (fuel := 6) (i := 4) (oi := ⟨some 61, _, _, _, _, _⟩) (v := .agg (Mh.mcells x)) rfl (by kernel_rfl) (by kernel_rfl) (by kernel_rfl) (fun _ _ _ h => h) (yieldsIf_load_mid (by rfl) missB (.tmp 60) rfl g1 (k * 15) rfl (Mh.mc x) _ (fun w hS => hS.2.1) Tryz.underlying75 rfl (by kernel_rfl)) hh0 ?_
          simp only [Act.put, List.setIfInBounds_toArray, List.set_cons_zero, List.set_cons_succ]
          refine wpAnyH_take (fuel := 5) (i := 5) (oi := ⟨some 62, _, _, _, _, _⟩) (v := .pointer (some ⟨w.heap.size + 1, 1, none⟩)) rfl (by kernel_rfl) (by kernel_rfl) (by kernel_rfl) (fun _ _ _ h => h) (Or.inl ⟨by rfl, ?_⟩) hh0 ?_
          · intro w' _
            go_simp
          simp only [Act.put, List.setIfInBounds_toArray, List.set_cons_zero, List.set_cons_succ]
          refine wpAnyH_take (fuel := 4) (i := 6) (oi := ⟨some 63, _, _, _, _, _⟩) (v := .slice (some ⟨g2, 0, none⟩) F.length e2) rfl (by kernel_rfl) (by kernel_rfl) (by kernel_rfl) (fun _ _ _ h => h) (Or.inl ⟨by rfl, ?_⟩) hh0 ?_
          · rintro w' ⟨⟨ha, hb⟩, _⟩
            go_simp
          simp only [Act.put, List.setIfInBounds_toArray, List.set_cons_zero, List.set_cons_succ]
          refine wpAnyH_take (fuel := 3) (i := 7) (oi := ⟨some 64, _, _, _, _, _⟩) (v := .int .i64 k) rfl (by kernel_rfl) (by kernel_rfl) (by kernel_rfl) (fun _ _ _ h => h) (Or.inl ⟨by rfl, ?_⟩) hh0 ?_
          · intro w' _
            go_simp
          simp only [Act.put, List.setIfInBounds_toArray, List.set_cons_zero, List.set_cons_succ]
          refine wpAnyH_take (fuel := 2) (i := 8) (oi := ⟨some 65, _, _, _, _, _⟩) (v := .pointer (some ⟨g2, k * 15, none⟩)) rfl (by kernel_rfl) (by kernel_rfl) (by kernel_rfl) (fun _ _ _ h => h) (Or.inl ⟨by rfl, ?_⟩) hh0 ?_
          · intro w' _
            go_simp
          simp only [Act.put, List.setIfInBounds_toArray, List.set_cons_zero, List.set_cons_succ]
          refine wpAnyH_take (fuel := 1) (i := 9) (oi := ⟨some 66, _, _, _, _, _⟩) (v := .agg (Mh.mcells x)) rfl (by kernel_rfl) (by kernel_rfl) (by kernel_rfl) (fun _ _ _ h => h) (yieldsIf_load_mid (by rfl) missB (.tmp 65) rfl g2 (k * 15) rfl (Mh.mc x) _ (fun w hS => hS.2.2) Tryz.underlying75 rfl (by kernel_rfl)) hh0 ?_
          simp only [Act.put, List.setIfInBounds_toArray, List.set_cons_zero, List.set_cons_succ]
          refine wpAnyH_take (fuel := 0) (i := 10) (oi := ⟨some 67, _, _, _, _, _⟩) (v := .bool false) rfl (by kernel_rfl) (by kernel_rfl) (by kernel_rfl) (fun _ _ _ h => h) (Or.inl ⟨by rfl, ?_⟩) hh0 ?_
          · intro w' _
            go_simp
          simp only [Act.put, List.setIfInBounds_toArray, List.set_cons_zero, List.set_cons_succ]
          refine wpAnyH_done (by kernel_rfl) ?_ _
          refine NoPanic.normal ?_
          clear hh0
          go_wp2
          go_roundw
          case rel => exact ⟨k + 1, by omega, by go_num, H1.out⟩
          case measure => simp [intOf]; omega
        · have H3 := H1
          clear H1
          go_wp2
          go_loopw [72] (fun i wr => ∃ k : Nat, k ≤ B.length ∧ i = .int .i64 k ∧ Sp w [(w.heap.size + 1, .cells #[.slice q1 L.length e1, .slice q2 F.length e2, .slice q3 B.length e3] 51), (w.heap.size, .cells #[.slice p1 L.length c1, .slice p2 F.length c2, .slice p3 B.length c3] 51)] wr) (fun i _ => B.length - (intOf i).toNat)
          case atStart => exact ⟨0, Nat.zero_le _, rfl, H3.out⟩
          case round =>
            obtain ⟨k, hk, rfl, hs⟩ := hrel
            have H1 := Lib.hid hs
            clear hs H3
            have hca := c_cell (H1.out.ok (w.heap.size, .cells #[.slice p1 L.length c1, .slice p2 F.length c2, .slice p3 B.length c3] 51) (by simp)).1
            have hcb := c_cell (H1.out.ok (w.heap.size + 1, .cells #[.slice q1 L.length e1, .slice q2 F.length e2, .slice q3 B.length e3] 51) (by simp)).1
            by_cases hlt : k < B.length
            · have hk4 : (k : Int) ≤ 4096 := by omega
              have hkl : (k : Int) < B.length := by omega
              obtain ⟨x, hx⟩ : ∃ x, B[k]? = some x := ⟨_, List.getElem?_eq_getElem hlt⟩
              obtain ⟨g1, rfl, _, r1⟩ := (HR.out.2.2.1.step H1.out.bl) k x hx
              obtain ⟨g2, rfl, _, r2⟩ := (HR.out.2.2.2.2.2.step H1.out.bl) k x hx
              have R1 := Lib.hid r1
              have R2 := Lib.hid r2
              have hqn := row_neqE x
              clear r1 r2 hx
              go_upto_region 18 with fail
              clear hca hcb
              refine wp_region_noPanic ?_
              refine wp_region_held_drew (S := (fun w' : World => ((∀ o, w'.cell? ⟨w.heap.size, o, none⟩ = (#[.slice p1 L.length c1, .slice p2 F.length c2, .slice (some ⟨g1, 0, none⟩) B.length c3] : Array Value)[o]?) ∧ (∀ o, w'.cell? ⟨w.heap.size + 1, o, none⟩ = (#[.slice q1 L.length e1, .slice q2 F.length e2, .slice (some ⟨g2, 0, none⟩) B.length e3] : Array Value)[o]?)) ∧ (w'.rangeAt g1 (k * 10) (Wb.mc x) ∧ w'.rangeAt g2 (k * 10) (Wb.mc x)))) (by kernel_rfl) ⟨⟨c_cell (H1.out.ok (w.heap.size, .cells #[.slice p1 L.length c1, .slice p2 F.length c2, .slice (some ⟨g1, 0, none⟩) B.length c3] 51) (by simp)).1, c_cell (H1.out.ok (w.heap.size + 1, .cells #[.slice q1 L.length e1, .slice q2 F.length e2, .slice (some ⟨g2, 0, none⟩) B.length e3] 51) (by simp)).1⟩, R1.out, R2.out⟩ (fun hh0 => ?_)
              replace H1 := Lib.hid H1.out.drew
              generalize World.drew wr = wr at *
              refine wpAnyH_take (fuel := 10) (i := 0) (oi := ⟨some 75, _, _, _, _, _⟩) (v := .pointer (some ⟨w.heap.size, 2, none⟩)) rfl (by kernel_rfl) (by kernel_rfl) (by kernel_rfl) (fun _ _ _ h => h) (Or.inl ⟨by rfl, ?_⟩) hh0 ?_
              · intro w' _
                go_simp
              simp only [Act.put, List.setIfInBounds_toArray, List.set_cons_zero, List.set_cons_succ]
              refine wpAnyH_take (fuel := 9) (i := 1) (oi := ⟨some 76, _, _, _, _, _⟩) (v := .slice (some ⟨g1, 0, none⟩) B.length c3) rfl (by kernel_rfl) (by kernel_rfl) (by kernel_rfl) (fun _ _ _ h => h) (Or.inl ⟨by rfl, ?_⟩) hh0 ?_
              · rintro w' ⟨⟨ha, hb⟩, _⟩
                go_simp
              simp only [Act.put, List.setIfInBounds_toArray, List.set_cons_zero, List.set_cons_succ]
              refine wpAnyH_take (fuel := 8) (i := 2) (oi := ⟨some 77, _, _, _, _, _⟩) (v := .int .i64 k) rfl (by kernel_rfl) (by kernel_rfl) (by kernel_rfl) (fun _ _ _ h => h) (Or.inl ⟨by rfl, ?_⟩) hh0 ?_
              · intro w' _
                go_simp
              simp only [Act.put, List.setIfInBounds_toArray, List.set_cons_zero, List.set_cons_succ]
              refine wpAnyH_take (fuel := 7) (i := 3) (oi := ⟨some 78, _, _, _, _, _⟩) (v := .pointer (some ⟨g1, k * 10, none⟩)) rfl (by kernel_rfl) (by kernel_rfl) (by kernel_rfl) (fun _ _ _ h => h) (Or.inl ⟨by rfl, ?_⟩) hh0 ?_
              · intro w' _
                go_simp
              simp only [Act.put, List.setIfInBounds_toArray, List.set_cons_zero, List.set_cons_succ]
              refine wpAnyH_take (fuel := 6) (i := 4) (oi := ⟨some 79, _, _, _, _, _⟩) (v := .agg (Wb.mcells x)) rfl (by kernel_rfl) (by kernel_rfl) (by kernel_rfl) (fun _ _ _ h => h) (yieldsIf_load_mid (by rfl) entB (.tmp 78) rfl g1 (k * 10) rfl (Wb.mc x) _ (fun w hS => hS.2.1) Tryz.underlying77 rfl (by kernel_rfl)) hh0 ?_
              simp only [Act.put, List.setIfInBounds_toArray, List.set_cons_zero, List.set_cons_succ]
              refine wpAnyH_take (fuel := 5) (i := 5) (oi := ⟨some 80, _, _, _, _, _⟩) (v := .pointer (some ⟨w.heap.size + 1, 2, none⟩)) rfl (by kernel_rfl) (by kernel_rfl) (by kernel_rfl) (fun _ _ _ h => h) (Or.inl ⟨by rfl, ?_⟩) hh0 ?_
              · intro w' _
                go_simp
              simp only [Act.put, List.setIfInBounds_toArray, List.set_cons_zero, List.set_cons_succ]
              refine wpAnyH_take (fuel := 4) (i := 6) (oi := ⟨some 81, _, _, _, _, _⟩) (v := .slice (some ⟨g2, 0, none⟩) B.length e3) rfl (by kernel_rfl) (by kernel_rfl) (by kernel_rfl) (fun _ _ _ h => h) (Or.inl ⟨by rfl, ?_⟩) hh0 ?_
              · rintro w' ⟨⟨ha, hb⟩, _⟩
                go_simp
              simp only [Act.put, List.setIfInBounds_toArray, List.set_cons_zero, List.set_cons_succ]
              refine wpAnyH_take (fuel := 3) (i := 7) (oi := ⟨some 82, _, _, _, _, _⟩) (v := .int .i64 k) rfl (by kernel_rfl) (by kernel_rfl) (by kernel_rfl) (fun _ _ _ h => h) (Or.inl ⟨by rfl, ?_⟩) hh0 ?_
              · intro w' _
                go_simp
              simp only [Act.put, List.setIfInBounds_toArray, List.set_cons_zero, List.set_cons_succ]
              refine wpAnyH_take (fuel := 2) (i := 8) (oi := ⟨some 83, _, _, _, _, _⟩) (v := .pointer (some ⟨g2, k * 10, none⟩)) rfl (by kernel_rfl) (by kernel_rfl) (by kernel_rfl) (fun _ _ _ h => h) (Or.inl ⟨by rfl, ?_⟩) hh0 ?_
              · intro w' _
                go_simp
              simp only [Act.put, List.setIfInBounds_toArray, List.set_cons_zero, List.set_cons_succ]
              refine wpAnyH_take (fuel := 1) (i := 9) (oi := ⟨some 84, _, _, _, _, _⟩) (v := .agg (Wb.mcells x)) rfl (by kernel_rfl) (by kernel_rfl) (by kernel_rfl) (fun _ _ _ h => h) (yieldsIf_load_mid (by rfl) entB (.tmp 83) rfl g2 (k * 10) rfl (Wb.mc x) _ (fun w hS => hS.2.2) Tryz.underlying77 rfl (by kernel_rfl)) hh0 ?_
              simp only [Act.put, List.setIfInBounds_toArray, List.set_cons_zero, List.set_cons_succ]
              refine wpAnyH_take (fuel := 0) (i := 10) (oi := ⟨some 85, _, _, _, _, _⟩) (v := .bool false) rfl (by kernel_rfl) (by kernel_rfl) (by kernel_rfl) (fun _ _ _ h => h) (Or.inl ⟨by rfl, ?_⟩) hh0 ?_
              · intro w' _
                go_simp
              simp only [Act.put, List.setIfInBounds_toArray, List.set_cons_zero, List.set_cons_succ]
              refine wpAnyH_done (by kernel_rfl) ?_ _
              refine NoPanic.normal ?_
              clear hh0
              go_wp2
              go_roundw
              case rel => exact ⟨k + 1, by omega, by go_num, H1.out⟩
              case measure => simp [intOf]; omega
            · have H4 := H1
              clear H1
              go_wp2
              go_ret
              exact ⟨rfl, H4.out.bl⟩

end Go.Proofs.YtlfhkjjjocmpbaaGreatDoor.Cc
