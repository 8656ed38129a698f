/-
  What the program's reader does at an operation's end: one contract.
-/
import Derived.Test.YtjnbpohjdgnknaaDoorPgC
import Derived.Deep.RegionLaw
import Derived.Deep.AppendLies
import Derived.Deep.DrawnRows
namespace Go.Proofs.YtjnbpohjdgnknaaDoor
open Go Go.RowKit
attribute [local go_sem ↓] Go.wp_at_zero Go.wp_at_succ

theorem Tryd.infoOp : (Tryd.prog.info? 52).map (fun i => (i.zero, i.size, i.bytes)) = some (some (.agg #[.int .i64 0, .int .i64 0, .int .i64 0]), 3, 24) := by kernel_rfl
theorem At.step {w w' : World} {b : Nat} {L : Array Value} (h : At w b L) (hb : Below w.heap.size w w') : At w' b L := (hb.block b h.lt).trans h
theorem at_grown {w w' : World} {b base : Nat} {L : Array Value} {v : Value} {e sz n : Nat} {xs : List Value} (h : At w b L) (hown : w.ownsRow base e sz v n xs) (hb : b < base) (hg : w.grownBy w' v.ownBlock) : At w' b L :=
  (hg.block b h.lt (fun e => by have := (hown.lt b e.symm).1; omega)).trans h
theorem at_alloc {w : World} {b : Nat} {L : Array Value} (h : At w b L) (o : Obj) : At (w.alloc o) b L := (Below.heap_alloc _ _ _ h.lt).trans h

theorem kept_step {b base : Nat} {w0 w w1 : World} (h : Kept b base w0 w) (hb : b < base) (hbase : base ≤ w.heap.size) (h1 : Below w.heap.size w w1) : Kept b base w0 w1 :=
  h.trans ⟨h1.mono (by omega), fun c hc _ => h1.block c (by omega)⟩
theorem opCells_snoc (l : List Op) (x : Op) : opCells (l ++ [x]) = opCells l ++ [.int .i64 x.k, .int .i64 x.a, .int .i64 x.v] := by simp [opCells]
theorem gave_false {b base : Nat} {o : Option St} {w w' : World} (h : o = none) (hk : Kept b base w w') : Gave b base o w (.returned (.bool false)) w' := by
  subst h
  exact ⟨rfl, hk, fun _ h => by cases h⟩

theorem fin_close {b base : Nat} {w0 w w1 w2 : World} {v v' : Value} {x : Op} {pl : Nat} {num : Num} {ops : List Op} {obj : Obj} (hk : Kept b base w0 w) (hb : b < base) (hbase : base ≤ w.heap.size) (hb1 : Below w.heap.size w w1)
    (HO1 : w1.ownsRow base 52 3 v ops.length (opCells ops)) (hgrow : (w1.alloc obj).drew.grownBy w2 v.ownBlock)
    (hown2 : w2.ownsRow base 52 3 v' (ops.length + 1) (opCells ops ++ [.int .i64 x.k, .int .i64 x.a, .int .i64 x.v])) (H2 : At w2 b (rdL v x pl num)) :
    Gave b base (some ⟨ops ++ [x], ⟨0, 0, 0⟩, 0, num⟩) w0 (.returned (.bool true)) (((((w2.setCell ⟨b, 0, none⟩ v').setCell ⟨b, 1, none⟩ (.int .i64 0)).setCell ⟨b, 2, none⟩ (.int .i64 0)).setCell ⟨b, 3, none⟩ (.int .i64 0)).setCell ⟨b, 4, none⟩ (.int .i64 0)) := by
  have ho : Only b w2 (((((w2.setCell ⟨b, 0, none⟩ v').setCell ⟨b, 1, none⟩ (.int .i64 0)).setCell ⟨b, 2, none⟩ (.int .i64 0)).setCell ⟨b, 3, none⟩ (.int .i64 0)).setCell ⟨b, 4, none⟩ (.int .i64 0)) := (((((Only.refl _ _).set 0 _).set 1 _).set 2 _).set 3 _).set 4 _
  have hk1 := kept_step hk hb hbase hb1
  have hz : base ≤ w1.heap.size := Nat.le_trans hbase hb1.size
  have hrow : ∀ k, v.ownBlock = some k → base ≤ k := fun k hk => (HO1.lt k hk).1
  have hb2 : Below base w1 w2 := (((Below.refl base w1).alloc hz obj).drew).grown hgrow (by simp; omega) hrow
  have hk2 : Kept b base w0 w2 := hk1.trans ⟨hb2.mono (by omega), fun c hc _ => hb2.block c hc⟩
  refine ⟨rfl, hk2.trans (ho.kept _), fun τ hτ => ?_⟩
  injection hτ with hτ
  subst hτ
  refine ⟨v', ((((H2.set 0 v').set 1 _).set 2 _).set 3 _).set 4 _, ?_⟩
  show World.ownsRow _ base 52 3 v' (ops ++ [x]).length (opCells (ops ++ [x]))
  rw [opCells_snoc, List.length_append]
  exact own_only hown2 ho hb

set_option maxRecDepth 100000 in
set_option maxHeartbeats 2000000 in
theorem fin_3 (b base : Nat) (ops : List Op) (x : Op) (num : Num) (v : Value) (w : World) (hb : b < base) (hbaseB : base ≤ w.heap.size) (h : At w b (rdL v x 3 num)) (hown : w.ownsRow base 52 3 v ops.length (opCells ops)) (hm : mayB x = true) (hl : ops.length ≤ 5000) :
    Calls Tryd.prog 58 #[.pointer (some ⟨b, 0, none⟩)] w (Gave b base (some ⟨ops ++ [x], ⟨0, 0, 0⟩, 0, num⟩) w) := by
  obtain ⟨i0, hi0, hz0, hz1, hz2⟩ := info_parts Tryd.infoOp
  have hc1 := h.cell 1
  have hc2 := h.cell 2
  have hc3 := h.cell 3
  have hc4 := h.cell 4
  have H := Lib.hid h
  have HO := Lib.hid hown
  clear h hown
  simp at hc1 hc2 hc3 hc4
  have HB := H
  have HOB := HO
  have HK := Lib.hid (Kept.refl b base w)
  go_enter Tryd.func58, Tryd.ntmps58
  go_wp2_with (go_at_call 42; refine (may_any x _).mono ?_; rintro e w1 ⟨rfl, hb1⟩)
  clear hc1 hc2 hc3 hc4
  have H1 := Lib.hid (HB.out.step hb1)
  have HO1 := Lib.hid (own_below HOB.out hb1)
  have hz1' : base ≤ w1.heap.size := Nat.le_trans hbaseB hb1.size
  have hbz1 : b < w1.heap.size := H1.out.lt
  have d0 := H1.out.cell 0
  have d1 := H1.out.cell 1
  have d2 := H1.out.cell 2
  have d3 := H1.out.cell 3
  have f0 := H1.out.free 0
  simp at d0 d1 d2 d3
  go_wp2_with fail
  go_region_law
    ((refine step_append_lies _ (by rfl) _ _ _ (by rfl) base 52 i0 _ 3 24 Tryd.underlying42 hi0 hz0 hz1 hz2 rfl (by omega) v ops.length (opCells ops) (by rfl) ((HO1.out.alloc _).drew)
        ⟨w1.heap.size, 0, none⟩ 1 1 [.int .i64 x.k, .int .i64 x.a, .int .i64 x.v] (by rfl) (by rfl) (World.news_of_block (cs := #[.int .i64 x.k, .int .i64 x.a, .int .i64 x.v]) (t := 52) (fr := (0, 0)) (heap_alloc_new w1 _)) (by simp [Value.oneCell'])
        (by omega) (by unfold maxLen; omega) (by omega) (by simp; omega) (w1.heap.size + 1) (by simp) ?_; intro gg cap w2 hown2 hgrow hat hlt; have H2 := Lib.hid (at_grown (w := (w1.alloc _).drew) (at_alloc H1.out _) ((HO1.out.alloc _).drew) hb hgrow); have e0 := H2.out.cell 0; have e1 := H2.out.cell 1; have e2 := H2.out.cell 2; have e3 := H2.out.cell 3; have e4 := H2.out.cell 4; have g0 := H2.out.free 0; have g1 := H2.out.free 1; have g2 := H2.out.free 2; have g3 := H2.out.free 3; have g4 := H2.out.free 4; simp at e0 e1 e2 e3 e4))
  all_goals
    have R := fin_close HK.out hb hbaseB hb1 HO1.out hgrow hown2 H2.out
    clear hgrow hown2 hat hlt
    go_wp2
    go_ret
    exact R

set_option maxRecDepth 100000 in
set_option maxHeartbeats 2000000 in
theorem fin_1 (b base : Nat) (ops : List Op) (x y : Op) (num : Num) (v : Value) (w : World) (hb : b < base) (hbase : base ≤ w.heap.size) (h : At w b (rdL v x 1 num)) (hown : w.ownsRow base 52 3 v ops.length (opCells ops)) (hv : num.val.isSome = true) (hs : num.sz ≤ 2147483648) (hk : (x.k == 1) = true) (hy : y = ⟨x.k, num.val.getD 0, x.v⟩) (hm : mayB y = true) (hl : ops.length ≤ 5000) :
    Calls Tryd.prog 58 #[.pointer (some ⟨b, 0, none⟩)] w (Gave b base (some ⟨ops ++ [y], ⟨0, 0, 0⟩, 0, num0⟩) w) := by
  obtain ⟨i0, hi0, hz0, hz1, hz2⟩ := info_parts Tryd.infoOp
  have hc1 := h.cell 1
  have hc2 := h.cell 2
  have hc3 := h.cell 3
  have hc4 := h.cell 4
  have H := Lib.hid h
  have HO := Lib.hid hown
  clear h hown
  simp at hc1 hc2 hc3 hc4
  have HS := Lib.hid hs
  have HY := Lib.hid hy
  have HV := Lib.hid hv
  clear hs hy hv
  go_enter Tryd.func58, Tryd.ntmps58
  go_wp2_with fail
  refine (endAddr_any b v x 1 num _ H.out HS.out).mono ?_
  rintro e wB ⟨rfl, ho, ha⟩
  rw [HV.out]
  rw [← HY.out] at ha
  have HB := Lib.hid ha
  have HOB := Lib.hid (own_only HO.out ho hb)
  have HK := Lib.hid (ho.kept base)
  have hbaseB : base ≤ wB.heap.size := by rw [ho.size]; exact hbase
  have c1 := ha.cell 1
  have c2 := ha.cell 2
  have c3 := ha.cell 3
  simp at c1 c2 c3
  clear ha ho hc1 hc2 hc3 hc4
  go_wp2_with (go_at_call 42; refine (may_any y _).mono ?_; rintro e w1 ⟨rfl, hb1⟩)
  clear c1 c2 c3
  have H1 := Lib.hid (HB.out.step hb1)
  have HO1 := Lib.hid (own_below HOB.out hb1)
  have hz1' : base ≤ w1.heap.size := Nat.le_trans hbaseB hb1.size
  have hbz1 : b < w1.heap.size := H1.out.lt
  have d0 := H1.out.cell 0
  have d1 := H1.out.cell 1
  have d2 := H1.out.cell 2
  have d3 := H1.out.cell 3
  have f0 := H1.out.free 0
  simp at d0 d1 d2 d3
  go_wp2_with fail
  go_region_law
    ((refine step_append_lies _ (by rfl) _ _ _ (by rfl) base 52 i0 _ 3 24 Tryd.underlying42 hi0 hz0 hz1 hz2 rfl (by omega) v ops.length (opCells ops) (by rfl) ((HO1.out.alloc _).drew)
        ⟨w1.heap.size, 0, none⟩ 1 1 [.int .i64 y.k, .int .i64 y.a, .int .i64 y.v] (by rfl) (by rfl) (World.news_of_block (cs := #[.int .i64 y.k, .int .i64 y.a, .int .i64 y.v]) (t := 52) (fr := (0, 0)) (heap_alloc_new w1 _)) (by simp [Value.oneCell'])
        (by omega) (by unfold maxLen; omega) (by omega) (by simp; omega) (w1.heap.size + 1) (by simp) ?_; intro gg cap w2 hown2 hgrow hat hlt; have H2 := Lib.hid (at_grown (w := (w1.alloc _).drew) (at_alloc H1.out _) ((HO1.out.alloc _).drew) hb hgrow); have e0 := H2.out.cell 0; have e1 := H2.out.cell 1; have e2 := H2.out.cell 2; have e3 := H2.out.cell 3; have e4 := H2.out.cell 4; have g0 := H2.out.free 0; have g1 := H2.out.free 1; have g2 := H2.out.free 2; have g3 := H2.out.free 3; have g4 := H2.out.free 4; simp at e0 e1 e2 e3 e4))
  all_goals
    have R := fin_close HK.out hb hbaseB hb1 HO1.out hgrow hown2 H2.out
    clear hgrow hown2 hat hlt
    go_wp2
    go_ret
    exact R

set_option maxRecDepth 100000 in
set_option maxHeartbeats 2000000 in
theorem fin_2 (b base : Nat) (ops : List Op) (x y : Op) (num : Num) (v : Value) (w : World) (hb : b < base) (hbase : base ≤ w.heap.size) (h : At w b (rdL v x 2 num)) (hown : w.ownsRow base 52 3 v ops.length (opCells ops)) (hv : num.val.isSome = true) (hs : num.sz ≤ 2147483648) (hy : y = ⟨x.k, x.a, num.val.getD 0⟩) (hm : mayB y = true) (hl : ops.length ≤ 5000) :
    Calls Tryd.prog 58 #[.pointer (some ⟨b, 0, none⟩)] w (Gave b base (some ⟨ops ++ [y], ⟨0, 0, 0⟩, 0, num0⟩) w) := by
  obtain ⟨i0, hi0, hz0, hz1, hz2⟩ := info_parts Tryd.infoOp
  have hc1 := h.cell 1
  have hc2 := h.cell 2
  have hc3 := h.cell 3
  have hc4 := h.cell 4
  have H := Lib.hid h
  have HO := Lib.hid hown
  clear h hown
  simp at hc1 hc2 hc3 hc4
  have HS := Lib.hid hs
  have HY := Lib.hid hy
  have HV := Lib.hid hv
  clear hs hy hv
  go_enter Tryd.func58, Tryd.ntmps58
  go_wp2_with fail
  refine (endVal_any b v x 2 num _ H.out HS.out).mono ?_
  rintro e wB ⟨rfl, ho, ha⟩
  rw [HV.out]
  rw [← HY.out] at ha
  have HB := Lib.hid ha
  have HOB := Lib.hid (own_only HO.out ho hb)
  have HK := Lib.hid (ho.kept base)
  have hbaseB : base ≤ wB.heap.size := by rw [ho.size]; exact hbase
  have c1 := ha.cell 1
  have c2 := ha.cell 2
  have c3 := ha.cell 3
  simp at c1 c2 c3
  clear ha ho hc1 hc2 hc3 hc4
  go_wp2_with (go_at_call 42; refine (may_any y _).mono ?_; rintro e w1 ⟨rfl, hb1⟩)
  clear c1 c2 c3
  have H1 := Lib.hid (HB.out.step hb1)
  have HO1 := Lib.hid (own_below HOB.out hb1)
  have hz1' : base ≤ w1.heap.size := Nat.le_trans hbaseB hb1.size
  have hbz1 : b < w1.heap.size := H1.out.lt
  have d0 := H1.out.cell 0
  have d1 := H1.out.cell 1
  have d2 := H1.out.cell 2
  have d3 := H1.out.cell 3
  have f0 := H1.out.free 0
  simp at d0 d1 d2 d3
  go_wp2_with fail
  go_region_law
    ((refine step_append_lies _ (by rfl) _ _ _ (by rfl) base 52 i0 _ 3 24 Tryd.underlying42 hi0 hz0 hz1 hz2 rfl (by omega) v ops.length (opCells ops) (by rfl) ((HO1.out.alloc _).drew)
        ⟨w1.heap.size, 0, none⟩ 1 1 [.int .i64 y.k, .int .i64 y.a, .int .i64 y.v] (by rfl) (by rfl) (World.news_of_block (cs := #[.int .i64 y.k, .int .i64 y.a, .int .i64 y.v]) (t := 52) (fr := (0, 0)) (heap_alloc_new w1 _)) (by simp [Value.oneCell'])
        (by omega) (by unfold maxLen; omega) (by omega) (by simp; omega) (w1.heap.size + 1) (by simp) ?_; intro gg cap w2 hown2 hgrow hat hlt; have H2 := Lib.hid (at_grown (w := (w1.alloc _).drew) (at_alloc H1.out _) ((HO1.out.alloc _).drew) hb hgrow); have e0 := H2.out.cell 0; have e1 := H2.out.cell 1; have e2 := H2.out.cell 2; have e3 := H2.out.cell 3; have e4 := H2.out.cell 4; have g0 := H2.out.free 0; have g1 := H2.out.free 1; have g2 := H2.out.free 2; have g3 := H2.out.free 3; have g4 := H2.out.free 4; simp at e0 e1 e2 e3 e4))
  all_goals
    have R := fin_close HK.out hb hbaseB hb1 HO1.out hgrow hown2 H2.out
    clear hgrow hown2 hat hlt
    go_wp2
    go_ret
    exact R

end Go.Proofs.YtjnbpohjdgnknaaDoor
