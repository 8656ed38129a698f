import Derived.Test.YtlfhkjjjocmpbaaGreatDoorQGcR
import Derived.Deep.AppendLies
import Derived.Test.YtlfhkjjjocmpbaaGreatDoorSx
import Derived.Deep.MidRow
import Derived.Deep.CutRange
import Derived.Deep.DeepCutAuto
import Derived.Test.YtlfhkjjjocmpbaaGreatDoorLayMs

namespace Go.Proofs.YtlfhkjjjocmpbaaGreatDoor.Cc
open Go Go.RowKit

theorem ways_b {c : Cfg} (h : okC c = true) : 1 ≤ c.wa ∧ c.wa ≤ 64 := by
 rw [okC_eq] at h
 simp only [Bool.and_eq_true] at h
 obtain ⟨⟨⟨⟨⟨⟨⟨⟨⟨⟨h0, h1⟩, h2⟩, h3⟩, h4⟩, h5⟩, h6⟩, h7⟩, h8⟩, h9⟩, ⟨h10, h11⟩, h12⟩ := h
 have := inB_of h3
 omega
theorem AW : (Tryz.prog.info? wayB).map (fun i => (i.zero, i.size, i.bytes)) = some (some (.agg (Ar.ycells Ar.y0)), 11, 88) := by kernel_rfl
theorem AM : (Tryz.prog.info? missB).map (fun i => (i.zero, i.size, i.bytes)) = some (some (.agg (Mh.mcells Mh.m0)), 15, 112) := by kernel_rfl
theorem AE : (Tryz.prog.info? entB).map (fun i => (i.zero, i.size, i.bytes)) = some (some (.agg (Wb.mcells ⟨0, d0, false⟩)), 10, 80) := by kernel_rfl
theorem yc_one (x : Ar.Wy) : ∀ u ∈ Ar.yc x, u.oneCell' = true := by
 intro u hu
 simp [Ar.yc] at hu
 rcases hu with rfl | rfl | rfl | rfl | rfl | rfl | rfl | rfl | rfl | rfl | rfl <;> rfl
theorem own_sl {w : World} {base : Nat} {e : TypeId} {sz n : Nat} {v : Value} {xs : List Value} (h : w.ownsRow base e sz v n xs) : ∃ p m c, v = .slice p m c := by
 rcases h.2 with ⟨rfl, _⟩ | ⟨_, _, _, rfl, _⟩
 ·exact ⟨_, _, _, rfl⟩
 ·exact ⟨_, _, _, rfl⟩
theorem atP_in {c : Cfg} {s : St} {j k : Nat} {x : Ar.Wy} (hj : (j : Int) < c.se) (hk : (k : Int) < c.wa) (hx : s.A[j * c.wa.toNat + k]? = some x) : atP c s j k = (x, true) := by
 unfold atP
 rw [if_pos (by omega)]
 simp [hx]
def RetPic (w : World) (L : List Ar.Wy) (F : List Mh.Ms) (B : List Wb.En) (e : Ending) (w' : World) : Prop :=
 ∃ v1 v2 v3, e = .returned (.agg #[v1, v2, v3]) ∧ w'.ownsRow (w.heap.size + 3) wayB 11 v1 L.length (Mh.cellsOf Ar.yc L) ∧ w'.ownsRow (w.heap.size + 3) missB 15 v2 F.length (Mh.cellsOf Mh.mc F) ∧ w'.ownsRow (w.heap.size + 3) entB 10 v3 B.length (Mh.cellsOf Wb.mc B) ∧ Below w.heap.size w w' ∧ (∀ k, v1.ownBlock = some k → v2.ownBlock = some k → False) ∧ (∀ k, v1.ownBlock = some k → v3.ownBlock = some k → False) ∧ (∀ k, v2.ownBlock = some k → v3.ownBlock = some k → False)
variable {w0 w w' : World} {bx : Bx} {K : Kb} {c : Cfg} {core n : Int} {s : St}
set_option maxRecDepth 100000 in
set_option maxHeartbeats 8000000 in
theorem Own.drawn (h : OwnP w0 K c core n s bx w) : Calls Tryz.prog 14 #[cv c, ptr K.k] w (RetPic w s.A s.F s.B) := by
 obtain ⟨i1, hi1, hy0, hy1, hy2⟩ := info_parts AW
 obtain ⟨i2, hi2, hm0, hm1, hm2⟩ := info_parts AM
 obtain ⟨i3, hi3, he0, he1, he2⟩ := info_parts AE
 have HO := Lib.hid (fun wr (hb : Below w.heap.size w wr) => h.step hb)
 have H0 := Lib.hid (Dr.new w c)
 obtain ⟨ok, _, _, sz, gm, _, gb⟩ := h.nums
 have HB := Lib.hid (show s.A.length = c.se.toNat * c.wa.toNat ∧ s.F.length ≤ 5000 ∧ s.B.length ≤ 5000 from ⟨sz.len, by have := gm.len; have := gm.r2; omega, by have := gb.short; omega⟩)
 obtain ⟨hwa1, hwa2⟩ := ways_b ok
 obtain ⟨hse1, hse2⟩ := (ok_pows c ok).2.2.1.2
 clear h ok sz gm gb
 go_enter Tryz.func14, Tryz.ntmps14
 go_wp2
 go_loopw [6] (fun i wr => ∃ j : Nat, (j : Int) ≤ c.se ∧ i = .int .i64 j ∧ ∃ v1, Dr w c (s.A.take (j * c.wa.toNat)) [] [] v1 (.slice none 0 0) (.slice none 0 0) wr) (fun i _ => c.se.toNat - (intOf i).toNat)
 case atStart => exact ⟨0, by omega, rfl, _, by simpa using H0.out⟩
 case round =>
  obtain ⟨j, hj, rfl, v1, hd⟩ := hrel
  have H1 := Lib.hid hd
  have hcc := c_cell hd.cc
  clear hd H0
  by_cases hlt : (j : Int) < c.se
  ·have hj64 : (j : Int) < 64 := by omega
   go_wp2
   go_loopw [7] (fun i wr => ∃ k : Nat, (k : Int) ≤ c.wa ∧ i = .int .i64 k ∧ ∃ v1, Dr w c (s.A.take (j * c.wa.toNat + k)) [] [] v1 (.slice none 0 0) (.slice none 0 0) wr) (fun i _ => c.wa.toNat - (intOf i).toNat)
   case atStart => exact ⟨0, by omega, rfl, _, by simpa using H1.out⟩
   case round =>
    obtain ⟨k, hk, rfl, v1, hd⟩ := hrel
    have H2 := Lib.hid hd
    have hcc := c_cell hd.cc
    clear hd H1
    by_cases hlt2 : (k : Int) < c.wa
    ·have hk64 : (k : Int) < 64 := by omega
     have hix : j * c.wa.toNat + k < s.A.length := by
      rw [HB.out.1]
      have := Nat.mul_le_mul_right c.wa.toNat (show j + 1 ≤ c.se.toNat by omega)
      rw [Nat.add_mul, Nat.one_mul] at this
      omega
     obtain ⟨x, hx⟩ : ∃ x, s.A[j * c.wa.toNat + k]? = some x := ⟨_, List.getElem?_eq_getElem hix⟩
     have HW := Lib.hid ((HO.out _ H2.out.bl).way j k)
     rw [atP_in hlt hlt2 hx] at HW
     have HTk := Lib.hid (show s.A.take (j * c.wa.toNat + (k + 1)) = s.A.take (j * c.wa.toNat + k) ++ [x] by rw [← Nat.add_assoc, List.take_add_one, hx]; rfl)
     have HLn := Lib.hid (show (s.A.take (j * c.wa.toNat + k)).length ≤ 4096 by
      rw [List.length_take]
      have := HB.out.1
      have := Nat.mul_le_mul (show c.se.toNat ≤ 64 by omega) (show c.wa.toNat ≤ 64 by omega)
      omega)
     clear hx hix
     generalize s.A.take (j * c.wa.toNat + k) = LL at *
     go_wp2_with fail
     refine HW.out.mono ?_
     rintro e w4 ⟨rfl, hb4⟩
     have H3 := Lib.hid ((H2.out.step hb4).step (b_alloc w4 (.cells (Ar.ycells x) 66)))
     have H4 := Lib.hid (H3.out.step (b_alloc _ (.cells (Ar.ycells x) wayB)))
     have hpp := c_cell H3.out.pp
     clear hcc hb4 HW H2
     go_wp2_with (first
      | (at_builtin; refine wpList_append_lies _ rfl (.tmp 35) (.tmp 37) 47 rfl (w.heap.size + 3) wayB i1 (.agg (Ar.ycells Ar.y0)) 11 88 Tryz.underlying47 hi1 hy0 hy1 hy2 rfl (by decide) _ LL.length (Mh.cellsOf Ar.yc LL) rfl H4.out.r1 ⟨w4.heap.size + 1, 0, none⟩ 1 1 (Ar.yc x) rfl rfl ?c1 ?c2 (by decide) ?c3 ?c4 ?c5 _ rfl ?_))
     case c1 => exact World.news_of_block (cs := Ar.ycells x) (t := wayB) (fr := (0, 0)) (by have q := heap_alloc_new (w4.alloc (.cells (Ar.ycells x) 66)) (.cells (Ar.ycells x) wayB); rwa [show (w4.alloc (.cells (Ar.ycells x) 66)).heap.size = w4.heap.size + 1 by simp] at q)
     case c2 => exact yc_one _
     case c3 => have := HLn.out; simp only [maxLen]; omega
     case c4 => have := HLn.out; omega
     case c5 => exact H4.out.big
     intro g cap w5 hown hgrow hat hlt5
     have HP := Lib.hid ((hgrow.block _ (lt_blk H4.out.pp) (fun e => by have := (H4.out.r1.lt _ e.symm).1; omega)).trans H4.out.pp)
     have HG := Lib.hid hgrow
     have HOw := Lib.hid hown
     have HAt := Lib.hid hat
     clear hgrow hown hat hpp
     go_wp2_with (first
      | ((with_reducible refine wpList_store_box (op := ⟨none, _, _, _, _, _⟩) rfl 47 (.tmp 39) (.tmp 38) rfl (w.heap.size + 2) 0 (.slice (some ⟨g, 0, none⟩) (LL.length + 1) cap) ?sx ?sy (#[v1, (.slice none 0 0), (.slice none 0 0)]) 51 ?sg ?si ?sf ?s1 (#[.slice (some ⟨g, 0, none⟩) (LL.length + 1) cap, (.slice none 0 0), (.slice none 0 0)]) ?sn ?_); (case sx => rfl); (case sy => rfl); (case sg => exact HP.out); (case si => first | rfl | kernel_rfl); (case sf => exact Nat.le_of_ble_eq_true rfl); (case s1 => first | rfl | kernel_rfl); (case sn => rfl); intro w6 g6 r6 k6; have H5 := Lib.hid (H4.out.put1 HG.out HOw.out (fun k' e => by obtain rfl := Option.some.inj e; exact HAt.out.imp id (fun e => by simpa using e)) g6 r6 k6); clear g6 r6 k6))
     go_roundw
     case rel => exact ⟨k + 1, by omega, by go_num, _, by rw [HTk.out]; exact H5.out⟩
     case measure => simp [intOf]; omega
    ·go_wp2
     go_roundw
     case rel => exact ⟨j + 1, by omega, by go_num, _, by
      have e : (j + 1) * c.wa.toNat = j * c.wa.toNat + k := by rw [Nat.add_mul, Nat.one_mul]; omega
      rw [e]; exact H2.out⟩
     case measure => simp [intOf]; omega
  ·have H2 := H1
   rw [show s.A.take (j * c.wa.toNat) = s.A by
    rw [show j = c.se.toNat by omega, ← HB.out.1]
    exact List.take_length] at H2
   clear H1
   go_wp2_with fail
   refine ((HO.out _ H2.out.bl).misses).mono ?_
   rintro e wAM ⟨pM, capM, rfl, hin, hb⟩
   have HIM := Lib.hid hin
   have HAM := Lib.hid (H2.out.step hb)
   clear hin hb hcc H2
   go_wp2
   go_loopw [43] (fun i wr => ∃ k : Nat, k ≤ s.F.length ∧ i = .int .i64 k ∧ ∃ u, Dr w c s.A (s.F.take k) [] v1 u (.slice none 0 0) wr ∧ Fr w wAM wr ∧ ∀ b, u.ownBlock = some b → wAM.heap.size ≤ b) (fun i _ => s.F.length - (intOf i).toNat)
   case atStart => exact ⟨0, Nat.zero_le _, rfl, _, HAM.out, Fr.refl _ _, fun b e => by simp [Value.ownBlock] at e⟩
   case round =>
    obtain ⟨k, hk, rfl, u, hd, hf, hu⟩ := hrel
    have H2 := Lib.hid hd
    have HF := Lib.hid hf
    have HU := Lib.hid hu
    have hcc := c_cell hd.cc
    clear hd hf hu
    by_cases hlt2 : k < s.F.length
    ·have hk5 : (k : Int) ≤ 5000 := by have := HB.out.2; omega
     obtain ⟨x, hx⟩ : ∃ x, s.F[k]? = some x := ⟨_, List.getElem?_eq_getElem hlt2⟩
     obtain ⟨gl, rfl, hgl, hr⟩ := MsIn.fr HIM.out HAM.out HF.out k x hx
     have HR := Lib.hid hr
     have HTk := Lib.hid (show s.F.take (k + 1) = s.F.take k ++ [x] by rw [List.take_add_one, hx]; rfl)
     have HLn := Lib.hid (show (s.F.take k).length ≤ 5000 by rw [List.length_take]; have := HB.out.2; omega)
     have H3 := Lib.hid (H2.out.step (b_alloc wr (.cells (Mh.mcells x) 117)))
     have H4 := Lib.hid (H3.out.step (b_alloc _ (.cells (Mh.mcells x) missB)))
     have HF4 := Lib.hid ((HF.out.step (b_alloc wr (.cells (Mh.mcells x) 117))).step (b_alloc _ (.cells (Mh.mcells x) missB)))
     have hpp := c_cell H3.out.pp
     clear hr hx HF H2
     generalize s.F.take k = LL at *
     go_wp2_with (first
      | ((with_reducible refine Wb.wpList_load_at (op := ⟨some 46, _, _, _, _, _⟩) rfl 117 (.tmp 45) rfl gl (k * 15) ?lx (Mh.mcells x) _ ?lc Tryz.underlying117 ?ld ?li ?_); (case lx => rfl); (case lc => exact HR.out); (case ld => rfl); (case li => kernel_rfl))
      | (at_builtin; refine wpList_append_lies _ rfl (.tmp 48) (.tmp 50) 48 rfl (w.heap.size + 3) missB i2 (.agg (Mh.mcells Mh.m0)) 15 112 Tryz.underlying48 hi2 hm0 hm1 hm2 rfl (by decide) _ LL.length (Mh.cellsOf Mh.mc LL) rfl H4.out.r2 ⟨wr.heap.size + 1, 0, none⟩ 1 1 (Mh.mc x) rfl rfl ?c1 ?c2 (by decide) ?c3 ?c4 ?c5 _ rfl ?_))
     case c1 => exact World.news_of_block (cs := Mh.mcells x) (t := missB) (fr := (0, 0)) (by have q := heap_alloc_new (wr.alloc (.cells (Mh.mcells x) 117)) (.cells (Mh.mcells x) missB); rwa [show (wr.alloc (.cells (Mh.mcells x) 117)).heap.size = wr.heap.size + 1 by simp] at q)
     case c2 => exact Mh.mc_one _
     case c3 => have := HLn.out; simp only [maxLen]; omega
     case c4 => have := HLn.out; omega
     case c5 => exact H4.out.big
     intro g cap w5 hown hgrow hat hlt5
     have HP := Lib.hid ((hgrow.block _ (lt_blk H4.out.pp) (fun e => by have := (H4.out.r2.lt _ e.symm).1; omega)).trans H4.out.pp)
     have HG := Lib.hid hgrow
     have HOw := Lib.hid hown
     have HAt := Lib.hid hat
     clear hgrow hown hat hpp
     go_wp2_with (first
      | ((with_reducible refine wpList_store_box (op := ⟨none, _, _, _, _, _⟩) rfl 48 (.tmp 52) (.tmp 51) rfl (w.heap.size + 2) 1 (.slice (some ⟨g, 0, none⟩) (LL.length + 1) cap) ?sx ?sy (#[v1, u, (.slice none 0 0)]) 51 ?sg ?si ?sf ?s1 (#[v1, .slice (some ⟨g, 0, none⟩) (LL.length + 1) cap, (.slice none 0 0)]) ?sn ?_); (case sx => rfl); (case sy => rfl); (case sg => exact HP.out); (case si => first | rfl | kernel_rfl); (case sf => exact Nat.le_of_ble_eq_true rfl); (case s1 => first | rfl | kernel_rfl); (case sn => rfl); intro w6 g6 r6 k6; have H5 := Lib.hid (H4.out.put2 HG.out HOw.out (fun k' e => by obtain rfl := Option.some.inj e; exact HAt.out.imp id (fun e => by simpa using e)) g6 r6 k6); have HF5 := Lib.hid (HF4.out.put HU.out HG.out r6.2.2.2 k6); clear g6 r6 k6))
     go_roundw
     case rel => exact ⟨k + 1, by omega, by go_num, _, by rw [HTk.out]; exact H5.out, HF5.out, fun b e => by
      obtain rfl := Option.some.inj e
      rcases HAt.out with e | e
      ·exact HU.out _ e
      ·have q := HF4.out.2; simp at q e; show _ ≤ g; omega⟩
     case measure => simp [intOf]; omega
    ·have H6 := H2
     rw [show s.F.take k = s.F by rw [show k = s.F.length by omega]; exact List.take_length] at H6
     clear H2
     generalize u = UU at *
     go_wp2_with fail
     refine ((HO.out _ H6.out.bl).written).mono ?_
     rintro e wAB ⟨pB, capB, rfl, hin, hb⟩
     have HIB := Lib.hid hin
     have HAB := Lib.hid (H6.out.step hb)
     clear hin hb hcc H6
     go_wp2
     go_loopw [57] (fun i wr => ∃ k : Nat, k ≤ s.B.length ∧ i = .int .i64 k ∧ ∃ u, Dr w c s.A s.F (s.B.take k) v1 UU u wr ∧ Fr w wAB wr ∧ ∀ b, u.ownBlock = some b → wAB.heap.size ≤ b) (fun i _ => s.B.length - (intOf i).toNat)
     case atStart => exact ⟨0, Nat.zero_le _, rfl, _, HAB.out, Fr.refl _ _, fun b e => by simp [Value.ownBlock] at e⟩
     case round =>
      obtain ⟨k, hk, rfl, u, hd, hf, hu⟩ := hrel
      have H2 := Lib.hid hd
      have HF := Lib.hid hf
      have HU := Lib.hid hu
      have hcc := c_cell hd.cc
      clear hd hf hu
      by_cases hlt2 : k < s.B.length
      ·have hk5 : (k : Int) ≤ 5000 := by have := HB.out.2; omega
       obtain ⟨x, hx⟩ : ∃ x, s.B[k]? = some x := ⟨_, List.getElem?_eq_getElem hlt2⟩
       obtain ⟨gl, rfl, hgl, hr⟩ := EnIn.fr HIB.out HAB.out HF.out k x hx
       have HR := Lib.hid hr
       have HTk := Lib.hid (show s.B.take (k + 1) = s.B.take k ++ [x] by rw [List.take_add_one, hx]; rfl)
       have HLn := Lib.hid (show (s.B.take k).length ≤ 5000 by rw [List.length_take]; have := HB.out.2; omega)
       have H3 := Lib.hid (H2.out.step (b_alloc wr (.cells (Wb.mcells x) 97)))
       have H4 := Lib.hid (H3.out.step (b_alloc _ (.cells (Wb.mcells x) entB)))
       have HF4 := Lib.hid ((HF.out.step (b_alloc wr (.cells (Wb.mcells x) 97))).step (b_alloc _ (.cells (Wb.mcells x) entB)))
       have hpp := c_cell H3.out.pp
       clear hr hx HF H2
       generalize s.B.take k = LL at *
       go_wp2_with (first
        | ((with_reducible refine Wb.wpList_load_at (op := ⟨some 60, _, _, _, _, _⟩) rfl 97 (.tmp 59) rfl gl (k * 10) ?lx (Wb.mcells x) _ ?lc Tryz.underlying97 ?ld ?li ?_); (case lx => rfl); (case lc => exact HR.out); (case ld => rfl); (case li => kernel_rfl))
        | (at_builtin; refine wpList_append_lies _ rfl (.tmp 62) (.tmp 64) 49 rfl (w.heap.size + 3) entB i3 (.agg (Wb.mcells ⟨0, d0, false⟩)) 10 80 Tryz.underlying49 hi3 he0 he1 he2 rfl (by decide) _ LL.length (Mh.cellsOf Wb.mc LL) rfl H4.out.r3 ⟨wr.heap.size + 1, 0, none⟩ 1 1 (Wb.mc x) rfl rfl ?c1 ?c2 (by decide) ?c3 ?c4 ?c5 _ rfl ?_))
       case c1 => exact World.news_of_block (cs := Wb.mcells x) (t := entB) (fr := (0, 0)) (by have q := heap_alloc_new (wr.alloc (.cells (Wb.mcells x) 97)) (.cells (Wb.mcells x) entB); rwa [show (wr.alloc (.cells (Wb.mcells x) 97)).heap.size = wr.heap.size + 1 by simp] at q)
       case c2 => exact Wb.mc_one _
       case c3 => have := HLn.out; simp only [maxLen]; omega
       case c4 => have := HLn.out; omega
       case c5 => exact H4.out.big
       intro g cap w5 hown hgrow hat hlt5
       have HP := Lib.hid ((hgrow.block _ (lt_blk H4.out.pp) (fun e => by have := (H4.out.r3.lt _ e.symm).1; omega)).trans H4.out.pp)
       have HG := Lib.hid hgrow
       have HOw := Lib.hid hown
       have HAt := Lib.hid hat
       clear hgrow hown hat hpp
       go_wp2_with (first
        | ((with_reducible refine wpList_store_box (op := ⟨none, _, _, _, _, _⟩) rfl 49 (.tmp 66) (.tmp 65) rfl (w.heap.size + 2) 2 (.slice (some ⟨g, 0, none⟩) (LL.length + 1) cap) ?sx ?sy (#[v1, UU, u]) 51 ?sg ?si ?sf ?s1 (#[v1, UU, .slice (some ⟨g, 0, none⟩) (LL.length + 1) cap]) ?sn ?_); (case sx => rfl); (case sy => rfl); (case sg => exact HP.out); (case si => first | rfl | kernel_rfl); (case sf => exact Nat.le_of_ble_eq_true rfl); (case s1 => first | rfl | kernel_rfl); (case sn => rfl); intro w6 g6 r6 k6; have H5 := Lib.hid (H4.out.put3 HG.out HOw.out (fun k' e => by obtain rfl := Option.some.inj e; exact HAt.out.imp id (fun e => by simpa using e)) g6 r6 k6); have HF5 := Lib.hid (HF4.out.put HU.out HG.out r6.2.2.2 k6); clear g6 r6 k6))
       go_roundw
       case rel => exact ⟨k + 1, by omega, by go_num, _, by rw [HTk.out]; exact H5.out, HF5.out, fun b e => by
        obtain rfl := Option.some.inj e
        rcases HAt.out with e | e
        ·exact HU.out _ e
        ·have q := HF4.out.2; simp at q e; show _ ≤ g; omega⟩
       case measure => simp [intOf]; omega
      ·have H7 := H2
       rw [show s.B.take k = s.B by rw [show k = s.B.length by omega]; exact List.take_length] at H7
       clear H2
       obtain ⟨p1, n1, c1, rfl⟩ := own_sl H7.out.r1
       obtain ⟨p2, n2, c2, rfl⟩ := own_sl H7.out.r2
       obtain ⟨p3, n3, c3, rfl⟩ := own_sl H7.out.r3
       have hpp := c_cell H7.out.pp
       have brr := H7.out.rr
       have hgr : wr.grownBy (wr.setRow (w.heap.size + 1) #[.slice p1 n1 c1, .slice p2 n2 c2, .slice p3 n3 c3]) (some (w.heap.size + 1)) := ⟨rfl, rfl, rfl, by simp, fun k' _ hne => setRow_other wr _ k' _ (fun e => hne (by rw [e]))⟩
       go_wp2_with ((with_reducible refine wpList_store_row (o := ⟨none, _, _, _, _, _⟩) rfl 51 (.tmp 4) (.tmp 68) rfl (w.heap.size + 1) (#[.slice p1 n1 c1, .slice p2 n2 c2, .slice p3 n3 c3]) ?sx ?sy 51 ?old ?sg ?si ?so ?s1 ?_); (case sx => rfl); (case sy => rfl); (case old => exact #[.slice none 0 0, .slice none 0 0, .slice none 0 0]); (case sg => exact brr); (case si => kernel_rfl); (case so => rfl); (case s1 => kernel_rfl))
       exact bodyPost_ret (v := .agg #[.slice p1 n1 c1, .slice p2 n2 c2, .slice p3 n3 c3]) (results_cell_row Tryz.results14 _ _ (w.heap.size + 1) 51 _ (0, 0) _ rfl (setRow_heap _ _ _ _ _ _ brr) Tryz.underlying51 rfl (by kernel_rfl)) rfl ⟨_, _, _, rfl, own_kept2 H7.out.r1 hgr (by omega), own_kept2 H7.out.r2 hgr (by omega), own_kept2 H7.out.r3 hgr (by omega), b_setRow H7.out.bl (by omega) _, H7.out.d12, H7.out.d13, H7.out.d23⟩

end Go.Proofs.YtlfhkjjjocmpbaaGreatDoor.Cc

namespace Go.Proofs.YtlfhkjjjocmpbaaGreatDoor.Cc
open Go Go.RowKit
open List (setIfInBounds_toArray set_cons_zero set_cons_succ)

def RowsIn {α : Type} (f : α → List Value) (sz : Nat) (w : World) (p : Option Addr) (l : List α) : Prop := ∀ i x, l[i]? = some x → ∃ g, p = some ⟨g, 0, none⟩ ∧ g < w.heap.size ∧ w.rangeAt g (i * sz) (f x)
theorem RowsIn.step {α : Type} {f : α → List Value} {sz : Nat} {w w' : World} {p : Option Addr} {l : List α} (h : RowsIn f sz w p l) (hb : Below w.heap.size w w') : RowsIn f sz w' p l := fun i x hx => by
 obtain ⟨g, e, hg, hr⟩ := h i x hx
 exact ⟨g, e, Nat.lt_of_lt_of_le hg hb.size, fun j v hv => (hb.cell (p := ⟨g, i * sz + j, none⟩) hg).trans (hr j v hv)⟩
theorem row_neq (x : Ar.Wy) (w : World) : (binOp .neq wayB (.agg (Ar.ycells x)) (.agg (Ar.ycells x))).run Tryz.prog w = .ok (.bool false) w := by
 have ha := fun d => words_same d x.wd.w0 x.wd.w1 x.wd.w2 x.wd.w3 x.wd.w4 x.wd.w5 x.wd.w6 x.wd.w7
 simp [go_sem, ha]
theorem row_neqM (x : Mh.Ms) (w : World) : (binOp .neq missB (.agg (Mh.mcells x)) (.agg (Mh.mcells x))).run Tryz.prog w = .ok (.bool false) w := by
 have ha := fun d => words_same d x.wd.w0 x.wd.w1 x.wd.w2 x.wd.w3 x.wd.w4 x.wd.w5 x.wd.w6 x.wd.w7
 simp [go_sem, ha]
theorem row_neqE (x : Wb.En) (w : World) : (binOp .neq entB (.agg (Wb.mcells x)) (.agg (Wb.mcells x))).run Tryz.prog w = .ok (.bool false) w := by
 have ha := fun d => words_same d x.wd.w0 x.wd.w1 x.wd.w2 x.wd.w3 x.wd.w4 x.wd.w5 x.wd.w6 x.wd.w7
 simp [go_sem, ha]
theorem Sp.drew {w0 w : World} {bx : Bx} (h : Sp w0 bx w) : Sp w0 bx w.drew := h.step (Below.refl _ _).drew
set_option maxRecDepth 100000 in
set_option maxHeartbeats 8000000 in
theorem same_any (w : World) (L : List Ar.Wy) (F : List Mh.Ms) (B : List Wb.En) (p1 p2 p3 q1 q2 q3 : Option Addr) (c1 c2 c3 e1 e2 e3 : Nat) (hL : L.length ≤ 4096) (hF : F.length ≤ 4096) (hB : B.length ≤ 4096)
  (h1 : RowsIn Ar.yc 11 w p1 L) (h2 : RowsIn Mh.mc 15 w p2 F) (h3 : RowsIn Wb.mc 10 w p3 B) (k1 : RowsIn Ar.yc 11 w q1 L) (k2 : RowsIn Mh.mc 15 w q2 F) (k3 : RowsIn Wb.mc 10 w q3 B) :
  Calls Tryz.prog 15 #[.agg #[.slice p1 L.length c1, .slice p2 F.length c2, .slice p3 B.length c3], .agg #[.slice q1 L.length e1, .slice q2 F.length e2, .slice q3 B.length e3]] w fun e w' => e = .returned (.bool true) ∧ Below w.heap.size w w' := by
 have H0 := Lib.hid (sp_two w (.cells #[.slice p1 L.length c1, .slice p2 F.length c2, .slice p3 B.length c3] 51) (.cells #[.slice q1 L.length e1, .slice q2 F.length e2, .slice q3 B.length e3] 51))
 have HR := Lib.hid (And.intro h1 (And.intro h2 (And.intro h3 (And.intro k1 (And.intro k2 k3)))))
 clear h1 h2 h3 k1 k2 k3
 go_enter Tryz.func15, Tryz.ntmps15
 go_wp2
 go_loopw [36] (fun i wr => ∃ k : Nat, k ≤ L.length ∧ i = .int .i64 k ∧ Sp w [(w.heap.size + 1, .cells #[.slice q1 L.length e1, .slice q2 F.length e2, .slice q3 B.length e3] 51), (w.heap.size, .cells #[.slice p1 L.length c1, .slice p2 F.length c2, .slice p3 B.length c3] 51)] wr) (fun i _ => L.length - (intOf i).toNat)
 case atStart => exact ⟨0, Nat.zero_le _, rfl, H0.out⟩
 case round =>
  obtain ⟨k, hk, rfl, hs⟩ := hrel
  have H1 := Lib.hid hs
  clear hs H0
  have hca := c_cell (H1.out.ok (w.heap.size, .cells #[.slice p1 L.length c1, .slice p2 F.length c2, .slice p3 B.length c3] 51) (by simp)).1
  have hcb := c_cell (H1.out.ok (w.heap.size + 1, .cells #[.slice q1 L.length e1, .slice q2 F.length e2, .slice q3 B.length e3] 51) (by simp)).1
  by_cases hlt : k < L.length
  ·have hk4 : (k : Int) ≤ 4096 := by omega
   have hkl : (k : Int) < L.length := by omega
   obtain ⟨x, hx⟩ : ∃ x, L[k]? = some x := ⟨_, List.getElem?_eq_getElem hlt⟩
   obtain ⟨g1, rfl, _, r1⟩ := (HR.out.1.step H1.out.bl) k x hx
   obtain ⟨g2, rfl, _, r2⟩ := (HR.out.2.2.2.1.step H1.out.bl) k x hx
   have R1 := Lib.hid r1
   have R2 := Lib.hid r2
   have hqn := row_neq x
   clear r1 r2 hx
   go_upto_region 6 with fail
   clear hca hcb
   refine wp_region_noPanic ?_
   refine wp_region_held_drew (S := (fun w' : World => ((∀ o, w'.cell? ⟨w.heap.size, o, none⟩ = (#[.slice (some ⟨g1, 0, none⟩) L.length c1, .slice p2 F.length c2, .slice p3 B.length c3] : Array Value)[o]?) ∧ (∀ o, w'.cell? ⟨w.heap.size + 1, o, none⟩ = (#[.slice (some ⟨g2, 0, none⟩) L.length e1, .slice q2 F.length e2, .slice q3 B.length e3] : Array Value)[o]?)) ∧ (w'.rangeAt g1 (k * 11) (Ar.yc x) ∧ w'.rangeAt g2 (k * 11) (Ar.yc x)))) (by kernel_rfl) ⟨⟨c_cell (H1.out.ok (w.heap.size, .cells #[.slice (some ⟨g1, 0, none⟩) L.length c1, .slice p2 F.length c2, .slice p3 B.length c3] 51) (by simp)).1, c_cell (H1.out.ok (w.heap.size + 1, .cells #[.slice (some ⟨g2, 0, none⟩) L.length e1, .slice q2 F.length e2, .slice q3 B.length e3] 51) (by simp)).1⟩, R1.out, R2.out⟩ (fun hh0 => ?_)
   replace H1 := Lib.hid H1.out.drew
   generalize World.drew wr = wr at *
   refine tk 10 0 ⟨some 39, _, _, _, _, _⟩ (.pointer (some ⟨w.heap.size, 0, none⟩)) rfl (by kernel_rfl) (by rfl) hh0 ?_ ?_
   ·intro w' _
    go_simp
   simp only [Act.put, setIfInBounds_toArray, set_cons_zero, set_cons_succ]
   refine tk 9 1 ⟨some 40, _, _, _, _, _⟩ (.slice (some ⟨g1, 0, none⟩) L.length c1) rfl (by kernel_rfl) (by rfl) hh0 ?_ ?_
   ·rintro w' ⟨⟨ha, hb⟩, _⟩
    go_simp
   simp only [Act.put, setIfInBounds_toArray, set_cons_zero, set_cons_succ]
   refine tk 8 2 ⟨some 41, _, _, _, _, _⟩ (.int .i64 k) rfl (by kernel_rfl) (by rfl) hh0 ?_ ?_
   ·intro w' _
    go_simp
   simp only [Act.put, setIfInBounds_toArray, set_cons_zero, set_cons_succ]
   refine tk 7 3 ⟨some 42, _, _, _, _, _⟩ (.pointer (some ⟨g1, k * 11, none⟩)) rfl (by kernel_rfl) (by rfl) hh0 ?_ ?_
   ·intro w' _
    go_simp
   simp only [Act.put, setIfInBounds_toArray, set_cons_zero, set_cons_succ]
   refine wpAnyH_take (fuel := 6) (i := 4) (oi := ⟨some 43, _, _, _, _, _⟩) (v := .agg (Ar.ycells x)) rfl (by kernel_rfl) (by kernel_rfl) (by kernel_rfl) (fun _ _ _ h => h) (yieldsIf_load_mid (by rfl) wayB (.tmp 42) rfl g1 (k * 11) rfl (Ar.yc x) _ (fun w hS => hS.2.1) Tryz.underlying69 rfl (by kernel_rfl)) hh0 ?_
   simp only [Act.put, setIfInBounds_toArray, set_cons_zero, set_cons_succ]
   refine tk 5 5 ⟨some 44, _, _, _, _, _⟩ (.pointer (some ⟨w.heap.size + 1, 0, none⟩)) rfl (by kernel_rfl) (by rfl) hh0 ?_ ?_
   ·intro w' _
    go_simp
   simp only [Act.put, setIfInBounds_toArray, set_cons_zero, set_cons_succ]
   refine tk 4 6 ⟨some 45, _, _, _, _, _⟩ (.slice (some ⟨g2, 0, none⟩) L.length e1) rfl (by kernel_rfl) (by rfl) hh0 ?_ ?_
   ·rintro w' ⟨⟨ha, hb⟩, _⟩
    go_simp
   simp only [Act.put, setIfInBounds_toArray, set_cons_zero, set_cons_succ]
   refine tk 3 7 ⟨some 46, _, _, _, _, _⟩ (.int .i64 k) rfl (by kernel_rfl) (by rfl) hh0 ?_ ?_
   ·intro w' _
    go_simp
   simp only [Act.put, setIfInBounds_toArray, set_cons_zero, set_cons_succ]
   refine tk 2 8 ⟨some 47, _, _, _, _, _⟩ (.pointer (some ⟨g2, k * 11, none⟩)) rfl (by kernel_rfl) (by rfl) hh0 ?_ ?_
   ·intro w' _
    go_simp
   simp only [Act.put, setIfInBounds_toArray, set_cons_zero, set_cons_succ]
   refine wpAnyH_take (fuel := 1) (i := 9) (oi := ⟨some 48, _, _, _, _, _⟩) (v := .agg (Ar.ycells x)) rfl (by kernel_rfl) (by kernel_rfl) (by kernel_rfl) (fun _ _ _ h => h) (yieldsIf_load_mid (by rfl) wayB (.tmp 47) rfl g2 (k * 11) rfl (Ar.yc x) _ (fun w hS => hS.2.2) Tryz.underlying69 rfl (by kernel_rfl)) hh0 ?_
   simp only [Act.put, setIfInBounds_toArray, set_cons_zero, set_cons_succ]
   refine tk 0 10 ⟨some 49, _, _, _, _, _⟩ (.bool false) rfl (by kernel_rfl) (by rfl) hh0 ?_ ?_
   ·intro w' _
    go_simp
   simp only [Act.put, setIfInBounds_toArray, set_cons_zero, set_cons_succ]
   refine wpAnyH_done (by kernel_rfl) ?_ _
   refine NoPanic.normal ?_
   clear hh0
   go_wp2
   go_roundw
   case rel => exact ⟨k + 1, by omega, by go_num, H1.out⟩
   case measure => simp [intOf]; omega
  ·have H2 := H1
   clear H1
   go_wp2
   go_loopw [54] (fun i wr => ∃ k : Nat, k ≤ F.length ∧ i = .int .i64 k ∧ Sp w [(w.heap.size + 1, .cells #[.slice q1 L.length e1, .slice q2 F.length e2, .slice q3 B.length e3] 51), (w.heap.size, .cells #[.slice p1 L.length c1, .slice p2 F.length c2, .slice p3 B.length c3] 51)] wr) (fun i _ => F.length - (intOf i).toNat)
   case atStart => exact ⟨0, Nat.zero_le _, rfl, H2.out⟩
   case round =>
    obtain ⟨k, hk, rfl, hs⟩ := hrel
    have H1 := Lib.hid hs
    clear hs H2
    have hca := c_cell (H1.out.ok (w.heap.size, .cells #[.slice p1 L.length c1, .slice p2 F.length c2, .slice p3 B.length c3] 51) (by simp)).1
    have hcb := c_cell (H1.out.ok (w.heap.size + 1, .cells #[.slice q1 L.length e1, .slice q2 F.length e2, .slice q3 B.length e3] 51) (by simp)).1
    by_cases hlt : k < F.length
    ·have hk4 : (k : Int) ≤ 4096 := by omega
     have hkl : (k : Int) < F.length := by omega
     obtain ⟨x, hx⟩ : ∃ x, F[k]? = some x := ⟨_, List.getElem?_eq_getElem hlt⟩
     obtain ⟨g1, rfl, _, r1⟩ := (HR.out.2.1.step H1.out.bl) k x hx
     obtain ⟨g2, rfl, _, r2⟩ := (HR.out.2.2.2.2.1.step H1.out.bl) k x hx
     have R1 := Lib.hid r1
     have R2 := Lib.hid r2
     have hqn := row_neqM x
     clear r1 r2 hx
     go_upto_region 12 with fail
     clear hca hcb
     refine wp_region_noPanic ?_
     refine wp_region_held_drew (S := (fun w' : World => ((∀ o, w'.cell? ⟨w.heap.size, o, none⟩ = (#[.slice p1 L.length c1, .slice (some ⟨g1, 0, none⟩) F.length c2, .slice p3 B.length c3] : Array Value)[o]?) ∧ (∀ o, w'.cell? ⟨w.heap.size + 1, o, none⟩ = (#[.slice q1 L.length e1, .slice (some ⟨g2, 0, none⟩) F.length e2, .slice q3 B.length e3] : Array Value)[o]?)) ∧ (w'.rangeAt g1 (k * 15) (Mh.mc x) ∧ w'.rangeAt g2 (k * 15) (Mh.mc x)))) (by kernel_rfl) ⟨⟨c_cell (H1.out.ok (w.heap.size, .cells #[.slice p1 L.length c1, .slice (some ⟨g1, 0, none⟩) F.length c2, .slice p3 B.length c3] 51) (by simp)).1, c_cell (H1.out.ok (w.heap.size + 1, .cells #[.slice q1 L.length e1, .slice (some ⟨g2, 0, none⟩) F.length e2, .slice q3 B.length e3] 51) (by simp)).1⟩, R1.out, R2.out⟩ (fun hh0 => ?_)
     replace H1 := Lib.hid H1.out.drew
     generalize World.drew wr = wr at *
     refine tk 10 0 ⟨some 57, _, _, _, _, _⟩ (.pointer (some ⟨w.heap.size, 1, none⟩)) rfl (by kernel_rfl) (by rfl) hh0 ?_ ?_
     ·intro w' _
      go_simp
     simp only [Act.put, setIfInBounds_toArray, set_cons_zero, set_cons_succ]
     refine tk 9 1 ⟨some 58, _, _, _, _, _⟩ (.slice (some ⟨g1, 0, none⟩) F.length c2) rfl (by kernel_rfl) (by rfl) hh0 ?_ ?_
     ·rintro w' ⟨⟨ha, hb⟩, _⟩
      go_simp
     simp only [Act.put, setIfInBounds_toArray, set_cons_zero, set_cons_succ]
     refine tk 8 2 ⟨some 59, _, _, _, _, _⟩ (.int .i64 k) rfl (by kernel_rfl) (by rfl) hh0 ?_ ?_
     ·intro w' _
      go_simp
     simp only [Act.put, setIfInBounds_toArray, set_cons_zero, set_cons_succ]
     refine tk 7 3 ⟨some 60, _, _, _, _, _⟩ (.pointer (some ⟨g1, k * 15, none⟩)) rfl (by kernel_rfl) (by rfl) hh0 ?_ ?_
     ·intro w' _
      go_simp
     simp only [Act.put, setIfInBounds_toArray, set_cons_zero, set_cons_succ]
     refine wpAnyH_take (fuel := 6) (i := 4) (oi := ⟨some 61, _, _, _, _, _⟩) (v := .agg (Mh.mcells x)) rfl (by kernel_rfl) (by kernel_rfl) (by kernel_rfl) (fun _ _ _ h => h) (yieldsIf_load_mid (by rfl) missB (.tmp 60) rfl g1 (k * 15) rfl (Mh.mc x) _ (fun w hS => hS.2.1) Tryz.underlying75 rfl (by kernel_rfl)) hh0 ?_
     simp only [Act.put, setIfInBounds_toArray, set_cons_zero, set_cons_succ]
     refine tk 5 5 ⟨some 62, _, _, _, _, _⟩ (.pointer (some ⟨w.heap.size + 1, 1, none⟩)) rfl (by kernel_rfl) (by rfl) hh0 ?_ ?_
     ·intro w' _
      go_simp
     simp only [Act.put, setIfInBounds_toArray, set_cons_zero, set_cons_succ]
     refine tk 4 6 ⟨some 63, _, _, _, _, _⟩ (.slice (some ⟨g2, 0, none⟩) F.length e2) rfl (by kernel_rfl) (by rfl) hh0 ?_ ?_
     ·rintro w' ⟨⟨ha, hb⟩, _⟩
      go_simp
     simp only [Act.put, setIfInBounds_toArray, set_cons_zero, set_cons_succ]
     refine tk 3 7 ⟨some 64, _, _, _, _, _⟩ (.int .i64 k) rfl (by kernel_rfl) (by rfl) hh0 ?_ ?_
     ·intro w' _
      go_simp
     simp only [Act.put, setIfInBounds_toArray, set_cons_zero, set_cons_succ]
     refine tk 2 8 ⟨some 65, _, _, _, _, _⟩ (.pointer (some ⟨g2, k * 15, none⟩)) rfl (by kernel_rfl) (by rfl) hh0 ?_ ?_
     ·intro w' _
      go_simp
     simp only [Act.put, setIfInBounds_toArray, set_cons_zero, set_cons_succ]
     refine wpAnyH_take (fuel := 1) (i := 9) (oi := ⟨some 66, _, _, _, _, _⟩) (v := .agg (Mh.mcells x)) rfl (by kernel_rfl) (by kernel_rfl) (by kernel_rfl) (fun _ _ _ h => h) (yieldsIf_load_mid (by rfl) missB (.tmp 65) rfl g2 (k * 15) rfl (Mh.mc x) _ (fun w hS => hS.2.2) Tryz.underlying75 rfl (by kernel_rfl)) hh0 ?_
     simp only [Act.put, setIfInBounds_toArray, set_cons_zero, set_cons_succ]
     refine tk 0 10 ⟨some 67, _, _, _, _, _⟩ (.bool false) rfl (by kernel_rfl) (by rfl) hh0 ?_ ?_
     ·intro w' _
      go_simp
     simp only [Act.put, setIfInBounds_toArray, set_cons_zero, set_cons_succ]
     refine wpAnyH_done (by kernel_rfl) ?_ _
     refine NoPanic.normal ?_
     clear hh0
     go_wp2
     go_roundw
     case rel => exact ⟨k + 1, by omega, by go_num, H1.out⟩
     case measure => simp [intOf]; omega
    ·have H3 := H1
     clear H1
     go_wp2
     go_loopw [72] (fun i wr => ∃ k : Nat, k ≤ B.length ∧ i = .int .i64 k ∧ Sp w [(w.heap.size + 1, .cells #[.slice q1 L.length e1, .slice q2 F.length e2, .slice q3 B.length e3] 51), (w.heap.size, .cells #[.slice p1 L.length c1, .slice p2 F.length c2, .slice p3 B.length c3] 51)] wr) (fun i _ => B.length - (intOf i).toNat)
     case atStart => exact ⟨0, Nat.zero_le _, rfl, H3.out⟩
     case round =>
      obtain ⟨k, hk, rfl, hs⟩ := hrel
      have H1 := Lib.hid hs
      clear hs H3
      have hca := c_cell (H1.out.ok (w.heap.size, .cells #[.slice p1 L.length c1, .slice p2 F.length c2, .slice p3 B.length c3] 51) (by simp)).1
      have hcb := c_cell (H1.out.ok (w.heap.size + 1, .cells #[.slice q1 L.length e1, .slice q2 F.length e2, .slice q3 B.length e3] 51) (by simp)).1
      by_cases hlt : k < B.length
      ·have hk4 : (k : Int) ≤ 4096 := by omega
       have hkl : (k : Int) < B.length := by omega
       obtain ⟨x, hx⟩ : ∃ x, B[k]? = some x := ⟨_, List.getElem?_eq_getElem hlt⟩
       obtain ⟨g1, rfl, _, r1⟩ := (HR.out.2.2.1.step H1.out.bl) k x hx
       obtain ⟨g2, rfl, _, r2⟩ := (HR.out.2.2.2.2.2.step H1.out.bl) k x hx
       have R1 := Lib.hid r1
       have R2 := Lib.hid r2
       have hqn := row_neqE x
       clear r1 r2 hx
       go_upto_region 18 with fail
       clear hca hcb
       refine wp_region_noPanic ?_
       refine wp_region_held_drew (S := (fun w' : World => ((∀ o, w'.cell? ⟨w.heap.size, o, none⟩ = (#[.slice p1 L.length c1, .slice p2 F.length c2, .slice (some ⟨g1, 0, none⟩) B.length c3] : Array Value)[o]?) ∧ (∀ o, w'.cell? ⟨w.heap.size + 1, o, none⟩ = (#[.slice q1 L.length e1, .slice q2 F.length e2, .slice (some ⟨g2, 0, none⟩) B.length e3] : Array Value)[o]?)) ∧ (w'.rangeAt g1 (k * 10) (Wb.mc x) ∧ w'.rangeAt g2 (k * 10) (Wb.mc x)))) (by kernel_rfl) ⟨⟨c_cell (H1.out.ok (w.heap.size, .cells #[.slice p1 L.length c1, .slice p2 F.length c2, .slice (some ⟨g1, 0, none⟩) B.length c3] 51) (by simp)).1, c_cell (H1.out.ok (w.heap.size + 1, .cells #[.slice q1 L.length e1, .slice q2 F.length e2, .slice (some ⟨g2, 0, none⟩) B.length e3] 51) (by simp)).1⟩, R1.out, R2.out⟩ (fun hh0 => ?_)
       replace H1 := Lib.hid H1.out.drew
       generalize World.drew wr = wr at *
       refine tk 10 0 ⟨some 75, _, _, _, _, _⟩ (.pointer (some ⟨w.heap.size, 2, none⟩)) rfl (by kernel_rfl) (by rfl) hh0 ?_ ?_
       ·intro w' _
        go_simp
       simp only [Act.put, setIfInBounds_toArray, set_cons_zero, set_cons_succ]
       refine tk 9 1 ⟨some 76, _, _, _, _, _⟩ (.slice (some ⟨g1, 0, none⟩) B.length c3) rfl (by kernel_rfl) (by rfl) hh0 ?_ ?_
       ·rintro w' ⟨⟨ha, hb⟩, _⟩
        go_simp
       simp only [Act.put, setIfInBounds_toArray, set_cons_zero, set_cons_succ]
       refine tk 8 2 ⟨some 77, _, _, _, _, _⟩ (.int .i64 k) rfl (by kernel_rfl) (by rfl) hh0 ?_ ?_
       ·intro w' _
        go_simp
       simp only [Act.put, setIfInBounds_toArray, set_cons_zero, set_cons_succ]
       refine tk 7 3 ⟨some 78, _, _, _, _, _⟩ (.pointer (some ⟨g1, k * 10, none⟩)) rfl (by kernel_rfl) (by rfl) hh0 ?_ ?_
       ·intro w' _
        go_simp
       simp only [Act.put, setIfInBounds_toArray, set_cons_zero, set_cons_succ]
       refine wpAnyH_take (fuel := 6) (i := 4) (oi := ⟨some 79, _, _, _, _, _⟩) (v := .agg (Wb.mcells x)) rfl (by kernel_rfl) (by kernel_rfl) (by kernel_rfl) (fun _ _ _ h => h) (yieldsIf_load_mid (by rfl) entB (.tmp 78) rfl g1 (k * 10) rfl (Wb.mc x) _ (fun w hS => hS.2.1) Tryz.underlying77 rfl (by kernel_rfl)) hh0 ?_
       simp only [Act.put, setIfInBounds_toArray, set_cons_zero, set_cons_succ]
       refine tk 5 5 ⟨some 80, _, _, _, _, _⟩ (.pointer (some ⟨w.heap.size + 1, 2, none⟩)) rfl (by kernel_rfl) (by rfl) hh0 ?_ ?_
       ·intro w' _
        go_simp
       simp only [Act.put, setIfInBounds_toArray, set_cons_zero, set_cons_succ]
       refine tk 4 6 ⟨some 81, _, _, _, _, _⟩ (.slice (some ⟨g2, 0, none⟩) B.length e3) rfl (by kernel_rfl) (by rfl) hh0 ?_ ?_
       ·rintro w' ⟨⟨ha, hb⟩, _⟩
        go_simp
       simp only [Act.put, setIfInBounds_toArray, set_cons_zero, set_cons_succ]
       refine tk 3 7 ⟨some 82, _, _, _, _, _⟩ (.int .i64 k) rfl (by kernel_rfl) (by rfl) hh0 ?_ ?_
       ·intro w' _
        go_simp
       simp only [Act.put, setIfInBounds_toArray, set_cons_zero, set_cons_succ]
       refine tk 2 8 ⟨some 83, _, _, _, _, _⟩ (.pointer (some ⟨g2, k * 10, none⟩)) rfl (by kernel_rfl) (by rfl) hh0 ?_ ?_
       ·intro w' _
        go_simp
       simp only [Act.put, setIfInBounds_toArray, set_cons_zero, set_cons_succ]
       refine wpAnyH_take (fuel := 1) (i := 9) (oi := ⟨some 84, _, _, _, _, _⟩) (v := .agg (Wb.mcells x)) rfl (by kernel_rfl) (by kernel_rfl) (by kernel_rfl) (fun _ _ _ h => h) (yieldsIf_load_mid (by rfl) entB (.tmp 83) rfl g2 (k * 10) rfl (Wb.mc x) _ (fun w hS => hS.2.2) Tryz.underlying77 rfl (by kernel_rfl)) hh0 ?_
       simp only [Act.put, setIfInBounds_toArray, set_cons_zero, set_cons_succ]
       refine tk 0 10 ⟨some 85, _, _, _, _, _⟩ (.bool false) rfl (by kernel_rfl) (by rfl) hh0 ?_ ?_
       ·intro w' _
        go_simp
       simp only [Act.put, setIfInBounds_toArray, set_cons_zero, set_cons_succ]
       refine wpAnyH_done (by kernel_rfl) ?_ _
       refine NoPanic.normal ?_
       clear hh0
       go_wp2
       go_roundw
       case rel => exact ⟨k + 1, by omega, by go_num, H1.out⟩
       case measure => simp [intOf]; omega
      ·have H4 := H1
       clear H1
       go_wp2
       go_ret
       exact ⟨rfl, H4.out.bl⟩

end Go.Proofs.YtlfhkjjjocmpbaaGreatDoor.Cc

namespace Go.Proofs.YtlfhkjjjocmpbaaGreatDoor.Cc
open Go Go.RowKit

variable {c : Cfg} {s : St} {core : Int}
theorem own_rows {α : Type} {f : α → List Value} {sz : Nat} (hf : ∀ x, (f x).length = sz) {w : World} {B e : Nat} {v : Value} {l : List α} (h : w.ownsRow B e sz v l.length (Mh.cellsOf f l)) : ∃ p cap, v = .slice p l.length cap ∧ RowsIn f sz w p l := by
 rcases h.2 with ⟨rfl, h0⟩ | ⟨g, cap, cur, rfl, hb, hg, rest⟩
 ·exact ⟨none, 0, by rw [h0], fun i x hx => by have := (List.getElem?_eq_some_iff.1 hx).1; omega⟩
 ·refine ⟨_, cap, rfl, fun i x hx => ⟨g, rfl, lt_blk hg, fun j u hu => ?_⟩⟩
  obtain ⟨hi, rfl⟩ := List.getElem?_eq_some_iff.1 hx
  have hj : j < sz := by
   have := (List.getElem?_eq_some_iff.1 hu).1
   rwa [hf] at this
  have := h.cells (g := g) rfl (i * sz + j) u (by rw [Mh.cellsOf_at hf l i j hi hj]; exact hu)
  rwa [Addr.add_lit, Nat.zero_add] at this

theorem pic_rows {w w' : World} {L : List Ar.Wy} {F : List Mh.Ms} {B : List Wb.En} {e : Ending} (h : RetPic w L F B e w') : ∃ p1 c1 p2 c2 p3 c3, e = .returned (.agg #[.slice p1 L.length c1, .slice p2 F.length c2, .slice p3 B.length c3]) ∧ RowsIn Ar.yc 11 w' p1 L ∧ RowsIn Mh.mc 15 w' p2 F ∧ RowsIn Wb.mc 10 w' p3 B ∧ Below w.heap.size w w' := by
 obtain ⟨v1, v2, v3, rfl, r1, r2, r3, hb, _⟩ := h
 obtain ⟨p1, c1, rfl, h1⟩ := own_rows (f := Ar.yc) (fun _ => rfl) r1
 obtain ⟨p2, c2, rfl, h2⟩ := own_rows (f := Mh.mc) (fun _ => rfl) r2
 obtain ⟨p3, c3, rfl, h3⟩ := own_rows (f := Wb.mc) (fun _ => rfl) r3
 exact ⟨p1, c1, p2, c2, p3, c3, rfl, h1, h2, h3, hb⟩

def cntL (A : List Ar.Wy) (k : Nat) : Nat := ((A.take k).filter fun x => x.lk).length
theorem Inv.cnt (h : Inv c s) : cntL s.A s.A.length = s.F.length := by
 have := h.pm.length_eq
 unfold lkd at this
 simpa [cntL] using this
end Go.Proofs.YtlfhkjjjocmpbaaGreatDoor.Cc

namespace Go.Proofs.YtlfhkjjjocmpbaaGreatDoor.Cc
open Go Go.RowKit

variable {w0 w w' : World} {bx : Bx} {K : Kb} {c : Cfg} {core n : Int} {s : St}
theorem Own.short {ty : Tys} (h : Own ty w0 K c core n s bx w) : s.A.length ≤ 4096 ∧ s.F.length ≤ 4096 ∧ s.B.length ≤ 4096 ∧ (s.F.length : Int) ≤ c.ms ∧ (s.B.length : Int) ≤ c.wb := by
 obtain ⟨ok, _, _, sz, gm, _, gb⟩ := h.nums
 obtain ⟨hwa1, hwa2⟩ := ways_b ok
 obtain ⟨hse1, hse2⟩ := (ok_pows c ok).2.2.1.2
 have h1 := sz.len
 have h2 := gm.len
 have h3 := gm.r2
 have h4 := gb.short
 have h5 := gb.len
 refine ⟨?_, by omega, by omega, by omega, by omega⟩
 rw [h1]
 exact Nat.le_trans (Nat.mul_le_mul (show c.se.toNat ≤ 64 by omega) (show c.wa.toNat ≤ 64 by omega)) (by decide)
end Go.Proofs.YtlfhkjjjocmpbaaGreatDoor.Cc
