/-
  What drawn does: it tells all ways, misses and entries of a cache.
-/
import Derived.Test.YtlfhkjjjocmpbaaGreatDoorCcYa
import Derived.Deep.AppendLies
namespace Go.Proofs.YtlfhkjjjocmpbaaGreatDoor.Cc
open Go Go.RowKit

theorem ways_b {c : Cfg} (h : okC c = true) : 1 ≤ c.wa ∧ c.wa ≤ 64 := by
  rw [okC_eq] at h
  simp only [Bool.and_eq_true] at h
  obtain ⟨⟨⟨⟨⟨⟨⟨⟨⟨⟨h0, h1⟩, h2⟩, h3⟩, h4⟩, h5⟩, h6⟩, h7⟩, h8⟩, h9⟩, ⟨h10, h11⟩, h12⟩ := h
  have := inB_of h3
  omega
theorem AW : (Tryz.prog.info? wayB).map (fun i => (i.zero, i.size, i.bytes)) = some (some (.agg (Ar.ycells Ar.y0)), 11, 88) := by kernel_rfl
theorem AM : (Tryz.prog.info? missB).map (fun i => (i.zero, i.size, i.bytes)) = some (some (.agg (Mh.mcells Mh.m0)), 15, 112) := by kernel_rfl
theorem AE : (Tryz.prog.info? entB).map (fun i => (i.zero, i.size, i.bytes)) = some (some (.agg (Wb.mcells ⟨0, d0, false⟩)), 10, 80) := by kernel_rfl
theorem yc_one (x : Ar.Wy) : ∀ u ∈ Ar.yc x, u.oneCell' = true := by
  intro u hu
  simp [Ar.yc] at hu
  rcases hu with rfl | rfl | rfl | rfl | rfl | rfl | rfl | rfl | rfl | rfl | rfl <;> rfl
theorem own_sl {w : World} {base : Nat} {e : TypeId} {sz n : Nat} {v : Value} {xs : List Value} (h : w.ownsRow base e sz v n xs) : ∃ p m c, v = .slice p m c := by
  rcases h.2 with ⟨rfl, _⟩ | ⟨_, _, _, rfl, _⟩
  · exact ⟨_, _, _, rfl⟩
  · exact ⟨_, _, _, rfl⟩
theorem atP_in {c : Cfg} {s : St} {j k : Nat} {x : Ar.Wy} (hj : (j : Int) < c.se) (hk : (k : Int) < c.wa) (hx : s.A[j * c.wa.toNat + k]? = some x) : atP c s j k = (x, true) := by
  unfold atP
  rw [if_pos (by omega)]
  simp [hx]
def RetPic (w : World) (L : List Ar.Wy) (F : List Mh.Ms) (B : List Wb.En) (e : Ending) (w' : World) : Prop :=
  ∃ v1 v2 v3, e = .returned (.agg #[v1, v2, v3]) ∧ w'.ownsRow (w.heap.size + 3) wayB 11 v1 L.length (Mh.cellsOf Ar.yc L) ∧ w'.ownsRow (w.heap.size + 3) missB 15 v2 F.length (Mh.cellsOf Mh.mc F) ∧ w'.ownsRow (w.heap.size + 3) entB 10 v3 B.length (Mh.cellsOf Wb.mc B) ∧ Below w.heap.size w w' ∧ (∀ k, v1.ownBlock = some k → v2.ownBlock = some k → False) ∧ (∀ k, v1.ownBlock = some k → v3.ownBlock = some k → False) ∧ (∀ k, v2.ownBlock = some k → v3.ownBlock = some k → False)
variable {w0 w w' : World} {bx : Bx} {K : Kb} {c : Cfg} {core n : Int} {s : St}
set_option maxRecDepth 100000 in
set_option maxHeartbeats 8000000 in
theorem Own.drawn (h : OwnP w0 K c core n s bx w) : Calls Tryz.prog 14 #[cv c, ptr K.k] w (RetPic w s.A s.F s.B) := by
  obtain ⟨i1, hi1, hy0, hy1, hy2⟩ := info_parts AW
  obtain ⟨i2, hi2, hm0, hm1, hm2⟩ := info_parts AM
  obtain ⟨i3, hi3, he0, he1, he2⟩ := info_parts AE
  have HO := Lib.hid (fun wr (hb : Below w.heap.size w wr) => h.step hb)
  have H0 := Lib.hid (Dr.new w c)
  obtain ⟨ok, _, _, sz, gm, _, gb⟩ := h.nums
  have HB := Lib.hid (show s.A.length = c.se.toNat * c.wa.toNat ∧ s.F.length ≤ 5000 ∧ s.B.length ≤ 5000 from ⟨sz.len, by have := gm.len; have := gm.r2; omega, by have := gb.short; omega⟩)
  obtain ⟨hwa1, hwa2⟩ := ways_b ok
  obtain ⟨hse1, hse2⟩ := (ok_pows c ok).2.2.1.2
  clear h ok sz gm gb
  go_enter Tryz.func14, Tryz.ntmps14
  go_wp2
  go_loopw [6] (fun i wr => ∃ j : Nat, (j : Int) ≤ c.se ∧ i = .int .i64 j ∧ ∃ v1, Dr w c (s.A.take (j * c.wa.toNat)) [] [] v1 (.slice none 0 0) (.slice none 0 0) wr) (fun i _ => c.se.toNat - (intOf i).toNat)
  case atStart => exact ⟨0, by omega, rfl, _, by simpa using H0.out⟩
  case round =>
    obtain ⟨j, hj, rfl, v1, hd⟩ := hrel
    have H1 := Lib.hid hd
    have hcc := c_cell hd.cc
    clear hd H0
    by_cases hlt : (j : Int) < c.se
    · have hj64 : (j : Int) < 64 := by omega
      go_wp2
      go_loopw [7] (fun i wr => ∃ k : Nat, (k : Int) ≤ c.wa ∧ i = .int .i64 k ∧ ∃ v1, Dr w c (s.A.take (j * c.wa.toNat + k)) [] [] v1 (.slice none 0 0) (.slice none 0 0) wr) (fun i _ => c.wa.toNat - (intOf i).toNat)
      case atStart => exact ⟨0, by omega, rfl, _, by simpa using H1.out⟩
      case round =>
        obtain ⟨k, hk, rfl, v1, hd⟩ := hrel
        have H2 := Lib.hid hd
        have hcc := c_cell hd.cc
        clear hd H1
        by_cases hlt2 : (k : Int) < c.wa
        · have hk64 : (k : Int) < 64 := by omega
          have hix : j * c.wa.toNat + k < s.A.length := by
            rw [HB.out.1]
            have := Nat.mul_le_mul_right c.wa.toNat (show j + 1 ≤ c.se.toNat by omega)
            rw [Nat.add_mul, Nat.one_mul] at this
            omega
          obtain ⟨x, hx⟩ : ∃ x, s.A[j * c.wa.toNat + k]? = some x := ⟨_, List.getElem?_eq_getElem hix⟩
          have HW := Lib.hid ((HO.out _ H2.out.bl).way j k)
          rw [atP_in hlt hlt2 hx] at HW
          have HTk := Lib.hid (show s.A.take (j * c.wa.toNat + (k + 1)) = s.A.take (j * c.wa.toNat + k) ++ [x] by rw [← Nat.add_assoc, List.take_add_one, hx]; rfl)
          have HLn := Lib.hid (show (s.A.take (j * c.wa.toNat + k)).length ≤ 4096 by
            rw [List.length_take]
            have := HB.out.1
            have := Nat.mul_le_mul (show c.se.toNat ≤ 64 by omega) (show c.wa.toNat ≤ 64 by omega)
            omega)
          clear hx hix
          generalize s.A.take (j * c.wa.toNat + k) = LL at *
          go_wp2_with fail
          refine HW.out.mono ?_
          rintro e w4 ⟨rfl, hb4⟩
          have H3 := Lib.hid ((H2.out.step hb4).step (b_alloc w4 (.cells (Ar.ycells x) 66)))
          have H4 := Lib.hid (H3.out.step (b_alloc _ (.cells (Ar.ycells x) wayB)))
          have hpp := c_cell H3.out.pp
          clear hcc hb4 HW H2
          go_wp2_with (first
            | (at_builtin; refine wpList_append_lies _ rfl (.tmp 35) (.tmp 37) 47 rfl (w.heap.size + 3) wayB i1 (.agg (Ar.ycells Ar.y0)) 11 88 Tryz.underlying47 hi1 hy0 hy1 hy2 rfl (by decide) _ LL.length (Mh.cellsOf Ar.yc LL) rfl H4.out.r1 ⟨w4.heap.size + 1, 0, none⟩ 1 1 (Ar.yc x) rfl rfl ?c1 ?c2 (by decide) ?c3 ?c4 ?c5 _ rfl ?_))
          case c1 => exact World.news_of_block (cs := Ar.ycells x) (t := wayB) (fr := (0, 0)) (by have q := heap_alloc_new (w4.alloc (.cells (Ar.ycells x) 66)) (.cells (Ar.ycells x) wayB); rwa [show (w4.alloc (.cells (Ar.ycells x) 66)).heap.size = w4.heap.size + 1 by simp] at q)
          case c2 => exact yc_one _
          case c3 => have := HLn.out; simp only [maxLen]; omega
          case c4 => have := HLn.out; omega
          case c5 => exact H4.out.big
          intro g cap w5 hown hgrow hat hlt5
          have HP := Lib.hid ((hgrow.block _ (lt_blk H4.out.pp) (fun e => by have := (H4.out.r1.lt _ e.symm).1; omega)).trans H4.out.pp)
          have HG := Lib.hid hgrow
          have HOw := Lib.hid hown
          have HAt := Lib.hid hat
          clear hgrow hown hat hpp
          go_wp2_with (first
            | ((with_reducible refine wpList_store_box (op := ⟨none, _, _, _, _, _⟩) rfl 47 (.tmp 39) (.tmp 38) rfl (w.heap.size + 2) 0 (.slice (some ⟨g, 0, none⟩) (LL.length + 1) cap) ?sx ?sy (#[v1, (.slice none 0 0), (.slice none 0 0)]) 51 ?sg ?si ?sf ?s1 (#[.slice (some ⟨g, 0, none⟩) (LL.length + 1) cap, (.slice none 0 0), (.slice none 0 0)]) ?sn ?_); (case sx => rfl); (case sy => rfl); (case sg => exact HP.out); (case si => first | rfl | kernel_rfl); (case sf => exact Nat.le_of_ble_eq_true rfl); (case s1 => first | rfl | kernel_rfl); (case sn => rfl); intro w6 g6 r6 k6; have H5 := Lib.hid (H4.out.put1 HG.out HOw.out (fun k' e => by obtain rfl := Option.some.inj e; exact HAt.out.imp id (fun e => by simpa using e)) g6 r6 k6); clear g6 r6 k6))
          go_roundw
          case rel => exact ⟨k + 1, by omega, by go_num, _, by rw [HTk.out]; exact H5.out⟩
          case measure => simp [intOf]; omega
        · go_wp2
          go_roundw
          case rel => exact ⟨j + 1, by omega, by go_num, _, by
            have e : (j + 1) * c.wa.toNat = j * c.wa.toNat + k := by rw [Nat.add_mul, Nat.one_mul]; omega
            rw [e]; exact H2.out⟩
          case measure => simp [intOf]; omega
    · have H2 := H1
      rw [show s.A.take (j * c.wa.toNat) = s.A by
        rw [show j = c.se.toNat by omega, ← HB.out.1]
        exact List.take_length] at H2
      clear H1
      go_wp2_with fail
      refine ((HO.out _ H2.out.bl).misses).mono ?_
      rintro e wAM ⟨pM, capM, rfl, hin, hb⟩
      have HIM := Lib.hid hin
      have HAM := Lib.hid (H2.out.step hb)
      clear hin hb hcc H2
      go_wp2
      go_loopw [43] (fun i wr => ∃ k : Nat, k ≤ s.F.length ∧ i = .int .i64 k ∧ ∃ u, Dr w c s.A (s.F.take k) [] v1 u (.slice none 0 0) wr ∧ Fr w wAM wr ∧ ∀ b, u.ownBlock = some b → wAM.heap.size ≤ b) (fun i _ => s.F.length - (intOf i).toNat)
      case atStart => exact ⟨0, Nat.zero_le _, rfl, _, HAM.out, Fr.refl _ _, fun b e => by simp [Value.ownBlock] at e⟩
      case round =>
        obtain ⟨k, hk, rfl, u, hd, hf, hu⟩ := hrel
        have H2 := Lib.hid hd
        have HF := Lib.hid hf
        have HU := Lib.hid hu
        have hcc := c_cell hd.cc
        clear hd hf hu
        by_cases hlt2 : k < s.F.length
        · have hk5 : (k : Int) ≤ 5000 := by have := HB.out.2; omega
          obtain ⟨x, hx⟩ : ∃ x, s.F[k]? = some x := ⟨_, List.getElem?_eq_getElem hlt2⟩
          obtain ⟨gl, rfl, hgl, hr⟩ := MsIn.fr HIM.out HAM.out HF.out k x hx
          have HR := Lib.hid hr
          have HTk := Lib.hid (show s.F.take (k + 1) = s.F.take k ++ [x] by rw [List.take_add_one, hx]; rfl)
          have HLn := Lib.hid (show (s.F.take k).length ≤ 5000 by rw [List.length_take]; have := HB.out.2; omega)
          have H3 := Lib.hid (H2.out.step (b_alloc wr (.cells (Mh.mcells x) 117)))
          have H4 := Lib.hid (H3.out.step (b_alloc _ (.cells (Mh.mcells x) missB)))
          have HF4 := Lib.hid ((HF.out.step (b_alloc wr (.cells (Mh.mcells x) 117))).step (b_alloc _ (.cells (Mh.mcells x) missB)))
          have hpp := c_cell H3.out.pp
          clear hr hx HF H2
          generalize s.F.take k = LL at *
          go_wp2_with (first
            | ((with_reducible refine Wb.wpList_load_at (op := ⟨some 46, _, _, _, _, _⟩) rfl 117 (.tmp 45) rfl gl (k * 15) ?lx (Mh.mcells x) _ ?lc Tryz.underlying117 ?ld ?li ?_); (case lx => rfl); (case lc => exact HR.out); (case ld => rfl); (case li => kernel_rfl))
            | (at_builtin; refine wpList_append_lies _ rfl (.tmp 48) (.tmp 50) 48 rfl (w.heap.size + 3) missB i2 (.agg (Mh.mcells Mh.m0)) 15 112 Tryz.underlying48 hi2 hm0 hm1 hm2 rfl (by decide) _ LL.length (Mh.cellsOf Mh.mc LL) rfl H4.out.r2 ⟨wr.heap.size + 1, 0, none⟩ 1 1 (Mh.mc x) rfl rfl ?c1 ?c2 (by decide) ?c3 ?c4 ?c5 _ rfl ?_))
          case c1 => exact World.news_of_block (cs := Mh.mcells x) (t := missB) (fr := (0, 0)) (by have q := heap_alloc_new (wr.alloc (.cells (Mh.mcells x) 117)) (.cells (Mh.mcells x) missB); rwa [show (wr.alloc (.cells (Mh.mcells x) 117)).heap.size = wr.heap.size + 1 by simp] at q)
          case c2 => exact Mh.mc_one _
          case c3 => have := HLn.out; simp only [maxLen]; omega
          case c4 => have := HLn.out; omega
          case c5 => exact H4.out.big
          intro g cap w5 hown hgrow hat hlt5
          have HP := Lib.hid ((hgrow.block _ (lt_blk H4.out.pp) (fun e => by have := (H4.out.r2.lt _ e.symm).1; omega)).trans H4.out.pp)
          have HG := Lib.hid hgrow
          have HOw := Lib.hid hown
          have HAt := Lib.hid hat
          clear hgrow hown hat hpp
          go_wp2_with (first
            | ((with_reducible refine wpList_store_box (op := ⟨none, _, _, _, _, _⟩) rfl 48 (.tmp 52) (.tmp 51) rfl (w.heap.size + 2) 1 (.slice (some ⟨g, 0, none⟩) (LL.length + 1) cap) ?sx ?sy (#[v1, u, (.slice none 0 0)]) 51 ?sg ?si ?sf ?s1 (#[v1, .slice (some ⟨g, 0, none⟩) (LL.length + 1) cap, (.slice none 0 0)]) ?sn ?_); (case sx => rfl); (case sy => rfl); (case sg => exact HP.out); (case si => first | rfl | kernel_rfl); (case sf => exact Nat.le_of_ble_eq_true rfl); (case s1 => first | rfl | kernel_rfl); (case sn => rfl); intro w6 g6 r6 k6; have H5 := Lib.hid (H4.out.put2 HG.out HOw.out (fun k' e => by obtain rfl := Option.some.inj e; exact HAt.out.imp id (fun e => by simpa using e)) g6 r6 k6); have HF5 := Lib.hid (HF4.out.put HU.out HG.out r6.2.2.2 k6); clear g6 r6 k6))
          go_roundw
          case rel => exact ⟨k + 1, by omega, by go_num, _, by rw [HTk.out]; exact H5.out, HF5.out, fun b e => by
            obtain rfl := Option.some.inj e
            rcases HAt.out with e | e
            · exact HU.out _ e
            · have q := HF4.out.2; simp at q e; show _ ≤ g; omega⟩
          case measure => simp [intOf]; omega
        · have H6 := H2
          rw [show s.F.take k = s.F by rw [show k = s.F.length by omega]; exact List.take_length] at H6
          clear H2
          generalize u = UU at *
          go_wp2_with fail
          refine ((HO.out _ H6.out.bl).written).mono ?_
          rintro e wAB ⟨pB, capB, rfl, hin, hb⟩
          have HIB := Lib.hid hin
          have HAB := Lib.hid (H6.out.step hb)
          clear hin hb hcc H6
          go_wp2
          go_loopw [57] (fun i wr => ∃ k : Nat, k ≤ s.B.length ∧ i = .int .i64 k ∧ ∃ u, Dr w c s.A s.F (s.B.take k) v1 UU u wr ∧ Fr w wAB wr ∧ ∀ b, u.ownBlock = some b → wAB.heap.size ≤ b) (fun i _ => s.B.length - (intOf i).toNat)
          case atStart => exact ⟨0, Nat.zero_le _, rfl, _, HAB.out, Fr.refl _ _, fun b e => by simp [Value.ownBlock] at e⟩
          case round =>
            obtain ⟨k, hk, rfl, u, hd, hf, hu⟩ := hrel
            have H2 := Lib.hid hd
            have HF := Lib.hid hf
            have HU := Lib.hid hu
            have hcc := c_cell hd.cc
            clear hd hf hu
            by_cases hlt2 : k < s.B.length
            · have hk5 : (k : Int) ≤ 5000 := by have := HB.out.2; omega
              obtain ⟨x, hx⟩ : ∃ x, s.B[k]? = some x := ⟨_, List.getElem?_eq_getElem hlt2⟩
              obtain ⟨gl, rfl, hgl, hr⟩ := EnIn.fr HIB.out HAB.out HF.out k x hx
              have HR := Lib.hid hr
              have HTk := Lib.hid (show s.B.take (k + 1) = s.B.take k ++ [x] by rw [List.take_add_one, hx]; rfl)
              have HLn := Lib.hid (show (s.B.take k).length ≤ 5000 by rw [List.length_take]; have := HB.out.2; omega)
              have H3 := Lib.hid (H2.out.step (b_alloc wr (.cells (Wb.mcells x) 97)))
              have H4 := Lib.hid (H3.out.step (b_alloc _ (.cells (Wb.mcells x) entB)))
              have HF4 := Lib.hid ((HF.out.step (b_alloc wr (.cells (Wb.mcells x) 97))).step (b_alloc _ (.cells (Wb.mcells x) entB)))
              have hpp := c_cell H3.out.pp
              clear hr hx HF H2
              generalize s.B.take k = LL at *
              go_wp2_with (first
                | ((with_reducible refine Wb.wpList_load_at (op := ⟨some 60, _, _, _, _, _⟩) rfl 97 (.tmp 59) rfl gl (k * 10) ?lx (Wb.mcells x) _ ?lc Tryz.underlying97 ?ld ?li ?_); (case lx => rfl); (case lc => exact HR.out); (case ld => rfl); (case li => kernel_rfl))
                | (at_builtin; refine wpList_append_lies _ rfl (.tmp 62) (.tmp 64) 49 rfl (w.heap.size + 3) entB i3 (.agg (Wb.mcells ⟨0, d0, false⟩)) 10 80 Tryz.underlying49 hi3 he0 he1 he2 rfl (by decide) _ LL.length (Mh.cellsOf Wb.mc LL) rfl H4.out.r3 ⟨wr.heap.size + 1, 0, none⟩ 1 1 (Wb.mc x) rfl rfl ?c1 ?c2 (by decide) ?c3 ?c4 ?c5 _ rfl ?_))
              case c1 => exact World.news_of_block (cs := Wb.mcells x) (t := entB) (fr := (0, 0)) (by have q := heap_alloc_new (wr.alloc (.cells (Wb.mcells x) 97)) (.cells (Wb.mcells x) entB); rwa [show (wr.alloc (.cells (Wb.mcells x) 97)).heap.size = wr.heap.size + 1 by simp] at q)
              case c2 => exact Wb.mc_one _
              case c3 => have := HLn.out; simp only [maxLen]; omega
              case c4 => have := HLn.out; omega
              case c5 => exact H4.out.big
              intro g cap w5 hown hgrow hat hlt5
              have HP := Lib.hid ((hgrow.block _ (lt_blk H4.out.pp) (fun e => by have := (H4.out.r3.lt _ e.symm).1; omega)).trans H4.out.pp)
              have HG := Lib.hid hgrow
              have HOw := Lib.hid hown
              have HAt := Lib.hid hat
              clear hgrow hown hat hpp
              go_wp2_with (first
                | ((with_reducible refine wpList_store_box (op := ⟨none, _, _, _, _, _⟩) rfl 49 (.tmp 66) (.tmp 65) rfl (w.heap.size + 2) 2 (.slice (some ⟨g, 0, none⟩) (LL.length + 1) cap) ?sx ?sy (#[v1, UU, u]) 51 ?sg ?si ?sf ?s1 (#[v1, UU, .slice (some ⟨g, 0, none⟩) (LL.length + 1) cap]) ?sn ?_); (case sx => rfl); (case sy => rfl); (case sg => exact HP.out); (case si => first | rfl | kernel_rfl); (case sf => exact Nat.le_of_ble_eq_true rfl); (case s1 => first | rfl | kernel_rfl); (case sn => rfl); intro w6 g6 r6 k6; have H5 := Lib.hid (H4.out.put3 HG.out HOw.out (fun k' e => by obtain rfl := Option.some.inj e; exact HAt.out.imp id (fun e => by simpa using e)) g6 r6 k6); have HF5 := Lib.hid (HF4.out.put HU.out HG.out r6.2.2.2 k6); clear g6 r6 k6))
              go_roundw
              case rel => exact ⟨k + 1, by omega, by go_num, _, by rw [HTk.out]; exact H5.out, HF5.out, fun b e => by
                obtain rfl := Option.some.inj e
                rcases HAt.out with e | e
                · exact HU.out _ e
                · have q := HF4.out.2; simp at q e; show _ ≤ g; omega⟩
              case measure => simp [intOf]; omega
            · have H7 := H2
              rw [show s.B.take k = s.B by rw [show k = s.B.length by omega]; exact List.take_length] at H7
              clear H2
              obtain ⟨p1, n1, c1, rfl⟩ := own_sl H7.out.r1
              obtain ⟨p2, n2, c2, rfl⟩ := own_sl H7.out.r2
              obtain ⟨p3, n3, c3, rfl⟩ := own_sl H7.out.r3
              have hpp := c_cell H7.out.pp
              have brr := H7.out.rr
              have hgr : wr.grownBy (wr.setRow (w.heap.size + 1) #[.slice p1 n1 c1, .slice p2 n2 c2, .slice p3 n3 c3]) (some (w.heap.size + 1)) := ⟨rfl, rfl, rfl, by simp, fun k' _ hne => setRow_other wr _ k' _ (fun e => hne (by rw [e]))⟩
              go_wp2_with ((with_reducible refine wpList_store_row (o := ⟨none, _, _, _, _, _⟩) rfl 51 (.tmp 4) (.tmp 68) rfl (w.heap.size + 1) (#[.slice p1 n1 c1, .slice p2 n2 c2, .slice p3 n3 c3]) ?sx ?sy 51 ?old ?sg ?si ?so ?s1 ?_); (case sx => rfl); (case sy => rfl); (case old => exact #[.slice none 0 0, .slice none 0 0, .slice none 0 0]); (case sg => exact brr); (case si => kernel_rfl); (case so => rfl); (case s1 => kernel_rfl))
              exact bodyPost_ret (v := .agg #[.slice p1 n1 c1, .slice p2 n2 c2, .slice p3 n3 c3]) (results_cell_row Tryz.results14 _ _ (w.heap.size + 1) 51 _ (0, 0) _ rfl (setRow_heap _ _ _ _ _ _ brr) Tryz.underlying51 rfl (by kernel_rfl)) rfl ⟨_, _, _, rfl, own_kept2 H7.out.r1 hgr (by omega), own_kept2 H7.out.r2 hgr (by omega), own_kept2 H7.out.r3 hgr (by omega), b_setRow H7.out.bl (by omega) _, H7.out.d12, H7.out.d13, H7.out.d23⟩

end Go.Proofs.YtlfhkjjjocmpbaaGreatDoor.Cc
