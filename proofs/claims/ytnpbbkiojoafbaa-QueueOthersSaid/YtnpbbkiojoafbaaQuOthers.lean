/-
  QueueOthers is true: the walk.
-/
import Derived.Test.YtnpbbkiojoafbaaQuQ
import Derived.Test.YtnpbbkiojoafbaaQuV
import Derived.Test.YtnpbbkiojoafbaaQuP
import Derived.Deep.DeepCutAuto
import Derived.Deep.CutBlock
import Derived.Deep.RegionHeld3
namespace Go.Proofs.Ytnpbbkiojoafbaa
open Go Go.RowKit

theorem op_msg' {w : World} {g : Nat} {x : Qo} (h : ∀ o, w.cell? ⟨g, o, none⟩ = (ocells x)[o]?) : w.rangeAt g 2 (mcells x.m).toList := fun j v hv => by
  rw [h]
  have hj := (List.getElem?_eq_some_iff.1 hv).1
  simp at hj
  rcases (show j = 0 ∨ j = 1 ∨ j = 2 ∨ j = 3 ∨ j = 4 ∨ j = 5 ∨ j = 6 ∨ j = 7 ∨ j = 8 ∨ j = 9 ∨ j = 10 ∨ j = 11 ∨ j = 12 ∨ j = 13 ∨ j = 14 by omega) with rfl | rfl | rfl | rfl | rfl | rfl | rfl | rfl | rfl | rfl | rfl | rfl | rfl | rfl | rfl
  all_goals exact hv
theorem e_pre {w : World} {g o : Nat} {x : Ep} (h : w.rangeAt g o (ecells x).toList) : w.rangeAt g o (mcells x.m).toList := fun j v hv => by
  refine h j v ?_
  have hj := (List.getElem?_eq_some_iff.1 hv).1
  simp at hj
  rcases (show j = 0 ∨ j = 1 ∨ j = 2 ∨ j = 3 ∨ j = 4 ∨ j = 5 ∨ j = 6 ∨ j = 7 ∨ j = 8 ∨ j = 9 ∨ j = 10 ∨ j = 11 ∨ j = 12 ∨ j = 13 ∨ j = 14 by omega) with rfl | rfl | rfl | rfl | rfl | rfl | rfl | rfl | rfl | rfl | rfl | rfl | rfl | rfl | rfl
  all_goals exact hv
/-- What holds at each operation's head. -/
def OtRel (w : World) (b : Nat) (room : Int) (k5 : Nat) (x : Qo) (n : Nat) (i : Value) (wr : World) : Prop :=
  ∃ (k : Nat) (L : List En), k ≤ n ∧ i = .int .i64 k ∧ OwnP w b room L noX [(k5, .cells (ocells x) 38 (0, 0))] wr
/-- What holds where two lists are told apart. -/
def PtRel (l m : List En) (A : Value) (w wr : World) : Prop := ∃ k : Nat, A = .int .i64 k ∧ k ≤ l.length ∧ k ≤ m.length ∧ (∀ j, j < k → l[j]? = m[j]?) ∧ Below w.heap.size w wr

set_option maxRecDepth 100000 in
set_option maxHeartbeats 8000000 in
theorem queueOthers_any (room : Int) (p : Option Addr) (cap : Nat) (l : List Qo) (x : Qo) (w : World) (hl : OpsIn w p l) (hn : l.length ≤ 9223372036854775807) (hsz : ∀ x ∈ l, x.l.length ≤ 140737488355328) (hmx : MIn w x.p x.l) (hxs : x.l.length ≤ 140737488355328) :
    Calls Try.prog 5 #[.int .i64 room, .slice p l.length cap, .agg (ocells x)] w fun e w' => e = .returned (.bool true) ∧ Below w.heap.size w w' := by
  have HL := Lib.hid hl
  have HSZ := Lib.hid hsz
  have HMX := Lib.hid hmx
  have hb0 := balloc w (.cells (ocells x) 38)
  have h5 := heap_alloc_new w (.cells (ocells x) 38)
  have HB0 := Lib.hid hb0
  have H5 := Lib.hid h5
  clear hl hsz hmx hb0 h5
  go_enter Try.func5, Try.ntmps5
  go_wp2_with fail
  generalize w.alloc (.cells (ocells x) 38) = wa at *
  refine (awake_any _).mono ?_
  rintro e w1 ⟨rfl, hb⟩
  have HB := Lib.hid (bstep HB0.out hb)
  have HC5 := Lib.hid ((hb.block _ (lt_of_block H5.out)).trans H5.out)
  clear hb HB0 H5
  go_wp2_with fail
  refine (large_any p cap l w1 (HL.out.step HB.out) hn HSZ.out).mono ?_
  rintro e w2 ⟨q, rfl, rfl, hq⟩
  cases q with
  | true =>
    clear HL hq HSZ HMX HC5
    go_wp2
    go_ret
    exact ⟨rfl, HB.out⟩
  | false =>
  have HQ := Lib.hid (hq rfl)
  have hn60 := HQ.out.1
  clear hq HSZ
  have hc5 := blk_cell HC5.out 17
  by_cases hx100 : 100 < x.l.length
  · have d1 : decide (100 < (x.l.length : Int)) = true := by simp; omega
    clear HL HQ HMX HC5
    go_wp2
    go_ret
    exact ⟨rfl, HB.out⟩
  have d1 : decide (100 < (x.l.length : Int)) = false := by simp; omega
  by_cases hr : room < 1 ∨ 16 < room
  · clear HL HQ HMX HC5
    have hro := Lib.hid hr
    clear hr
    go_wp2_with fail
    refine (new_no room _ hro.out).mono ?_
    rintro e w2 ⟨rfl, rfl⟩
    go_wp2
    go_ret
    exact ⟨rfl, HB.out⟩
  have HR := Lib.hid hr
  have HX100 := Lib.hid hx100
  clear hr hx100
  go_wp2_with fail
  refine (newO (w0 := w) (X := fun k o => k = w.heap.size ∧ o = .cells (ocells x) 38 (0, 0)) (room := room) (by have := HR.out; omega) (by have := HR.out; omega) HB.out (fun k o ⟨h1, h2⟩ => by rw [h1, h2]; exact HC5.out)).mono ?_
  rintro e w3 ⟨b, rfl, ho, -⟩
  have H0 := Lib.hid (ho.boxed (Nat.le_refl _))
  clear ho HR HC5 hc5 d1
  go_wp2
  go_loopw [36] (fun i wr => OtRel w b room w.heap.size x l.length i wr) (fun i _ => l.length - (intOf i).toNat)
  case atStart => exact ⟨0, [], by omega, rfl, H0.out⟩
  case round =>
    obtain ⟨k, L, hk, rfl, ho⟩ := hrel
    obtain ⟨wo, rfl⟩ : ∃ wo : World, wo = wr := ⟨_, rfl⟩
    have H1 := Lib.hid ho
    clear ho H0
    by_cases hlt : k < l.length
    · obtain ⟨z, hx⟩ : ∃ z, l[k]? = some z := ⟨_, List.getElem?_eq_getElem hlt⟩
      have hop := HL.out.step H1.out.bl
      obtain ⟨g, off, rfl, hgl, hr⟩ := hop.1 k z hx
      have HRO := Lib.hid hr
      have HMZ := Lib.hid (hop.2 z (List.mem_of_getElem? hx))
      have HXL := Lib.hid (HQ.out.2 z (List.mem_of_getElem? hx))
      obtain ⟨y, q, n, M, hD⟩ : ∃ y q n M, doP room L z = ((y, q, n), M) := ⟨_, _, _, _, rfl⟩
      have HD := Lib.hid hD
      have H2 := Lib.hid (H1.out.addRow #[.int .i64 0, .int .i64 0, .int .i64 0, .int .i64 0, .int .i64 0, .int .i64 0, .int .i64 0, .int .i64 0, .int .i64 0, .int .i64 0, .int .i64 0, .int .i64 0, .int .i64 0, .int .i64 0, .int .i64 0, .int .i64 0, .int .i64 0, .slice none 0 0] (ocells z) 38)
      have HB2 := Lib.hid (below_box wo (.cells #[.int .i64 0, .int .i64 0, .int .i64 0, .int .i64 0, .int .i64 0, .int .i64 0, .int .i64 0, .int .i64 0, .int .i64 0, .int .i64 0, .int .i64 0, .int .i64 0, .int .i64 0, .int .i64 0, .int .i64 0, .int .i64 0, .int .i64 0, .slice none 0 0] 38) (ocells z))
      clear hop hr hx hD H1
      as_aux_lemma =>
      go_wp2_with (first
        | ((with_reducible refine wpList_load_at (op := ⟨some 39, _, _, _, _, _⟩) rfl 38 (.tmp 38) rfl g (off + k * 18) ?lx (ocells z) _ ?lc Try.underlying38 ?ld ?li ?_); (case lx => rfl); (case lc => exact HRO.out); (case ld => rfl); (case li => kernel_rfl))
        | ((with_reducible refine wpList_store_row (o := ⟨none, _, _, _, _, _⟩) rfl 38 (.tmp 10) (.tmp 39) rfl wo.heap.size (ocells z) ?sx ?sy 38 ?old ?sg ?si ?so ?s1 ?_); (case sx => rfl); (case sy => rfl); (case old => exact #[.int .i64 0, .int .i64 0, .int .i64 0, .int .i64 0, .int .i64 0, .int .i64 0, .int .i64 0, .int .i64 0, .int .i64 0, .int .i64 0, .int .i64 0, .int .i64 0, .int .i64 0, .int .i64 0, .int .i64 0, .int .i64 0, .int .i64 0, .slice none 0 0]); (case sg => exact heap_alloc_new wo _); (case si => kernel_rfl); (case so => rfl); (case s1 => kernel_rfl); generalize (wo.alloc (.cells #[.int .i64 0, .int .i64 0, .int .i64 0, .int .i64 0, .int .i64 0, .int .i64 0, .int .i64 0, .int .i64 0, .int .i64 0, .int .i64 0, .int .i64 0, .int .i64 0, .int .i64 0, .int .i64 0, .int .i64 0, .int .i64 0, .int .i64 0, .slice none 0 0] 38)).setRow wo.heap.size (ocells z) = w4 at *; have h8 := H2.out.box (List.mem_cons_self ..))
        | ((with_reducible refine wpList_load_row (o := ⟨some 41, _, _, _, _, _⟩) rfl 38 (.tmp 10) rfl wo.heap.size ?lx 38 (ocells z) (0, 0) _ ?lg Try.underlying38 ?ld ?li ?_); (case lx => rfl); (case lg => exact h8); (case ld => rfl); (case li => kernel_rfl))
        | fail)
      refine (H2.out.op z (HMZ.out.step HB2.out) (by have := HXL.out; omega) HD.out).mono ?_
      rintro e w5 ⟨rfl, ho⟩
      have H3 := Lib.hid ho.drop
      clear ho H2 h8 HRO HMZ HB2
      go_wp2
      go_roundw
      case rel => exact ⟨k + 1, M, by omega, by go_num, H3.out⟩
      case measure => simp [intOf]; omega
    · clear HL HQ hn60
      go_wp2_with fail
      refine (H1.out.listQ).mono ?_
      rintro e w4 ⟨p4, c4, N, rfl, hpl, hin, hfr, hb4⟩
      have HNl : Hid (N.length = L.length) := Lib.hid (by have := congrArg List.length hpl; simpa using this)
      have hL16 := H1.out.gd.short
      have hNf : ∀ x ∈ N, x.l.length ≤ 5000 := fun x hx => by
        have := H1.out.gd.few x.pl (by rw [← hpl]; exact List.mem_map.2 ⟨x, hx, rfl⟩)
        have e : x.pl.l = x.l := rfl
        rw [e] at this
        omega
      go_wp2_with fail
      refine (own_any p4 c4 N w4 (by have := HNl.out; omega) hin).mono ?_
      rintro e w5 ⟨q5, c5, rfl, hin5, hf5, hc5, hb5⟩
      have hb15 := bstep hb4 hb5
      have HK := Lib.hid (H1.out.keepNew hb15)
      have HF := Lib.hid (show Frsh wo.heap.size q5 N from ⟨fun a ha => by have := hf5 a ha; have := hb4.size; omega, hfr.2⟩)
      have HIN := Lib.hid hin5
      have HNF := Lib.hid hNf
      have HPL := Lib.hid hpl
      have HC5 := Lib.hid hc5
      have GD := Lib.hid H1.out.gd
      obtain ⟨y, q, n, M, hD⟩ : ∃ y q n M, doP room L x = ((y, q, n), M) := ⟨_, _, _, _, rfl⟩
      have HD := Lib.hid hD
      have hc5 := HK.out.box (List.mem_cons_self ..)
      clear hin hfr hb4 hin5 hf5 hc5 hb5 hb15 hpl H1 hD hNf
      have h5 := HK.out.box (List.mem_cons_self ..)
      go_wp2_with (first
        | ((with_reducible refine wpList_load_row (o := ⟨some 49, _, _, _, _, _⟩) rfl 38 (.tmp 5) rfl w.heap.size ?lx 38 (ocells x) (0, 0) _ ?lg Try.underlying38 ?ld ?li ?_); (case lx => rfl); (case lg => exact h5); (case ld => rfl); (case li => kernel_rfl))
        | fail)
      refine (HK.out.op x (HMX.out.step HK.out.bl) (by have := HX100.out; omega) HD.out).mono ?_
      rintro e w6 ⟨rfl, ho⟩
      have H4 := Lib.hid (ho.addRow zmc (mcells y) 35)
      clear ho HK h5
      go_wp2_with (first
        | ((with_reducible refine wpList_store_row (o := ⟨none, _, _, _, _, _⟩) rfl 35 (.tmp 12) (.tmp 51) rfl w6.heap.size (mcells y) ?sx ?sy 35 ?old ?sg ?si ?so ?s1 ?_); (case sx => rfl); (case sy => rfl); (case old => exact zmc); (case sg => exact heap_alloc_new w6 _); (case si => kernel_rfl); (case so => rfl); (case s1 => kernel_rfl); generalize (w6.alloc (.cells zmc 35)).setRow w6.heap.size (mcells y) = w7 at *)
        | fail)
      have hM16 := H4.out.gd.short
      refine (H4.out.listQ).mono ?_
      rintro e w8 ⟨p8, c8, R, rfl, hpl, hin, hfr, hb8⟩
      have HRl : Hid (R.length = M.length) := Lib.hid (by have := congrArg List.length hpl; simpa using this)
      have hRf : ∀ x ∈ R, x.l.length ≤ 5000 := fun x hx => by
        have := H4.out.gd.few x.pl (by rw [← hpl]; exact List.mem_map.2 ⟨x, hx, rfl⟩)
        have e : x.pl.l = x.l := rfl
        rw [e] at this
        omega
      go_wp2_with fail
      refine (own_any p8 c8 R w8 (by have := HRl.out; omega) hin).mono ?_
      rintro e w9 ⟨q9, c9, rfl, hin9, -, hc9, hb9⟩
      have H5 := Lib.hid (H4.out.step (bstep hb8 hb9))
      have HI5 := Lib.hid (H5.out.ein2 HIN.out HF.out (fun k o h1 h2 => .inr ⟨h1, h2⟩))
      have HI9 := Lib.hid hin9
      have HRF := Lib.hid hRf
      have HC9 := Lib.hid hc9
      have HPR := Lib.hid hpl
      have h5 := H5.out.cells (List.mem_cons_of_mem _ (List.mem_cons_self ..))
      have HB9 := Lib.hid H5.out.bl
      clear hin hfr hb8 hin9 hb9 hpl hRf hc9 H4 HIN HF HMX HX100
      have HWY := Lib.hid (doP_ways GD.out x HD.out)
      by_cases hn0 : n = 0
      · subst hn0
        go_upto_block 2 with fail
        go_cut [16] (fun a wx => ∃ A : Nat, a = .int .i64 A ∧ Part (N.map Ep.pl) (R.map Ep.pl) A ∧ Below w9.heap.size w9 wx)
        case first =>
          as_aux_lemma =>
          go_wp2_with fail
          go_loopw [16] (fun a wr => PtRel (N.map Ep.pl) (R.map Ep.pl) a w9 wr) (fun a _ => N.length - (intOf a).toNat)
          case atStart => exact ⟨0, rfl, Nat.zero_le _, Nat.zero_le _, fun j hj => by omega, Below.refl _ _⟩
          case round =>
            obtain ⟨k', rfl, h1, h2, heq, hb⟩ := hrel
            have HJ := Lib.hid heq
            have HB := Lib.hid hb
            rw [List.length_map] at h1 h2
            clear heq hb
            have hN5 : N.length ≤ 5000 := by have := HNl.out; omega
            have hR5 : R.length ≤ 5000 := by have := HRl.out; omega
            by_cases hk1 : k' < N.length
            · have d1 : decide ((k' : Int) < (N.length : Int)) = true := by simp; omega
              by_cases hk2 : k' < R.length
              · have d2 : decide ((k' : Int) < (R.length : Int)) = true := by simp; omega
                obtain ⟨u, hu⟩ : ∃ u, N[k']? = some u := ⟨_, List.getElem?_eq_getElem hk1⟩
                obtain ⟨v, hv⟩ : ∃ v, R[k']? = some v := ⟨_, List.getElem?_eq_getElem hk2⟩
                obtain ⟨⟨g, o, rfl, hg, hr⟩, hmx⟩ := (HI5.out.step HB.out).at hu
                obtain ⟨⟨g', o', rfl, hg', hr'⟩, hmy⟩ := (HI9.out.step HB.out).at hv
                have HC := Lib.hid (fun (W : World) (hw : Below wr.heap.size wr W) => one_any u v W (HNF.out u (List.mem_of_getElem? hu)) (hmx.step hw) (hmy.step hw))
                have HX := Lib.hid (pl_at hu)
                have HY := Lib.hid (pl_at hv)
                have hS : wr.rangeAt g (o + k' * 17) (ecells u).toList ∧ wr.rangeAt g' (o' + k' * 17) (ecells v).toList := ⟨hr, hr'⟩
                have HS := Lib.hid (fun (W : World) (hw : Below wr.heap.size wr W) => (⟨fun j v hv => (hw.cell (p := ⟨g, o + k' * 17 + j, none⟩) hg).trans (hr j v hv), fun j v hv => (hw.cell (p := ⟨g', o' + k' * 17 + j, none⟩) hg').trans (hr' j v hv)⟩ : W.rangeAt g (o + k' * 17) (ecells u).toList ∧ W.rangeAt g' (o' + k' * 17) (ecells v).toList))
                clear hu hv hr hr' hmx hmy
                go_wp2_with fail
                refine wp_region_noPanic ?_
                refine wp_region_held_drew (S := fun w' => w'.rangeAt g (o + k' * 17) (ecells u).toList ∧ w'.rangeAt g' (o' + k' * 17) (ecells v).toList) (by kernel_rfl) hS (fun hh0 => ?_)
                have HW := Lib.hid ((Below.refl wr.heap.size wr).drew)
                generalize World.drew wr = w2 at *
                refine wpAnyH_take (fuel := 20) (i := 0) (oi := ⟨some 62, _, _, _, _, _⟩) (v := .int .i64 k') rfl (by kernel_rfl) (by kernel_rfl) (by kernel_rfl) (fun _ _ _ h => h) (Or.inl ⟨by rfl, ?_⟩) hh0 ?_
                · intro w' _
                  go_simp
                simp only [Act.put, List.setIfInBounds_toArray, List.set_cons_zero, List.set_cons_succ]
                refine wpAnyH_take (fuel := 19) (i := 1) (oi := ⟨some 63, _, _, _, _, _⟩) (v := .slice (some ⟨g, o, none⟩) N.length c5) rfl (by kernel_rfl) (by kernel_rfl) (by kernel_rfl) (fun _ _ _ h => h) (Or.inl ⟨by rfl, ?_⟩) hh0 ?_
                · intro w' _
                  go_simp
                simp only [Act.put, List.setIfInBounds_toArray, List.set_cons_zero, List.set_cons_succ]
                refine wpAnyH_take (fuel := 18) (i := 2) (oi := ⟨some 64, _, _, _, _, _⟩) (v := .int .i64 N.length) rfl (by kernel_rfl) (by kernel_rfl) (by kernel_rfl) (fun _ _ _ h => h) (Or.inl ⟨by rfl, ?_⟩) hh0 ?_
                · intro w' _
                  go_simp
                simp only [Act.put, List.setIfInBounds_toArray, List.set_cons_zero, List.set_cons_succ]
                refine wpAnyH_take (fuel := 17) (i := 3) (oi := ⟨some 65, _, _, _, _, _⟩) (v := .bool true) rfl (by kernel_rfl) (by kernel_rfl) (by kernel_rfl) (fun _ _ _ h => h) (Or.inl ⟨by rfl, ?_⟩) hh0 ?_
                · intro w' _
                  go_simp
                simp only [Act.put, List.setIfInBounds_toArray, List.set_cons_zero, List.set_cons_succ]
                refine wpAnyH_take (fuel := 16) (i := 4) (oi := ⟨some 66, _, _, _, _, _⟩) (v := .bool true) rfl (by kernel_rfl) (by kernel_rfl) (by kernel_rfl) (fun _ _ _ h => h) (Or.inl ⟨by rfl, ?_⟩) hh0 ?_
                · intro w' _
                  go_simp
                simp only [Act.put, List.setIfInBounds_toArray, List.set_cons_zero, List.set_cons_succ]
                refine wpAnyH_take (fuel := 15) (i := 5) (oi := ⟨some 67, _, _, _, _, _⟩) (v := .int .i64 k') rfl (by kernel_rfl) (by kernel_rfl) (by kernel_rfl) (fun _ _ _ h => h) (Or.inl ⟨by rfl, ?_⟩) hh0 ?_
                · intro w' _
                  go_simp
                simp only [Act.put, List.setIfInBounds_toArray, List.set_cons_zero, List.set_cons_succ]
                refine wpAnyH_take (fuel := 14) (i := 6) (oi := ⟨some 68, _, _, _, _, _⟩) (v := .slice (some ⟨g', o', none⟩) R.length c9) rfl (by kernel_rfl) (by kernel_rfl) (by kernel_rfl) (fun _ _ _ h => h) (Or.inl ⟨by rfl, ?_⟩) hh0 ?_
                · intro w' _
                  go_simp
                simp only [Act.put, List.setIfInBounds_toArray, List.set_cons_zero, List.set_cons_succ]
                refine wpAnyH_take (fuel := 13) (i := 7) (oi := ⟨some 69, _, _, _, _, _⟩) (v := .int .i64 R.length) rfl (by kernel_rfl) (by kernel_rfl) (by kernel_rfl) (fun _ _ _ h => h) (Or.inl ⟨by rfl, ?_⟩) hh0 ?_
                · intro w' _
                  go_simp
                simp only [Act.put, List.setIfInBounds_toArray, List.set_cons_zero, List.set_cons_succ]
                refine wpAnyH_take (fuel := 12) (i := 8) (oi := ⟨some 70, _, _, _, _, _⟩) (v := .bool true) rfl (by kernel_rfl) (by kernel_rfl) (by kernel_rfl) (fun _ _ _ h => h) (Or.inl ⟨by rfl, ?_⟩) hh0 ?_
                · intro w' _
                  go_simp
                simp only [Act.put, List.setIfInBounds_toArray, List.set_cons_zero, List.set_cons_succ]
                refine wpAnyH_take (fuel := 11) (i := 9) (oi := ⟨some 71, _, _, _, _, _⟩) (v := .bool true) rfl (by kernel_rfl) (by kernel_rfl) (by kernel_rfl) (fun _ _ _ h => h) (Or.inl ⟨by rfl, ?_⟩) hh0 ?_
                · intro w' _
                  go_simp
                simp only [Act.put, List.setIfInBounds_toArray, List.set_cons_zero, List.set_cons_succ]
                refine wpAnyH_take (fuel := 10) (i := 10) (oi := ⟨some 72, _, _, _, _, _⟩) (v := .bool true) rfl (by kernel_rfl) (by kernel_rfl) (by kernel_rfl) (fun _ _ _ h => h) (Or.inl ⟨by rfl, ?_⟩) hh0 ?_
                · intro w' _
                  go_simp
                simp only [Act.put, List.setIfInBounds_toArray, List.set_cons_zero, List.set_cons_succ]
                refine wpAnyH_take (fuel := 9) (i := 11) (oi := ⟨some 73, _, _, _, _, _⟩) (v := .slice (some ⟨g, o, none⟩) N.length c5) rfl (by kernel_rfl) (by kernel_rfl) (by kernel_rfl) (fun _ _ _ h => h) (Or.inl ⟨by rfl, ?_⟩) hh0 ?_
                · intro w' _
                  go_simp
                simp only [Act.put, List.setIfInBounds_toArray, List.set_cons_zero, List.set_cons_succ]
                refine wpAnyH_take (fuel := 8) (i := 12) (oi := ⟨some 74, _, _, _, _, _⟩) (v := .int .i64 k') rfl (by kernel_rfl) (by kernel_rfl) (by kernel_rfl) (fun _ _ _ h => h) (Or.inl ⟨by rfl, ?_⟩) hh0 ?_
                · intro w' _
                  go_simp
                simp only [Act.put, List.setIfInBounds_toArray, List.set_cons_zero, List.set_cons_succ]
                refine wpAnyH_take (fuel := 7) (i := 13) (oi := ⟨some 75, _, _, _, _, _⟩) (v := .pointer (some ⟨g, o + k' * 17, none⟩)) rfl (by kernel_rfl) (by kernel_rfl) (by kernel_rfl) (fun _ _ _ h => h) (Or.inl ⟨by rfl, ?_⟩) hh0 ?_
                · intro w' _
                  go_simp
                simp only [Act.put, List.setIfInBounds_toArray, List.set_cons_zero, List.set_cons_succ]
                refine wpAnyH_take (fuel := 6) (i := 14) (oi := ⟨some 76, _, _, _, _, _⟩) (v := .agg (ecells u)) rfl (by kernel_rfl) (by kernel_rfl) (by kernel_rfl) (fun _ _ _ h => h) (yields_load_at (by rfl) 61 (.tmp 75) rfl g (o + k' * 17) rfl (ecells u) _ (fun w' h => h.1) Try.underlying61 rfl (by kernel_rfl)) hh0 ?_
                simp only [Act.put, List.setIfInBounds_toArray, List.set_cons_zero, List.set_cons_succ]
                refine wpAnyH_take (fuel := 5) (i := 15) (oi := ⟨some 77, _, _, _, _, _⟩) (v := .slice (some ⟨g', o', none⟩) R.length c9) rfl (by kernel_rfl) (by kernel_rfl) (by kernel_rfl) (fun _ _ _ h => h) (Or.inl ⟨by rfl, ?_⟩) hh0 ?_
                · intro w' _
                  go_simp
                simp only [Act.put, List.setIfInBounds_toArray, List.set_cons_zero, List.set_cons_succ]
                refine wpAnyH_take (fuel := 4) (i := 16) (oi := ⟨some 78, _, _, _, _, _⟩) (v := .int .i64 k') rfl (by kernel_rfl) (by kernel_rfl) (by kernel_rfl) (fun _ _ _ h => h) (Or.inl ⟨by rfl, ?_⟩) hh0 ?_
                · intro w' _
                  go_simp
                simp only [Act.put, List.setIfInBounds_toArray, List.set_cons_zero, List.set_cons_succ]
                refine wpAnyH_take (fuel := 3) (i := 17) (oi := ⟨some 79, _, _, _, _, _⟩) (v := .pointer (some ⟨g', o' + k' * 17, none⟩)) rfl (by kernel_rfl) (by kernel_rfl) (by kernel_rfl) (fun _ _ _ h => h) (Or.inl ⟨by rfl, ?_⟩) hh0 ?_
                · intro w' _
                  go_simp
                simp only [Act.put, List.setIfInBounds_toArray, List.set_cons_zero, List.set_cons_succ]
                refine wpAnyH_take (fuel := 2) (i := 18) (oi := ⟨some 80, _, _, _, _, _⟩) (v := .agg (ecells v)) rfl (by kernel_rfl) (by kernel_rfl) (by kernel_rfl) (fun _ _ _ h => h) (yields_load_at (by rfl) 61 (.tmp 79) rfl g' (o' + k' * 17) rfl (ecells v) _ (fun w' h => h.2) Try.underlying61 rfl (by kernel_rfl)) hh0 ?_
                simp only [Act.put, List.setIfInBounds_toArray, List.set_cons_zero, List.set_cons_succ]
                refine wpAnyH_ready (fuel := 1) (rs := [19]) (by kernel_rfl) (by simp) ?_
                refine AllReadyH.cons (o := ⟨some 81, _, _, _, _, _⟩) rfl (fun P hP => ?_) AllReadyH.nil
                go_simp
                refine (HC.out w2 HW.out).mono ?_
                rintro e w3 ⟨rfl, hb3⟩
                have HB3 := Lib.hid (bstep HW.out hb3)
                clear hb3
                show P _ _
                refine hP.out _ _ (HS.out _ HB3.out) (fun hh1 => ?_)
                clear hP P hh0
                try simp only [Act.put, List.setIfInBounds_toArray, List.set_cons_zero, List.set_cons_succ]
                refine wpAnyH_take (fuel := 0) (i := 20) (oi := ⟨some 82, _, _, _, _, _⟩) (v := .bool (decide (u.pl = v.pl))) rfl (by kernel_rfl) (by kernel_rfl) (by kernel_rfl) (fun _ _ _ h => h) (Or.inl ⟨by rfl, ?_⟩) hh1 ?_
                · intro w' _
                  go_simp
                simp only [Act.put, List.setIfInBounds_toArray, List.set_cons_zero, List.set_cons_succ]
                refine wpAnyH_done (by kernel_rfl) ?_ _
                refine NoPanic.normal ?_
                clear hh1
                have HB4 := Lib.hid (bstep HB.out HB3.out)
                by_cases hxy : u.pl = v.pl
                · have hd : decide (u.pl = v.pl) = true := by simp [hxy]
                  rw [hd]
                  have HE := Lib.hid hxy
                  clear hxy hd hS
                  go_wp2
                  go_roundw
                  case rel => exact ⟨k' + 1, by go_num, by simp; omega, by simp; omega, fun j hj => by rcases Nat.lt_or_ge j k' with h | h; exact HJ.out j h; (rw [show j = k' by omega, HX.out, HY.out, HE.out]), HB4.out⟩
                  case measure => simp [intOf]; omega
                · have hd : decide (u.pl = v.pl) = false := by simp [hxy]
                  rw [hd]
                  have HP : Hid (Part (N.map Ep.pl) (R.map Ep.pl) k') := Lib.hid ⟨by simpa using h1, by simpa using h2, HJ.out, fun _ _ e => by rw [HX.out, HY.out] at e; exact hxy (Option.some.inj e)⟩
                  clear hxy hd hS
                  go_wp2
                  go_meet
                  case rel => exact ⟨k', rfl, HP.out, HB4.out⟩
              · have d2 : decide ((k' : Int) < (R.length : Int)) = false := by simp; omega
                have HP : Hid (Part (N.map Ep.pl) (R.map Ep.pl) k') := Lib.hid ⟨by simpa using h1, by simpa using h2, HJ.out, fun _ h => by rw [List.length_map] at h; omega⟩
                go_wp2
                go_quiet (fail)
                go_wp2
                go_meet
                case rel => exact ⟨k', rfl, HP.out, below_drewN HB.out _⟩
            · have d1 : decide ((k' : Int) < (N.length : Int)) = false := by simp; omega
              have HP : Hid (Part (N.map Ep.pl) (R.map Ep.pl) k') := Lib.hid ⟨by simpa using h1, by simpa using h2, HJ.out, fun h => by rw [List.length_map] at h; omega⟩
              go_wp2
              go_quiet (fail)
              go_wp2
              go_meet
              case rel => exact ⟨k', rfl, HP.out, below_drewN HB.out _⟩
        case rest =>
          obtain ⟨A, rfl, hp, hb⟩ := hcut
          have HPA := Lib.hid hp
          have H6 := Lib.hid (H5.out.step hb)
          have HJ5 := Lib.hid (HI5.out.step hb)
          have HJ9 := Lib.hid (HI9.out.step hb)
          clear hp hb H5 HI5 HI9 h5
          have hN5 : N.length ≤ 5000 := by have := HNl.out; omega
          have hR5 : R.length ≤ 5000 := by have := HRl.out; omega
          have HCEL : Hid (∀ W, Below wc.heap.size wc W → ∀ o, W.cell? ⟨w.heap.size, o, none⟩ = (ocells x)[o]?) := Lib.hid (fun W hW => (H6.out.step hW).cells (List.mem_cons_of_mem _ (List.mem_cons_self ..)))
          have HB6 := Lib.hid H6.out.bl
          have hLN : L.length = N.length := HNl.out.symm
          have hMR : M.length = R.length := HRl.out.symm
          rcases HWY.out with ⟨h, _⟩ | ⟨-, k0, hM⟩ | ⟨-, k0, k1, i, hi, hM⟩ | ⟨-, hk, i, z, z', hxn, hz, hM, hzm, hzs, hzn, -⟩
          · exact absurd rfl h
          · have hP := HPA.out
            rw [HPL.out, HPR.out, hM] at hP
            have hA : A = N.length := by have := hP.append; omega
            have hRN : R.length = N.length + 1 := by rw [← hMR, hM, ← hLN]; simp
            have hAR : A < R.length := by omega
            have b1 : ((R.length : Int) - (N.length : Int) == 1) = true := by simp; omega
            have b2 : ((A : Int) == (N.length : Int)) = true := by simp; omega
            have kb : (x.k == 0) = true := by simpa using k0
            obtain ⟨v, hv⟩ : ∃ v, R[A]? = some v := ⟨_, List.getElem?_eq_getElem hAR⟩
            have hvp : v.pl = (⟨x.m, false, [], none, 0⟩ : Ep).pl := by
              have h1 := pl_at hv
              rw [HPR.out, hM, hA, ← hLN, List.getElem?_append_right (Nat.le_refl _), Nat.sub_self] at h1
              exact (Option.some.inj h1).symm
            have HVD : Hid (decide (v.pl = (⟨x.m, false, [], none, 0⟩ : Ep).pl) = true) := Lib.hid (by simp [hvp])
            obtain ⟨⟨g', o', rfl, hg', hr'⟩, hmy⟩ := HJ9.out.at hv
            have HC := Lib.hid (fun (W : World) (hw : Below wc.heap.size wc W) => by
              have := one_any v ⟨x.m, false, [], none, 0⟩ W (HRF.out v (List.mem_of_getElem? hv)) (hmy.step hw) (MIn.nil _ _)
              rw [HVD.out] at this
              exact this)
            have HS := Lib.hid (fun (W : World) (hw : Below wc.heap.size wc W) => (⟨fun j v hv => (hw.cell (p := ⟨g', o' + A * 17 + j, none⟩) hg').trans (hr' j v hv), HCEL.out W hw⟩ : W.rangeAt g' (o' + A * 17) (ecells v).toList ∧ (∀ o, W.cell? ⟨w.heap.size, o, none⟩ = (ocells x)[o]?)))
            have HA := Lib.hid hA
            clear hP hA hRN hv hvp hr' hmy hM k0 hMR hLN HWY HD GD
            focus
              go_wp2_with fail
              refine wp_region_noPanic ?_
              refine wp_region_held_drew (S := fun w' => w'.rangeAt g' (o' + A * 17) (ecells v).toList ∧ (∀ o, w'.cell? ⟨w.heap.size, o, none⟩ = (ocells x)[o]?)) (by kernel_rfl) (HS.out _ (Below.refl _ _).drew) (fun hh0 => ?_)
              have HW := Lib.hid ((Below.refl wc.heap.size wc).drew)
              generalize World.drew wc = w2 at *
              refine wpAnyH_take (fuel := 19) (i := 0) (oi := ⟨some 92, _, _, _, _, _⟩) (v := .pointer (some ⟨w.heap.size, 0, none⟩)) rfl (by kernel_rfl) (by kernel_rfl) (by kernel_rfl) (fun _ _ _ h => h) (Or.inl ⟨by rfl, ?_⟩) hh0 ?_
              · rintro w' hSS
                obtain ⟨-, hbx⟩ := hSS
                go_simp
              simp only [Act.put, List.setIfInBounds_toArray, List.set_cons_zero, List.set_cons_succ]
              refine wpAnyH_take (fuel := 18) (i := 1) (oi := ⟨some 93, _, _, _, _, _⟩) (v := .int .i64 x.k) rfl (by kernel_rfl) (by kernel_rfl) (by kernel_rfl) (fun _ _ _ h => h) (Or.inl ⟨by rfl, ?_⟩) hh0 ?_
              · rintro w' hSS
                obtain ⟨-, hbx⟩ := hSS
                go_simp
              simp only [Act.put, List.setIfInBounds_toArray, List.set_cons_zero, List.set_cons_succ]
              refine wpAnyH_take (fuel := 17) (i := 2) (oi := ⟨some 94, _, _, _, _, _⟩) (v := .bool true) rfl (by kernel_rfl) (by kernel_rfl) (by kernel_rfl) (fun _ _ _ h => h) (Or.inl ⟨by rfl, ?_⟩) hh0 ?_
              · rintro w' hSS
                obtain ⟨-, hbx⟩ := hSS
                go_simp
              simp only [Act.put, List.setIfInBounds_toArray, List.set_cons_zero, List.set_cons_succ]
              refine wpAnyH_take (fuel := 16) (i := 3) (oi := ⟨some 95, _, _, _, _, _⟩) (v := .bool true) rfl (by kernel_rfl) (by kernel_rfl) (by kernel_rfl) (fun _ _ _ h => h) (Or.inl ⟨by rfl, ?_⟩) hh0 ?_
              · rintro w' hSS
                obtain ⟨-, hbx⟩ := hSS
                go_simp
              simp only [Act.put, List.setIfInBounds_toArray, List.set_cons_zero, List.set_cons_succ]
              refine wpAnyH_take (fuel := 15) (i := 4) (oi := ⟨some 96, _, _, _, _, _⟩) (v := .int .i64 A) rfl (by kernel_rfl) (by kernel_rfl) (by kernel_rfl) (fun _ _ _ h => h) (Or.inl ⟨by rfl, ?_⟩) hh0 ?_
              · rintro w' hSS
                obtain ⟨-, hbx⟩ := hSS
                go_simp
              simp only [Act.put, List.setIfInBounds_toArray, List.set_cons_zero, List.set_cons_succ]
              refine wpAnyH_take (fuel := 14) (i := 5) (oi := ⟨some 97, _, _, _, _, _⟩) (v := .slice q5 N.length c5) rfl (by kernel_rfl) (by kernel_rfl) (by kernel_rfl) (fun _ _ _ h => h) (Or.inl ⟨by rfl, ?_⟩) hh0 ?_
              · rintro w' hSS
                obtain ⟨-, hbx⟩ := hSS
                go_simp
              simp only [Act.put, List.setIfInBounds_toArray, List.set_cons_zero, List.set_cons_succ]
              refine wpAnyH_take (fuel := 13) (i := 6) (oi := ⟨some 98, _, _, _, _, _⟩) (v := .int .i64 N.length) rfl (by kernel_rfl) (by kernel_rfl) (by kernel_rfl) (fun _ _ _ h => h) (Or.inl ⟨by rfl, ?_⟩) hh0 ?_
              · rintro w' hSS
                obtain ⟨-, hbx⟩ := hSS
                go_simp
              simp only [Act.put, List.setIfInBounds_toArray, List.set_cons_zero, List.set_cons_succ]
              refine wpAnyH_take (fuel := 12) (i := 7) (oi := ⟨some 99, _, _, _, _, _⟩) (v := .bool true) rfl (by kernel_rfl) (by kernel_rfl) (by kernel_rfl) (fun _ _ _ h => h) (Or.inl ⟨by rfl, ?_⟩) hh0 ?_
              · rintro w' hSS
                obtain ⟨-, hbx⟩ := hSS
                go_simp
              simp only [Act.put, List.setIfInBounds_toArray, List.set_cons_zero, List.set_cons_succ]
              refine wpAnyH_take (fuel := 11) (i := 8) (oi := ⟨some 100, _, _, _, _, _⟩) (v := .bool true) rfl (by kernel_rfl) (by kernel_rfl) (by kernel_rfl) (fun _ _ _ h => h) (Or.inl ⟨by rfl, ?_⟩) hh0 ?_
              · rintro w' hSS
                obtain ⟨-, hbx⟩ := hSS
                go_simp
              simp only [Act.put, List.setIfInBounds_toArray, List.set_cons_zero, List.set_cons_succ]
              refine wpAnyH_take (fuel := 10) (i := 9) (oi := ⟨some 101, _, _, _, _, _⟩) (v := .bool true) rfl (by kernel_rfl) (by kernel_rfl) (by kernel_rfl) (fun _ _ _ h => h) (Or.inl ⟨by rfl, ?_⟩) hh0 ?_
              · rintro w' hSS
                obtain ⟨-, hbx⟩ := hSS
                go_simp
              simp only [Act.put, List.setIfInBounds_toArray, List.set_cons_zero, List.set_cons_succ]
              refine wpAnyH_take (fuel := 9) (i := 10) (oi := ⟨some 102, _, _, _, _, _⟩) (v := .slice (some ⟨g', o', none⟩) R.length c9) rfl (by kernel_rfl) (by kernel_rfl) (by kernel_rfl) (fun _ _ _ h => h) (Or.inl ⟨by rfl, ?_⟩) hh0 ?_
              · rintro w' hSS
                obtain ⟨-, hbx⟩ := hSS
                go_simp
              simp only [Act.put, List.setIfInBounds_toArray, List.set_cons_zero, List.set_cons_succ]
              refine wpAnyH_take (fuel := 8) (i := 11) (oi := ⟨some 103, _, _, _, _, _⟩) (v := .int .i64 A) rfl (by kernel_rfl) (by kernel_rfl) (by kernel_rfl) (fun _ _ _ h => h) (Or.inl ⟨by rfl, ?_⟩) hh0 ?_
              · rintro w' hSS
                obtain ⟨-, hbx⟩ := hSS
                go_simp
              simp only [Act.put, List.setIfInBounds_toArray, List.set_cons_zero, List.set_cons_succ]
              refine wpAnyH_take (fuel := 7) (i := 12) (oi := ⟨some 104, _, _, _, _, _⟩) (v := .pointer (some ⟨g', o' + A * 17, none⟩)) rfl (by kernel_rfl) (by kernel_rfl) (by kernel_rfl) (fun _ _ _ h => h) (Or.inl ⟨by rfl, ?_⟩) hh0 ?_
              · rintro w' hSS
                obtain ⟨-, hbx⟩ := hSS
                go_simp
              simp only [Act.put, List.setIfInBounds_toArray, List.set_cons_zero, List.set_cons_succ]
              refine wpAnyH_take (fuel := 6) (i := 13) (oi := ⟨some 105, _, _, _, _, _⟩) (v := .agg (ecells v)) rfl (by kernel_rfl) (by kernel_rfl) (by kernel_rfl) (fun _ _ _ h => h) (yields_load_at (by rfl) 61 (.tmp 104) rfl g' (o' + A * 17) rfl (ecells v) _ (fun w' h => h.1) Try.underlying61 rfl (by kernel_rfl)) hh0 ?_
              simp only [Act.put, List.setIfInBounds_toArray, List.set_cons_zero, List.set_cons_succ]
              refine wpAnyH_take (fuel := 5) (i := 14) (oi := ⟨some 106, _, _, _, _, _⟩) (v := .pointer (some ⟨w.heap.size, 2, none⟩)) rfl (by kernel_rfl) (by kernel_rfl) (by kernel_rfl) (fun _ _ _ h => h) (Or.inl ⟨by rfl, ?_⟩) hh0 ?_
              · rintro w' hSS
                obtain ⟨-, hbx⟩ := hSS
                go_simp
              simp only [Act.put, List.setIfInBounds_toArray, List.set_cons_zero, List.set_cons_succ]
              refine wpAnyH_take (fuel := 4) (i := 15) (oi := ⟨some 107, _, _, _, _, _⟩) (v := mv x.m) rfl (by kernel_rfl) (by kernel_rfl) (by kernel_rfl) (fun _ _ _ h => h) (yields_load_at (by rfl) 35 (.tmp 106) rfl w.heap.size 2 rfl (mcells x.m) _ (fun w' h => op_msg' h.2) Try.underlying35 rfl (by kernel_rfl)) hh0 ?_
              simp only [Act.put, List.setIfInBounds_toArray, List.set_cons_zero, List.set_cons_succ]
              refine wpAnyH_take (fuel := 3) (i := 16) (oi := ⟨some 108, _, _, _, _, _⟩) (v := .agg (ecells ⟨x.m, false, [], none, 0⟩)) rfl (by kernel_rfl) (by kernel_rfl) (by kernel_rfl) (fun _ _ _ h => h) (Or.inl ⟨by rfl, ?_⟩) hh0 ?_
              · rintro w' hSS
                obtain ⟨-, hbx⟩ := hSS
                go_simp
              simp only [Act.put, List.setIfInBounds_toArray, List.set_cons_zero, List.set_cons_succ]
              refine wpAnyH_ready (fuel := 2) (rs := [17]) (by kernel_rfl) (by simp) ?_
              refine AllReadyH.cons (o := ⟨some 109, _, _, _, _, _⟩) rfl (fun P hP => ?_) AllReadyH.nil
              go_simp
              refine (HC.out w2 HW.out).mono ?_
              rintro e w3 ⟨rfl, hb3⟩
              have HB3 := Lib.hid (bstep HW.out hb3)
              clear hb3
              show P _ _
              refine hP.out _ _ (HS.out _ HB3.out) (fun hh1 => ?_)
              clear hP P hh0
              try simp only [Act.put, List.setIfInBounds_toArray, List.set_cons_zero, List.set_cons_succ]
              refine wpAnyH_take (fuel := 1) (i := 18) (oi := ⟨some 110, _, _, _, _, _⟩) (v := .bool true) rfl (by kernel_rfl) (by kernel_rfl) (by kernel_rfl) (fun _ _ _ h => h) (Or.inl ⟨by rfl, ?_⟩) hh1 ?_
              · rintro w' hSS
                obtain ⟨-, hbx⟩ := hSS
                go_simp
              simp only [Act.put, List.setIfInBounds_toArray, List.set_cons_zero, List.set_cons_succ]
              refine wpAnyH_take (fuel := 0) (i := 19) (oi := ⟨some 6, _, _, _, _, _⟩) (v := .bool true) rfl (by kernel_rfl) (by kernel_rfl) (by kernel_rfl) (fun _ _ _ h => h) (Or.inl ⟨by rfl, ?_⟩) hh1 ?_
              · rintro w' hSS
                obtain ⟨-, hbx⟩ := hSS
                go_simp
              simp only [Act.put, List.setIfInBounds_toArray, List.set_cons_zero, List.set_cons_succ]
              refine wpAnyH_done (by kernel_rfl) ?_ _
              refine NoPanic.normal ?_
              clear hh1
              have HF := Lib.hid (bstep HB6.out HB3.out)
              go_wp2
              go_ret
              exact ⟨rfl, HF.out⟩
          · have hP := HPA.out
            rw [HPL.out, HPR.out, hM] at hP
            obtain ⟨hAL, hdr⟩ := hP.erase hi
            have hel := List.length_eraseIdx_of_lt hi
            have hRN : R.length + 1 = N.length := by rw [← hMR, hM, ← hLN, hel]; omega
            have hAN : A + 1 ≤ N.length := by omega
            have hAR : A ≤ R.length := by omega
            have b1 : ((R.length : Int) - (N.length : Int) == 1) = false := by simp; omega
            have b2 : ((R.length : Int) - (N.length : Int) == -1) = true := by simp; omega
            have kb : (x.k != 0) = true := by simpa using k0
            have kc : (x.k != 1) = true := by simpa using k1
            obtain ⟨D5, hsl5, he5⟩ := slice_from q5 N.length c5 (A + 1) hAN
            obtain ⟨D9, hsl9, he9⟩ := slice_from q9 R.length c9 A hAR
            have hw1 : IntKind.i64.wrap ((A : Int) + 1) = (A : Int) + 1 := by rw [IntKind.wrap_i64]; omega
            have hs5 : ∀ w, (Instr.slice 48 (.slice q5 N.length c5) (some (.int .i64 ((A : Int) + 1))) none none).run Try.prog w = .ok (.slice D5 (N.length - (A + 1)) (c5 - (A + 1))) w := hsl5
            have HE : Hid (decide ((N.drop (A + 1)).map Ep.pl = (R.drop A).map Ep.pl) = true) := Lib.hid (by rw [decide_eq_true_iff, List.map_drop, List.map_drop, HPL.out, HPR.out, hM]; exact hdr)
            have HC := Lib.hid (fun (W : World) (hw : Below wc.heap.size wc W) => by
              have := same_any D5 D9 (c5 - (A + 1)) (c9 - A) (N.drop (A + 1)) (R.drop A) W (by rw [List.length_drop]; omega) (fun x hx => HNF.out x (List.mem_of_mem_drop hx)) (he5 W N (HJ5.out.step hw) rfl HC5.out) (he9 W R (HJ9.out.step hw) rfl HC9.out)
              rw [HE.out, List.length_drop, List.length_drop] at this
              exact this)
            have HS := HCEL
            clear hP hAL hdr hel hRN hi hM k0 k1 hMR hLN HWY HD GD hsl5 he5 he9 HE
            as_aux_lemma =>
              go_wp2_with fail
              refine wp_region_noPanic ?_
              refine wp_region_held_drew (S := fun w' => ∀ o, w'.cell? ⟨w.heap.size, o, none⟩ = (ocells x)[o]?) (by kernel_rfl) (HS.out _ (Below.refl _ _).drew) (fun hh0 => ?_)
              have HW := Lib.hid ((Below.refl wc.heap.size wc).drew)
              generalize World.drew wc = w2 at *
              refine wpAnyH_take (fuel := 18) (i := 0) (oi := ⟨some 113, _, _, _, _, _⟩) (v := .pointer (some ⟨w.heap.size, 0, none⟩)) rfl (by kernel_rfl) (by kernel_rfl) (by kernel_rfl) (fun _ _ _ h => h) (Or.inl ⟨by rfl, ?_⟩) hh0 ?_
              · rintro w' hSS
                have hbx := hSS
                go_simp
              simp only [Act.put, List.setIfInBounds_toArray, List.set_cons_zero, List.set_cons_succ]
              refine wpAnyH_take (fuel := 17) (i := 1) (oi := ⟨some 114, _, _, _, _, _⟩) (v := .int .i64 x.k) rfl (by kernel_rfl) (by kernel_rfl) (by kernel_rfl) (fun _ _ _ h => h) (Or.inl ⟨by rfl, ?_⟩) hh0 ?_
              · rintro w' hSS
                have hbx := hSS
                go_simp
              simp only [Act.put, List.setIfInBounds_toArray, List.set_cons_zero, List.set_cons_succ]
              refine wpAnyH_take (fuel := 16) (i := 2) (oi := ⟨some 115, _, _, _, _, _⟩) (v := .bool true) rfl (by kernel_rfl) (by kernel_rfl) (by kernel_rfl) (fun _ _ _ h => h) (Or.inl ⟨by rfl, ?_⟩) hh0 ?_
              · rintro w' hSS
                have hbx := hSS
                go_simp
              simp only [Act.put, List.setIfInBounds_toArray, List.set_cons_zero, List.set_cons_succ]
              refine wpAnyH_take (fuel := 15) (i := 3) (oi := ⟨some 116, _, _, _, _, _⟩) (v := .bool true) rfl (by kernel_rfl) (by kernel_rfl) (by kernel_rfl) (fun _ _ _ h => h) (Or.inl ⟨by rfl, ?_⟩) hh0 ?_
              · rintro w' hSS
                have hbx := hSS
                go_simp
              simp only [Act.put, List.setIfInBounds_toArray, List.set_cons_zero, List.set_cons_succ]
              refine wpAnyH_take (fuel := 14) (i := 4) (oi := ⟨some 117, _, _, _, _, _⟩) (v := .pointer (some ⟨w.heap.size, 0, none⟩)) rfl (by kernel_rfl) (by kernel_rfl) (by kernel_rfl) (fun _ _ _ h => h) (Or.inl ⟨by rfl, ?_⟩) hh0 ?_
              · rintro w' hSS
                have hbx := hSS
                go_simp
              simp only [Act.put, List.setIfInBounds_toArray, List.set_cons_zero, List.set_cons_succ]
              refine wpAnyH_take (fuel := 13) (i := 5) (oi := ⟨some 118, _, _, _, _, _⟩) (v := .int .i64 x.k) rfl (by kernel_rfl) (by kernel_rfl) (by kernel_rfl) (fun _ _ _ h => h) (Or.inl ⟨by rfl, ?_⟩) hh0 ?_
              · rintro w' hSS
                have hbx := hSS
                go_simp
              simp only [Act.put, List.setIfInBounds_toArray, List.set_cons_zero, List.set_cons_succ]
              refine wpAnyH_take (fuel := 12) (i := 6) (oi := ⟨some 119, _, _, _, _, _⟩) (v := .bool true) rfl (by kernel_rfl) (by kernel_rfl) (by kernel_rfl) (fun _ _ _ h => h) (Or.inl ⟨by rfl, ?_⟩) hh0 ?_
              · rintro w' hSS
                have hbx := hSS
                go_simp
              simp only [Act.put, List.setIfInBounds_toArray, List.set_cons_zero, List.set_cons_succ]
              refine wpAnyH_take (fuel := 11) (i := 7) (oi := ⟨some 120, _, _, _, _, _⟩) (v := .bool true) rfl (by kernel_rfl) (by kernel_rfl) (by kernel_rfl) (fun _ _ _ h => h) (Or.inl ⟨by rfl, ?_⟩) hh0 ?_
              · rintro w' hSS
                have hbx := hSS
                go_simp
              simp only [Act.put, List.setIfInBounds_toArray, List.set_cons_zero, List.set_cons_succ]
              refine wpAnyH_take (fuel := 10) (i := 8) (oi := ⟨some 121, _, _, _, _, _⟩) (v := .bool true) rfl (by kernel_rfl) (by kernel_rfl) (by kernel_rfl) (fun _ _ _ h => h) (Or.inl ⟨by rfl, ?_⟩) hh0 ?_
              · rintro w' hSS
                have hbx := hSS
                go_simp
              simp only [Act.put, List.setIfInBounds_toArray, List.set_cons_zero, List.set_cons_succ]
              refine wpAnyH_take (fuel := 9) (i := 9) (oi := ⟨some 122, _, _, _, _, _⟩) (v := .slice q5 N.length c5) rfl (by kernel_rfl) (by kernel_rfl) (by kernel_rfl) (fun _ _ _ h => h) (Or.inl ⟨by rfl, ?_⟩) hh0 ?_
              · rintro w' hSS
                have hbx := hSS
                go_simp
              simp only [Act.put, List.setIfInBounds_toArray, List.set_cons_zero, List.set_cons_succ]
              refine wpAnyH_take (fuel := 8) (i := 10) (oi := ⟨some 123, _, _, _, _, _⟩) (v := .int .i64 A) rfl (by kernel_rfl) (by kernel_rfl) (by kernel_rfl) (fun _ _ _ h => h) (Or.inl ⟨by rfl, ?_⟩) hh0 ?_
              · rintro w' hSS
                have hbx := hSS
                go_simp
              simp only [Act.put, List.setIfInBounds_toArray, List.set_cons_zero, List.set_cons_succ]
              refine wpAnyH_take (fuel := 7) (i := 11) (oi := ⟨some 124, _, _, _, _, _⟩) (v := .int .i64 (A + 1)) rfl (by kernel_rfl) (by kernel_rfl) (by kernel_rfl) (fun _ _ _ h => h) (Or.inl ⟨by rfl, ?_⟩) hh0 ?_
              · rintro w' hSS
                have hbx := hSS
                go_simp
              simp only [Act.put, List.setIfInBounds_toArray, List.set_cons_zero, List.set_cons_succ]
              refine wpAnyH_take (fuel := 6) (i := 12) (oi := ⟨some 125, _, _, _, _, _⟩) (v := .slice D5 (N.length - (A + 1)) (c5 - (A + 1))) rfl (by kernel_rfl) (by kernel_rfl) (by kernel_rfl) (fun _ _ _ h => h) (Or.inl ⟨by rfl, ?_⟩) hh0 ?_
              · rintro w' hSS
                have hbx := hSS
                go_simp
              simp only [Act.put, List.setIfInBounds_toArray, List.set_cons_zero, List.set_cons_succ]
              refine wpAnyH_take (fuel := 5) (i := 13) (oi := ⟨some 126, _, _, _, _, _⟩) (v := .slice q9 R.length c9) rfl (by kernel_rfl) (by kernel_rfl) (by kernel_rfl) (fun _ _ _ h => h) (Or.inl ⟨by rfl, ?_⟩) hh0 ?_
              · rintro w' hSS
                have hbx := hSS
                go_simp
              simp only [Act.put, List.setIfInBounds_toArray, List.set_cons_zero, List.set_cons_succ]
              refine wpAnyH_take (fuel := 4) (i := 14) (oi := ⟨some 127, _, _, _, _, _⟩) (v := .int .i64 A) rfl (by kernel_rfl) (by kernel_rfl) (by kernel_rfl) (fun _ _ _ h => h) (Or.inl ⟨by rfl, ?_⟩) hh0 ?_
              · rintro w' hSS
                have hbx := hSS
                go_simp
              simp only [Act.put, List.setIfInBounds_toArray, List.set_cons_zero, List.set_cons_succ]
              refine wpAnyH_take (fuel := 3) (i := 15) (oi := ⟨some 128, _, _, _, _, _⟩) (v := .slice D9 (R.length - A) (c9 - A)) rfl (by kernel_rfl) (by kernel_rfl) (by kernel_rfl) (fun _ _ _ h => h) (Or.inl ⟨by rfl, ?_⟩) hh0 ?_
              · rintro w' hSS
                have hbx := hSS
                go_simp
              simp only [Act.put, List.setIfInBounds_toArray, List.set_cons_zero, List.set_cons_succ]
              refine wpAnyH_ready (fuel := 2) (rs := [16]) (by kernel_rfl) (by simp) ?_
              refine AllReadyH.cons (o := ⟨some 129, _, _, _, _, _⟩) rfl (fun P hP => ?_) AllReadyH.nil
              go_simp
              refine (HC.out w2 HW.out).mono ?_
              rintro e w3 ⟨rfl, hb3⟩
              have HB3 := Lib.hid (bstep HW.out hb3)
              clear hb3
              show P _ _
              refine hP.out _ _ (HS.out _ HB3.out) (fun hh1 => ?_)
              clear hP P hh0
              try simp only [Act.put, List.setIfInBounds_toArray, List.set_cons_zero, List.set_cons_succ]
              refine wpAnyH_take (fuel := 1) (i := 17) (oi := ⟨some 130, _, _, _, _, _⟩) (v := .bool true) rfl (by kernel_rfl) (by kernel_rfl) (by kernel_rfl) (fun _ _ _ h => h) (Or.inl ⟨by rfl, ?_⟩) hh1 ?_
              · rintro w' hSS
                have hbx := hSS
                go_simp
              simp only [Act.put, List.setIfInBounds_toArray, List.set_cons_zero, List.set_cons_succ]
              refine wpAnyH_take (fuel := 0) (i := 18) (oi := ⟨some 6, _, _, _, _, _⟩) (v := .bool true) rfl (by kernel_rfl) (by kernel_rfl) (by kernel_rfl) (fun _ _ _ h => h) (Or.inl ⟨by rfl, ?_⟩) hh1 ?_
              · rintro w' hSS
                have hbx := hSS
                go_simp
              simp only [Act.put, List.setIfInBounds_toArray, List.set_cons_zero, List.set_cons_succ]
              refine wpAnyH_done (by kernel_rfl) ?_ _
              refine NoPanic.normal ?_
              clear hh1
              have HF := Lib.hid (bstep HB6.out HB3.out)
              go_wp2
              go_ret
              exact ⟨rfl, HF.out⟩
          · have hP := HPA.out
            rw [HPL.out, HPR.out, hM] at hP
            have hAi : A = i := hP.set hz hzn
            have hi := (List.getElem?_eq_some_iff.1 hz).1
            have hRN : R.length = N.length := by rw [← hMR, hM, ← hLN, List.length_set]
            have hAN : A + 1 ≤ N.length := by omega
            have hAR : A + 1 ≤ R.length := by omega
            have b1 : ((R.length : Int) - (N.length : Int) == 1) = false := by simp; omega
            have b2 : ((R.length : Int) - (N.length : Int) == -1) = false := by simp; omega
            have b3 : ((R.length : Int) - (N.length : Int) == 0) = true := by simp; omega
            have b4 : ((A : Int) == x.n) = true := by rw [hxn, hAi]; simp
            have b5 : decide ((A : Int) < (N.length : Int)) = true := by simp; omega
            obtain ⟨u, hu⟩ : ∃ u, N[A]? = some u := ⟨_, List.getElem?_eq_getElem (by omega)⟩
            obtain ⟨v, hv⟩ : ∃ v, R[A]? = some v := ⟨_, List.getElem?_eq_getElem (by omega)⟩
            have hup : u.pl = z := by
              have h1 := pl_at hu
              rw [HPL.out, hAi, hz] at h1
              exact (Option.some.inj h1).symm
            have hvp : v.pl = z' := by
              have h1 := pl_at hv
              rw [HPR.out, hM, hAi, List.getElem?_set_self hi] at h1
              exact (Option.some.inj h1).symm
            have hvm : v.m = u.m := by
              have e1 : v.m = v.pl.m := rfl
              have e2 : u.m = u.pl.m := rfl
              rw [e1, e2, hup, hvp, hzm]
            have hvs : v.st = true := by
              have e1 : v.st = v.pl.st := rfl
              rw [e1, hvp, hzs]
            have hq : ∀ w, (binOp .eql 35 (mv v.m) (mv u.m)).run Try.prog w = .ok (.bool true) w := fun w => by rw [msg_eql, hvm]; simp
            obtain ⟨⟨g, o, rfl, hg, hr⟩, -⟩ := HJ5.out.at hu
            obtain ⟨⟨g', o', rfl, hg', hr'⟩, -⟩ := HJ9.out.at hv
            obtain ⟨D5, hsl5, he5⟩ := slice_from (some ⟨g, o, none⟩) N.length c5 (A + 1) hAN
            obtain ⟨D9, hsl9, he9⟩ := slice_from (some ⟨g', o', none⟩) R.length c9 (A + 1) hAR
            have hw1 : IntKind.i64.wrap ((A : Int) + 1) = (A : Int) + 1 := by rw [IntKind.wrap_i64]; omega
            have hltN : A < N.length := by omega
            have hltR : A < R.length := by omega
            have hs5 : ∀ w, (Instr.slice 48 (.slice (some ⟨g, o, none⟩) N.length c5) (some (.int .i64 ((A : Int) + 1))) none none).run Try.prog w = .ok (.slice D5 (N.length - (A + 1)) (c5 - (A + 1))) w := hsl5
            have hs9 : ∀ w, (Instr.slice 48 (.slice (some ⟨g', o', none⟩) R.length c9) (some (.int .i64 ((A : Int) + 1))) none none).run Try.prog w = .ok (.slice D9 (R.length - (A + 1)) (c9 - (A + 1))) w := hsl9
            have HE : Hid (decide ((N.drop (A + 1)).map Ep.pl = (R.drop (A + 1)).map Ep.pl) = true) := Lib.hid (by rw [decide_eq_true_iff, List.map_drop, List.map_drop, HPL.out, HPR.out, hM, hAi]; exact Part.drop_set)
            have HC := Lib.hid (fun (W : World) (hw : Below wc.heap.size wc W) => by
              have := same_any D5 D9 (c5 - (A + 1)) (c9 - (A + 1)) (N.drop (A + 1)) (R.drop (A + 1)) W (by rw [List.length_drop]; omega) (fun x hx => HNF.out x (List.mem_of_mem_drop hx)) (he5 W N (HJ5.out.step hw) rfl HC5.out) (he9 W R (HJ9.out.step hw) rfl HC9.out)
              rw [HE.out, List.length_drop, List.length_drop] at this
              exact this)
            have HS := Lib.hid (fun (W : World) (hw : Below wc.heap.size wc W) => (⟨fun j v hv => (hw.cell (p := ⟨g', o' + A * 17 + j, none⟩) hg').trans (hr' j v hv), fun j v hv => (hw.cell (p := ⟨g, o + A * 17 + j, none⟩) hg).trans (hr j v hv), HCEL.out W hw⟩ : W.rangeAt g' (o' + A * 17) (ecells v).toList ∧ W.rangeAt g (o + A * 17) (ecells u).toList ∧ (∀ o, W.cell? ⟨w.heap.size, o, none⟩ = (ocells x)[o]?)))
            clear hP hAi hi hRN hM hMR hLN HWY HD GD hsl5 hsl9 he5 he9 HE hu hv hup hvp hvm hr hr' hxn hz hzm hzs hzn
            rcases hk with hk | hk
            · have kb : (x.k == 1) = true := by simpa using hk
              clear hk
              as_aux_lemma =>
              go_wp2_with fail
              refine wp_region_noPanic ?_
              refine wp_region_held_drew (S := fun w' => w'.rangeAt g' (o' + A * 17) (ecells v).toList ∧ w'.rangeAt g (o + A * 17) (ecells u).toList ∧ (∀ o, w'.cell? ⟨w.heap.size, o, none⟩ = (ocells x)[o]?)) (by kernel_rfl) (HS.out _ (Below.refl _ _).drew) (fun hh0 => ?_)
              have HW := Lib.hid ((Below.refl wc.heap.size wc).drew)
              generalize World.drew wc = w2 at *
              refine wpAnyH_take (fuel := 51) (i := 0) (oi := ⟨some 133, _, _, _, _, _⟩) (v := .pointer (some ⟨w.heap.size, 0, none⟩)) rfl (by kernel_rfl) (by kernel_rfl) (by kernel_rfl) (fun _ _ _ h => h) (Or.inl ⟨by rfl, ?_⟩) hh0 ?_
              · rintro w' hSS
                obtain ⟨hv1, -, hbx⟩ := hSS; have hv15 : w'.cell? ⟨g', o' + A * 17 + 15, none⟩ = some (.bool v.st) := hv1 15 _ rfl; clear hv1
                go_simp
              simp only [Act.put, List.setIfInBounds_toArray, List.set_cons_zero, List.set_cons_succ]
              refine wpAnyH_take (fuel := 50) (i := 1) (oi := ⟨some 134, _, _, _, _, _⟩) (v := .int .i64 x.k) rfl (by kernel_rfl) (by kernel_rfl) (by kernel_rfl) (fun _ _ _ h => h) (Or.inl ⟨by rfl, ?_⟩) hh0 ?_
              · rintro w' hSS
                obtain ⟨hv1, -, hbx⟩ := hSS; have hv15 : w'.cell? ⟨g', o' + A * 17 + 15, none⟩ = some (.bool v.st) := hv1 15 _ rfl; clear hv1
                go_simp
              simp only [Act.put, List.setIfInBounds_toArray, List.set_cons_zero, List.set_cons_succ]
              refine wpAnyH_take (fuel := 49) (i := 2) (oi := ⟨some 135, _, _, _, _, _⟩) (v := .bool true) rfl (by kernel_rfl) (by kernel_rfl) (by kernel_rfl) (fun _ _ _ h => h) (Or.inl ⟨by rfl, ?_⟩) hh0 ?_
              · rintro w' hSS
                obtain ⟨hv1, -, hbx⟩ := hSS; have hv15 : w'.cell? ⟨g', o' + A * 17 + 15, none⟩ = some (.bool v.st) := hv1 15 _ rfl; clear hv1
                go_simp
              simp only [Act.put, List.setIfInBounds_toArray, List.set_cons_zero, List.set_cons_succ]
              refine wpAnyH_take (fuel := 48) (i := 3) (oi := ⟨some 136, _, _, _, _, _⟩) (v := .bool true) rfl (by kernel_rfl) (by kernel_rfl) (by kernel_rfl) (fun _ _ _ h => h) (Or.inl ⟨by rfl, ?_⟩) hh0 ?_
              · rintro w' hSS
                obtain ⟨hv1, -, hbx⟩ := hSS; have hv15 : w'.cell? ⟨g', o' + A * 17 + 15, none⟩ = some (.bool v.st) := hv1 15 _ rfl; clear hv1
                go_simp
              simp only [Act.put, List.setIfInBounds_toArray, List.set_cons_zero, List.set_cons_succ]
              refine wpAnyH_take (fuel := 47) (i := 4) (oi := ⟨some 137, _, _, _, _, _⟩) (v := undef) rfl (by kernel_rfl) (by kernel_rfl) (by kernel_rfl) (fun _ _ _ h => h) (Or.inr ⟨by rfl, rfl⟩) hh0 ?_
              simp only [Act.put, List.setIfInBounds_toArray, List.set_cons_zero, List.set_cons_succ]
              refine wpAnyH_take (fuel := 46) (i := 5) (oi := ⟨some 138, _, _, _, _, _⟩) (v := undef) rfl (by kernel_rfl) (by kernel_rfl) (by kernel_rfl) (fun _ _ _ h => h) (Or.inr ⟨by rfl, rfl⟩) hh0 ?_
              simp only [Act.put, List.setIfInBounds_toArray, List.set_cons_zero, List.set_cons_succ]
              refine wpAnyH_take (fuel := 45) (i := 6) (oi := ⟨some 139, _, _, _, _, _⟩) (v := undef) rfl (by kernel_rfl) (by kernel_rfl) (by kernel_rfl) (fun _ _ _ h => h) (Or.inr ⟨by rfl, rfl⟩) hh0 ?_
              simp only [Act.put, List.setIfInBounds_toArray, List.set_cons_zero, List.set_cons_succ]
              refine wpAnyH_take (fuel := 44) (i := 7) (oi := ⟨some 140, _, _, _, _, _⟩) (v := .bool true) rfl (by kernel_rfl) (by kernel_rfl) (by kernel_rfl) (fun _ _ _ h => h) (Or.inl ⟨by rfl, ?_⟩) hh0 ?_
              · rintro w' hSS
                obtain ⟨hv1, -, hbx⟩ := hSS; have hv15 : w'.cell? ⟨g', o' + A * 17 + 15, none⟩ = some (.bool v.st) := hv1 15 _ rfl; clear hv1
                go_simp
              simp only [Act.put, List.setIfInBounds_toArray, List.set_cons_zero, List.set_cons_succ]
              refine wpAnyH_take (fuel := 43) (i := 8) (oi := ⟨some 141, _, _, _, _, _⟩) (v := .bool true) rfl (by kernel_rfl) (by kernel_rfl) (by kernel_rfl) (fun _ _ _ h => h) (Or.inl ⟨by rfl, ?_⟩) hh0 ?_
              · rintro w' hSS
                obtain ⟨hv1, -, hbx⟩ := hSS; have hv15 : w'.cell? ⟨g', o' + A * 17 + 15, none⟩ = some (.bool v.st) := hv1 15 _ rfl; clear hv1
                go_simp
              simp only [Act.put, List.setIfInBounds_toArray, List.set_cons_zero, List.set_cons_succ]
              refine wpAnyH_take (fuel := 42) (i := 9) (oi := ⟨some 142, _, _, _, _, _⟩) (v := .int .i64 A) rfl (by kernel_rfl) (by kernel_rfl) (by kernel_rfl) (fun _ _ _ h => h) (Or.inl ⟨by rfl, ?_⟩) hh0 ?_
              · rintro w' hSS
                obtain ⟨hv1, -, hbx⟩ := hSS; have hv15 : w'.cell? ⟨g', o' + A * 17 + 15, none⟩ = some (.bool v.st) := hv1 15 _ rfl; clear hv1
                go_simp
              simp only [Act.put, List.setIfInBounds_toArray, List.set_cons_zero, List.set_cons_succ]
              refine wpAnyH_take (fuel := 41) (i := 10) (oi := ⟨some 143, _, _, _, _, _⟩) (v := .pointer (some ⟨w.heap.size, 1, none⟩)) rfl (by kernel_rfl) (by kernel_rfl) (by kernel_rfl) (fun _ _ _ h => h) (Or.inl ⟨by rfl, ?_⟩) hh0 ?_
              · rintro w' hSS
                obtain ⟨hv1, -, hbx⟩ := hSS; have hv15 : w'.cell? ⟨g', o' + A * 17 + 15, none⟩ = some (.bool v.st) := hv1 15 _ rfl; clear hv1
                go_simp
              simp only [Act.put, List.setIfInBounds_toArray, List.set_cons_zero, List.set_cons_succ]
              refine wpAnyH_take (fuel := 40) (i := 11) (oi := ⟨some 144, _, _, _, _, _⟩) (v := .int .i64 x.n) rfl (by kernel_rfl) (by kernel_rfl) (by kernel_rfl) (fun _ _ _ h => h) (Or.inl ⟨by rfl, ?_⟩) hh0 ?_
              · rintro w' hSS
                obtain ⟨hv1, -, hbx⟩ := hSS; have hv15 : w'.cell? ⟨g', o' + A * 17 + 15, none⟩ = some (.bool v.st) := hv1 15 _ rfl; clear hv1
                go_simp
              simp only [Act.put, List.setIfInBounds_toArray, List.set_cons_zero, List.set_cons_succ]
              refine wpAnyH_take (fuel := 39) (i := 12) (oi := ⟨some 145, _, _, _, _, _⟩) (v := .bool true) rfl (by kernel_rfl) (by kernel_rfl) (by kernel_rfl) (fun _ _ _ h => h) (Or.inl ⟨by rfl, ?_⟩) hh0 ?_
              · rintro w' hSS
                obtain ⟨hv1, -, hbx⟩ := hSS; have hv15 : w'.cell? ⟨g', o' + A * 17 + 15, none⟩ = some (.bool v.st) := hv1 15 _ rfl; clear hv1
                go_simp
              simp only [Act.put, List.setIfInBounds_toArray, List.set_cons_zero, List.set_cons_succ]
              refine wpAnyH_take (fuel := 38) (i := 13) (oi := ⟨some 146, _, _, _, _, _⟩) (v := .bool true) rfl (by kernel_rfl) (by kernel_rfl) (by kernel_rfl) (fun _ _ _ h => h) (Or.inl ⟨by rfl, ?_⟩) hh0 ?_
              · rintro w' hSS
                obtain ⟨hv1, -, hbx⟩ := hSS; have hv15 : w'.cell? ⟨g', o' + A * 17 + 15, none⟩ = some (.bool v.st) := hv1 15 _ rfl; clear hv1
                go_simp
              simp only [Act.put, List.setIfInBounds_toArray, List.set_cons_zero, List.set_cons_succ]
              refine wpAnyH_take (fuel := 37) (i := 14) (oi := ⟨some 147, _, _, _, _, _⟩) (v := .bool true) rfl (by kernel_rfl) (by kernel_rfl) (by kernel_rfl) (fun _ _ _ h => h) (Or.inl ⟨by rfl, ?_⟩) hh0 ?_
              · rintro w' hSS
                obtain ⟨hv1, -, hbx⟩ := hSS; have hv15 : w'.cell? ⟨g', o' + A * 17 + 15, none⟩ = some (.bool v.st) := hv1 15 _ rfl; clear hv1
                go_simp
              simp only [Act.put, List.setIfInBounds_toArray, List.set_cons_zero, List.set_cons_succ]
              refine wpAnyH_take (fuel := 36) (i := 15) (oi := ⟨some 148, _, _, _, _, _⟩) (v := .int .i64 A) rfl (by kernel_rfl) (by kernel_rfl) (by kernel_rfl) (fun _ _ _ h => h) (Or.inl ⟨by rfl, ?_⟩) hh0 ?_
              · rintro w' hSS
                obtain ⟨hv1, -, hbx⟩ := hSS; have hv15 : w'.cell? ⟨g', o' + A * 17 + 15, none⟩ = some (.bool v.st) := hv1 15 _ rfl; clear hv1
                go_simp
              simp only [Act.put, List.setIfInBounds_toArray, List.set_cons_zero, List.set_cons_succ]
              refine wpAnyH_take (fuel := 35) (i := 16) (oi := ⟨some 149, _, _, _, _, _⟩) (v := .slice (some ⟨g, o, none⟩) N.length c5) rfl (by kernel_rfl) (by kernel_rfl) (by kernel_rfl) (fun _ _ _ h => h) (Or.inl ⟨by rfl, ?_⟩) hh0 ?_
              · rintro w' hSS
                obtain ⟨hv1, -, hbx⟩ := hSS; have hv15 : w'.cell? ⟨g', o' + A * 17 + 15, none⟩ = some (.bool v.st) := hv1 15 _ rfl; clear hv1
                go_simp
              simp only [Act.put, List.setIfInBounds_toArray, List.set_cons_zero, List.set_cons_succ]
              refine wpAnyH_take (fuel := 34) (i := 17) (oi := ⟨some 150, _, _, _, _, _⟩) (v := .int .i64 N.length) rfl (by kernel_rfl) (by kernel_rfl) (by kernel_rfl) (fun _ _ _ h => h) (Or.inl ⟨by rfl, ?_⟩) hh0 ?_
              · rintro w' hSS
                obtain ⟨hv1, -, hbx⟩ := hSS; have hv15 : w'.cell? ⟨g', o' + A * 17 + 15, none⟩ = some (.bool v.st) := hv1 15 _ rfl; clear hv1
                go_simp
              simp only [Act.put, List.setIfInBounds_toArray, List.set_cons_zero, List.set_cons_succ]
              refine wpAnyH_take (fuel := 33) (i := 18) (oi := ⟨some 151, _, _, _, _, _⟩) (v := .bool true) rfl (by kernel_rfl) (by kernel_rfl) (by kernel_rfl) (fun _ _ _ h => h) (Or.inl ⟨by rfl, ?_⟩) hh0 ?_
              · rintro w' hSS
                obtain ⟨hv1, -, hbx⟩ := hSS; have hv15 : w'.cell? ⟨g', o' + A * 17 + 15, none⟩ = some (.bool v.st) := hv1 15 _ rfl; clear hv1
                go_simp
              simp only [Act.put, List.setIfInBounds_toArray, List.set_cons_zero, List.set_cons_succ]
              refine wpAnyH_take (fuel := 32) (i := 19) (oi := ⟨some 152, _, _, _, _, _⟩) (v := .bool true) rfl (by kernel_rfl) (by kernel_rfl) (by kernel_rfl) (fun _ _ _ h => h) (Or.inl ⟨by rfl, ?_⟩) hh0 ?_
              · rintro w' hSS
                obtain ⟨hv1, -, hbx⟩ := hSS; have hv15 : w'.cell? ⟨g', o' + A * 17 + 15, none⟩ = some (.bool v.st) := hv1 15 _ rfl; clear hv1
                go_simp
              simp only [Act.put, List.setIfInBounds_toArray, List.set_cons_zero, List.set_cons_succ]
              refine wpAnyH_take (fuel := 31) (i := 20) (oi := ⟨some 153, _, _, _, _, _⟩) (v := .bool true) rfl (by kernel_rfl) (by kernel_rfl) (by kernel_rfl) (fun _ _ _ h => h) (Or.inl ⟨by rfl, ?_⟩) hh0 ?_
              · rintro w' hSS
                obtain ⟨hv1, -, hbx⟩ := hSS; have hv15 : w'.cell? ⟨g', o' + A * 17 + 15, none⟩ = some (.bool v.st) := hv1 15 _ rfl; clear hv1
                go_simp
              simp only [Act.put, List.setIfInBounds_toArray, List.set_cons_zero, List.set_cons_succ]
              refine wpAnyH_take (fuel := 30) (i := 21) (oi := ⟨some 154, _, _, _, _, _⟩) (v := .slice (some ⟨g', o', none⟩) R.length c9) rfl (by kernel_rfl) (by kernel_rfl) (by kernel_rfl) (fun _ _ _ h => h) (Or.inl ⟨by rfl, ?_⟩) hh0 ?_
              · rintro w' hSS
                obtain ⟨hv1, -, hbx⟩ := hSS; have hv15 : w'.cell? ⟨g', o' + A * 17 + 15, none⟩ = some (.bool v.st) := hv1 15 _ rfl; clear hv1
                go_simp
              simp only [Act.put, List.setIfInBounds_toArray, List.set_cons_zero, List.set_cons_succ]
              refine wpAnyH_take (fuel := 29) (i := 22) (oi := ⟨some 155, _, _, _, _, _⟩) (v := .int .i64 A) rfl (by kernel_rfl) (by kernel_rfl) (by kernel_rfl) (fun _ _ _ h => h) (Or.inl ⟨by rfl, ?_⟩) hh0 ?_
              · rintro w' hSS
                obtain ⟨hv1, -, hbx⟩ := hSS; have hv15 : w'.cell? ⟨g', o' + A * 17 + 15, none⟩ = some (.bool v.st) := hv1 15 _ rfl; clear hv1
                go_simp
              simp only [Act.put, List.setIfInBounds_toArray, List.set_cons_zero, List.set_cons_succ]
              refine wpAnyH_take (fuel := 28) (i := 23) (oi := ⟨some 156, _, _, _, _, _⟩) (v := .pointer (some ⟨g', o' + A * 17, none⟩)) rfl (by kernel_rfl) (by kernel_rfl) (by kernel_rfl) (fun _ _ _ h => h) (Or.inl ⟨by rfl, ?_⟩) hh0 ?_
              · rintro w' hSS
                obtain ⟨hv1, -, hbx⟩ := hSS; have hv15 : w'.cell? ⟨g', o' + A * 17 + 15, none⟩ = some (.bool v.st) := hv1 15 _ rfl; clear hv1
                go_simp
              simp only [Act.put, List.setIfInBounds_toArray, List.set_cons_zero, List.set_cons_succ]
              refine wpAnyH_take (fuel := 27) (i := 24) (oi := ⟨some 157, _, _, _, _, _⟩) (v := .pointer (some ⟨g', o' + A * 17, none⟩)) rfl (by kernel_rfl) (by kernel_rfl) (by kernel_rfl) (fun _ _ _ h => h) (Or.inl ⟨by rfl, ?_⟩) hh0 ?_
              · rintro w' hSS
                obtain ⟨hv1, -, hbx⟩ := hSS; have hv15 : w'.cell? ⟨g', o' + A * 17 + 15, none⟩ = some (.bool v.st) := hv1 15 _ rfl; clear hv1
                go_simp
              simp only [Act.put, List.setIfInBounds_toArray, List.set_cons_zero, List.set_cons_succ]
              refine wpAnyH_take (fuel := 26) (i := 25) (oi := ⟨some 158, _, _, _, _, _⟩) (v := mv v.m) rfl (by kernel_rfl) (by kernel_rfl) (by kernel_rfl) (fun _ _ _ h => h) (yields_load_at (by rfl) 35 (.tmp 157) rfl g' (o' + A * 17) rfl (mcells v.m) _ (fun w' h => e_pre h.1) Try.underlying35 rfl (by kernel_rfl)) hh0 ?_
              simp only [Act.put, List.setIfInBounds_toArray, List.set_cons_zero, List.set_cons_succ]
              refine wpAnyH_take (fuel := 25) (i := 26) (oi := ⟨some 159, _, _, _, _, _⟩) (v := .slice (some ⟨g, o, none⟩) N.length c5) rfl (by kernel_rfl) (by kernel_rfl) (by kernel_rfl) (fun _ _ _ h => h) (Or.inl ⟨by rfl, ?_⟩) hh0 ?_
              · rintro w' hSS
                obtain ⟨hv1, -, hbx⟩ := hSS; have hv15 : w'.cell? ⟨g', o' + A * 17 + 15, none⟩ = some (.bool v.st) := hv1 15 _ rfl; clear hv1
                go_simp
              simp only [Act.put, List.setIfInBounds_toArray, List.set_cons_zero, List.set_cons_succ]
              refine wpAnyH_take (fuel := 24) (i := 27) (oi := ⟨some 160, _, _, _, _, _⟩) (v := .int .i64 A) rfl (by kernel_rfl) (by kernel_rfl) (by kernel_rfl) (fun _ _ _ h => h) (Or.inl ⟨by rfl, ?_⟩) hh0 ?_
              · rintro w' hSS
                obtain ⟨hv1, -, hbx⟩ := hSS; have hv15 : w'.cell? ⟨g', o' + A * 17 + 15, none⟩ = some (.bool v.st) := hv1 15 _ rfl; clear hv1
                go_simp
              simp only [Act.put, List.setIfInBounds_toArray, List.set_cons_zero, List.set_cons_succ]
              refine wpAnyH_take (fuel := 23) (i := 28) (oi := ⟨some 161, _, _, _, _, _⟩) (v := .pointer (some ⟨g, o + A * 17, none⟩)) rfl (by kernel_rfl) (by kernel_rfl) (by kernel_rfl) (fun _ _ _ h => h) (Or.inl ⟨by rfl, ?_⟩) hh0 ?_
              · rintro w' hSS
                obtain ⟨hv1, -, hbx⟩ := hSS; have hv15 : w'.cell? ⟨g', o' + A * 17 + 15, none⟩ = some (.bool v.st) := hv1 15 _ rfl; clear hv1
                go_simp
              simp only [Act.put, List.setIfInBounds_toArray, List.set_cons_zero, List.set_cons_succ]
              refine wpAnyH_take (fuel := 22) (i := 29) (oi := ⟨some 162, _, _, _, _, _⟩) (v := .pointer (some ⟨g, o + A * 17, none⟩)) rfl (by kernel_rfl) (by kernel_rfl) (by kernel_rfl) (fun _ _ _ h => h) (Or.inl ⟨by rfl, ?_⟩) hh0 ?_
              · rintro w' hSS
                obtain ⟨hv1, -, hbx⟩ := hSS; have hv15 : w'.cell? ⟨g', o' + A * 17 + 15, none⟩ = some (.bool v.st) := hv1 15 _ rfl; clear hv1
                go_simp
              simp only [Act.put, List.setIfInBounds_toArray, List.set_cons_zero, List.set_cons_succ]
              refine wpAnyH_take (fuel := 21) (i := 30) (oi := ⟨some 163, _, _, _, _, _⟩) (v := mv u.m) rfl (by kernel_rfl) (by kernel_rfl) (by kernel_rfl) (fun _ _ _ h => h) (yields_load_at (by rfl) 35 (.tmp 162) rfl g (o + A * 17) rfl (mcells u.m) _ (fun w' h => e_pre h.2.1) Try.underlying35 rfl (by kernel_rfl)) hh0 ?_
              simp only [Act.put, List.setIfInBounds_toArray, List.set_cons_zero, List.set_cons_succ]
              refine wpAnyH_take (fuel := 20) (i := 31) (oi := ⟨some 164, _, _, _, _, _⟩) (v := .bool true) rfl (by kernel_rfl) (by kernel_rfl) (by kernel_rfl) (fun _ _ _ h => h) (Or.inl ⟨by rfl, ?_⟩) hh0 ?_
              · rintro w' hSS
                obtain ⟨hv1, -, hbx⟩ := hSS; have hv15 : w'.cell? ⟨g', o' + A * 17 + 15, none⟩ = some (.bool v.st) := hv1 15 _ rfl; clear hv1
                go_simp
              simp only [Act.put, List.setIfInBounds_toArray, List.set_cons_zero, List.set_cons_succ]
              refine wpAnyH_take (fuel := 19) (i := 32) (oi := ⟨some 165, _, _, _, _, _⟩) (v := .bool true) rfl (by kernel_rfl) (by kernel_rfl) (by kernel_rfl) (fun _ _ _ h => h) (Or.inl ⟨by rfl, ?_⟩) hh0 ?_
              · rintro w' hSS
                obtain ⟨hv1, -, hbx⟩ := hSS; have hv15 : w'.cell? ⟨g', o' + A * 17 + 15, none⟩ = some (.bool v.st) := hv1 15 _ rfl; clear hv1
                go_simp
              simp only [Act.put, List.setIfInBounds_toArray, List.set_cons_zero, List.set_cons_succ]
              refine wpAnyH_take (fuel := 18) (i := 33) (oi := ⟨some 166, _, _, _, _, _⟩) (v := .bool true) rfl (by kernel_rfl) (by kernel_rfl) (by kernel_rfl) (fun _ _ _ h => h) (Or.inl ⟨by rfl, ?_⟩) hh0 ?_
              · rintro w' hSS
                obtain ⟨hv1, -, hbx⟩ := hSS; have hv15 : w'.cell? ⟨g', o' + A * 17 + 15, none⟩ = some (.bool v.st) := hv1 15 _ rfl; clear hv1
                go_simp
              simp only [Act.put, List.setIfInBounds_toArray, List.set_cons_zero, List.set_cons_succ]
              refine wpAnyH_take (fuel := 17) (i := 34) (oi := ⟨some 167, _, _, _, _, _⟩) (v := .slice (some ⟨g', o', none⟩) R.length c9) rfl (by kernel_rfl) (by kernel_rfl) (by kernel_rfl) (fun _ _ _ h => h) (Or.inl ⟨by rfl, ?_⟩) hh0 ?_
              · rintro w' hSS
                obtain ⟨hv1, -, hbx⟩ := hSS; have hv15 : w'.cell? ⟨g', o' + A * 17 + 15, none⟩ = some (.bool v.st) := hv1 15 _ rfl; clear hv1
                go_simp
              simp only [Act.put, List.setIfInBounds_toArray, List.set_cons_zero, List.set_cons_succ]
              refine wpAnyH_take (fuel := 16) (i := 35) (oi := ⟨some 168, _, _, _, _, _⟩) (v := .int .i64 A) rfl (by kernel_rfl) (by kernel_rfl) (by kernel_rfl) (fun _ _ _ h => h) (Or.inl ⟨by rfl, ?_⟩) hh0 ?_
              · rintro w' hSS
                obtain ⟨hv1, -, hbx⟩ := hSS; have hv15 : w'.cell? ⟨g', o' + A * 17 + 15, none⟩ = some (.bool v.st) := hv1 15 _ rfl; clear hv1
                go_simp
              simp only [Act.put, List.setIfInBounds_toArray, List.set_cons_zero, List.set_cons_succ]
              refine wpAnyH_take (fuel := 15) (i := 36) (oi := ⟨some 169, _, _, _, _, _⟩) (v := .pointer (some ⟨g', o' + A * 17, none⟩)) rfl (by kernel_rfl) (by kernel_rfl) (by kernel_rfl) (fun _ _ _ h => h) (Or.inl ⟨by rfl, ?_⟩) hh0 ?_
              · rintro w' hSS
                obtain ⟨hv1, -, hbx⟩ := hSS; have hv15 : w'.cell? ⟨g', o' + A * 17 + 15, none⟩ = some (.bool v.st) := hv1 15 _ rfl; clear hv1
                go_simp
              simp only [Act.put, List.setIfInBounds_toArray, List.set_cons_zero, List.set_cons_succ]
              refine wpAnyH_take (fuel := 14) (i := 37) (oi := ⟨some 170, _, _, _, _, _⟩) (v := .pointer (some ⟨g', o' + A * 17 + 15, none⟩)) rfl (by kernel_rfl) (by kernel_rfl) (by kernel_rfl) (fun _ _ _ h => h) (Or.inl ⟨by rfl, ?_⟩) hh0 ?_
              · rintro w' hSS
                obtain ⟨hv1, -, hbx⟩ := hSS; have hv15 : w'.cell? ⟨g', o' + A * 17 + 15, none⟩ = some (.bool v.st) := hv1 15 _ rfl; clear hv1
                go_simp
              simp only [Act.put, List.setIfInBounds_toArray, List.set_cons_zero, List.set_cons_succ]
              refine wpAnyH_take (fuel := 13) (i := 38) (oi := ⟨some 171, _, _, _, _, _⟩) (v := .bool v.st) rfl (by kernel_rfl) (by kernel_rfl) (by kernel_rfl) (fun _ _ _ h => h) (Or.inl ⟨by rfl, ?_⟩) hh0 ?_
              · rintro w' hSS
                obtain ⟨hv1, -, hbx⟩ := hSS; have hv15 : w'.cell? ⟨g', o' + A * 17 + 15, none⟩ = some (.bool v.st) := hv1 15 _ rfl; clear hv1
                go_simp
              simp only [Act.put, List.setIfInBounds_toArray, List.set_cons_zero, List.set_cons_succ]
              refine wpAnyH_take (fuel := 12) (i := 39) (oi := ⟨some 172, _, _, _, _, _⟩) (v := .bool true) rfl (by kernel_rfl) (by kernel_rfl) (by kernel_rfl) (fun _ _ _ h => h) (Or.inl ⟨by rfl, ?_⟩) hh0 ?_
              · rintro w' hSS
                obtain ⟨hv1, -, hbx⟩ := hSS; have hv15 : w'.cell? ⟨g', o' + A * 17 + 15, none⟩ = some (.bool v.st) := hv1 15 _ rfl; clear hv1
                go_simp
              simp only [Act.put, List.setIfInBounds_toArray, List.set_cons_zero, List.set_cons_succ]
              refine wpAnyH_take (fuel := 11) (i := 40) (oi := ⟨some 173, _, _, _, _, _⟩) (v := .bool true) rfl (by kernel_rfl) (by kernel_rfl) (by kernel_rfl) (fun _ _ _ h => h) (Or.inl ⟨by rfl, ?_⟩) hh0 ?_
              · rintro w' hSS
                obtain ⟨hv1, -, hbx⟩ := hSS; have hv15 : w'.cell? ⟨g', o' + A * 17 + 15, none⟩ = some (.bool v.st) := hv1 15 _ rfl; clear hv1
                go_simp
              simp only [Act.put, List.setIfInBounds_toArray, List.set_cons_zero, List.set_cons_succ]
              refine wpAnyH_take (fuel := 10) (i := 41) (oi := ⟨some 174, _, _, _, _, _⟩) (v := .slice (some ⟨g, o, none⟩) N.length c5) rfl (by kernel_rfl) (by kernel_rfl) (by kernel_rfl) (fun _ _ _ h => h) (Or.inl ⟨by rfl, ?_⟩) hh0 ?_
              · rintro w' hSS
                obtain ⟨hv1, -, hbx⟩ := hSS; have hv15 : w'.cell? ⟨g', o' + A * 17 + 15, none⟩ = some (.bool v.st) := hv1 15 _ rfl; clear hv1
                go_simp
              simp only [Act.put, List.setIfInBounds_toArray, List.set_cons_zero, List.set_cons_succ]
              refine wpAnyH_take (fuel := 9) (i := 42) (oi := ⟨some 175, _, _, _, _, _⟩) (v := .int .i64 A) rfl (by kernel_rfl) (by kernel_rfl) (by kernel_rfl) (fun _ _ _ h => h) (Or.inl ⟨by rfl, ?_⟩) hh0 ?_
              · rintro w' hSS
                obtain ⟨hv1, -, hbx⟩ := hSS; have hv15 : w'.cell? ⟨g', o' + A * 17 + 15, none⟩ = some (.bool v.st) := hv1 15 _ rfl; clear hv1
                go_simp
              simp only [Act.put, List.setIfInBounds_toArray, List.set_cons_zero, List.set_cons_succ]
              refine wpAnyH_take (fuel := 8) (i := 43) (oi := ⟨some 176, _, _, _, _, _⟩) (v := .int .i64 (A + 1)) rfl (by kernel_rfl) (by kernel_rfl) (by kernel_rfl) (fun _ _ _ h => h) (Or.inl ⟨by rfl, ?_⟩) hh0 ?_
              · rintro w' hSS
                obtain ⟨hv1, -, hbx⟩ := hSS; have hv15 : w'.cell? ⟨g', o' + A * 17 + 15, none⟩ = some (.bool v.st) := hv1 15 _ rfl; clear hv1
                go_simp
              simp only [Act.put, List.setIfInBounds_toArray, List.set_cons_zero, List.set_cons_succ]
              refine wpAnyH_take (fuel := 7) (i := 44) (oi := ⟨some 177, _, _, _, _, _⟩) (v := .slice D5 (N.length - (A + 1)) (c5 - (A + 1))) rfl (by kernel_rfl) (by kernel_rfl) (by kernel_rfl) (fun _ _ _ h => h) (Or.inl ⟨by rfl, ?_⟩) hh0 ?_
              · rintro w' hSS
                obtain ⟨hv1, -, hbx⟩ := hSS; have hv15 : w'.cell? ⟨g', o' + A * 17 + 15, none⟩ = some (.bool v.st) := hv1 15 _ rfl; clear hv1
                go_simp
              simp only [Act.put, List.setIfInBounds_toArray, List.set_cons_zero, List.set_cons_succ]
              refine wpAnyH_take (fuel := 6) (i := 45) (oi := ⟨some 178, _, _, _, _, _⟩) (v := .slice (some ⟨g', o', none⟩) R.length c9) rfl (by kernel_rfl) (by kernel_rfl) (by kernel_rfl) (fun _ _ _ h => h) (Or.inl ⟨by rfl, ?_⟩) hh0 ?_
              · rintro w' hSS
                obtain ⟨hv1, -, hbx⟩ := hSS; have hv15 : w'.cell? ⟨g', o' + A * 17 + 15, none⟩ = some (.bool v.st) := hv1 15 _ rfl; clear hv1
                go_simp
              simp only [Act.put, List.setIfInBounds_toArray, List.set_cons_zero, List.set_cons_succ]
              refine wpAnyH_take (fuel := 5) (i := 46) (oi := ⟨some 179, _, _, _, _, _⟩) (v := .int .i64 A) rfl (by kernel_rfl) (by kernel_rfl) (by kernel_rfl) (fun _ _ _ h => h) (Or.inl ⟨by rfl, ?_⟩) hh0 ?_
              · rintro w' hSS
                obtain ⟨hv1, -, hbx⟩ := hSS; have hv15 : w'.cell? ⟨g', o' + A * 17 + 15, none⟩ = some (.bool v.st) := hv1 15 _ rfl; clear hv1
                go_simp
              simp only [Act.put, List.setIfInBounds_toArray, List.set_cons_zero, List.set_cons_succ]
              refine wpAnyH_take (fuel := 4) (i := 47) (oi := ⟨some 180, _, _, _, _, _⟩) (v := .int .i64 (A + 1)) rfl (by kernel_rfl) (by kernel_rfl) (by kernel_rfl) (fun _ _ _ h => h) (Or.inl ⟨by rfl, ?_⟩) hh0 ?_
              · rintro w' hSS
                obtain ⟨hv1, -, hbx⟩ := hSS; have hv15 : w'.cell? ⟨g', o' + A * 17 + 15, none⟩ = some (.bool v.st) := hv1 15 _ rfl; clear hv1
                go_simp
              simp only [Act.put, List.setIfInBounds_toArray, List.set_cons_zero, List.set_cons_succ]
              refine wpAnyH_take (fuel := 3) (i := 48) (oi := ⟨some 181, _, _, _, _, _⟩) (v := .slice D9 (R.length - (A + 1)) (c9 - (A + 1))) rfl (by kernel_rfl) (by kernel_rfl) (by kernel_rfl) (fun _ _ _ h => h) (Or.inl ⟨by rfl, ?_⟩) hh0 ?_
              · rintro w' hSS
                obtain ⟨hv1, -, hbx⟩ := hSS; have hv15 : w'.cell? ⟨g', o' + A * 17 + 15, none⟩ = some (.bool v.st) := hv1 15 _ rfl; clear hv1
                go_simp
              simp only [Act.put, List.setIfInBounds_toArray, List.set_cons_zero, List.set_cons_succ]
              refine wpAnyH_ready (fuel := 2) (rs := [49]) (by kernel_rfl) (by simp) ?_
              refine AllReadyH.cons (o := ⟨some 182, _, _, _, _, _⟩) rfl (fun P hP => ?_) AllReadyH.nil
              go_simp
              refine (HC.out w2 HW.out).mono ?_
              rintro e w3 ⟨rfl, hb3⟩
              have HB3 := Lib.hid (bstep HW.out hb3)
              clear hb3
              show P _ _
              refine hP.out _ _ (HS.out _ HB3.out) (fun hh1 => ?_)
              clear hP P hh0
              try simp only [Act.put, List.setIfInBounds_toArray, List.set_cons_zero, List.set_cons_succ]
              refine wpAnyH_take (fuel := 1) (i := 50) (oi := ⟨some 183, _, _, _, _, _⟩) (v := .bool true) rfl (by kernel_rfl) (by kernel_rfl) (by kernel_rfl) (fun _ _ _ h => h) (Or.inl ⟨by rfl, ?_⟩) hh1 ?_
              · rintro w' hSS
                obtain ⟨hv1, -, hbx⟩ := hSS; have hv15 : w'.cell? ⟨g', o' + A * 17 + 15, none⟩ = some (.bool v.st) := hv1 15 _ rfl; clear hv1
                go_simp
              simp only [Act.put, List.setIfInBounds_toArray, List.set_cons_zero, List.set_cons_succ]
              refine wpAnyH_take (fuel := 0) (i := 51) (oi := ⟨some 6, _, _, _, _, _⟩) (v := .bool true) rfl (by kernel_rfl) (by kernel_rfl) (by kernel_rfl) (fun _ _ _ h => h) (Or.inl ⟨by rfl, ?_⟩) hh1 ?_
              · rintro w' hSS
                obtain ⟨hv1, -, hbx⟩ := hSS; have hv15 : w'.cell? ⟨g', o' + A * 17 + 15, none⟩ = some (.bool v.st) := hv1 15 _ rfl; clear hv1
                go_simp
              simp only [Act.put, List.setIfInBounds_toArray, List.set_cons_zero, List.set_cons_succ]
              refine wpAnyH_done (by kernel_rfl) ?_ _
              refine NoPanic.normal ?_
              clear hh1
              have HF := Lib.hid (bstep HB6.out HB3.out)
              go_wp2
              go_ret
              exact ⟨rfl, HF.out⟩
            · have kb : (x.k == 1) = false := by rw [hk]; rfl
              have kc : (x.k == 2) = true := by simpa using hk
              clear hk
              as_aux_lemma =>
              go_wp2_with fail
              refine wp_region_noPanic ?_
              refine wp_region_held_drew (S := fun w' => w'.rangeAt g' (o' + A * 17) (ecells v).toList ∧ w'.rangeAt g (o + A * 17) (ecells u).toList ∧ (∀ o, w'.cell? ⟨w.heap.size, o, none⟩ = (ocells x)[o]?)) (by kernel_rfl) (HS.out _ (Below.refl _ _).drew) (fun hh0 => ?_)
              have HW := Lib.hid ((Below.refl wc.heap.size wc).drew)
              generalize World.drew wc = w2 at *
              refine wpAnyH_take (fuel := 51) (i := 0) (oi := ⟨some 133, _, _, _, _, _⟩) (v := .pointer (some ⟨w.heap.size, 0, none⟩)) rfl (by kernel_rfl) (by kernel_rfl) (by kernel_rfl) (fun _ _ _ h => h) (Or.inl ⟨by rfl, ?_⟩) hh0 ?_
              · rintro w' hSS
                obtain ⟨hv1, -, hbx⟩ := hSS; have hv15 : w'.cell? ⟨g', o' + A * 17 + 15, none⟩ = some (.bool v.st) := hv1 15 _ rfl; clear hv1
                go_simp
              simp only [Act.put, List.setIfInBounds_toArray, List.set_cons_zero, List.set_cons_succ]
              refine wpAnyH_take (fuel := 50) (i := 1) (oi := ⟨some 134, _, _, _, _, _⟩) (v := .int .i64 x.k) rfl (by kernel_rfl) (by kernel_rfl) (by kernel_rfl) (fun _ _ _ h => h) (Or.inl ⟨by rfl, ?_⟩) hh0 ?_
              · rintro w' hSS
                obtain ⟨hv1, -, hbx⟩ := hSS; have hv15 : w'.cell? ⟨g', o' + A * 17 + 15, none⟩ = some (.bool v.st) := hv1 15 _ rfl; clear hv1
                go_simp
              simp only [Act.put, List.setIfInBounds_toArray, List.set_cons_zero, List.set_cons_succ]
              refine wpAnyH_take (fuel := 49) (i := 2) (oi := ⟨some 135, _, _, _, _, _⟩) (v := .bool false) rfl (by kernel_rfl) (by kernel_rfl) (by kernel_rfl) (fun _ _ _ h => h) (Or.inl ⟨by rfl, ?_⟩) hh0 ?_
              · rintro w' hSS
                obtain ⟨hv1, -, hbx⟩ := hSS; have hv15 : w'.cell? ⟨g', o' + A * 17 + 15, none⟩ = some (.bool v.st) := hv1 15 _ rfl; clear hv1
                go_simp
              simp only [Act.put, List.setIfInBounds_toArray, List.set_cons_zero, List.set_cons_succ]
              refine wpAnyH_take (fuel := 48) (i := 3) (oi := ⟨some 136, _, _, _, _, _⟩) (v := .bool false) rfl (by kernel_rfl) (by kernel_rfl) (by kernel_rfl) (fun _ _ _ h => h) (Or.inl ⟨by rfl, ?_⟩) hh0 ?_
              · rintro w' hSS
                obtain ⟨hv1, -, hbx⟩ := hSS; have hv15 : w'.cell? ⟨g', o' + A * 17 + 15, none⟩ = some (.bool v.st) := hv1 15 _ rfl; clear hv1
                go_simp
              simp only [Act.put, List.setIfInBounds_toArray, List.set_cons_zero, List.set_cons_succ]
              refine wpAnyH_take (fuel := 47) (i := 4) (oi := ⟨some 137, _, _, _, _, _⟩) (v := .pointer (some ⟨w.heap.size, 0, none⟩)) rfl (by kernel_rfl) (by kernel_rfl) (by kernel_rfl) (fun _ _ _ h => h) (Or.inl ⟨by rfl, ?_⟩) hh0 ?_
              · rintro w' hSS
                obtain ⟨hv1, -, hbx⟩ := hSS; have hv15 : w'.cell? ⟨g', o' + A * 17 + 15, none⟩ = some (.bool v.st) := hv1 15 _ rfl; clear hv1
                go_simp
              simp only [Act.put, List.setIfInBounds_toArray, List.set_cons_zero, List.set_cons_succ]
              refine wpAnyH_take (fuel := 46) (i := 5) (oi := ⟨some 138, _, _, _, _, _⟩) (v := .int .i64 x.k) rfl (by kernel_rfl) (by kernel_rfl) (by kernel_rfl) (fun _ _ _ h => h) (Or.inl ⟨by rfl, ?_⟩) hh0 ?_
              · rintro w' hSS
                obtain ⟨hv1, -, hbx⟩ := hSS; have hv15 : w'.cell? ⟨g', o' + A * 17 + 15, none⟩ = some (.bool v.st) := hv1 15 _ rfl; clear hv1
                go_simp
              simp only [Act.put, List.setIfInBounds_toArray, List.set_cons_zero, List.set_cons_succ]
              refine wpAnyH_take (fuel := 45) (i := 6) (oi := ⟨some 139, _, _, _, _, _⟩) (v := .bool true) rfl (by kernel_rfl) (by kernel_rfl) (by kernel_rfl) (fun _ _ _ h => h) (Or.inl ⟨by rfl, ?_⟩) hh0 ?_
              · rintro w' hSS
                obtain ⟨hv1, -, hbx⟩ := hSS; have hv15 : w'.cell? ⟨g', o' + A * 17 + 15, none⟩ = some (.bool v.st) := hv1 15 _ rfl; clear hv1
                go_simp
              simp only [Act.put, List.setIfInBounds_toArray, List.set_cons_zero, List.set_cons_succ]
              refine wpAnyH_take (fuel := 44) (i := 7) (oi := ⟨some 140, _, _, _, _, _⟩) (v := .bool true) rfl (by kernel_rfl) (by kernel_rfl) (by kernel_rfl) (fun _ _ _ h => h) (Or.inl ⟨by rfl, ?_⟩) hh0 ?_
              · rintro w' hSS
                obtain ⟨hv1, -, hbx⟩ := hSS; have hv15 : w'.cell? ⟨g', o' + A * 17 + 15, none⟩ = some (.bool v.st) := hv1 15 _ rfl; clear hv1
                go_simp
              simp only [Act.put, List.setIfInBounds_toArray, List.set_cons_zero, List.set_cons_succ]
              refine wpAnyH_take (fuel := 43) (i := 8) (oi := ⟨some 141, _, _, _, _, _⟩) (v := .bool true) rfl (by kernel_rfl) (by kernel_rfl) (by kernel_rfl) (fun _ _ _ h => h) (Or.inl ⟨by rfl, ?_⟩) hh0 ?_
              · rintro w' hSS
                obtain ⟨hv1, -, hbx⟩ := hSS; have hv15 : w'.cell? ⟨g', o' + A * 17 + 15, none⟩ = some (.bool v.st) := hv1 15 _ rfl; clear hv1
                go_simp
              simp only [Act.put, List.setIfInBounds_toArray, List.set_cons_zero, List.set_cons_succ]
              refine wpAnyH_take (fuel := 42) (i := 9) (oi := ⟨some 142, _, _, _, _, _⟩) (v := .int .i64 A) rfl (by kernel_rfl) (by kernel_rfl) (by kernel_rfl) (fun _ _ _ h => h) (Or.inl ⟨by rfl, ?_⟩) hh0 ?_
              · rintro w' hSS
                obtain ⟨hv1, -, hbx⟩ := hSS; have hv15 : w'.cell? ⟨g', o' + A * 17 + 15, none⟩ = some (.bool v.st) := hv1 15 _ rfl; clear hv1
                go_simp
              simp only [Act.put, List.setIfInBounds_toArray, List.set_cons_zero, List.set_cons_succ]
              refine wpAnyH_take (fuel := 41) (i := 10) (oi := ⟨some 143, _, _, _, _, _⟩) (v := .pointer (some ⟨w.heap.size, 1, none⟩)) rfl (by kernel_rfl) (by kernel_rfl) (by kernel_rfl) (fun _ _ _ h => h) (Or.inl ⟨by rfl, ?_⟩) hh0 ?_
              · rintro w' hSS
                obtain ⟨hv1, -, hbx⟩ := hSS; have hv15 : w'.cell? ⟨g', o' + A * 17 + 15, none⟩ = some (.bool v.st) := hv1 15 _ rfl; clear hv1
                go_simp
              simp only [Act.put, List.setIfInBounds_toArray, List.set_cons_zero, List.set_cons_succ]
              refine wpAnyH_take (fuel := 40) (i := 11) (oi := ⟨some 144, _, _, _, _, _⟩) (v := .int .i64 x.n) rfl (by kernel_rfl) (by kernel_rfl) (by kernel_rfl) (fun _ _ _ h => h) (Or.inl ⟨by rfl, ?_⟩) hh0 ?_
              · rintro w' hSS
                obtain ⟨hv1, -, hbx⟩ := hSS; have hv15 : w'.cell? ⟨g', o' + A * 17 + 15, none⟩ = some (.bool v.st) := hv1 15 _ rfl; clear hv1
                go_simp
              simp only [Act.put, List.setIfInBounds_toArray, List.set_cons_zero, List.set_cons_succ]
              refine wpAnyH_take (fuel := 39) (i := 12) (oi := ⟨some 145, _, _, _, _, _⟩) (v := .bool true) rfl (by kernel_rfl) (by kernel_rfl) (by kernel_rfl) (fun _ _ _ h => h) (Or.inl ⟨by rfl, ?_⟩) hh0 ?_
              · rintro w' hSS
                obtain ⟨hv1, -, hbx⟩ := hSS; have hv15 : w'.cell? ⟨g', o' + A * 17 + 15, none⟩ = some (.bool v.st) := hv1 15 _ rfl; clear hv1
                go_simp
              simp only [Act.put, List.setIfInBounds_toArray, List.set_cons_zero, List.set_cons_succ]
              refine wpAnyH_take (fuel := 38) (i := 13) (oi := ⟨some 146, _, _, _, _, _⟩) (v := .bool true) rfl (by kernel_rfl) (by kernel_rfl) (by kernel_rfl) (fun _ _ _ h => h) (Or.inl ⟨by rfl, ?_⟩) hh0 ?_
              · rintro w' hSS
                obtain ⟨hv1, -, hbx⟩ := hSS; have hv15 : w'.cell? ⟨g', o' + A * 17 + 15, none⟩ = some (.bool v.st) := hv1 15 _ rfl; clear hv1
                go_simp
              simp only [Act.put, List.setIfInBounds_toArray, List.set_cons_zero, List.set_cons_succ]
              refine wpAnyH_take (fuel := 37) (i := 14) (oi := ⟨some 147, _, _, _, _, _⟩) (v := .bool true) rfl (by kernel_rfl) (by kernel_rfl) (by kernel_rfl) (fun _ _ _ h => h) (Or.inl ⟨by rfl, ?_⟩) hh0 ?_
              · rintro w' hSS
                obtain ⟨hv1, -, hbx⟩ := hSS; have hv15 : w'.cell? ⟨g', o' + A * 17 + 15, none⟩ = some (.bool v.st) := hv1 15 _ rfl; clear hv1
                go_simp
              simp only [Act.put, List.setIfInBounds_toArray, List.set_cons_zero, List.set_cons_succ]
              refine wpAnyH_take (fuel := 36) (i := 15) (oi := ⟨some 148, _, _, _, _, _⟩) (v := .int .i64 A) rfl (by kernel_rfl) (by kernel_rfl) (by kernel_rfl) (fun _ _ _ h => h) (Or.inl ⟨by rfl, ?_⟩) hh0 ?_
              · rintro w' hSS
                obtain ⟨hv1, -, hbx⟩ := hSS; have hv15 : w'.cell? ⟨g', o' + A * 17 + 15, none⟩ = some (.bool v.st) := hv1 15 _ rfl; clear hv1
                go_simp
              simp only [Act.put, List.setIfInBounds_toArray, List.set_cons_zero, List.set_cons_succ]
              refine wpAnyH_take (fuel := 35) (i := 16) (oi := ⟨some 149, _, _, _, _, _⟩) (v := .slice (some ⟨g, o, none⟩) N.length c5) rfl (by kernel_rfl) (by kernel_rfl) (by kernel_rfl) (fun _ _ _ h => h) (Or.inl ⟨by rfl, ?_⟩) hh0 ?_
              · rintro w' hSS
                obtain ⟨hv1, -, hbx⟩ := hSS; have hv15 : w'.cell? ⟨g', o' + A * 17 + 15, none⟩ = some (.bool v.st) := hv1 15 _ rfl; clear hv1
                go_simp
              simp only [Act.put, List.setIfInBounds_toArray, List.set_cons_zero, List.set_cons_succ]
              refine wpAnyH_take (fuel := 34) (i := 17) (oi := ⟨some 150, _, _, _, _, _⟩) (v := .int .i64 N.length) rfl (by kernel_rfl) (by kernel_rfl) (by kernel_rfl) (fun _ _ _ h => h) (Or.inl ⟨by rfl, ?_⟩) hh0 ?_
              · rintro w' hSS
                obtain ⟨hv1, -, hbx⟩ := hSS; have hv15 : w'.cell? ⟨g', o' + A * 17 + 15, none⟩ = some (.bool v.st) := hv1 15 _ rfl; clear hv1
                go_simp
              simp only [Act.put, List.setIfInBounds_toArray, List.set_cons_zero, List.set_cons_succ]
              refine wpAnyH_take (fuel := 33) (i := 18) (oi := ⟨some 151, _, _, _, _, _⟩) (v := .bool true) rfl (by kernel_rfl) (by kernel_rfl) (by kernel_rfl) (fun _ _ _ h => h) (Or.inl ⟨by rfl, ?_⟩) hh0 ?_
              · rintro w' hSS
                obtain ⟨hv1, -, hbx⟩ := hSS; have hv15 : w'.cell? ⟨g', o' + A * 17 + 15, none⟩ = some (.bool v.st) := hv1 15 _ rfl; clear hv1
                go_simp
              simp only [Act.put, List.setIfInBounds_toArray, List.set_cons_zero, List.set_cons_succ]
              refine wpAnyH_take (fuel := 32) (i := 19) (oi := ⟨some 152, _, _, _, _, _⟩) (v := .bool true) rfl (by kernel_rfl) (by kernel_rfl) (by kernel_rfl) (fun _ _ _ h => h) (Or.inl ⟨by rfl, ?_⟩) hh0 ?_
              · rintro w' hSS
                obtain ⟨hv1, -, hbx⟩ := hSS; have hv15 : w'.cell? ⟨g', o' + A * 17 + 15, none⟩ = some (.bool v.st) := hv1 15 _ rfl; clear hv1
                go_simp
              simp only [Act.put, List.setIfInBounds_toArray, List.set_cons_zero, List.set_cons_succ]
              refine wpAnyH_take (fuel := 31) (i := 20) (oi := ⟨some 153, _, _, _, _, _⟩) (v := .bool true) rfl (by kernel_rfl) (by kernel_rfl) (by kernel_rfl) (fun _ _ _ h => h) (Or.inl ⟨by rfl, ?_⟩) hh0 ?_
              · rintro w' hSS
                obtain ⟨hv1, -, hbx⟩ := hSS; have hv15 : w'.cell? ⟨g', o' + A * 17 + 15, none⟩ = some (.bool v.st) := hv1 15 _ rfl; clear hv1
                go_simp
              simp only [Act.put, List.setIfInBounds_toArray, List.set_cons_zero, List.set_cons_succ]
              refine wpAnyH_take (fuel := 30) (i := 21) (oi := ⟨some 154, _, _, _, _, _⟩) (v := .slice (some ⟨g', o', none⟩) R.length c9) rfl (by kernel_rfl) (by kernel_rfl) (by kernel_rfl) (fun _ _ _ h => h) (Or.inl ⟨by rfl, ?_⟩) hh0 ?_
              · rintro w' hSS
                obtain ⟨hv1, -, hbx⟩ := hSS; have hv15 : w'.cell? ⟨g', o' + A * 17 + 15, none⟩ = some (.bool v.st) := hv1 15 _ rfl; clear hv1
                go_simp
              simp only [Act.put, List.setIfInBounds_toArray, List.set_cons_zero, List.set_cons_succ]
              refine wpAnyH_take (fuel := 29) (i := 22) (oi := ⟨some 155, _, _, _, _, _⟩) (v := .int .i64 A) rfl (by kernel_rfl) (by kernel_rfl) (by kernel_rfl) (fun _ _ _ h => h) (Or.inl ⟨by rfl, ?_⟩) hh0 ?_
              · rintro w' hSS
                obtain ⟨hv1, -, hbx⟩ := hSS; have hv15 : w'.cell? ⟨g', o' + A * 17 + 15, none⟩ = some (.bool v.st) := hv1 15 _ rfl; clear hv1
                go_simp
              simp only [Act.put, List.setIfInBounds_toArray, List.set_cons_zero, List.set_cons_succ]
              refine wpAnyH_take (fuel := 28) (i := 23) (oi := ⟨some 156, _, _, _, _, _⟩) (v := .pointer (some ⟨g', o' + A * 17, none⟩)) rfl (by kernel_rfl) (by kernel_rfl) (by kernel_rfl) (fun _ _ _ h => h) (Or.inl ⟨by rfl, ?_⟩) hh0 ?_
              · rintro w' hSS
                obtain ⟨hv1, -, hbx⟩ := hSS; have hv15 : w'.cell? ⟨g', o' + A * 17 + 15, none⟩ = some (.bool v.st) := hv1 15 _ rfl; clear hv1
                go_simp
              simp only [Act.put, List.setIfInBounds_toArray, List.set_cons_zero, List.set_cons_succ]
              refine wpAnyH_take (fuel := 27) (i := 24) (oi := ⟨some 157, _, _, _, _, _⟩) (v := .pointer (some ⟨g', o' + A * 17, none⟩)) rfl (by kernel_rfl) (by kernel_rfl) (by kernel_rfl) (fun _ _ _ h => h) (Or.inl ⟨by rfl, ?_⟩) hh0 ?_
              · rintro w' hSS
                obtain ⟨hv1, -, hbx⟩ := hSS; have hv15 : w'.cell? ⟨g', o' + A * 17 + 15, none⟩ = some (.bool v.st) := hv1 15 _ rfl; clear hv1
                go_simp
              simp only [Act.put, List.setIfInBounds_toArray, List.set_cons_zero, List.set_cons_succ]
              refine wpAnyH_take (fuel := 26) (i := 25) (oi := ⟨some 158, _, _, _, _, _⟩) (v := mv v.m) rfl (by kernel_rfl) (by kernel_rfl) (by kernel_rfl) (fun _ _ _ h => h) (yields_load_at (by rfl) 35 (.tmp 157) rfl g' (o' + A * 17) rfl (mcells v.m) _ (fun w' h => e_pre h.1) Try.underlying35 rfl (by kernel_rfl)) hh0 ?_
              simp only [Act.put, List.setIfInBounds_toArray, List.set_cons_zero, List.set_cons_succ]
              refine wpAnyH_take (fuel := 25) (i := 26) (oi := ⟨some 159, _, _, _, _, _⟩) (v := .slice (some ⟨g, o, none⟩) N.length c5) rfl (by kernel_rfl) (by kernel_rfl) (by kernel_rfl) (fun _ _ _ h => h) (Or.inl ⟨by rfl, ?_⟩) hh0 ?_
              · rintro w' hSS
                obtain ⟨hv1, -, hbx⟩ := hSS; have hv15 : w'.cell? ⟨g', o' + A * 17 + 15, none⟩ = some (.bool v.st) := hv1 15 _ rfl; clear hv1
                go_simp
              simp only [Act.put, List.setIfInBounds_toArray, List.set_cons_zero, List.set_cons_succ]
              refine wpAnyH_take (fuel := 24) (i := 27) (oi := ⟨some 160, _, _, _, _, _⟩) (v := .int .i64 A) rfl (by kernel_rfl) (by kernel_rfl) (by kernel_rfl) (fun _ _ _ h => h) (Or.inl ⟨by rfl, ?_⟩) hh0 ?_
              · rintro w' hSS
                obtain ⟨hv1, -, hbx⟩ := hSS; have hv15 : w'.cell? ⟨g', o' + A * 17 + 15, none⟩ = some (.bool v.st) := hv1 15 _ rfl; clear hv1
                go_simp
              simp only [Act.put, List.setIfInBounds_toArray, List.set_cons_zero, List.set_cons_succ]
              refine wpAnyH_take (fuel := 23) (i := 28) (oi := ⟨some 161, _, _, _, _, _⟩) (v := .pointer (some ⟨g, o + A * 17, none⟩)) rfl (by kernel_rfl) (by kernel_rfl) (by kernel_rfl) (fun _ _ _ h => h) (Or.inl ⟨by rfl, ?_⟩) hh0 ?_
              · rintro w' hSS
                obtain ⟨hv1, -, hbx⟩ := hSS; have hv15 : w'.cell? ⟨g', o' + A * 17 + 15, none⟩ = some (.bool v.st) := hv1 15 _ rfl; clear hv1
                go_simp
              simp only [Act.put, List.setIfInBounds_toArray, List.set_cons_zero, List.set_cons_succ]
              refine wpAnyH_take (fuel := 22) (i := 29) (oi := ⟨some 162, _, _, _, _, _⟩) (v := .pointer (some ⟨g, o + A * 17, none⟩)) rfl (by kernel_rfl) (by kernel_rfl) (by kernel_rfl) (fun _ _ _ h => h) (Or.inl ⟨by rfl, ?_⟩) hh0 ?_
              · rintro w' hSS
                obtain ⟨hv1, -, hbx⟩ := hSS; have hv15 : w'.cell? ⟨g', o' + A * 17 + 15, none⟩ = some (.bool v.st) := hv1 15 _ rfl; clear hv1
                go_simp
              simp only [Act.put, List.setIfInBounds_toArray, List.set_cons_zero, List.set_cons_succ]
              refine wpAnyH_take (fuel := 21) (i := 30) (oi := ⟨some 163, _, _, _, _, _⟩) (v := mv u.m) rfl (by kernel_rfl) (by kernel_rfl) (by kernel_rfl) (fun _ _ _ h => h) (yields_load_at (by rfl) 35 (.tmp 162) rfl g (o + A * 17) rfl (mcells u.m) _ (fun w' h => e_pre h.2.1) Try.underlying35 rfl (by kernel_rfl)) hh0 ?_
              simp only [Act.put, List.setIfInBounds_toArray, List.set_cons_zero, List.set_cons_succ]
              refine wpAnyH_take (fuel := 20) (i := 31) (oi := ⟨some 164, _, _, _, _, _⟩) (v := .bool true) rfl (by kernel_rfl) (by kernel_rfl) (by kernel_rfl) (fun _ _ _ h => h) (Or.inl ⟨by rfl, ?_⟩) hh0 ?_
              · rintro w' hSS
                obtain ⟨hv1, -, hbx⟩ := hSS; have hv15 : w'.cell? ⟨g', o' + A * 17 + 15, none⟩ = some (.bool v.st) := hv1 15 _ rfl; clear hv1
                go_simp
              simp only [Act.put, List.setIfInBounds_toArray, List.set_cons_zero, List.set_cons_succ]
              refine wpAnyH_take (fuel := 19) (i := 32) (oi := ⟨some 165, _, _, _, _, _⟩) (v := .bool true) rfl (by kernel_rfl) (by kernel_rfl) (by kernel_rfl) (fun _ _ _ h => h) (Or.inl ⟨by rfl, ?_⟩) hh0 ?_
              · rintro w' hSS
                obtain ⟨hv1, -, hbx⟩ := hSS; have hv15 : w'.cell? ⟨g', o' + A * 17 + 15, none⟩ = some (.bool v.st) := hv1 15 _ rfl; clear hv1
                go_simp
              simp only [Act.put, List.setIfInBounds_toArray, List.set_cons_zero, List.set_cons_succ]
              refine wpAnyH_take (fuel := 18) (i := 33) (oi := ⟨some 166, _, _, _, _, _⟩) (v := .bool true) rfl (by kernel_rfl) (by kernel_rfl) (by kernel_rfl) (fun _ _ _ h => h) (Or.inl ⟨by rfl, ?_⟩) hh0 ?_
              · rintro w' hSS
                obtain ⟨hv1, -, hbx⟩ := hSS; have hv15 : w'.cell? ⟨g', o' + A * 17 + 15, none⟩ = some (.bool v.st) := hv1 15 _ rfl; clear hv1
                go_simp
              simp only [Act.put, List.setIfInBounds_toArray, List.set_cons_zero, List.set_cons_succ]
              refine wpAnyH_take (fuel := 17) (i := 34) (oi := ⟨some 167, _, _, _, _, _⟩) (v := .slice (some ⟨g', o', none⟩) R.length c9) rfl (by kernel_rfl) (by kernel_rfl) (by kernel_rfl) (fun _ _ _ h => h) (Or.inl ⟨by rfl, ?_⟩) hh0 ?_
              · rintro w' hSS
                obtain ⟨hv1, -, hbx⟩ := hSS; have hv15 : w'.cell? ⟨g', o' + A * 17 + 15, none⟩ = some (.bool v.st) := hv1 15 _ rfl; clear hv1
                go_simp
              simp only [Act.put, List.setIfInBounds_toArray, List.set_cons_zero, List.set_cons_succ]
              refine wpAnyH_take (fuel := 16) (i := 35) (oi := ⟨some 168, _, _, _, _, _⟩) (v := .int .i64 A) rfl (by kernel_rfl) (by kernel_rfl) (by kernel_rfl) (fun _ _ _ h => h) (Or.inl ⟨by rfl, ?_⟩) hh0 ?_
              · rintro w' hSS
                obtain ⟨hv1, -, hbx⟩ := hSS; have hv15 : w'.cell? ⟨g', o' + A * 17 + 15, none⟩ = some (.bool v.st) := hv1 15 _ rfl; clear hv1
                go_simp
              simp only [Act.put, List.setIfInBounds_toArray, List.set_cons_zero, List.set_cons_succ]
              refine wpAnyH_take (fuel := 15) (i := 36) (oi := ⟨some 169, _, _, _, _, _⟩) (v := .pointer (some ⟨g', o' + A * 17, none⟩)) rfl (by kernel_rfl) (by kernel_rfl) (by kernel_rfl) (fun _ _ _ h => h) (Or.inl ⟨by rfl, ?_⟩) hh0 ?_
              · rintro w' hSS
                obtain ⟨hv1, -, hbx⟩ := hSS; have hv15 : w'.cell? ⟨g', o' + A * 17 + 15, none⟩ = some (.bool v.st) := hv1 15 _ rfl; clear hv1
                go_simp
              simp only [Act.put, List.setIfInBounds_toArray, List.set_cons_zero, List.set_cons_succ]
              refine wpAnyH_take (fuel := 14) (i := 37) (oi := ⟨some 170, _, _, _, _, _⟩) (v := .pointer (some ⟨g', o' + A * 17 + 15, none⟩)) rfl (by kernel_rfl) (by kernel_rfl) (by kernel_rfl) (fun _ _ _ h => h) (Or.inl ⟨by rfl, ?_⟩) hh0 ?_
              · rintro w' hSS
                obtain ⟨hv1, -, hbx⟩ := hSS; have hv15 : w'.cell? ⟨g', o' + A * 17 + 15, none⟩ = some (.bool v.st) := hv1 15 _ rfl; clear hv1
                go_simp
              simp only [Act.put, List.setIfInBounds_toArray, List.set_cons_zero, List.set_cons_succ]
              refine wpAnyH_take (fuel := 13) (i := 38) (oi := ⟨some 171, _, _, _, _, _⟩) (v := .bool v.st) rfl (by kernel_rfl) (by kernel_rfl) (by kernel_rfl) (fun _ _ _ h => h) (Or.inl ⟨by rfl, ?_⟩) hh0 ?_
              · rintro w' hSS
                obtain ⟨hv1, -, hbx⟩ := hSS; have hv15 : w'.cell? ⟨g', o' + A * 17 + 15, none⟩ = some (.bool v.st) := hv1 15 _ rfl; clear hv1
                go_simp
              simp only [Act.put, List.setIfInBounds_toArray, List.set_cons_zero, List.set_cons_succ]
              refine wpAnyH_take (fuel := 12) (i := 39) (oi := ⟨some 172, _, _, _, _, _⟩) (v := .bool true) rfl (by kernel_rfl) (by kernel_rfl) (by kernel_rfl) (fun _ _ _ h => h) (Or.inl ⟨by rfl, ?_⟩) hh0 ?_
              · rintro w' hSS
                obtain ⟨hv1, -, hbx⟩ := hSS; have hv15 : w'.cell? ⟨g', o' + A * 17 + 15, none⟩ = some (.bool v.st) := hv1 15 _ rfl; clear hv1
                go_simp
              simp only [Act.put, List.setIfInBounds_toArray, List.set_cons_zero, List.set_cons_succ]
              refine wpAnyH_take (fuel := 11) (i := 40) (oi := ⟨some 173, _, _, _, _, _⟩) (v := .bool true) rfl (by kernel_rfl) (by kernel_rfl) (by kernel_rfl) (fun _ _ _ h => h) (Or.inl ⟨by rfl, ?_⟩) hh0 ?_
              · rintro w' hSS
                obtain ⟨hv1, -, hbx⟩ := hSS; have hv15 : w'.cell? ⟨g', o' + A * 17 + 15, none⟩ = some (.bool v.st) := hv1 15 _ rfl; clear hv1
                go_simp
              simp only [Act.put, List.setIfInBounds_toArray, List.set_cons_zero, List.set_cons_succ]
              refine wpAnyH_take (fuel := 10) (i := 41) (oi := ⟨some 174, _, _, _, _, _⟩) (v := .slice (some ⟨g, o, none⟩) N.length c5) rfl (by kernel_rfl) (by kernel_rfl) (by kernel_rfl) (fun _ _ _ h => h) (Or.inl ⟨by rfl, ?_⟩) hh0 ?_
              · rintro w' hSS
                obtain ⟨hv1, -, hbx⟩ := hSS; have hv15 : w'.cell? ⟨g', o' + A * 17 + 15, none⟩ = some (.bool v.st) := hv1 15 _ rfl; clear hv1
                go_simp
              simp only [Act.put, List.setIfInBounds_toArray, List.set_cons_zero, List.set_cons_succ]
              refine wpAnyH_take (fuel := 9) (i := 42) (oi := ⟨some 175, _, _, _, _, _⟩) (v := .int .i64 A) rfl (by kernel_rfl) (by kernel_rfl) (by kernel_rfl) (fun _ _ _ h => h) (Or.inl ⟨by rfl, ?_⟩) hh0 ?_
              · rintro w' hSS
                obtain ⟨hv1, -, hbx⟩ := hSS; have hv15 : w'.cell? ⟨g', o' + A * 17 + 15, none⟩ = some (.bool v.st) := hv1 15 _ rfl; clear hv1
                go_simp
              simp only [Act.put, List.setIfInBounds_toArray, List.set_cons_zero, List.set_cons_succ]
              refine wpAnyH_take (fuel := 8) (i := 43) (oi := ⟨some 176, _, _, _, _, _⟩) (v := .int .i64 (A + 1)) rfl (by kernel_rfl) (by kernel_rfl) (by kernel_rfl) (fun _ _ _ h => h) (Or.inl ⟨by rfl, ?_⟩) hh0 ?_
              · rintro w' hSS
                obtain ⟨hv1, -, hbx⟩ := hSS; have hv15 : w'.cell? ⟨g', o' + A * 17 + 15, none⟩ = some (.bool v.st) := hv1 15 _ rfl; clear hv1
                go_simp
              simp only [Act.put, List.setIfInBounds_toArray, List.set_cons_zero, List.set_cons_succ]
              refine wpAnyH_take (fuel := 7) (i := 44) (oi := ⟨some 177, _, _, _, _, _⟩) (v := .slice D5 (N.length - (A + 1)) (c5 - (A + 1))) rfl (by kernel_rfl) (by kernel_rfl) (by kernel_rfl) (fun _ _ _ h => h) (Or.inl ⟨by rfl, ?_⟩) hh0 ?_
              · rintro w' hSS
                obtain ⟨hv1, -, hbx⟩ := hSS; have hv15 : w'.cell? ⟨g', o' + A * 17 + 15, none⟩ = some (.bool v.st) := hv1 15 _ rfl; clear hv1
                go_simp
              simp only [Act.put, List.setIfInBounds_toArray, List.set_cons_zero, List.set_cons_succ]
              refine wpAnyH_take (fuel := 6) (i := 45) (oi := ⟨some 178, _, _, _, _, _⟩) (v := .slice (some ⟨g', o', none⟩) R.length c9) rfl (by kernel_rfl) (by kernel_rfl) (by kernel_rfl) (fun _ _ _ h => h) (Or.inl ⟨by rfl, ?_⟩) hh0 ?_
              · rintro w' hSS
                obtain ⟨hv1, -, hbx⟩ := hSS; have hv15 : w'.cell? ⟨g', o' + A * 17 + 15, none⟩ = some (.bool v.st) := hv1 15 _ rfl; clear hv1
                go_simp
              simp only [Act.put, List.setIfInBounds_toArray, List.set_cons_zero, List.set_cons_succ]
              refine wpAnyH_take (fuel := 5) (i := 46) (oi := ⟨some 179, _, _, _, _, _⟩) (v := .int .i64 A) rfl (by kernel_rfl) (by kernel_rfl) (by kernel_rfl) (fun _ _ _ h => h) (Or.inl ⟨by rfl, ?_⟩) hh0 ?_
              · rintro w' hSS
                obtain ⟨hv1, -, hbx⟩ := hSS; have hv15 : w'.cell? ⟨g', o' + A * 17 + 15, none⟩ = some (.bool v.st) := hv1 15 _ rfl; clear hv1
                go_simp
              simp only [Act.put, List.setIfInBounds_toArray, List.set_cons_zero, List.set_cons_succ]
              refine wpAnyH_take (fuel := 4) (i := 47) (oi := ⟨some 180, _, _, _, _, _⟩) (v := .int .i64 (A + 1)) rfl (by kernel_rfl) (by kernel_rfl) (by kernel_rfl) (fun _ _ _ h => h) (Or.inl ⟨by rfl, ?_⟩) hh0 ?_
              · rintro w' hSS
                obtain ⟨hv1, -, hbx⟩ := hSS; have hv15 : w'.cell? ⟨g', o' + A * 17 + 15, none⟩ = some (.bool v.st) := hv1 15 _ rfl; clear hv1
                go_simp
              simp only [Act.put, List.setIfInBounds_toArray, List.set_cons_zero, List.set_cons_succ]
              refine wpAnyH_take (fuel := 3) (i := 48) (oi := ⟨some 181, _, _, _, _, _⟩) (v := .slice D9 (R.length - (A + 1)) (c9 - (A + 1))) rfl (by kernel_rfl) (by kernel_rfl) (by kernel_rfl) (fun _ _ _ h => h) (Or.inl ⟨by rfl, ?_⟩) hh0 ?_
              · rintro w' hSS
                obtain ⟨hv1, -, hbx⟩ := hSS; have hv15 : w'.cell? ⟨g', o' + A * 17 + 15, none⟩ = some (.bool v.st) := hv1 15 _ rfl; clear hv1
                go_simp
              simp only [Act.put, List.setIfInBounds_toArray, List.set_cons_zero, List.set_cons_succ]
              refine wpAnyH_ready (fuel := 2) (rs := [49]) (by kernel_rfl) (by simp) ?_
              refine AllReadyH.cons (o := ⟨some 182, _, _, _, _, _⟩) rfl (fun P hP => ?_) AllReadyH.nil
              go_simp
              refine (HC.out w2 HW.out).mono ?_
              rintro e w3 ⟨rfl, hb3⟩
              have HB3 := Lib.hid (bstep HW.out hb3)
              clear hb3
              show P _ _
              refine hP.out _ _ (HS.out _ HB3.out) (fun hh1 => ?_)
              clear hP P hh0
              try simp only [Act.put, List.setIfInBounds_toArray, List.set_cons_zero, List.set_cons_succ]
              refine wpAnyH_take (fuel := 1) (i := 50) (oi := ⟨some 183, _, _, _, _, _⟩) (v := .bool true) rfl (by kernel_rfl) (by kernel_rfl) (by kernel_rfl) (fun _ _ _ h => h) (Or.inl ⟨by rfl, ?_⟩) hh1 ?_
              · rintro w' hSS
                obtain ⟨hv1, -, hbx⟩ := hSS; have hv15 : w'.cell? ⟨g', o' + A * 17 + 15, none⟩ = some (.bool v.st) := hv1 15 _ rfl; clear hv1
                go_simp
              simp only [Act.put, List.setIfInBounds_toArray, List.set_cons_zero, List.set_cons_succ]
              refine wpAnyH_take (fuel := 0) (i := 51) (oi := ⟨some 6, _, _, _, _, _⟩) (v := .bool true) rfl (by kernel_rfl) (by kernel_rfl) (by kernel_rfl) (fun _ _ _ h => h) (Or.inl ⟨by rfl, ?_⟩) hh1 ?_
              · rintro w' hSS
                obtain ⟨hv1, -, hbx⟩ := hSS; have hv15 : w'.cell? ⟨g', o' + A * 17 + 15, none⟩ = some (.bool v.st) := hv1 15 _ rfl; clear hv1
                go_simp
              simp only [Act.put, List.setIfInBounds_toArray, List.set_cons_zero, List.set_cons_succ]
              refine wpAnyH_done (by kernel_rfl) ?_ _
              refine NoPanic.normal ?_
              clear hh1
              have HF := Lib.hid (bstep HB6.out HB3.out)
              go_wp2
              go_ret
              exact ⟨rfl, HF.out⟩
      · have hn1 : (n != 0) = true := by simpa using hn0
        have hML : M = L := by
          rcases HWY.out with ⟨_, h⟩ | ⟨h, _⟩ | ⟨h, _⟩ | ⟨h, _⟩
          · exact h
          · exact absurd h hn0
          · exact absurd h hn0
          · exact absurd h hn0
        have HE : Hid (decide (N.map Ep.pl = R.map Ep.pl) = true) := Lib.hid (by rw [decide_eq_true_iff, HPL.out, HPR.out, hML])
        have HNN : Hid (N.length ≤ 5000) := Lib.hid (by have := HNl.out; omega)
        clear hn0 hML HWY HD GD
        go_wp2_with fail
        refine (same_any q5 q9 c5 c9 N R w9 HNN.out HNF.out HI5.out HI9.out).mono ?_
        rintro e w10 ⟨rfl, hb10⟩
        rw [HE.out]
        have HF := Lib.hid (bstep HB9.out hb10)
        clear hb10 H5
        go_wp2
        go_ret
        exact ⟨rfl, HF.out⟩

end Go.Proofs.Ytnpbbkiojoafbaa
