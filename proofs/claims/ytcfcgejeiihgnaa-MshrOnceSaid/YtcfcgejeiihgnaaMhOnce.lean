/-
  MshrOnce is true: the walk.
-/
import Derived.Test.YtcfcgejeiihgnaaMhQ
import Derived.Test.YtcfcgejeiihgnaaMhTw
namespace Go.Proofs.Ytcfcgejeiihgnaa
open Go Go.RowKit Go.Maps

/-- What holds at each operation's head, and at each miss's that is looked at. -/
def OpRel (w : World) (b : Nat) (room : Int) (mo n : Nat) (i : Value) (wr : World) : Prop :=
  ∃ (k : Nat) (L : List Ms) (o : Obj) (D : DataW Unit) (m : Nat), k ≤ n ∧ i = .int .i64 k ∧ Own w b room k L [(mo, o)] wr ∧ MapO o mo m D ∧ Mp D (owB L) ∧ m ≤ k ∧ ∀ z ∈ L, (Lit.int .i64 z.ln).wf = true
def MsRel (w : World) (b : Nat) (room k : Int) (ms : Nat) (M : List Ms) (bx : List (Nat × Obj)) (i : Value) (wr : World) : Prop :=
  ∃ (j : Nat) (o : Obj) (D : DataW Unit), j ≤ M.length ∧ i = .int .i64 j ∧ Own w b room k M ((ms, o) :: bx) wr ∧ MapO o ms j D ∧ Mp D (fun y => ((M.take j).map Ms.ln).contains y) ∧ Maps.size D = j
theorem seen_not {M : List Ms} (h : (M.map Ms.ln).Nodup) {j : Nat} {m : Ms} (hm : M[j]? = some m) : ((M.take j).map Ms.ln).contains m.ln = false := by
  obtain ⟨h1, _⟩ := nd_split h hm
  rcases Bool.eq_false_or_eq_true (((M.take j).map Ms.ln).contains m.ln) with e | e
  · rw [List.contains_iff_mem] at e
    obtain ⟨z, hz, e2⟩ := List.mem_map.1 e
    exact absurd e2 (h1 z hz)
  · exact e
theorem seen_next {M : List Ms} {j : Nat} {m : Ms} (hm : M[j]? = some m) (y : Int) : ((M.take (j + 1)).map Ms.ln).contains y = (y == m.ln || ((M.take j).map Ms.ln).contains y) := by
  rw [List.take_add_one, hm, Bool.eq_iff_iff, List.contains_iff_mem]
  simp
  constructor
  · rintro (h | h)
    · exact .inr h
    · exact .inl h
  · rintro (h | h)
    · exact .inr h
    · exact .inl h
theorem get_pair {l : List Ms} {line : Int} {y y0 : Ms} {q0 : Bool} (h : getP l line = (y, true)) (h0 : getP l line = (y0, q0)) : y0 = y ∧ q0 = true := by
  rw [h0] at h
  simpa using h

theorem own_tail {w wr : World} {b : Nat} {room k : Int} {l : List Ms} {cx : List (Nat × Obj)} {p q : Nat × Obj} : Own w b room k l (cx ++ p :: [q]) wr → Own w b room k l [q] wr := by
  induction cx with
  | nil => exact fun h => h.drop
  | cons c cx ih => exact fun h => ih h.drop

set_option maxRecDepth 100000 in
set_option maxHeartbeats 8000000 in
theorem mshrOnce_any (room : Int) (p : Option Addr) (cap : Nat) (l : List Mo) (w : World) (hl : OpsW w p l) (hn : l.length ≤ 9223372036854775807) :
    Calls Try.prog 4 #[.int .i64 room, .slice p l.length cap] w fun e w' => e = .returned (.bool true) ∧ Below w.heap.size w w' := by
  have HL := Lib.hid hl.1
  have HLW := Lib.hid hl.2
  clear hl
  have hmm := @run_makeMap Try.prog
  go_enter Try.func4, Try.ntmps4
  go_wp2_with fail
  refine (awake_any _).mono ?_
  rintro e w1 ⟨rfl, hb⟩
  have HB := Lib.hid hb
  clear hb
  by_cases h60 : 60 < l.length
  · clear HL HLW hmm
    go_wp2
    go_ret
    exact ⟨rfl, HB.out⟩
  by_cases hr : room < 1 ∨ 8 < room
  · clear HL HLW hmm
    have hro := Lib.hid hr
    clear hr
    go_wp2_with fail
    refine (new_no room _ hro.out).mono ?_
    rintro e w2 ⟨rfl, rfl⟩
    go_wp2
    go_ret
    exact ⟨rfl, HB.out⟩
  have HR := Lib.hid hr
  clear hr
  go_wp2_with fail
  refine (newO (w := w1) (room := room) (by have := HR.out; omega) (by have := HR.out; omega) (Below.refl _ w1)).mono ?_
  rintro e w2 ⟨b, rfl, ho, -⟩
  have H0 := Lib.hid (ho.add (.map #[] 0))
  clear ho HR
  go_wp2
  generalize w2.alloc (.map #[] 0) = w3 at *
  generalize w2.heap.size = mo at *
  go_loopw [33] (fun i wr => OpRel w1 b room mo l.length i wr) (fun i _ => l.length - (intOf i).toNat)
  case atStart => exact ⟨0, [], _, _, 0, by omega, rfl, H0.out, MapO.new mo, Mp.empty, by omega, fun z hz => (by cases hz)⟩
  case round =>
    obtain ⟨k, L, o, D, n, hk, rfl, ho, hmap, hmp, hnk, hlw⟩ := hrel
    obtain ⟨wo, rfl⟩ : ∃ wo : World, wo = wr := ⟨_, rfl⟩
    have H1 := Lib.hid ho
    have HM := Lib.hid hmap
    have HP := Lib.hid hmp
    have HLN := Lib.hid hlw
    clear ho hmap hmp hlw H0
    by_cases hlt : k < l.length
    · obtain ⟨x, hx⟩ : ∃ x, l[k]? = some x := ⟨_, List.getElem?_eq_getElem hlt⟩
      obtain ⟨g, off, rfl, hgl, hr⟩ := HL.out.step (bstep HB.out H1.out.bl) k x hx
      have HRO := Lib.hid hr
      have HWF := Lib.hid (HLW.out x (List.mem_of_getElem? hx))
      obtain ⟨y, q, nn, M, hD⟩ : ∃ y q n M, doP room L x = ((y, q, n), M) := ⟨_, _, _, _, rfl⟩
      obtain ⟨y0, q0, hG⟩ : ∃ y q, getP L x.ln = (y, q) := ⟨_, _, rfl⟩
      have HD := Lib.hid hD
      have HG := Lib.hid hG
      have HLM : Hid (∀ z ∈ M, (Lit.int .i64 z.ln).wf = true) := Lib.hid (fun z hz => by
        rcases lnIn_doP hD z hz with e | ⟨u, hu, e⟩
        · rw [e]; exact HWF.out
        · rw [← e]; exact HLN.out u hu)
      have GD := Lib.hid H1.out.gd
      have H2 := Lib.hid (H1.out.addRow #[.int .i64 0, .int .i64 0, .int .i64 0, .int .i64 0, .int .i64 0, .int .i64 0, .int .i64 0, .int .i64 0, .int .i64 0, .int .i64 0, .int .i64 0, .int .i64 0] (ocells x) 38)
      clear hr hx hD hG H1 HLN
      have hcw : q = true ∨ q = false ∧ (0 ≤ x.k ∧ x.k ≤ 4) ∨ q = false ∧ (x.k < 0 ∨ 4 < x.k) := by
        rcases Bool.eq_false_or_eq_true q with e | e
        · exact .inl e
        · by_cases h : 0 ≤ x.k ∧ x.k ≤ 4
          · exact .inr (.inl ⟨e, h⟩)
          · exact .inr (.inr ⟨e, by omega⟩)
      rcases hcw with rfl | ⟨rfl, hx0, hx4⟩ | ⟨rfl, hxk⟩
      · obtain ⟨h4, hO⟩ := doP_owes GD.out HD.out
        obtain ⟨rfl, rfl⟩ := get_pair hO.got HG.out
        obtain ⟨ln, kd, nd, gt, ow, wd, gr, os⟩ := y0
        obtain rfl : os = false := hO.os
        obtain rfl : nd = gt := hO.eq
        have hnd : 0 ≤ nd := hO.n0
        have HN := Lib.hid hO.not_
        have HW := Lib.hid hO.ow
        have hx4 : ¬ x.k < 0 := by omega
        have hx5 : ¬ 4 < x.k := by omega
        clear h4 hO
        as_aux_lemma =>
        go_wp2_with (first
          | ((with_reducible refine wpList_load_mid (op := ⟨some 36, _, _, _, _, _⟩) rfl 38 (.tmp 35) rfl g (off + k * 12) ?lx (oc x) _ ?lc Try.underlying38 ?ld ?li ?_); (case lx => rfl); (case lc => exact HRO.out); (case ld => rfl); (case li => kernel_rfl))
          | ((with_reducible refine wpList_store_row (o := ⟨none, _, _, _, _, _⟩) rfl 38 (.tmp 9) (.tmp 36) rfl wo.heap.size (ocells x) ?sx ?sy 38 ?old ?sg ?si ?so ?s1 ?_); (case sx => rfl); (case sy => rfl); (case old => exact #[.int .i64 0, .int .i64 0, .int .i64 0, .int .i64 0, .int .i64 0, .int .i64 0, .int .i64 0, .int .i64 0, .int .i64 0, .int .i64 0, .int .i64 0, .int .i64 0]); (case sg => exact heap_alloc_new wo _); (case si => kernel_rfl); (case so => rfl); (case s1 => kernel_rfl); generalize (wo.alloc (.cells #[.int .i64 0, .int .i64 0, .int .i64 0, .int .i64 0, .int .i64 0, .int .i64 0, .int .i64 0, .int .i64 0, .int .i64 0, .int .i64 0, .int .i64 0, .int .i64 0] 38)).setRow wo.heap.size (ocells x) = w4 at *; generalize wo.heap.size = k9 at *; have hA := H2.out.cells (List.mem_cons_self ..)))
        refine (H2.out.get x.ln HG.out).mono ?_
        rintro e w5 ⟨rfl, hb⟩
        have H3 := Lib.hid ((H2.out.step hb).addRow #[.int .i64 0, .int .i64 0, .int .i64 0, .int .i64 0, .int .i64 0, .int .i64 0, .int .i64 0, .int .i64 0, .int .i64 0, .int .i64 0, .int .i64 0, .int .i64 0, .int .i64 0, .bool false, .bool false] (mcells ⟨ln, kd, nd, nd, ow, wd, gr, false⟩) 34)
        clear hb H2 hA
        go_wp2_with (first
          | ((with_reducible refine wpList_store_row (o := ⟨none, _, _, _, _, _⟩) rfl 34 (.tmp 10) (.tmp 42) rfl w5.heap.size (mcells ⟨ln, kd, nd, nd, ow, wd, gr, false⟩) ?sx ?sy 34 ?old ?sg ?si ?so ?s1 ?_); (case sx => rfl); (case sy => rfl); (case old => exact #[.int .i64 0, .int .i64 0, .int .i64 0, .int .i64 0, .int .i64 0, .int .i64 0, .int .i64 0, .int .i64 0, .int .i64 0, .int .i64 0, .int .i64 0, .int .i64 0, .int .i64 0, .bool false, .bool false]); (case sg => exact heap_alloc_new w5 _); (case si => kernel_rfl); (case so => rfl); (case s1 => kernel_rfl); generalize (w5.alloc (.cells #[.int .i64 0, .int .i64 0, .int .i64 0, .int .i64 0, .int .i64 0, .int .i64 0, .int .i64 0, .int .i64 0, .int .i64 0, .int .i64 0, .int .i64 0, .int .i64 0, .int .i64 0, .bool false, .bool false] 34)).setRow w5.heap.size (mcells ⟨ln, kd, nd, nd, ow, wd, gr, false⟩) = w6 at *; generalize w5.heap.size = k10 at *; have h9 := H3.out.box (List.mem_cons_of_mem _ (List.mem_cons_self ..)))
          | ((with_reducible refine wpList_load_row (o := ⟨some 46, _, _, _, _, _⟩) rfl 38 (.tmp 9) rfl k9 ?lx 38 (ocells x) (0, 0) _ ?lg Try.underlying38 ?ld ?li ?_); (case lx => rfl); (case lg => exact h9); (case ld => rfl); (case li => kernel_rfl)))
        refine (H3.out.op (by omega) x HD.out).mono ?_
        rintro e w7 ⟨rfl, ho⟩
        have H4 := Lib.hid (ho.addRow #[.int .i64 0, .int .i64 0, .int .i64 0, .int .i64 0, .int .i64 0, .int .i64 0, .int .i64 0, .int .i64 0, .int .i64 0, .int .i64 0, .int .i64 0, .int .i64 0, .int .i64 0, .bool false, .bool false] (mcells ⟨ln, kd, nd, nd, ow, wd, gr, false⟩) 34)
        clear ho H3 h9
        have hq : ∀ w, (binOp .neq 34 (.agg #[.int .i64 ln, .int .i64 kd, .int .i64 nd, .int .i64 nd, .int .i64 ow, .int .i64 wd.w0, .int .i64 wd.w1, .int .i64 wd.w2, .int .i64 wd.w3, .int .i64 wd.w4, .int .i64 wd.w5, .int .i64 wd.w6, .int .i64 wd.w7, .bool gr, .bool false]) (.agg #[.int .i64 ln, .int .i64 kd, .int .i64 nd, .int .i64 nd, .int .i64 ow, .int .i64 wd.w0, .int .i64 wd.w1, .int .i64 wd.w2, .int .i64 wd.w3, .int .i64 wd.w4, .int .i64 wd.w5, .int .i64 wd.w6, .int .i64 wd.w7, .bool gr, .bool false])).run Try.prog w = .ok (.bool false) w := fun w => miss_neq ⟨ln, kd, nd, nd, ow, wd, gr, false⟩ w
        go_wp2_with (first
          | ((with_reducible refine wpList_store_row (o := ⟨none, _, _, _, _, _⟩) rfl 34 (.tmp 12) (.tmp 48) rfl w7.heap.size (mcells ⟨ln, kd, nd, nd, ow, wd, gr, false⟩) ?sx ?sy 34 ?old ?sg ?si ?so ?s1 ?_); (case sx => rfl); (case sy => rfl); (case old => exact #[.int .i64 0, .int .i64 0, .int .i64 0, .int .i64 0, .int .i64 0, .int .i64 0, .int .i64 0, .int .i64 0, .int .i64 0, .int .i64 0, .int .i64 0, .int .i64 0, .int .i64 0, .bool false, .bool false]); (case sg => exact heap_alloc_new w7 _); (case si => kernel_rfl); (case so => rfl); (case s1 => kernel_rfl); generalize (w7.alloc (.cells #[.int .i64 0, .int .i64 0, .int .i64 0, .int .i64 0, .int .i64 0, .int .i64 0, .int .i64 0, .int .i64 0, .int .i64 0, .int .i64 0, .int .i64 0, .int .i64 0, .int .i64 0, .bool false, .bool false] 34)).setRow w7.heap.size (mcells ⟨ln, kd, nd, nd, ow, wd, gr, false⟩) = w8 at *; generalize w7.heap.size = k12 at *; have hA := H4.out.cells (List.mem_cons_of_mem _ (List.mem_cons_of_mem _ (List.mem_cons_self ..))); have hB := H4.out.cells (List.mem_cons_self ..); have hC := H4.out.cells (List.mem_cons_of_mem _ (List.mem_cons_self ..)); have hlk := HM.out.look (H4.out.box (List.mem_cons_of_mem _ (List.mem_cons_of_mem _ (List.mem_cons_of_mem _ (List.mem_cons_self ..))))) HP.out HWF.out HN.out)
          | (at_mapUpdate; refine wpList_mapUpdate_own _ rfl (.tmp 81) (.tmp 83) (.const (.bool true)) 54 rfl 3 4 law3 Try.underlying54 _ mo n D rfl (HM.out _ (H4.out.box (List.mem_cons_of_mem _ (List.mem_cons_of_mem _ (List.mem_cons_of_mem _ (List.mem_cons_self ..)))))) (by unfold maxLen; omega) (.int .i64 x.ln) (.bool true) (.int .i64 x.ln) rfl rfl (keyOf_int_mk Try.underlying3 HWF.out) (.lit (.bool true)) [] (plainElem_bool Try.underlying4 true) ?_; intro w9 hm9 hg9; obtain ⟨o2, ho2, hmo2⟩ := H4.out.drop.drop.swap.mapped hm9 hg9; have H5 := Lib.hid ho2; have HM2 := Lib.hid hmo2; clear hm9 hg9 ho2 hmo2 hA hB hC hlk hq; have hA := H5.out.cells (List.mem_cons_of_mem _ (List.mem_cons_self ..)))
          | fail)
        have HX := Lib.hid (H5.out.swap.drop)
        have H7 := Lib.hid (HX.out.add (.map #[] 0))
        obtain ⟨n2, D2, hM2, hP2, hn2⟩ : ∃ n2 D2, MapO o2 mo n2 D2 ∧ Mp D2 (owB M) ∧ n2 ≤ k + 1 := ⟨_, _, HM2.out, (HP.out.put x.ln).congr HW.out, by omega⟩
        have HM2 := Lib.hid hM2
        have HP2 := Lib.hid hP2
        clear HX hM2 hP2
        generalize w9.alloc (.map #[] 0) = w19 at *
        generalize w9.heap.size = ms at *
        refine (H7.out.listB).mono ?_
        rintro e w10 ⟨pl, cl, cx, rfl, ho, hls⟩
        have H8 := Lib.hid (ho.perm (List.perm_middle (l₁ := cx) (a := (ms, Obj.map #[] 0)) (l₂ := [(mo, o2)])))
        have HLS := Lib.hid hls
        clear ho hls H7
        go_wp2
        go_loopw [106] (fun i wr => MsRel w1 b room ((k : Int) + 1) ms M (cx ++ [(mo, o2)]) i wr) (fun i _ => M.length - (intOf i).toNat)
        case atStart => exact ⟨0, _, _, by omega, rfl, H8.out, MapO.new ms, Mp.empty.congr (fun y => by simp), by rw [Maps.size_eq]; rfl⟩
        case round =>
          obtain ⟨j, o3, D3, hj, rfl, ho, hmap3, hmp3, hsz3⟩ := hrel
          have H9 := Lib.hid ho
          have HM3 := Lib.hid hmap3
          have HP3 := Lib.hid hmp3
          have HS3 := Lib.hid hsz3
          have hM8 := H9.out.gd.short
          clear ho hmap3 hmp3 hsz3 H8
          by_cases hjl : j < M.length
          · obtain ⟨m, hm⟩ : ∃ m, M[j]? = some m := ⟨_, List.getElem?_eq_getElem hjl⟩
            obtain ⟨gm, hpl, hgm, hrm⟩ := HLS.out wr (fun q hq => (H9.out.bxs q (List.mem_cons_of_mem _ (List.mem_append_left _ hq))).1) j m hm
            subst hpl
            have HRM := Lib.hid hrm
            have hok := H9.out.gd.at hm
            have hgt0 := hok.g0
            have hcase : (m.nd < 0 ∧ decide (0 ≤ m.nd) = false) ∨ (0 ≤ m.nd ∧ m.gt ≤ m.nd ∧ decide (m.nd < m.gt) = false) := by
              have h1 := hok.nd
              have h2 := hok.gn
              simp only [decide_eq_false_iff_not]
              omega
            have HWM := Lib.hid (HLM.out m (List.mem_of_getElem? hm))
            have HSN := Lib.hid (seen_not H9.out.gd.uq hm)
            have HSX := Lib.hid (seen_next hm)
            have HOW := Lib.hid (owB_at H9.out.gd.uq hm)
            have H10 := Lib.hid (H9.out.addRow #[.int .i64 0, .int .i64 0, .int .i64 0, .int .i64 0, .int .i64 0, .int .i64 0, .int .i64 0, .int .i64 0, .int .i64 0, .int .i64 0, .int .i64 0, .int .i64 0, .int .i64 0, .bool false, .bool false] (mcells m) 34)
            clear hrm hok hm H9
            rcases hcase with ⟨hc1, hc2⟩ | ⟨hc1, hc2, hc3⟩
            all_goals
              as_aux_lemma =>
              go_wp2_with (first
                | ((with_reducible refine wpList_load_mid (op := ⟨some 109, _, _, _, _, _⟩) rfl 34 (.tmp 108) rfl gm (j * 15) ?lx (mc m) _ ?lc Try.underlying34 ?ld ?li ?_); (case lx => rfl); (case lc => exact HRM.out); (case ld => rfl); (case li => kernel_rfl))
                | ((with_reducible refine wpList_store_row (o := ⟨none, _, _, _, _, _⟩) rfl 34 (.tmp 17) (.tmp 109) rfl wr.heap.size (mcells m) ?sx ?sy 34 ?old ?sg ?si ?so ?s1 ?_); (case sx => rfl); (case sy => rfl); (case old => exact #[.int .i64 0, .int .i64 0, .int .i64 0, .int .i64 0, .int .i64 0, .int .i64 0, .int .i64 0, .int .i64 0, .int .i64 0, .int .i64 0, .int .i64 0, .int .i64 0, .int .i64 0, .bool false, .bool false]); (case sg => exact heap_alloc_new wr _); (case si => kernel_rfl); (case so => rfl); (case s1 => kernel_rfl); generalize (wr.alloc (.cells #[.int .i64 0, .int .i64 0, .int .i64 0, .int .i64 0, .int .i64 0, .int .i64 0, .int .i64 0, .int .i64 0, .int .i64 0, .int .i64 0, .int .i64 0, .int .i64 0, .int .i64 0, .bool false, .bool false] 34)).setRow wr.heap.size (mcells m) = w11 at *; generalize wr.heap.size = k17 at *; have hB := H10.out.cells (List.mem_cons_self ..); have hlk1 := HM3.out.look (H10.out.box (List.mem_cons_of_mem _ (List.mem_cons_self ..))) HP3.out HWM.out HSN.out; have hlk2 := HM2.out.look (H10.out.box (List.mem_cons_of_mem _ (List.mem_cons_of_mem _ (List.mem_append_right _ (List.mem_cons_self ..))))) HP2.out HWM.out HOW.out)
                | (at_mapUpdate; refine wpList_mapUpdate_own _ rfl (.tmp 140) (.tmp 142) (.const (.bool true)) 54 rfl 3 4 law3 Try.underlying54 _ ms j D3 rfl (HM3.out _ (H10.out.box (List.mem_cons_of_mem _ (List.mem_cons_self ..)))) (by unfold maxLen; omega) (.int .i64 m.ln) (.bool true) (.int .i64 m.ln) rfl rfl (keyOf_int_mk Try.underlying3 HWM.out) (.lit (.bool true)) [] (plainElem_bool Try.underlying4 true) ?_; intro w12 hm12 hg12; obtain ⟨o4, ho4, hmo4⟩ := H10.out.drop.mapped hm12 hg12; have H11 := Lib.hid ho4; have HM4 := Lib.hid hmo4; clear hm12 hg12 ho4 hmo4 hB hlk1 hlk2))
              go_roundw
              case rel => exact ⟨j + 1, o4, _, by omega, by go_num, H11.out, HM4.out, (HP3.out.put m.ln).congr HSX.out, by rw [HP3.out.size_put HSN.out, HS3.out]⟩
              case measure => simp [intOf]; omega
          · obtain rfl : j = M.length := by omega
            have hln := HM3.out.len (H9.out.box (List.mem_cons_self ..))
            rw [HS3.out] at hln
            have hroom := H9.out.gd.len
            have HF := Lib.hid (H9.out.perm (List.perm_middle (l₁ := cx) (a := (ms, o3)) (l₂ := [(mo, o2)])).symm)
            have HF2 : Hid (Own w1 b room ((k : Int) + 1) M [(mo, o2)] wr) := Lib.hid (own_tail HF.out)
            clear HF H9
            go_wp2
            go_roundw
            case rel => exact ⟨k + 1, M, o2, D2, n2, by omega, by go_num, HF2.out, HM2.out, HP2.out, by omega, HLM.out⟩
            case measure => simp [intOf]; omega
      · have HW := Lib.hid (doP_not GD.out ⟨hx0, hx4⟩ HD.out)
        as_aux_lemma =>
        go_wp2_with (first
          | ((with_reducible refine wpList_load_mid (op := ⟨some 36, _, _, _, _, _⟩) rfl 38 (.tmp 35) rfl g (off + k * 12) ?lx (oc x) _ ?lc Try.underlying38 ?ld ?li ?_); (case lx => rfl); (case lc => exact HRO.out); (case ld => rfl); (case li => kernel_rfl))
          | ((with_reducible refine wpList_store_row (o := ⟨none, _, _, _, _, _⟩) rfl 38 (.tmp 9) (.tmp 36) rfl wo.heap.size (ocells x) ?sx ?sy 38 ?old ?sg ?si ?so ?s1 ?_); (case sx => rfl); (case sy => rfl); (case old => exact #[.int .i64 0, .int .i64 0, .int .i64 0, .int .i64 0, .int .i64 0, .int .i64 0, .int .i64 0, .int .i64 0, .int .i64 0, .int .i64 0, .int .i64 0, .int .i64 0]); (case sg => exact heap_alloc_new wo _); (case si => kernel_rfl); (case so => rfl); (case s1 => kernel_rfl); generalize (wo.alloc (.cells #[.int .i64 0, .int .i64 0, .int .i64 0, .int .i64 0, .int .i64 0, .int .i64 0, .int .i64 0, .int .i64 0, .int .i64 0, .int .i64 0, .int .i64 0, .int .i64 0] 38)).setRow wo.heap.size (ocells x) = w4 at *; generalize wo.heap.size = k9 at *; have hA := H2.out.cells (List.mem_cons_self ..)))
        refine (H2.out.get x.ln HG.out).mono ?_
        rintro e w5 ⟨rfl, hb⟩
        have H3 := Lib.hid ((H2.out.step hb).addRow #[.int .i64 0, .int .i64 0, .int .i64 0, .int .i64 0, .int .i64 0, .int .i64 0, .int .i64 0, .int .i64 0, .int .i64 0, .int .i64 0, .int .i64 0, .int .i64 0, .int .i64 0, .bool false, .bool false] (mcells y0) 34)
        clear hb H2 hA
        go_wp2_with (first
          | ((with_reducible refine wpList_store_row (o := ⟨none, _, _, _, _, _⟩) rfl 34 (.tmp 10) (.tmp 42) rfl w5.heap.size (mcells y0) ?sx ?sy 34 ?old ?sg ?si ?so ?s1 ?_); (case sx => rfl); (case sy => rfl); (case old => exact #[.int .i64 0, .int .i64 0, .int .i64 0, .int .i64 0, .int .i64 0, .int .i64 0, .int .i64 0, .int .i64 0, .int .i64 0, .int .i64 0, .int .i64 0, .int .i64 0, .int .i64 0, .bool false, .bool false]); (case sg => exact heap_alloc_new w5 _); (case si => kernel_rfl); (case so => rfl); (case s1 => kernel_rfl); generalize (w5.alloc (.cells #[.int .i64 0, .int .i64 0, .int .i64 0, .int .i64 0, .int .i64 0, .int .i64 0, .int .i64 0, .int .i64 0, .int .i64 0, .int .i64 0, .int .i64 0, .int .i64 0, .int .i64 0, .bool false, .bool false] 34)).setRow w5.heap.size (mcells y0) = w6 at *; generalize w5.heap.size = k10 at *; have h9 := H3.out.box (List.mem_cons_of_mem _ (List.mem_cons_self ..)))
          | ((with_reducible refine wpList_load_row (o := ⟨some 46, _, _, _, _, _⟩) rfl 38 (.tmp 9) rfl k9 ?lx 38 (ocells x) (0, 0) _ ?lg Try.underlying38 ?ld ?li ?_); (case lx => rfl); (case lg => exact h9); (case ld => rfl); (case li => kernel_rfl)))
        refine (H3.out.op (by omega) x HD.out).mono ?_
        rintro e w7 ⟨rfl, ho⟩
        have H4 := Lib.hid (ho.addRow #[.int .i64 0, .int .i64 0, .int .i64 0, .int .i64 0, .int .i64 0, .int .i64 0, .int .i64 0, .int .i64 0, .int .i64 0, .int .i64 0, .int .i64 0, .int .i64 0, .int .i64 0, .bool false, .bool false] (mcells y) 34)
        clear ho H3 h9
        go_wp2_with (first
          | ((with_reducible refine wpList_store_row (o := ⟨none, _, _, _, _, _⟩) rfl 34 (.tmp 12) (.tmp 48) rfl w7.heap.size (mcells y) ?sx ?sy 34 ?old ?sg ?si ?so ?s1 ?_); (case sx => rfl); (case sy => rfl); (case old => exact #[.int .i64 0, .int .i64 0, .int .i64 0, .int .i64 0, .int .i64 0, .int .i64 0, .int .i64 0, .int .i64 0, .int .i64 0, .int .i64 0, .int .i64 0, .int .i64 0, .int .i64 0, .bool false, .bool false]); (case sg => exact heap_alloc_new w7 _); (case si => kernel_rfl); (case so => rfl); (case s1 => kernel_rfl); generalize (w7.alloc (.cells #[.int .i64 0, .int .i64 0, .int .i64 0, .int .i64 0, .int .i64 0, .int .i64 0, .int .i64 0, .int .i64 0, .int .i64 0, .int .i64 0, .int .i64 0, .int .i64 0, .int .i64 0, .bool false, .bool false] 34)).setRow w7.heap.size (mcells y) = w8 at *; generalize w7.heap.size = k12 at *; have hA := H4.out.cells (List.mem_cons_of_mem _ (List.mem_cons_of_mem _ (List.mem_cons_self ..))))
          | fail)
        clear hA
        have HX := Lib.hid (H4.out.drop.drop.drop)
        have H7 := Lib.hid (HX.out.add (.map #[] 0))
        obtain ⟨n2, D2, hM2, hP2, hn2⟩ : ∃ n2 D2, MapO o mo n2 D2 ∧ Mp D2 (owB M) ∧ n2 ≤ k + 1 := ⟨_, _, HM.out, HP.out.congr HW.out, by omega⟩
        have HM2 := Lib.hid hM2
        have HP2 := Lib.hid hP2
        clear HX hM2 hP2
        generalize w8.alloc (.map #[] 0) = w19 at *
        generalize w8.heap.size = ms at *
        refine (H7.out.listB).mono ?_
        rintro e w10 ⟨pl, cl, cx, rfl, ho, hls⟩
        have H8 := Lib.hid (ho.perm (List.perm_middle (l₁ := cx) (a := (ms, Obj.map #[] 0)) (l₂ := [(mo, o)])))
        have HLS := Lib.hid hls
        clear ho hls H7
        go_wp2
        go_loopw [106] (fun i wr => MsRel w1 b room ((k : Int) + 1) ms M (cx ++ [(mo, o)]) i wr) (fun i _ => M.length - (intOf i).toNat)
        case atStart => exact ⟨0, _, _, by omega, rfl, H8.out, MapO.new ms, Mp.empty.congr (fun y => by simp), by rw [Maps.size_eq]; rfl⟩
        case round =>
          obtain ⟨j, o3, D3, hj, rfl, ho, hmap3, hmp3, hsz3⟩ := hrel
          have H9 := Lib.hid ho
          have HM3 := Lib.hid hmap3
          have HP3 := Lib.hid hmp3
          have HS3 := Lib.hid hsz3
          have hM8 := H9.out.gd.short
          clear ho hmap3 hmp3 hsz3 H8
          by_cases hjl : j < M.length
          · obtain ⟨m, hm⟩ : ∃ m, M[j]? = some m := ⟨_, List.getElem?_eq_getElem hjl⟩
            obtain ⟨gm, hpl, hgm, hrm⟩ := HLS.out wr (fun q hq => (H9.out.bxs q (List.mem_cons_of_mem _ (List.mem_append_left _ hq))).1) j m hm
            subst hpl
            have HRM := Lib.hid hrm
            have hok := H9.out.gd.at hm
            have hgt0 := hok.g0
            have hcase : (m.nd < 0 ∧ decide (0 ≤ m.nd) = false) ∨ (0 ≤ m.nd ∧ m.gt ≤ m.nd ∧ decide (m.nd < m.gt) = false) := by
              have h1 := hok.nd
              have h2 := hok.gn
              simp only [decide_eq_false_iff_not]
              omega
            have HWM := Lib.hid (HLM.out m (List.mem_of_getElem? hm))
            have HSN := Lib.hid (seen_not H9.out.gd.uq hm)
            have HSX := Lib.hid (seen_next hm)
            have HOW := Lib.hid (owB_at H9.out.gd.uq hm)
            have H10 := Lib.hid (H9.out.addRow #[.int .i64 0, .int .i64 0, .int .i64 0, .int .i64 0, .int .i64 0, .int .i64 0, .int .i64 0, .int .i64 0, .int .i64 0, .int .i64 0, .int .i64 0, .int .i64 0, .int .i64 0, .bool false, .bool false] (mcells m) 34)
            clear hrm hok hm H9
            rcases hcase with ⟨hc1, hc2⟩ | ⟨hc1, hc2, hc3⟩
            all_goals
              as_aux_lemma =>
              go_wp2_with (first
                | ((with_reducible refine wpList_load_mid (op := ⟨some 109, _, _, _, _, _⟩) rfl 34 (.tmp 108) rfl gm (j * 15) ?lx (mc m) _ ?lc Try.underlying34 ?ld ?li ?_); (case lx => rfl); (case lc => exact HRM.out); (case ld => rfl); (case li => kernel_rfl))
                | ((with_reducible refine wpList_store_row (o := ⟨none, _, _, _, _, _⟩) rfl 34 (.tmp 17) (.tmp 109) rfl wr.heap.size (mcells m) ?sx ?sy 34 ?old ?sg ?si ?so ?s1 ?_); (case sx => rfl); (case sy => rfl); (case old => exact #[.int .i64 0, .int .i64 0, .int .i64 0, .int .i64 0, .int .i64 0, .int .i64 0, .int .i64 0, .int .i64 0, .int .i64 0, .int .i64 0, .int .i64 0, .int .i64 0, .int .i64 0, .bool false, .bool false]); (case sg => exact heap_alloc_new wr _); (case si => kernel_rfl); (case so => rfl); (case s1 => kernel_rfl); generalize (wr.alloc (.cells #[.int .i64 0, .int .i64 0, .int .i64 0, .int .i64 0, .int .i64 0, .int .i64 0, .int .i64 0, .int .i64 0, .int .i64 0, .int .i64 0, .int .i64 0, .int .i64 0, .int .i64 0, .bool false, .bool false] 34)).setRow wr.heap.size (mcells m) = w11 at *; generalize wr.heap.size = k17 at *; have hB := H10.out.cells (List.mem_cons_self ..); have hlk1 := HM3.out.look (H10.out.box (List.mem_cons_of_mem _ (List.mem_cons_self ..))) HP3.out HWM.out HSN.out; have hlk2 := HM2.out.look (H10.out.box (List.mem_cons_of_mem _ (List.mem_cons_of_mem _ (List.mem_append_right _ (List.mem_cons_self ..))))) HP2.out HWM.out HOW.out)
                | (at_mapUpdate; refine wpList_mapUpdate_own _ rfl (.tmp 140) (.tmp 142) (.const (.bool true)) 54 rfl 3 4 law3 Try.underlying54 _ ms j D3 rfl (HM3.out _ (H10.out.box (List.mem_cons_of_mem _ (List.mem_cons_self ..)))) (by unfold maxLen; omega) (.int .i64 m.ln) (.bool true) (.int .i64 m.ln) rfl rfl (keyOf_int_mk Try.underlying3 HWM.out) (.lit (.bool true)) [] (plainElem_bool Try.underlying4 true) ?_; intro w12 hm12 hg12; obtain ⟨o4, ho4, hmo4⟩ := H10.out.drop.mapped hm12 hg12; have H11 := Lib.hid ho4; have HM4 := Lib.hid hmo4; clear hm12 hg12 ho4 hmo4 hB hlk1 hlk2))
              go_roundw
              case rel => exact ⟨j + 1, o4, _, by omega, by go_num, H11.out, HM4.out, (HP3.out.put m.ln).congr HSX.out, by rw [HP3.out.size_put HSN.out, HS3.out]⟩
              case measure => simp [intOf]; omega
          · obtain rfl : j = M.length := by omega
            have hln := HM3.out.len (H9.out.box (List.mem_cons_self ..))
            rw [HS3.out] at hln
            have hroom := H9.out.gd.len
            have HF := Lib.hid (H9.out.perm (List.perm_middle (l₁ := cx) (a := (ms, o3)) (l₂ := [(mo, o)])).symm)
            have HF2 : Hid (Own w1 b room ((k : Int) + 1) M [(mo, o)] wr) := Lib.hid (own_tail HF.out)
            clear HF H9
            go_wp2
            go_roundw
            case rel => exact ⟨k + 1, M, o, D2, n2, by omega, by go_num, HF2.out, HM2.out, HP2.out, by omega, HLM.out⟩
            case measure => simp [intOf]; omega
      · obtain ⟨-, hnu, hW⟩ := doP_close GD.out hxk HD.out
        obtain ⟨u, hu⟩ : ∃ u, owB L x.ln = u := ⟨_, rfl⟩
        have HU := Lib.hid hu
        rw [hu] at hnu
        have HW := Lib.hid hW
        have hx45 : x.k < 0 ∨ (¬ x.k < 0 ∧ 4 < x.k) := by omega
        clear hu hW hxk
        rcases hx45 with hx0 | ⟨hx0, hx4⟩
        all_goals
          as_aux_lemma =>
          go_wp2_with (first
            | ((with_reducible refine wpList_load_mid (op := ⟨some 36, _, _, _, _, _⟩) rfl 38 (.tmp 35) rfl g (off + k * 12) ?lx (oc x) _ ?lc Try.underlying38 ?ld ?li ?_); (case lx => rfl); (case lc => exact HRO.out); (case ld => rfl); (case li => kernel_rfl))
            | ((with_reducible refine wpList_store_row (o := ⟨none, _, _, _, _, _⟩) rfl 38 (.tmp 9) (.tmp 36) rfl wo.heap.size (ocells x) ?sx ?sy 38 ?old ?sg ?si ?so ?s1 ?_); (case sx => rfl); (case sy => rfl); (case old => exact #[.int .i64 0, .int .i64 0, .int .i64 0, .int .i64 0, .int .i64 0, .int .i64 0, .int .i64 0, .int .i64 0, .int .i64 0, .int .i64 0, .int .i64 0, .int .i64 0]); (case sg => exact heap_alloc_new wo _); (case si => kernel_rfl); (case so => rfl); (case s1 => kernel_rfl); generalize (wo.alloc (.cells #[.int .i64 0, .int .i64 0, .int .i64 0, .int .i64 0, .int .i64 0, .int .i64 0, .int .i64 0, .int .i64 0, .int .i64 0, .int .i64 0, .int .i64 0, .int .i64 0] 38)).setRow wo.heap.size (ocells x) = w4 at *; generalize wo.heap.size = k9 at *; have hA := H2.out.cells (List.mem_cons_self ..)))
          refine (H2.out.get x.ln HG.out).mono ?_
          rintro e w5 ⟨rfl, hb⟩
          have H3 := Lib.hid ((H2.out.step hb).addRow #[.int .i64 0, .int .i64 0, .int .i64 0, .int .i64 0, .int .i64 0, .int .i64 0, .int .i64 0, .int .i64 0, .int .i64 0, .int .i64 0, .int .i64 0, .int .i64 0, .int .i64 0, .bool false, .bool false] (mcells y0) 34)
          clear hb H2 hA
          go_wp2_with (first
            | ((with_reducible refine wpList_store_row (o := ⟨none, _, _, _, _, _⟩) rfl 34 (.tmp 10) (.tmp 42) rfl w5.heap.size (mcells y0) ?sx ?sy 34 ?old ?sg ?si ?so ?s1 ?_); (case sx => rfl); (case sy => rfl); (case old => exact #[.int .i64 0, .int .i64 0, .int .i64 0, .int .i64 0, .int .i64 0, .int .i64 0, .int .i64 0, .int .i64 0, .int .i64 0, .int .i64 0, .int .i64 0, .int .i64 0, .int .i64 0, .bool false, .bool false]); (case sg => exact heap_alloc_new w5 _); (case si => kernel_rfl); (case so => rfl); (case s1 => kernel_rfl); generalize (w5.alloc (.cells #[.int .i64 0, .int .i64 0, .int .i64 0, .int .i64 0, .int .i64 0, .int .i64 0, .int .i64 0, .int .i64 0, .int .i64 0, .int .i64 0, .int .i64 0, .int .i64 0, .int .i64 0, .bool false, .bool false] 34)).setRow w5.heap.size (mcells y0) = w6 at *; generalize w5.heap.size = k10 at *; have h9 := H3.out.box (List.mem_cons_of_mem _ (List.mem_cons_self ..)))
            | ((with_reducible refine wpList_load_row (o := ⟨some 46, _, _, _, _, _⟩) rfl 38 (.tmp 9) rfl k9 ?lx 38 (ocells x) (0, 0) _ ?lg Try.underlying38 ?ld ?li ?_); (case lx => rfl); (case lg => exact h9); (case ld => rfl); (case li => kernel_rfl)))
          refine (H3.out.op (by omega) x HD.out).mono ?_
          rintro e w7 ⟨rfl, ho⟩
          have H4 := Lib.hid (ho.addRow #[.int .i64 0, .int .i64 0, .int .i64 0, .int .i64 0, .int .i64 0, .int .i64 0, .int .i64 0, .int .i64 0, .int .i64 0, .int .i64 0, .int .i64 0, .int .i64 0, .int .i64 0, .bool false, .bool false] (mcells y) 34)
          clear ho H3 h9
          go_wp2_with (first
            | ((with_reducible refine wpList_store_row (o := ⟨none, _, _, _, _, _⟩) rfl 34 (.tmp 12) (.tmp 48) rfl w7.heap.size (mcells y) ?sx ?sy 34 ?old ?sg ?si ?so ?s1 ?_); (case sx => rfl); (case sy => rfl); (case old => exact #[.int .i64 0, .int .i64 0, .int .i64 0, .int .i64 0, .int .i64 0, .int .i64 0, .int .i64 0, .int .i64 0, .int .i64 0, .int .i64 0, .int .i64 0, .int .i64 0, .int .i64 0, .bool false, .bool false]); (case sg => exact heap_alloc_new w7 _); (case si => kernel_rfl); (case so => rfl); (case s1 => kernel_rfl); generalize (w7.alloc (.cells #[.int .i64 0, .int .i64 0, .int .i64 0, .int .i64 0, .int .i64 0, .int .i64 0, .int .i64 0, .int .i64 0, .int .i64 0, .int .i64 0, .int .i64 0, .int .i64 0, .int .i64 0, .bool false, .bool false] 34)).setRow w7.heap.size (mcells y) = w8 at *; generalize w7.heap.size = k12 at *; have hA := H4.out.cells (List.mem_cons_of_mem _ (List.mem_cons_of_mem _ (List.mem_cons_self ..))); have hlk := HM.out.look (H4.out.box (List.mem_cons_of_mem _ (List.mem_cons_of_mem _ (List.mem_cons_of_mem _ (List.mem_cons_self ..))))) HP.out HWF.out HU.out)
            | (at_delete; refine wpList_delete_own _ rfl (.tmp 99) (.tmp 101) 54 3 rfl 4 law3 Try.underlying54 _ mo n D rfl (HM.out _ (H4.out.box (List.mem_cons_of_mem _ (List.mem_cons_of_mem _ (List.mem_cons_of_mem _ (List.mem_cons_self ..)))))) (.int .i64 x.ln) (.int .i64 x.ln) rfl (keyOf_int_mk Try.underlying3 HWF.out) ?_; intro w9 hm9 ht9; obtain ⟨o2, ho2, hmo2⟩ := H4.out.drop.drop.swap.mapped hm9 (turned_grown ht9); have H5 := Lib.hid ho2; have HM2 := Lib.hid hmo2; clear hm9 ht9 ho2 hmo2 hA hlk)
            | fail)
          have HX := Lib.hid (H5.out.swap.drop)
          have H7 := Lib.hid (HX.out.add (.map #[] 0))
          obtain ⟨n2, D2, hM2, hP2, hn2⟩ : ∃ n2 D2, MapO o2 mo n2 D2 ∧ Mp D2 (owB M) ∧ n2 ≤ k + 1 := ⟨_, _, HM2.out, (HP.out.del x.ln).congr HW.out, by omega⟩
          have HM2 := Lib.hid hM2
          have HP2 := Lib.hid hP2
          clear HX hM2 hP2
          generalize w9.alloc (.map #[] 0) = w19 at *
          generalize w9.heap.size = ms at *
          refine (H7.out.listB).mono ?_
          rintro e w10 ⟨pl, cl, cx, rfl, ho, hls⟩
          have H8 := Lib.hid (ho.perm (List.perm_middle (l₁ := cx) (a := (ms, Obj.map #[] 0)) (l₂ := [(mo, o2)])))
          have HLS := Lib.hid hls
          clear ho hls H7
          go_wp2
          go_loopw [106] (fun i wr => MsRel w1 b room ((k : Int) + 1) ms M (cx ++ [(mo, o2)]) i wr) (fun i _ => M.length - (intOf i).toNat)
          case atStart => exact ⟨0, _, _, by omega, rfl, H8.out, MapO.new ms, Mp.empty.congr (fun y => by simp), by rw [Maps.size_eq]; rfl⟩
          case round =>
            obtain ⟨j, o3, D3, hj, rfl, ho, hmap3, hmp3, hsz3⟩ := hrel
            have H9 := Lib.hid ho
            have HM3 := Lib.hid hmap3
            have HP3 := Lib.hid hmp3
            have HS3 := Lib.hid hsz3
            have hM8 := H9.out.gd.short
            clear ho hmap3 hmp3 hsz3 H8
            by_cases hjl : j < M.length
            · obtain ⟨m, hm⟩ : ∃ m, M[j]? = some m := ⟨_, List.getElem?_eq_getElem hjl⟩
              obtain ⟨gm, hpl, hgm, hrm⟩ := HLS.out wr (fun q hq => (H9.out.bxs q (List.mem_cons_of_mem _ (List.mem_append_left _ hq))).1) j m hm
              subst hpl
              have HRM := Lib.hid hrm
              have hok := H9.out.gd.at hm
              have hgt0 := hok.g0
              have hcase : (m.nd < 0 ∧ decide (0 ≤ m.nd) = false) ∨ (0 ≤ m.nd ∧ m.gt ≤ m.nd ∧ decide (m.nd < m.gt) = false) := by
                have h1 := hok.nd
                have h2 := hok.gn
                simp only [decide_eq_false_iff_not]
                omega
              have HWM := Lib.hid (HLM.out m (List.mem_of_getElem? hm))
              have HSN := Lib.hid (seen_not H9.out.gd.uq hm)
              have HSX := Lib.hid (seen_next hm)
              have HOW := Lib.hid (owB_at H9.out.gd.uq hm)
              have H10 := Lib.hid (H9.out.addRow #[.int .i64 0, .int .i64 0, .int .i64 0, .int .i64 0, .int .i64 0, .int .i64 0, .int .i64 0, .int .i64 0, .int .i64 0, .int .i64 0, .int .i64 0, .int .i64 0, .int .i64 0, .bool false, .bool false] (mcells m) 34)
              clear hrm hok hm H9
              rcases hcase with ⟨hc1, hc2⟩ | ⟨hc1, hc2, hc3⟩
              all_goals
                as_aux_lemma =>
                go_wp2_with (first
                  | ((with_reducible refine wpList_load_mid (op := ⟨some 109, _, _, _, _, _⟩) rfl 34 (.tmp 108) rfl gm (j * 15) ?lx (mc m) _ ?lc Try.underlying34 ?ld ?li ?_); (case lx => rfl); (case lc => exact HRM.out); (case ld => rfl); (case li => kernel_rfl))
                  | ((with_reducible refine wpList_store_row (o := ⟨none, _, _, _, _, _⟩) rfl 34 (.tmp 17) (.tmp 109) rfl wr.heap.size (mcells m) ?sx ?sy 34 ?old ?sg ?si ?so ?s1 ?_); (case sx => rfl); (case sy => rfl); (case old => exact #[.int .i64 0, .int .i64 0, .int .i64 0, .int .i64 0, .int .i64 0, .int .i64 0, .int .i64 0, .int .i64 0, .int .i64 0, .int .i64 0, .int .i64 0, .int .i64 0, .int .i64 0, .bool false, .bool false]); (case sg => exact heap_alloc_new wr _); (case si => kernel_rfl); (case so => rfl); (case s1 => kernel_rfl); generalize (wr.alloc (.cells #[.int .i64 0, .int .i64 0, .int .i64 0, .int .i64 0, .int .i64 0, .int .i64 0, .int .i64 0, .int .i64 0, .int .i64 0, .int .i64 0, .int .i64 0, .int .i64 0, .int .i64 0, .bool false, .bool false] 34)).setRow wr.heap.size (mcells m) = w11 at *; generalize wr.heap.size = k17 at *; have hB := H10.out.cells (List.mem_cons_self ..); have hlk1 := HM3.out.look (H10.out.box (List.mem_cons_of_mem _ (List.mem_cons_self ..))) HP3.out HWM.out HSN.out; have hlk2 := HM2.out.look (H10.out.box (List.mem_cons_of_mem _ (List.mem_cons_of_mem _ (List.mem_append_right _ (List.mem_cons_self ..))))) HP2.out HWM.out HOW.out)
                  | (at_mapUpdate; refine wpList_mapUpdate_own _ rfl (.tmp 140) (.tmp 142) (.const (.bool true)) 54 rfl 3 4 law3 Try.underlying54 _ ms j D3 rfl (HM3.out _ (H10.out.box (List.mem_cons_of_mem _ (List.mem_cons_self ..)))) (by unfold maxLen; omega) (.int .i64 m.ln) (.bool true) (.int .i64 m.ln) rfl rfl (keyOf_int_mk Try.underlying3 HWM.out) (.lit (.bool true)) [] (plainElem_bool Try.underlying4 true) ?_; intro w12 hm12 hg12; obtain ⟨o4, ho4, hmo4⟩ := H10.out.drop.mapped hm12 hg12; have H11 := Lib.hid ho4; have HM4 := Lib.hid hmo4; clear hm12 hg12 ho4 hmo4 hB hlk1 hlk2))
                go_roundw
                case rel => exact ⟨j + 1, o4, _, by omega, by go_num, H11.out, HM4.out, (HP3.out.put m.ln).congr HSX.out, by rw [HP3.out.size_put HSN.out, HS3.out]⟩
                case measure => simp [intOf]; omega
            · obtain rfl : j = M.length := by omega
              have hln := HM3.out.len (H9.out.box (List.mem_cons_self ..))
              rw [HS3.out] at hln
              have hroom := H9.out.gd.len
              have HF := Lib.hid (H9.out.perm (List.perm_middle (l₁ := cx) (a := (ms, o3)) (l₂ := [(mo, o2)])).symm)
              have HF2 : Hid (Own w1 b room ((k : Int) + 1) M [(mo, o2)] wr) := Lib.hid (own_tail HF.out)
              clear HF H9
              go_wp2
              go_roundw
              case rel => exact ⟨k + 1, M, o2, D2, n2, by omega, by go_num, HF2.out, HM2.out, HP2.out, by omega, HLM.out⟩
              case measure => simp [intOf]; omega
    · have HF := Lib.hid (bstep HB.out H1.out.bl)
      clear H1 HM HP HLN HL HLW hmm
      go_wp2
      go_ret
      exact ⟨rfl, HF.out⟩

end Go.Proofs.Ytcfcgejeiihgnaa
