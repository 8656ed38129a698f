/-
  WritebackOnce is true: the walk.
-/
import Derived.Test.YtlhecliamhjobaaWbQ
import Derived.Test.YtlhecliamhjobaaWbTw
import Derived.StillTailTactics
namespace Go.Proofs.Ytlhecliamhjobaa
open Go Go.RowKit Go.Maps

/-- What holds at each operation's head. -/
def OnRel (w : World) (b : Nat) (room : Int) (mo1 mo2 n : Nat) (i : Value) (wr : World) : Prop :=
  ∃ (k : Nat) (L : List En) (o1 o2 : Obj) (D1 : DataW Wd) (D2 : DataW Unit) (n1 n2 : Nat), k ≤ n ∧ i = .int .i64 k ∧ Own w b room L [(mo2, o2), (mo1, o1)] wr ∧ MapO wordsR o1 mo1 n1 D1 ∧ Mw D1 (hsF L) (wdF L) ∧ MapO boolR o2 mo2 n2 D2 ∧ Mb D2 (lvF L) ∧ Maps.size D1 = L.length ∧ n1 ≤ k ∧ n2 ≤ k

set_option maxRecDepth 100000 in
set_option maxHeartbeats 8000000 in
theorem writebackOnce_any (room : Int) (p : Option Addr) (cap : Nat) (l : List Wo) (w : World) (hl : OpsW w p l) (hn : l.length ≤ 9223372036854775807) :
    Calls Try.prog 4 #[.int .i64 room, .slice p l.length cap] w fun e w' => e = .returned (.bool true) ∧ Below w.heap.size w w' := by
  have HL := Lib.hid hl.1
  have HLW := Lib.hid hl.2
  clear hl
  have hmm := @run_makeMap Try.prog
  go_enter Try.func4, Try.ntmps4
  go_wp2_with fail
  refine (awake_any _).mono ?_
  rintro e w1 ⟨rfl, hb⟩
  have HB := Lib.hid hb
  clear hb
  by_cases h60 : 60 < l.length
  · clear HL HLW hmm
    go_wp2
    go_ret
    exact ⟨rfl, HB.out⟩
  by_cases hr : room < 1 ∨ 8 < room
  · clear HL HLW hmm
    have hro := Lib.hid hr
    clear hr
    go_wp2_with fail
    refine (new_no room _ hro.out).mono ?_
    rintro e w2 ⟨rfl, rfl⟩
    go_wp2
    go_ret
    exact ⟨rfl, HB.out⟩
  have HR := Lib.hid hr
  clear hr
  go_wp2_with fail
  refine (newO (w := w1) (room := room) (by have := HR.out; omega) (by have := HR.out; omega) (Below.refl _ w1)).mono ?_
  rintro e w2 ⟨b, rfl, ho, -⟩
  have H0 := Lib.hid (ho.add2 (.map #[] 0) (.map #[] 0))
  clear ho HR
  go_wp2
  generalize (w2.alloc (.map #[] 0)).alloc (.map #[] 0) = w3 at *
  obtain ⟨mo2, hmo2⟩ : ∃ mo2, mo2 = w2.heap.size + 1 := ⟨_, rfl⟩
  rw [← hmo2] at H0 ⊢
  clear hmo2
  generalize w2.heap.size = mo1 at *
  go_loopw [32] (fun i wr => OnRel w1 b room mo1 mo2 l.length i wr) (fun i _ => l.length - (intOf i).toNat)
  case atStart => exact ⟨0, [], _, _, _, _, 0, 0, by omega, rfl, H0.out, MapO.new _ mo1, Mw.empty, MapO.new _ mo2, Mb.empty, by rw [Maps.size_eq]; rfl, by omega, by omega⟩
  case round =>
    obtain ⟨k, L, o1, o2, D1, D2, n1, n2, hk, rfl, ho, hm1, hw1, hm2, hw2, hsz, hn1, hn2⟩ := hrel
    obtain ⟨wo, rfl⟩ : ∃ wo : World, wo = wr := ⟨_, rfl⟩
    have H1 := Lib.hid ho
    have HM1 := Lib.hid hm1
    have HM2 := Lib.hid hm2
    have HW1 := Lib.hid hw1
    have HW2 := Lib.hid hw2
    have HSZ := Lib.hid hsz
    clear ho hm1 hm2 hw1 hw2 hsz H0
    by_cases hlt : k < l.length
    · obtain ⟨x, hx⟩ : ∃ x, l[k]? = some x := ⟨_, List.getElem?_eq_getElem hlt⟩
      obtain ⟨g, off, rfl, hgl, hr⟩ := HL.out.step (bstep HB.out H1.out.bl) k x hx
      have HRO := Lib.hid hr
      have HWF := Lib.hid (HLW.out x (List.mem_of_getElem? hx))
      obtain ⟨d, n, M, hD⟩ : ∃ d n M, doP room L x = ((d, n), M) := ⟨_, _, _, rfl⟩
      obtain ⟨y0, q0, hG⟩ : ∃ y q, getP L x.ln = (y, q) := ⟨_, _, rfl⟩
      have HD := Lib.hid hD
      have HG := Lib.hid hG
      have HWD : Hid (wdF L x.ln = y0.wd) := Lib.hid (by rw [wdF, hG])
      have HHS : Hid (hsF L x.ln = q0) := Lib.hid (by rw [hsF, hG])
      have GD := Lib.hid H1.out.gd
      have hL8 := GD.out.short
      have H2 := Lib.hid (H1.out.addRow #[.int .i64 0, .int .i64 0, .int .i64 0, .int .i64 0, .int .i64 0, .int .i64 0, .int .i64 0, .int .i64 0, .int .i64 0, .int .i64 0] (ocells x) 34)
      clear hr hx hD hG H1
      go_wp2_with (first
        | ((with_reducible refine wpList_load_mid (op := ⟨some 35, _, _, _, _, _⟩) rfl 34 (.tmp 34) rfl g (off + k * 10) ?lx (oc x) _ ?lc Try.underlying34 ?ld ?li ?_); (case lx => rfl); (case lc => exact HRO.out); (case ld => rfl); (case li => kernel_rfl))
        | ((with_reducible refine wpList_store_row (o := ⟨none, _, _, _, _, _⟩) rfl 34 (.tmp 10) (.tmp 35) rfl wo.heap.size (ocells x) ?sx ?sy 34 ?old ?sg ?si ?so ?s1 ?_); (case sx => rfl); (case sy => rfl); (case old => exact #[.int .i64 0, .int .i64 0, .int .i64 0, .int .i64 0, .int .i64 0, .int .i64 0, .int .i64 0, .int .i64 0, .int .i64 0, .int .i64 0]); (case sg => exact heap_alloc_new wo _); (case si => kernel_rfl); (case so => rfl); (case s1 => kernel_rfl); generalize (wo.alloc (.cells #[.int .i64 0, .int .i64 0, .int .i64 0, .int .i64 0, .int .i64 0, .int .i64 0, .int .i64 0, .int .i64 0, .int .i64 0, .int .i64 0] 34)).setRow wo.heap.size (ocells x) = w4 at *; generalize wo.heap.size = k10 at *; have hA := H2.out.cells (List.mem_cons_self ..); have hlk := HM1.out.lookOk (H2.out.box (List.mem_cons_of_mem _ (List.mem_cons_of_mem _ (List.mem_cons_self ..)))) HW1.out HWF.out HWD.out HHS.out; have H3 := Lib.hid (H2.out.step (below_box w4 (.cells #[.int .i64 0, .int .i64 0, .int .i64 0, .int .i64 0, .int .i64 0, .int .i64 0, .int .i64 0, .int .i64 0] 32) (dcells y0.wd))))
        | ((with_reducible refine wpList_store_row (o := ⟨none, _, _, _, _, _⟩) rfl 32 (.tmp 11) (.tmp 41) rfl w4.heap.size (dcells y0.wd) ?sx ?sy 32 ?old ?sg ?si ?so ?s1 ?_); (case sx => rfl); (case sy => rfl); (case old => exact #[.int .i64 0, .int .i64 0, .int .i64 0, .int .i64 0, .int .i64 0, .int .i64 0, .int .i64 0, .int .i64 0]); (case sg => exact heap_alloc_new w4 _); (case si => kernel_rfl); (case so => rfl); (case s1 => kernel_rfl); generalize (w4.alloc (.cells #[.int .i64 0, .int .i64 0, .int .i64 0, .int .i64 0, .int .i64 0, .int .i64 0, .int .i64 0, .int .i64 0] 32)).setRow w4.heap.size (dcells y0.wd) = w5 at *; generalize w4.heap.size = k11 at *; clear hA hlk H2; have h10 := H3.out.box (List.mem_cons_self ..); have hln := fun ty => HM1.out.lenN (H3.out.box (List.mem_cons_of_mem _ (List.mem_cons_of_mem _ (List.mem_cons_self ..)))) HSZ.out ty)
        | ((with_reducible refine wpList_load_row (o := ⟨some 49, _, _, _, _, _⟩) rfl 34 (.tmp 10) rfl k10 ?lx 34 (ocells x) (0, 0) _ ?lg Try.underlying34 ?ld ?li ?_); (case lx => rfl); (case lg => exact h10); (case ld => rfl); (case li => kernel_rfl)))
      refine (H3.out.op x HD.out).mono ?_
      rintro e w7 ⟨rfl, ho⟩
      have H4 := Lib.hid (ho.addRow #[.int .i64 0, .int .i64 0, .int .i64 0, .int .i64 0, .int .i64 0, .int .i64 0, .int .i64 0, .int .i64 0] (dcells d) 32)
      clear ho H3 h10 hln
      rcases once_do HD.out with ⟨hk0, e⟩ | ⟨⟨hk0, hk1, hk2⟩, e⟩ | ⟨⟨hk0, hk1, hk2⟩, e⟩ | ⟨⟨hk0, hk1, hk2⟩, e⟩
      · rcases once_put GD.out HG.out e with ⟨rfl, rfl, hfull, hlen, hN⟩ | ⟨hc, rfl⟩
        · have HN := Lib.hid hN
          have HLEN := Lib.hid hlen
          clear hN hlen e HG GD HD
          as_aux_lemma =>
          go_wp2_with ((with_reducible refine wpList_store_row (o := ⟨none, _, _, _, _, _⟩) rfl 32 (.tmp 14) (.tmp 51) rfl w7.heap.size (dcells d) ?sx ?sy 32 ?old ?sg ?si ?so ?s1 ?_); (case sx => rfl); (case sy => rfl); (case old => exact #[.int .i64 0, .int .i64 0, .int .i64 0, .int .i64 0, .int .i64 0, .int .i64 0, .int .i64 0, .int .i64 0]); (case sg => exact heap_alloc_new w7 _); (case si => kernel_rfl); (case so => rfl); (case s1 => kernel_rfl); generalize (w7.alloc (.cells #[.int .i64 0, .int .i64 0, .int .i64 0, .int .i64 0, .int .i64 0, .int .i64 0, .int .i64 0, .int .i64 0] 32)).setRow w7.heap.size (dcells d) = w8 at *; generalize w7.heap.size = k14 at *; have hA := H4.out.cells (List.mem_cons_of_mem _ (List.mem_cons_self ..)))
          have H4 := Lib.hid H4.out.drew
          obtain ⟨w9, hup1, hm9, hg9⟩ := (HM1.out _ (H4.out.box (List.mem_cons_of_mem _ (List.mem_cons_of_mem _ (List.mem_cons_of_mem _ (List.mem_cons_self ..)))))).update law3 Try.underlying53 (by unfold maxLen; omega) (keyOf_int_mk Try.underlying3 HWF.out) (wordsR_mk x.wd)
          obtain ⟨o3, ho3, hmo3⟩ := Own.mapped [_, _, _] [] H4.out hm9 hg9
          have H5 := Lib.hid ho3
          have HM3 := Lib.hid hmo3
          clear hm9 hg9 ho3 hmo3
          have hA9 := H5.out.cells (List.mem_cons_of_mem _ (List.mem_cons_self ..))
          obtain ⟨w10, hup2, hm10, hg10⟩ := (HM2.out _ (H5.out.box (List.mem_cons_of_mem _ (List.mem_cons_of_mem _ (List.mem_cons_self ..))))).update law3 Try.underlying54 (by unfold maxLen; omega) (keyOf_int_mk Try.underlying3 HWF.out) (plainElem_bool Try.underlying4 true)
          obtain ⟨o4, ho4, hmo4⟩ := Own.mapped [_, _] [_] H5.out hm10 hg10
          have H6 := Lib.hid ho4
          have HM4 := Lib.hid hmo4
          clear hm10 hg10 ho4 hmo4
          go_region
          all_goals
            clear hup1 hup2 hA hA9
            go_wp2
            go_roundw
            case rel => exact ⟨k + 1, M, o3, o4, _, _, n1 + 1, n2 + 1, by omega, by go_num, H6.out.drop.drop, HM3.out, (HW1.out.put x.ln x.wd).congr (fun y => by rw [hsF, HN.out y]; split <;> rfl) (fun y => by rw [wdF, HN.out y]; split <;> rfl), HM4.out, (HW2.out.put x.ln true).congr (fun y => by rw [lvF, HN.out y]; split <;> rfl), by rw [HW1.out.size_put _ HHS.out, HSZ.out, HLEN.out], by omega, by omega⟩
            case measure => simp [intOf]; omega
        · rcases hc with ⟨rfl, rfl⟩ | ⟨rfl, rfl, hfull⟩
          all_goals
            clear e HG GD HD
            as_aux_lemma =>
            go_wp2_with ((with_reducible refine wpList_store_row (o := ⟨none, _, _, _, _, _⟩) rfl 32 (.tmp 14) (.tmp 51) rfl w7.heap.size (dcells d) ?sx ?sy 32 ?old ?sg ?si ?so ?s1 ?_); (case sx => rfl); (case sy => rfl); (case old => exact #[.int .i64 0, .int .i64 0, .int .i64 0, .int .i64 0, .int .i64 0, .int .i64 0, .int .i64 0, .int .i64 0]); (case sg => exact heap_alloc_new w7 _); (case si => kernel_rfl); (case so => rfl); (case s1 => kernel_rfl); generalize (w7.alloc (.cells #[.int .i64 0, .int .i64 0, .int .i64 0, .int .i64 0, .int .i64 0, .int .i64 0, .int .i64 0, .int .i64 0] 32)).setRow w7.heap.size (dcells d) = w8 at *; generalize w7.heap.size = k14 at *; have hA := H4.out.cells (List.mem_cons_of_mem _ (List.mem_cons_self ..)))
            go_roundw
            case rel => exact ⟨k + 1, _, o1, o2, D1, D2, n1, n2, by omega, by go_num, H4.out.drop.drop, HM1.out, HW1.out, HM2.out, HW2.out, HSZ.out, by omega, by omega⟩
            case measure => simp [intOf]; omega
      · obtain ⟨hc, hlen, hN⟩ := once1 GD.out HG.out e
        have HN := Lib.hid hN
        have HLEN := Lib.hid hlen
        clear hN hlen e HD GD
        rcases hc with ⟨rfl, hlv, rfl⟩ | ⟨hc, hlv⟩
        · have HLV : Hid (lvF L x.ln = true) := Lib.hid (by rw [lvF, HG.out]; exact hlv)
          have hqw := words_neq y0.wd
          clear hlv HG
          as_aux_lemma =>
          go_wp2_with ((with_reducible refine wpList_store_row (o := ⟨none, _, _, _, _, _⟩) rfl 32 (.tmp 14) (.tmp 51) rfl w7.heap.size (dcells y0.wd) ?sx ?sy 32 ?old ?sg ?si ?so ?s1 ?_); (case sx => rfl); (case sy => rfl); (case old => exact #[.int .i64 0, .int .i64 0, .int .i64 0, .int .i64 0, .int .i64 0, .int .i64 0, .int .i64 0, .int .i64 0]); (case sg => exact heap_alloc_new w7 _); (case si => kernel_rfl); (case so => rfl); (case s1 => kernel_rfl); generalize (w7.alloc (.cells #[.int .i64 0, .int .i64 0, .int .i64 0, .int .i64 0, .int .i64 0, .int .i64 0, .int .i64 0, .int .i64 0] 32)).setRow w7.heap.size (dcells y0.wd) = w8 at *; generalize w7.heap.size = k14 at *; have hA := H4.out.cells (List.mem_cons_of_mem _ (List.mem_cons_self ..)); have hlkB := HM2.out.lookB (H4.out.box (List.mem_cons_of_mem _ (List.mem_cons_of_mem _ (List.mem_cons_self ..)))) HW2.out HWF.out HLV.out; have hB := H4.out.cells (List.mem_cons_self ..); have hlkW := HM1.out.lookW (H4.out.box (List.mem_cons_of_mem _ (List.mem_cons_of_mem _ (List.mem_cons_of_mem _ (List.mem_cons_self ..))))) HW1.out HWF.out HWD.out)
          go_roundw
          case rel => exact ⟨k + 1, M, o1, o2, D1, D2, n1, n2, by omega, by go_num, H4.out.drop.drop, HM1.out, HW1.out.congr (fun y => by rw [hsF, HN.out y]) (fun y => by rw [wdF, HN.out y]), HM2.out, HW2.out.congr (fun y => by rw [lvF, HN.out y]), by rw [HSZ.out, HLEN.out], by omega, by omega⟩
          case measure => simp [intOf]; omega
        · have HLV : Hid (lvF L x.ln = false) := Lib.hid (by rw [lvF, HG.out]; exact hlv)
          clear hlv HG
          rcases hc with rfl | rfl
          all_goals
            as_aux_lemma =>
            go_wp2_with ((with_reducible refine wpList_store_row (o := ⟨none, _, _, _, _, _⟩) rfl 32 (.tmp 14) (.tmp 51) rfl w7.heap.size (dcells d) ?sx ?sy 32 ?old ?sg ?si ?so ?s1 ?_); (case sx => rfl); (case sy => rfl); (case old => exact #[.int .i64 0, .int .i64 0, .int .i64 0, .int .i64 0, .int .i64 0, .int .i64 0, .int .i64 0, .int .i64 0]); (case sg => exact heap_alloc_new w7 _); (case si => kernel_rfl); (case so => rfl); (case s1 => kernel_rfl); generalize (w7.alloc (.cells #[.int .i64 0, .int .i64 0, .int .i64 0, .int .i64 0, .int .i64 0, .int .i64 0, .int .i64 0, .int .i64 0] 32)).setRow w7.heap.size (dcells d) = w8 at *; generalize w7.heap.size = k14 at *; have hA := H4.out.cells (List.mem_cons_of_mem _ (List.mem_cons_self ..)); have hlkB := HM2.out.lookB (H4.out.box (List.mem_cons_of_mem _ (List.mem_cons_of_mem _ (List.mem_cons_self ..)))) HW2.out HWF.out HLV.out)
            go_roundw
            case rel => exact ⟨k + 1, M, o1, o2, D1, D2, n1, n2, by omega, by go_num, H4.out.drop.drop, HM1.out, HW1.out.congr (fun y => by rw [hsF, HN.out y]) (fun y => by rw [wdF, HN.out y]), HM2.out, HW2.out.congr (fun y => by rw [lvF, HN.out y]), by rw [HSZ.out, HLEN.out], by omega, by omega⟩
            case measure => simp [intOf]; omega
      · obtain ⟨hc, hlen, hN⟩ := once2 GD.out HG.out e
        have HN1 : Hid (∀ y, hsF M y = hsF L y) := Lib.hid (fun y => by
          rw [hsF, hN y]
          split
          · rename_i hy
            rw [hy, hsF, HG.out]
          · rfl)
        have HN2 : Hid (∀ y, wdF M y = wdF L y) := Lib.hid (fun y => by
          rw [wdF, hN y]
          split
          · rename_i hy
            rw [hy, wdF, HG.out]
            rfl
          · rfl)
        have HN3 : Hid (∀ y, lvF M y = if y = x.ln then false else lvF L y) := Lib.hid (fun y => by
          rw [lvF, hN y]
          split <;> rfl)
        have HLEN := Lib.hid hlen
        clear hN hlen e HD GD
        rcases hc with ⟨rfl, hlv, rfl⟩ | ⟨hc, hlv⟩
        · have HLV : Hid (lvF L x.ln = true) := Lib.hid (by rw [lvF, HG.out]; exact hlv)
          have hqw := words_neq y0.wd
          clear hlv HG
          as_aux_lemma =>
          go_wp2_with (first
            | ((with_reducible refine wpList_store_row (o := ⟨none, _, _, _, _, _⟩) rfl 32 (.tmp 14) (.tmp 51) rfl w7.heap.size (dcells y0.wd) ?sx ?sy 32 ?old ?sg ?si ?so ?s1 ?_); (case sx => rfl); (case sy => rfl); (case old => exact #[.int .i64 0, .int .i64 0, .int .i64 0, .int .i64 0, .int .i64 0, .int .i64 0, .int .i64 0, .int .i64 0]); (case sg => exact heap_alloc_new w7 _); (case si => kernel_rfl); (case so => rfl); (case s1 => kernel_rfl); generalize (w7.alloc (.cells #[.int .i64 0, .int .i64 0, .int .i64 0, .int .i64 0, .int .i64 0, .int .i64 0, .int .i64 0, .int .i64 0] 32)).setRow w7.heap.size (dcells y0.wd) = w8 at *; generalize w7.heap.size = k14 at *; have hA := H4.out.cells (List.mem_cons_of_mem _ (List.mem_cons_self ..)); have hlkB := HM2.out.lookB (H4.out.box (List.mem_cons_of_mem _ (List.mem_cons_of_mem _ (List.mem_cons_self ..)))) HW2.out HWF.out HLV.out; have hB := H4.out.cells (List.mem_cons_self ..); have hlkW := HM1.out.lookW (H4.out.box (List.mem_cons_of_mem _ (List.mem_cons_of_mem _ (List.mem_cons_of_mem _ (List.mem_cons_self ..))))) HW1.out HWF.out HWD.out)
            | (at_mapUpdate; refine wpList_mapUpdate_own _ rfl (.tmp 111) (.tmp 113) (.const (.bool false)) 54 rfl 3 4 law3 Try.underlying54 _ mo2 n2 D2 rfl (HM2.out _ (H4.out.box (List.mem_cons_of_mem _ (List.mem_cons_of_mem _ (List.mem_cons_self ..))))) (by unfold maxLen; omega) (.int .i64 x.ln) (.bool false) (.int .i64 x.ln) rfl rfl (keyOf_int_mk Try.underlying3 HWF.out) (.lit (.bool false)) [] (plainElem_bool Try.underlying4 false) ?_; intro w10 hm10 hg10; obtain ⟨o4, ho4, hmo4⟩ := Own.mapped [_, _] [_] H4.out hm10 hg10; have H6 := Lib.hid ho4; have HM4 := Lib.hid hmo4; clear hm10 hg10 ho4 hmo4))
          go_roundw
          case rel => exact ⟨k + 1, M, o1, o4, D1, _, n1, n2 + 1, by omega, by go_num, H6.out.drop.drop, HM1.out, HW1.out.congr HN1.out HN2.out, HM4.out, (HW2.out.put x.ln false).congr HN3.out, by rw [HSZ.out, HLEN.out], by omega, by omega⟩
          case measure => simp [intOf]; omega
        · have HLV : Hid (lvF L x.ln = false) := Lib.hid (by rw [lvF, HG.out]; exact hlv)
          clear hlv HG
          rcases hc with rfl | rfl
          all_goals
            as_aux_lemma =>
            go_wp2_with (first
              | ((with_reducible refine wpList_store_row (o := ⟨none, _, _, _, _, _⟩) rfl 32 (.tmp 14) (.tmp 51) rfl w7.heap.size (dcells d) ?sx ?sy 32 ?old ?sg ?si ?so ?s1 ?_); (case sx => rfl); (case sy => rfl); (case old => exact #[.int .i64 0, .int .i64 0, .int .i64 0, .int .i64 0, .int .i64 0, .int .i64 0, .int .i64 0, .int .i64 0]); (case sg => exact heap_alloc_new w7 _); (case si => kernel_rfl); (case so => rfl); (case s1 => kernel_rfl); generalize (w7.alloc (.cells #[.int .i64 0, .int .i64 0, .int .i64 0, .int .i64 0, .int .i64 0, .int .i64 0, .int .i64 0, .int .i64 0] 32)).setRow w7.heap.size (dcells d) = w8 at *; generalize w7.heap.size = k14 at *; have hA := H4.out.cells (List.mem_cons_of_mem _ (List.mem_cons_self ..)); have hlkB := HM2.out.lookB (H4.out.box (List.mem_cons_of_mem _ (List.mem_cons_of_mem _ (List.mem_cons_self ..)))) HW2.out HWF.out HLV.out)
              | (at_mapUpdate; refine wpList_mapUpdate_own _ rfl (.tmp 111) (.tmp 113) (.const (.bool false)) 54 rfl 3 4 law3 Try.underlying54 _ mo2 n2 D2 rfl (HM2.out _ (H4.out.box (List.mem_cons_of_mem _ (List.mem_cons_of_mem _ (List.mem_cons_self ..))))) (by unfold maxLen; omega) (.int .i64 x.ln) (.bool false) (.int .i64 x.ln) rfl rfl (keyOf_int_mk Try.underlying3 HWF.out) (.lit (.bool false)) [] (plainElem_bool Try.underlying4 false) ?_; intro w10 hm10 hg10; obtain ⟨o4, ho4, hmo4⟩ := Own.mapped [_, _] [_] H4.out hm10 hg10; have H6 := Lib.hid ho4; have HM4 := Lib.hid hmo4; clear hm10 hg10 ho4 hmo4))
            go_roundw
            case rel => exact ⟨k + 1, M, o1, o4, D1, _, n1, n2 + 1, by omega, by go_num, H6.out.drop.drop, HM1.out, HW1.out.congr HN1.out HN2.out, HM4.out, (HW2.out.put x.ln false).congr HN3.out, by rw [HSZ.out, HLEN.out], by omega, by omega⟩
            case measure => simp [intOf]; omega
      · obtain ⟨hc, hN⟩ := once3 GD.out HG.out e
        have HN := Lib.hid hN
        clear hN e HD GD HG
        have hc : (n = 0 ∧ q0 = true ∨ n = 5 ∧ q0 = false) ∧ Hid (Maps.size (D1.del (.int .i64 x.ln)) = M.length) := by
          rcases hc with ⟨h1, h2, h3⟩ | ⟨h1, h2, h3⟩
          · refine ⟨.inl ⟨h1, h2⟩, Lib.hid ?_⟩
            have := HW1.out.size_del (x := x.ln) (HHS.out.trans h2)
            have := HSZ.out
            omega
          · refine ⟨.inr ⟨h1, h2⟩, Lib.hid ?_⟩
            have := HW1.out.size_same (x := x.ln) (HHS.out.trans h2)
            have := HSZ.out
            omega
        obtain ⟨hc, HS2⟩ := hc
        rcases hc with ⟨rfl, rfl⟩ | ⟨rfl, rfl⟩
        all_goals
          as_aux_lemma =>
          go_wp2_with (first
            | ((with_reducible refine wpList_store_row (o := ⟨none, _, _, _, _, _⟩) rfl 32 (.tmp 14) (.tmp 51) rfl w7.heap.size (dcells d) ?sx ?sy 32 ?old ?sg ?si ?so ?s1 ?_); (case sx => rfl); (case sy => rfl); (case old => exact #[.int .i64 0, .int .i64 0, .int .i64 0, .int .i64 0, .int .i64 0, .int .i64 0, .int .i64 0, .int .i64 0]); (case sg => exact heap_alloc_new w7 _); (case si => kernel_rfl); (case so => rfl); (case s1 => kernel_rfl); generalize (w7.alloc (.cells #[.int .i64 0, .int .i64 0, .int .i64 0, .int .i64 0, .int .i64 0, .int .i64 0, .int .i64 0, .int .i64 0] 32)).setRow w7.heap.size (dcells d) = w8 at *; generalize w7.heap.size = k14 at *; have hA := H4.out.cells (List.mem_cons_of_mem _ (List.mem_cons_self ..)))
            | (at_delete; refine wpList_delete_own _ rfl (.tmp 59) (.tmp 61) 53 3 rfl 32 law3 Try.underlying53 _ mo1 n1 D1 rfl (HM1.out _ (H4.out.box (List.mem_cons_of_mem _ (List.mem_cons_of_mem _ (List.mem_cons_of_mem _ (List.mem_cons_self ..)))))) (.int .i64 x.ln) (.int .i64 x.ln) rfl (keyOf_int_mk Try.underlying3 HWF.out) ?_; intro w9 hm9 hg9; obtain ⟨o3, ho3, hmo3⟩ := Own.mapped [_, _, _] [] H4.out hm9 hg9.grown; have H5 := Lib.hid ho3; have HM3 := Lib.hid hmo3; clear hm9 hg9 ho3 hmo3 hA; have hA := H5.out.cells (List.mem_cons_of_mem _ (List.mem_cons_self ..)))
            | (at_delete; refine wpList_delete_own _ rfl (.tmp 62) (.tmp 64) 54 3 rfl 4 law3 Try.underlying54 _ mo2 n2 D2 rfl (HM2.out _ (H5.out.box (List.mem_cons_of_mem _ (List.mem_cons_of_mem _ (List.mem_cons_self ..))))) (.int .i64 x.ln) (.int .i64 x.ln) rfl (keyOf_int_mk Try.underlying3 HWF.out) ?_; intro w10 hm10 hg10; obtain ⟨o4, ho4, hmo4⟩ := Own.mapped [_, _] [_] H5.out hm10 hg10.grown; have H6 := Lib.hid ho4; have HM4 := Lib.hid hmo4; clear hm10 hg10 ho4 hmo4))
          go_roundw
          case rel => exact ⟨k + 1, M, o3, o4, _, _, n1, n2, by omega, by go_num, H6.out.drop.drop, HM3.out, (HW1.out.del x.ln).congr (fun y => by rw [hsF, HN.out y]; split <;> rfl) (fun y => by rw [wdF, HN.out y]; split <;> rfl), HM4.out, (HW2.out.del x.ln).congr (fun y => by rw [lvF, HN.out y]; split <;> rfl), HS2.out, by omega, by omega⟩
          case measure => simp [intOf]; omega
    · go_wp2_with fail
      refine (H1.out.list).mono ?_
      rintro e w4 ⟨pl, cl, rfl, -, hb⟩
      have H2 := Lib.hid (H1.out.step hb)
      clear hb
      have hln := fun ty => HM1.out.lenN (H2.out.box (List.mem_cons_of_mem _ (List.mem_cons_self ..))) HSZ.out ty
      have HF := Lib.hid (bstep HB.out H2.out.bl)
      clear H1 H2 HM1 HM2 HW1 HW2 HSZ HL HLW hmm
      go_wp2
      go_ret
      exact ⟨by simp, HF.out⟩

end Go.Proofs.Ytlhecliamhjobaa
