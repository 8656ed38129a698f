/-
  QueueFirst is true: the walk.
-/
import Derived.Test.YtnpbbkiojoafbaaQuQ
import Derived.Test.YtnpbbkiojoafbaaQuO
import Derived.Test.YtnpbbkiojoafbaaQuU
import Derived.Test.YtnpbbkiojoafbaaQuP
import Derived.Lib.QuietBelow
import Derived.Deep.DeepCutAuto
import Derived.Deep.CutBlock
namespace Go.Proofs.Ytnpbbkiojoafbaa
open Go Go.RowKit Go.Maps

def Lw (l : List En) : Prop := ∀ x ∈ l, (Lit.int .i64 x.m.ln).wf = true
theorem Lw.doP {room : Int} {l : List En} (h : Lw l) (gd : Good room l) (x : Qo) (hx : (Lit.int .i64 x.m.ln).wf = true) {y : Msg} {q : Bool} {n : Int} {m : List En} (e : doP room l x = ((y, q, n), m)) : Lw m := by
  rcases doP_ways gd x e with ⟨_, rfl⟩ | ⟨_, _, rfl⟩ | ⟨_, _, _, i, _, rfl⟩ | ⟨_, _, i, z, z', _, hz, rfl, hm, _⟩
  · exact h
  · intro y hy
    rcases List.mem_append.1 hy with hy | hy
    · exact h y hy
    · obtain rfl : y = ⟨x.m, false, []⟩ := by simpa using hy
      exact hx
  · exact fun y hy => h y (List.mem_of_mem_eraseIdx hy)
  · intro y hy
    rcases List.mem_or_eq_of_mem_set hy with hy | rfl
    · exact h y hy
    · rw [hm]
      exact h z (List.mem_of_getElem? hz)
/-- What holds at each operation's head. -/
def FrRel (w : World) (b : Nat) (room : Int) (n : Nat) (i : Value) (wr : World) : Prop :=
  ∃ (k : Nat) (L : List En), k ≤ n ∧ i = .int .i64 k ∧ OwnP w b room L noX [] wr ∧ Fs L ∧ Lw L
/-- What holds at each entry's head. -/
def InRel (w : World) (b : Nat) (room : Int) (L : List En) (X : Nat → Obj → Prop) (mb : Nat) (wl : World) (on i : Value) (wr : World) : Prop :=
  ∃ (k : Nat) (o : Obj) (D : DataW Unit) (n : Nat) (q : Bool), k ≤ L.length ∧ i = .int .i64 k ∧ on = .bool q ∧ q = decide (0 < k) ∧ OwnP w b room L X [(mb, o)] wr ∧ MapO boolR o mb n D ∧ Mb D (seenF (L.take k)) ∧ n ≤ k ∧ wl.heap.size ≤ wr.heap.size

set_option maxRecDepth 100000 in
set_option maxHeartbeats 8000000 in
theorem queueFirst_any (room : Int) (p : Option Addr) (cap : Nat) (l : List Qo) (w : World) (hl : OpsIn w p l) (hn : l.length ≤ 9223372036854775807) (hlw : ∀ x ∈ l, (Lit.int .i64 x.m.ln).wf = true) (hsz : ∀ x ∈ l, x.l.length ≤ 140737488355328) :
    Calls Try.prog 4 #[.int .i64 room, .slice p l.length cap] w fun e w' => e = .returned (.bool true) ∧ Below w.heap.size w w' := by
  have HL := Lib.hid hl
  have HLW := Lib.hid hlw
  have HSZ := Lib.hid hsz
  clear hl hlw hsz
  have hmm := @run_makeMap Try.prog
  go_enter Try.func4, Try.ntmps4
  go_wp2_with fail
  refine (awake_any _).mono ?_
  rintro e w1 ⟨rfl, hb⟩
  have HB := Lib.hid hb
  clear hb
  go_wp2_with fail
  refine (large_any p cap l w1 (HL.out.step HB.out) hn HSZ.out).mono ?_
  rintro e w2 ⟨q, rfl, rfl, hq⟩
  cases q with
  | true =>
    clear HL HLW hmm hq HSZ
    go_wp2
    go_ret
    exact ⟨rfl, HB.out⟩
  | false =>
  have HQ := Lib.hid (hq rfl)
  have hn60 := HQ.out.1
  clear hq HSZ
  by_cases hr : room < 1 ∨ 16 < room
  · clear HL HLW hmm HQ
    have hro := Lib.hid hr
    clear hr
    go_wp2_with fail
    refine (new_no room _ hro.out).mono ?_
    rintro e w2 ⟨rfl, rfl⟩
    go_wp2
    go_ret
    exact ⟨rfl, HB.out⟩
  have HR := Lib.hid hr
  clear hr
  go_wp2_with fail
  refine (newO (w0 := w2) (X := noX) (room := room) (by have := HR.out; omega) (by have := HR.out; omega) (Below.refl _ w2) (fun k o h => h.elim)).mono ?_
  rintro e w3 ⟨b, rfl, ho, -⟩
  have H0 := Lib.hid ho
  clear ho HR
  go_wp2
  go_loopw [27] (fun i wr => FrRel w2 b room l.length i wr) (fun i _ => l.length - (intOf i).toNat)
  case atStart => exact ⟨0, [], by omega, rfl, H0.out, List.Pairwise.nil, fun x hx => (by cases hx)⟩
  case round =>
    obtain ⟨k, L, hk, rfl, ho, hfs, hlw⟩ := hrel
    obtain ⟨wo, rfl⟩ : ∃ wo : World, wo = wr := ⟨_, rfl⟩
    have H1 := Lib.hid ho
    have HFS := Lib.hid hfs
    have HLL := Lib.hid hlw
    clear ho hfs hlw H0
    by_cases hlt : k < l.length
    · obtain ⟨x, hx⟩ : ∃ x, l[k]? = some x := ⟨_, List.getElem?_eq_getElem hlt⟩
      have hop := HL.out.step (bstep HB.out H1.out.bl)
      obtain ⟨g, off, rfl, hgl, hr⟩ := hop.1 k x hx
      have HRO := Lib.hid hr
      have HMX := Lib.hid (hop.2 x (List.mem_of_getElem? hx))
      have HXL := Lib.hid (HQ.out.2 x (List.mem_of_getElem? hx))
      obtain ⟨y, q, n, M, hD⟩ : ∃ y q n M, doP room L x = ((y, q, n), M) := ⟨_, _, _, _, rfl⟩
      have HD := Lib.hid hD
      have HF2 := Lib.hid (HFS.out.doP H1.out.gd x hD)
      have HL2 := Lib.hid (HLL.out.doP H1.out.gd x (HLW.out x (List.mem_of_getElem? hx)) hD)
      have H2 := Lib.hid (H1.out.addRow #[.int .i64 0, .int .i64 0, .int .i64 0, .int .i64 0, .int .i64 0, .int .i64 0, .int .i64 0, .int .i64 0, .int .i64 0, .int .i64 0, .int .i64 0, .int .i64 0, .int .i64 0, .int .i64 0, .int .i64 0, .int .i64 0, .int .i64 0, .slice none 0 0] (ocells x) 38)
      have HB2 := Lib.hid (below_box wo (.cells #[.int .i64 0, .int .i64 0, .int .i64 0, .int .i64 0, .int .i64 0, .int .i64 0, .int .i64 0, .int .i64 0, .int .i64 0, .int .i64 0, .int .i64 0, .int .i64 0, .int .i64 0, .int .i64 0, .int .i64 0, .int .i64 0, .int .i64 0, .slice none 0 0] 38) (ocells x))
      clear hop hr hx hD H1 HFS HLL
      go_wp2_with (first
        | ((with_reducible refine wpList_load_at (op := ⟨some 30, _, _, _, _, _⟩) rfl 38 (.tmp 29) rfl g (off + k * 18) ?lx (ocells x) _ ?lc Try.underlying38 ?ld ?li ?_); (case lx => rfl); (case lc => exact HRO.out); (case ld => rfl); (case li => kernel_rfl))
        | ((with_reducible refine wpList_store_row (o := ⟨none, _, _, _, _, _⟩) rfl 38 (.tmp 8) (.tmp 30) rfl wo.heap.size (ocells x) ?sx ?sy 38 ?old ?sg ?si ?so ?s1 ?_); (case sx => rfl); (case sy => rfl); (case old => exact #[.int .i64 0, .int .i64 0, .int .i64 0, .int .i64 0, .int .i64 0, .int .i64 0, .int .i64 0, .int .i64 0, .int .i64 0, .int .i64 0, .int .i64 0, .int .i64 0, .int .i64 0, .int .i64 0, .int .i64 0, .int .i64 0, .int .i64 0, .slice none 0 0]); (case sg => exact heap_alloc_new wo _); (case si => kernel_rfl); (case so => rfl); (case s1 => kernel_rfl); generalize (wo.alloc (.cells #[.int .i64 0, .int .i64 0, .int .i64 0, .int .i64 0, .int .i64 0, .int .i64 0, .int .i64 0, .int .i64 0, .int .i64 0, .int .i64 0, .int .i64 0, .int .i64 0, .int .i64 0, .int .i64 0, .int .i64 0, .int .i64 0, .int .i64 0, .slice none 0 0] 38)).setRow wo.heap.size (ocells x) = w4 at *; have h8 := H2.out.box (List.mem_cons_self ..))
        | ((with_reducible refine wpList_load_row (o := ⟨some 32, _, _, _, _, _⟩) rfl 38 (.tmp 8) rfl wo.heap.size ?lx 38 (ocells x) (0, 0) _ ?lg Try.underlying38 ?ld ?li ?_); (case lx => rfl); (case lg => exact h8); (case ld => rfl); (case li => kernel_rfl))
        | fail)
      refine (H2.out.op x (HMX.out.step HB2.out) (by have := HXL.out; omega) HD.out).mono ?_
      rintro e w5 ⟨rfl, ho⟩
      have H3 := Lib.hid (ho.drop.add (.map #[] 0))
      have hL16 := ho.gd.short
      have hLr := ho.gd.len
      clear ho H2 h8 HRO HMX HB2
      go_wp2_with fail
      generalize w5.alloc (.map #[] 0) = w6 at *
      generalize w5.heap.size = mb at *
      refine (H3.out.listQ).mono ?_
      rintro e w7 ⟨p7, c7, N, rfl, hpl, hin, hfr, hb7⟩
      have hNl : N.length = M.length := by have := congrArg List.length hpl; simpa using this
      have H4 := Lib.hid (H3.out.keepNew hb7)
      have HPL := Lib.hid hpl
      have HIN := Lib.hid hin
      have HFR := Lib.hid hfr
      clear hpl hin hfr hb7 H3
      go_wp2_with fail
      go_loopw [10, 39] (fun on i wr => InRel w2 b room M (keepN w6.heap.size w7 noX) mb w7 on i wr) (fun _ i _ => M.length - (intOf i).toNat)
      case atStart => exact ⟨0, _, _, 0, false, by omega, rfl, rfl, rfl, H4.out, MapO.new _ mb, Mb.empty, by omega, Nat.le_refl _⟩
      case round =>
        obtain ⟨i, o, D, n', qo, hi, rfl, rfl, hqo, ho, hm, hw, hn', hs7⟩ := hrel
        have H5 := Lib.hid ho
        have HM5 := Lib.hid hm
        have HW5 := Lib.hid hw
        have HQO := Lib.hid hqo
        clear ho hm hw hqo H4
        by_cases hil : i < M.length
        · obtain ⟨z, hz⟩ : ∃ z, N[i]? = some z := ⟨_, List.getElem?_eq_getElem (by omega)⟩
          have hzM : M[i]? = some z.pl := by rw [← HPL.out]; exact pl_at hz
          obtain ⟨⟨gz, oz, rfl, hgz, hrz⟩, -⟩ := (H5.out.ein HIN.out HFR.out (fun k o h1 h2 => .inr ⟨h1, h2⟩) hs7).at hz
          have HRZ := Lib.hid hrz
          have HZM := Lib.hid hzM
          have HWF := Lib.hid (HL2.out z.pl (List.mem_of_getElem? hzM))
          have H6 := Lib.hid (H5.out.addRow zec (ecells z) 57)
          have HWY := Lib.hid (first_ways HF2.out H5.out.gd hzM)
          clear hz hzM hrz H5
          go_upto_region 18 with (first
            | ((with_reducible refine wpList_load_at (op := ⟨some 43, _, _, _, _, _⟩) rfl 57 (.tmp 42) rfl gz (oz + i * 17) ?lx (ecells z) _ ?lc Try.underlying57 ?ld ?li ?_); (case lx => rfl); (case lc => exact HRZ.out); (case ld => rfl); (case li => kernel_rfl))
            | ((with_reducible refine wpList_store_row (o := ⟨none, _, _, _, _, _⟩) rfl 57 (.tmp 13) (.tmp 43) rfl wr.heap.size (ecells z) ?sx ?sy 57 ?old ?sg ?si ?so ?s1 ?_); (case sx => rfl); (case sy => rfl); (case old => exact zec); (case sg => exact heap_alloc_new wr _); (case si => kernel_rfl); (case so => rfl); (case s1 => kernel_rfl); have hs8 := Nat.le_trans hs7 (below_box wr (.cells zec 57) (ecells z)).size; generalize (wr.alloc (.cells zec 57)).setRow wr.heap.size (ecells z) = w8 at *; generalize wr.heap.size = k13 at *)
            | fail)
          have HR8 := Lib.hid (fun d os => H6.out.step (below_regrown w8 d os))
          have hcz := fun o d os => (HR8.out d os).cells (List.mem_cons_self ..) o
          rcases HWY.out with ⟨hS, hst, hrd, hzl⟩ | ⟨hS, hst, hrd⟩ | ⟨hS, hst, hrd, hzl, hi0⟩
          · have HRD := Lib.hid (fun d os => (HR8.out d os).readyQ i hrd)
            have hlk := fun d os => HM5.out.lookB ((HR8.out d os).box (List.mem_cons_of_mem _ (List.mem_cons_self ..))) HW5.out (x := z.m.ln) HWF.out hS
            have hst' : z.st = false := hst
            have hz0 : z.l.length = 0 := by
              have e : z.pl.l = z.l := rfl
              rw [← e, hzl]
              rfl
            have HRDY := Lib.hid hrd
            clear hS hst hrd hzl
            as_aux_lemma =>
            simp only [Act.put]
            refine wp_region_quiet_below (by kernel_rfl) (by kernel_rfl) ?_
            repeat (go_big_quiet_step (first
              | (go_at_call 20; exact Calls.regrown_of (HRD.out _ _))))
            refine wpQuiet_nil ?_
            intro w9 hw9
            have hb9 : Below w8.heap.size w8 w9 := by
              obtain ⟨pp, rfl⟩ := hw9
              exact below_regrown _ _ _
            have H8 := Lib.hid ((H6.out.step hb9).perm (List.Perm.swap _ _ _))
            have hs9 := Nat.le_trans hs8 hb9.size
            clear hw9 hb9 hcz hlk HR8 HRD
            have hcz := H8.out.cells (List.mem_cons_of_mem _ (List.mem_cons_self ..))
            go_wp2_with (first
              | (at_mapUpdate; refine wpList_mapUpdate_own _ rfl (.tmp 81) (.tmp 84) (.const (.bool true)) 63 rfl 3 4 law3 Try.underlying63 _ mb n' D rfl (HM5.out _ (H8.out.box (List.mem_cons_self ..))) (by unfold maxLen; omega) (.int .i64 z.m.ln) (.bool true) (.int .i64 z.m.ln) rfl rfl (keyOf_int_mk Try.underlying3 HWF.out) (.lit (.bool true)) [] (plainElem_bool Try.underlying4 true) ?_; intro w10 hm10 hg10; obtain ⟨o', ho', hmo'⟩ := H8.out.mapped hm10 hg10; have hs10 := Nat.le_trans hs9 hg10.size; have H9 := Lib.hid ho'; have HM9 := Lib.hid hmo'; have hcz := H9.out.cells (List.mem_cons_of_mem _ (List.mem_cons_self ..)); clear hm10 hg10 ho' hmo')
              | fail)
            · clear hcz
              exact ⟨⟨i + 1, o', _, n' + 1, true, by omega, by go_num, rfl, by simp, (H9.out.perm (List.Perm.swap _ _ _)).drop, HM9.out, (HW5.out.put z.m.ln true).congr (fun y => seen_take HZM.out y), by omega, hs10⟩, by simp [intOf]; omega⟩
            · refine (H9.out.readyQ i HRDY.out).mono ?_
              rintro e w11 ⟨rfl, hb11⟩
              have hs11 := Nat.le_trans hs10 hb11.size
              have H10 := Lib.hid (H9.out.step hb11)
              clear hb11 hcz
              go_wp2
              exact ⟨⟨i + 1, o', _, n' + 1, true, by omega, by go_num, rfl, by simp, (H10.out.perm (List.Perm.swap _ _ _)).drop, HM9.out, (HW5.out.put z.m.ln true).congr (fun y => seen_take HZM.out y), by omega, hs11⟩, by simp [intOf]; omega⟩
          · have HRD := Lib.hid (fun d os => (HR8.out d os).readyQ i hrd)
            have hlk := fun d os => HM5.out.lookB ((HR8.out d os).box (List.mem_cons_of_mem _ (List.mem_cons_self ..))) HW5.out (x := z.m.ln) HWF.out hS
            have hst' : z.st = true := hst
            have HRDY := Lib.hid hrd
            clear hS hst hrd
            as_aux_lemma =>
            simp only [Act.put]
            refine wp_region_quiet_below (by kernel_rfl) (by kernel_rfl) ?_
            repeat (go_big_quiet_step (first
              | (go_at_call 20; exact Calls.regrown_of (HRD.out _ _))))
            refine wpQuiet_nil ?_
            intro w9 hw9
            have hb9 : Below w8.heap.size w8 w9 := by
              obtain ⟨pp, rfl⟩ := hw9
              exact below_regrown _ _ _
            have H8 := Lib.hid ((H6.out.step hb9).perm (List.Perm.swap _ _ _))
            have hs9 := Nat.le_trans hs8 hb9.size
            clear hw9 hb9 hcz hlk HR8 HRD
            have hcz := H8.out.cells (List.mem_cons_of_mem _ (List.mem_cons_self ..))
            go_wp2_with (first
              | (at_mapUpdate; refine wpList_mapUpdate_own _ rfl (.tmp 81) (.tmp 84) (.const (.bool true)) 63 rfl 3 4 law3 Try.underlying63 _ mb n' D rfl (HM5.out _ (H8.out.box (List.mem_cons_self ..))) (by unfold maxLen; omega) (.int .i64 z.m.ln) (.bool true) (.int .i64 z.m.ln) rfl rfl (keyOf_int_mk Try.underlying3 HWF.out) (.lit (.bool true)) [] (plainElem_bool Try.underlying4 true) ?_; intro w10 hm10 hg10; obtain ⟨o', ho', hmo'⟩ := H8.out.mapped hm10 hg10; have hs10 := Nat.le_trans hs9 hg10.size; have H9 := Lib.hid ho'; have HM9 := Lib.hid hmo'; have hcz := H9.out.cells (List.mem_cons_of_mem _ (List.mem_cons_self ..)); clear hm10 hg10 ho' hmo')
              | fail)
            all_goals
              clear hcz
              exact ⟨⟨i + 1, o', _, n' + 1, true, by omega, by go_num, rfl, by simp, (H9.out.perm (List.Perm.swap _ _ _)).drop, HM9.out, (HW5.out.put z.m.ln true).congr (fun y => seen_take HZM.out y), by omega, hs10⟩, by simp [intOf]; omega⟩
          · have HRD := Lib.hid (fun d os => (HR8.out d os).readyQ i hrd)
            have hlk := fun d os => HM5.out.lookB ((HR8.out d os).box (List.mem_cons_of_mem _ (List.mem_cons_self ..))) HW5.out (x := z.m.ln) HWF.out hS
            have hst' : z.st = false := hst
            have hz0 : z.l.length = 0 := by
              have e : z.pl.l = z.l := rfl
              rw [← e, hzl]
              rfl
            have HRDY := Lib.hid hrd
            clear hS hst hrd hzl
            have hq1 : qo = true := by rw [HQO.out]; simp; exact hi0
            subst hq1
            clear hi0
            as_aux_lemma =>
            simp only [Act.put]
            refine wp_region_quiet_below (by kernel_rfl) (by kernel_rfl) ?_
            repeat (go_big_quiet_step (first
              | (go_at_call 20; exact Calls.regrown_of (HRD.out _ _))))
            refine wpQuiet_nil ?_
            intro w9 hw9
            have hb9 : Below w8.heap.size w8 w9 := by
              obtain ⟨pp, rfl⟩ := hw9
              exact below_regrown _ _ _
            have H8 := Lib.hid ((H6.out.step hb9).perm (List.Perm.swap _ _ _))
            have hs9 := Nat.le_trans hs8 hb9.size
            clear hw9 hb9 hcz hlk HR8 HRD
            have hcz := H8.out.cells (List.mem_cons_of_mem _ (List.mem_cons_self ..))
            go_wp2_with (first
              | (at_mapUpdate; refine wpList_mapUpdate_own _ rfl (.tmp 81) (.tmp 84) (.const (.bool true)) 63 rfl 3 4 law3 Try.underlying63 _ mb n' D rfl (HM5.out _ (H8.out.box (List.mem_cons_self ..))) (by unfold maxLen; omega) (.int .i64 z.m.ln) (.bool true) (.int .i64 z.m.ln) rfl rfl (keyOf_int_mk Try.underlying3 HWF.out) (.lit (.bool true)) [] (plainElem_bool Try.underlying4 true) ?_; intro w10 hm10 hg10; obtain ⟨o', ho', hmo'⟩ := H8.out.mapped hm10 hg10; have hs10 := Nat.le_trans hs9 hg10.size; have H9 := Lib.hid ho'; have HM9 := Lib.hid hmo'; have hcz := H9.out.cells (List.mem_cons_of_mem _ (List.mem_cons_self ..)); clear hm10 hg10 ho' hmo')
              | fail)
            clear hcz
            exact ⟨⟨i + 1, o', _, n' + 1, true, by omega, by go_num, rfl, by simp, (H9.out.perm (List.Perm.swap _ _ _)).drop, HM9.out, (HW5.out.put z.m.ln true).congr (fun y => seen_take HZM.out y), by omega, hs10⟩, by simp [intOf]; omega⟩
        · have him : i = M.length := by omega
          have h1 : ¬ room < (M.length : Int) := by omega
          have d1 : decide (room < (M.length : Int)) = false := by simp; omega
          have HN := Lib.hid (show FrRel w2 b room l.length (.int .i64 ((k : Int) + 1)) wr from ⟨k + 1, M, by omega, by go_num, H5.out.drop.weak (fun _ _ h => h.elim), HF2.out, HL2.out⟩)
          have hqm := HQO.out
          rw [him] at hqm
          by_cases hm0 : M.length = 0
          · have d2 : decide (0 < (M.length : Int)) = false := by rw [hm0]; rfl
            have hq0 : qo = false := by rw [hqm, hm0]; rfl
            subst hq0
            clear hqm him HM5 HW5 HQO HIN HFR HPL
            go_wp2
            go_roundw
            case rel => exact HN.out
            case measure => simp [intOf]; omega
          · have d2 : decide (0 < (M.length : Int)) = true := by simp; omega
            have hq0 : qo = true := by rw [hqm]; simp; omega
            subst hq0
            clear hqm him HM5 HW5 HQO HIN HFR HPL
            go_wp2
            go_roundw
            case rel => exact HN.out
            case measure => simp [intOf]; omega
    · have HF := Lib.hid (bstep HB.out H1.out.bl)
      clear H1 HFS HLL HL
      go_wp2
      go_ret
      exact ⟨rfl, HF.out⟩

end Go.Proofs.Ytnpbbkiojoafbaa
