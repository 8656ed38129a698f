/-
  awake of layer 16 is true: the calls whose answers the document fixes.
-/
import Derived.Test.YtpknfbgnclgpmaaGreatDoorHoJ
import Derived.Test.YtpknfbgnclgpmaaGreatDoorLayMs
namespace Go.Proofs.YtpknfbgnclgpmaaGreatDoor.Ho
open Go Go.RowKit

abbrev c0 : Cfg := ⟨2, 2, 1, 1, 2, 4, 0, 1, 2, 1, 1, 1, 1⟩
theorem c0_ok : okC c0 = true := by decide
theorem c0_fits : c0.fits := by simp [Cfg.fits]
def en0 : Sh.En := ⟨-1, ⟨2, 0, [], false⟩⟩
def en1 : Sh.En := ⟨1, ⟨2, 0, [], false⟩⟩
def E0 : Int → Sh.En := fun _ => en0
def t0 : Hs := ⟨E0, [0, 0, 0, 0, 0, 0, 0, 0], [], 0⟩
def t1 : Hs := ⟨E0, [0, 0, 0, 0, 0, 0, 0, 0], [⟨(⟨1, 3, 1, 1, 0, 0, 0, 0, 0, 0, 0, 0, 0, 0, 0⟩ : Msg), false, []⟩], 0⟩
def t2 : Hs := ⟨upd E0 3 en1, [0, 0, 0, 0, 0, 0, 0, 0], [⟨(⟨1, 3, 1, 1, 0, 0, 0, 0, 0, 0, 0, 0, 0, 0, 0⟩ : Msg), true, [(⟨7, 3, 1, 1, 0, 0, 2, 0, 0, 0, 0, 0, 0, 0, 0⟩ : Msg)]⟩], 0⟩
def t3 : Hs := ⟨upd E0 3 en1, [0, 0, 0, 0, 0, 0, 0, 0], [⟨(⟨1, 3, 1, 1, 0, 0, 0, 0, 0, 0, 0, 0, 0, 0, 0⟩ : Msg), true, []⟩], 0⟩
def t4 : Hs := ⟨upd E0 3 en1, [0, 0, 0, 0, 0, 0, 0, 0], [], 0⟩
def t5 : Hs := ⟨upd E0 3 en1, [0, 0, 0, 0, 0, 0, 0, 0], [⟨(⟨3, 3, 1, 1, 0, 0, 0, 8, 9, 0, 0, 0, 0, 0, 0⟩ : Msg), false, []⟩], 0⟩
def t6 : Hs := ⟨upd (upd E0 3 en1) 3 en0, [0, 0, 0, 0, 0, 0, 8, 9], [⟨(⟨3, 3, 1, 1, 0, 0, 0, 8, 9, 0, 0, 0, 0, 0, 0⟩ : Msg), true, [(⟨10, 3, 1, 1, 0, 0, 0, 0, 0, 0, 0, 0, 0, 0, 0⟩ : Msg)]⟩], 0⟩
theorem aw0 : s0 c0 = t0 := by rfl
theorem aw1 : acceptP c0 1 t0 (⟨1, 3, 1, 1, 0, 0, 0, 0, 0, 0, 0, 0, 0, 0, 0⟩ : Msg) = (0, t1) := by rfl
theorem aw2 : acceptP c0 1 t1 (⟨1, 2, 1, 0, 0, 0, 0, 0, 0, 0, 0, 0, 0, 0, 0⟩ : Msg) = (1, t1) := by rfl
theorem aw3 : workP c0 t1 0 0 0 0 = ((mz, false, true), t2) := by rfl
theorem aw4 : workP c0 t2 0 1 1 0 = ((mz, false, false), t2) := by rfl
theorem aw5 : workP c0 t2 0 0 0 1 = (((⟨7, 3, 1, 1, 0, 0, 2, 0, 0, 0, 0, 0, 0, 0, 0⟩ : Msg), true, true), t3) := by rfl
theorem aw6 : doneP c0 1 t3 (⟨11, 3, 0, 1, 0, 0, 0, 0, 0, 0, 0, 0, 0, 0, 0⟩ : Msg) = (7, t3) := by rfl
theorem aw7 : doneP c0 1 t3 (⟨11, 3, 1, 1, 0, 0, 0, 0, 0, 0, 0, 0, 0, 0, 0⟩ : Msg) = (0, t4) := by rfl
theorem aw8 : tellE c0 1 t4 3 = en1 := by rfl
theorem aw9 : tellE c0 1 t4 2 = Sh.zE := by rfl
theorem aw10 : acceptP c0 1 t4 (⟨3, 3, 1, 1, 0, 0, 0, 8, 9, 0, 0, 0, 0, 0, 0⟩ : Msg) = (0, t5) := by rfl
theorem aw11 : workP c0 t5 0 0 0 0 = ((mz, false, true), t6) := by rfl
theorem aw12 : tellL c0 1 t6 3 = ⟨8, 9, 0, 0, 0, 0, 0, 0⟩ := by rfl
theorem aw13 : ownB c0 1 3 = true := by rfl
theorem aw14 : ownB c0 1 2 = false := by rfl
def noX : Nat → Obj → Prop := fun _ _ => False
theorem bx_nil (w : World) : Qu.Bx w (fun _ => False) noX [] w := ⟨Below.refl _ _, fun p hp => (by cases hp), by simp, fun k hk => hk.elim, fun k o hk => hk.elim⟩
theorem wf3 : (Lit.int .i64 3).wf = true := by decide
theorem wf2 : (Lit.int .i64 2).wf = true := by decide
set_option maxRecDepth 100000 in
set_option maxHeartbeats 8000000 in
theorem awake_any (w : World) (hT : Tb w) :
    Calls Tryz.prog 6 #[] w fun e w' => e = .returned (.bool true) ∧ Below w.heap.size w w' := by
  have hq0 : ∀ w, (binOp .eql 38 (.agg #[.int .i64 7, .int .i64 3, .int .i64 1, .int .i64 1, .int .i64 0, .int .i64 0, .int .i64 2, .int .i64 0, .int .i64 0, .int .i64 0, .int .i64 0, .int .i64 0, .int .i64 0, .int .i64 0, .int .i64 0]) (.agg #[.int .i64 7, .int .i64 3, .int .i64 1, .int .i64 1, .int .i64 0, .int .i64 0, .int .i64 2, .int .i64 0, .int .i64 0, .int .i64 0, .int .i64 0, .int .i64 0, .int .i64 0, .int .i64 0, .int .i64 0])).run Tryz.prog w = .ok (.bool true) w := fun w => msg_eql (⟨7, 3, 1, 1, 0, 0, 2, 0, 0, 0, 0, 0, 0, 0, 0⟩ : Msg) w
  have hq1 : ∀ w, (binOp .eql 36 (.agg #[.int .i64 8, .int .i64 9, .int .i64 0, .int .i64 0, .int .i64 0, .int .i64 0, .int .i64 0, .int .i64 0]) (.agg #[.int .i64 8, .int .i64 9, .int .i64 0, .int .i64 0, .int .i64 0, .int .i64 0, .int .i64 0, .int .i64 0])).run Tryz.prog w = .ok (.bool true) w := fun w => Me.words_eql ⟨8, 9, 0, 0, 0, 0, 0, 0⟩ ⟨8, 9, 0, 0, 0, 0, 0, 0⟩ w
  have HB0 := Lib.hid ((Qu.mv_add (w0 := w) (.cells (cfc c0) 24)) _ _ (bx_nil w)).1
  have HN := Lib.hid (newH_yes (c := c0) (n := 1) HB0.out c0_fits hT c0_ok (by decide) (by decide))
  have HN2 := Lib.hid (fun w => newH_bad c0 2 w c0_fits (.inr ⟨c0_ok, .inr ⟨by decide, by decide⟩⟩))
  rw [aw0] at HN
  clear hT
  go_enter Tryz.func6, Tryz.ntmps6
  go_wp2_with fail
  refine HN.out.mono ?_
  rintro e w1 ⟨K, rfl, ho, -⟩
  have H1 := Lib.hid ho
  have hcc := H1.out.cells (List.mem_cons_self ..)
  clear ho HN HB0
  go_wp2_with fail
  refine (HN2.out _).mono ?_
  rintro e w2 ⟨rfl, hb2⟩
  have H2 := Lib.hid (H1.out.step hb2)
  clear hb2 hcc H1 HN2
  go_wp2_with fail
  refine (show Calls _ _ _ _ (fun e w' => e = .returned (.int .i64 0) ∧ Own w K c0 1 t1 noX _ w') from by have q := H2.out.acceptF (⟨1, 3, 1, 1, 0, 0, 0, 0, 0, 0, 0, 0, 0, 0, 0⟩ : Msg); rw [aw1] at q; exact q).mono ?_
  rintro e w3 ⟨rfl, ho⟩
  have H3 := Lib.hid ho
  clear ho H2
  go_wp2_with fail
  refine (show Calls _ _ _ _ (fun e w' => e = .returned (.int .i64 1) ∧ Own w K c0 1 t1 noX _ w') from by have q := H3.out.acceptF (⟨1, 2, 1, 0, 0, 0, 0, 0, 0, 0, 0, 0, 0, 0, 0⟩ : Msg); rw [aw2] at q; exact q).mono ?_
  rintro e w4 ⟨rfl, ho⟩
  have H4 := Lib.hid ho
  clear ho H3
  go_wp2_with fail
  refine (show Calls _ _ _ _ (RetW (mz, false, true) (Own w K c0 1 t2 noX _)) from by have q := H4.out.workF 0 0 0 0; rw [aw3] at q; exact q).mono ?_
  rintro e w5 ⟨rfl, ho⟩
  have H5 := Lib.hid (ho.add (.cells #[.int .i64 0, .int .i64 0, .int .i64 0, .int .i64 0, .int .i64 0, .int .i64 0, .int .i64 0, .int .i64 0, .int .i64 0, .int .i64 0, .int .i64 0, .int .i64 0, .int .i64 0, .int .i64 0, .int .i64 0] 38))
  clear ho H4
  go_wp2_with fail
  refine (show Calls _ _ _ _ (RetW (mz, false, false) (Own w K c0 1 t2 noX _)) from by have q := H5.out.workF 0 1 1 0; rw [aw4] at q; exact q).mono ?_
  rintro e w6 ⟨rfl, ho⟩
  have H6 := Lib.hid (ho.add (.cells #[.int .i64 0, .int .i64 0, .int .i64 0, .int .i64 0, .int .i64 0, .int .i64 0, .int .i64 0, .int .i64 0, .int .i64 0, .int .i64 0, .int .i64 0, .int .i64 0, .int .i64 0, .int .i64 0, .int .i64 0] 38))
  clear ho H5
  go_wp2_with fail
  refine (show Calls _ _ _ _ (RetW ((⟨7, 3, 1, 1, 0, 0, 2, 0, 0, 0, 0, 0, 0, 0, 0⟩ : Msg), true, true) (Own w K c0 1 t3 noX _)) from by have q := H6.out.workF 0 0 0 1; rw [aw5] at q; exact q).mono ?_
  rintro e w7 ⟨rfl, ho⟩
  have H7 := Lib.hid (ho.add (.cells #[.int .i64 7, .int .i64 3, .int .i64 1, .int .i64 1, .int .i64 0, .int .i64 0, .int .i64 2, .int .i64 0, .int .i64 0, .int .i64 0, .int .i64 0, .int .i64 0, .int .i64 0, .int .i64 0, .int .i64 0] 38))
  clear ho H6
  go_wp2_with fail
  refine (show Calls _ _ _ _ (fun e w' => e = .returned (.int .i64 7) ∧ Own w K c0 1 t3 noX _ w') from by have q := H7.out.doneF (⟨11, 3, 0, 1, 0, 0, 0, 0, 0, 0, 0, 0, 0, 0, 0⟩ : Msg); rw [aw6] at q; exact q).mono ?_
  rintro e w8 ⟨rfl, ho⟩
  have H8 := Lib.hid ho
  clear ho H7
  go_wp2_with fail
  refine (show Calls _ _ _ _ (fun e w' => e = .returned (.int .i64 0) ∧ Own w K c0 1 t4 noX _ w') from by have q := H8.out.doneF (⟨11, 3, 1, 1, 0, 0, 0, 0, 0, 0, 0, 0, 0, 0, 0⟩ : Msg); rw [aw7] at q; exact q).mono ?_
  rintro e w9 ⟨rfl, ho⟩
  have H9 := Lib.hid ho
  clear ho H8
  go_wp2_with fail
  refine (show Calls _ _ _ _ (EntG _ en1 true) from by have q := H9.out.entryF 3 wf3; rw [aw8, aw13] at q; exact q).mono ?_
  rintro e w10 ⟨p10, cap10, rfl, -, hb, -⟩
  have H10 := Lib.hid ((H9.out.step hb).add (.cells (Sh.ecells en1 p10 cap10) 65))
  clear hb H9
  go_wp2_with fail
  refine (show Calls _ _ _ _ (EntG _ Sh.zE false) from by have q := H10.out.entryF 2 wf2; rw [aw9, aw14] at q; exact q).mono ?_
  rintro e w11 ⟨p11, cap11, rfl, -, hb, -⟩
  have H11 := Lib.hid ((H10.out.step hb).add (.cells (Sh.ecells Sh.zE p11 cap11) 65))
  clear hb H10
  go_wp2_with fail
  refine (show Calls _ _ _ _ (fun e w' => e = .returned (.int .i64 0) ∧ Own w K c0 1 t5 noX _ w') from by have q := H11.out.acceptF (⟨3, 3, 1, 1, 0, 0, 0, 8, 9, 0, 0, 0, 0, 0, 0⟩ : Msg); rw [aw10] at q; exact q).mono ?_
  rintro e w12 ⟨rfl, ho⟩
  have H12 := Lib.hid ho
  clear ho H11
  go_wp2_with fail
  refine (show Calls _ _ _ _ (RetW (mz, false, true) (Own w K c0 1 t6 noX _)) from by have q := H12.out.workF 0 0 0 0; rw [aw11] at q; exact q).mono ?_
  rintro e w13 ⟨rfl, ho⟩
  have H13 := Lib.hid ho
  clear ho H12
  go_wp2_with fail
  refine (show Calls _ _ _ _ (LineG _ ⟨8, 9, 0, 0, 0, 0, 0, 0⟩ true) from by have q := H13.out.lineF 3 wf3; rw [aw12, aw13] at q; exact q).mono ?_
  rintro e w14 ⟨rfl, hb⟩
  have H14 := Lib.hid ((H13.out.step hb).add (.cells #[.int .i64 8, .int .i64 9, .int .i64 0, .int .i64 0, .int .i64 0, .int .i64 0, .int .i64 0, .int .i64 0] 36))
  have hm14 := H14.out.box (List.mem_cons_of_mem _ (List.mem_cons_of_mem _ (List.mem_cons_of_mem _ (List.mem_cons_self ..))))
  have hc19 := H14.out.cells (List.mem_cons_of_mem _ (List.mem_cons_of_mem _ (List.mem_cons_self ..)))
  have hw23 := H14.out.box (List.mem_cons_self ..)
  have G14 := Lib.hid hm14
  have G23 := Lib.hid hw23
  clear hb H13 hm14 hw23
  have hc19a : (w14.alloc (.cells #[.int .i64 8, .int .i64 9, .int .i64 0, .int .i64 0, .int .i64 0, .int .i64 0, .int .i64 0, .int .i64 0] 36)).cell? ⟨w10.heap.size, 0, none⟩ = some (.int .i64 1) := hc19 0
  clear hc19
  go_upto_region 18 with fail
  simp only [List.append]
  go_wp2_with (first
    | ((with_reducible refine Qu.wpList_load_guarded (o := ⟨some 120, _, _, _, _, _⟩) ?lw 38 (.tmp 14) rfl w7.heap.size ?lx 38 (#[.int .i64 7, .int .i64 3, .int .i64 1, .int .i64 1, .int .i64 0, .int .i64 0, .int .i64 2, .int .i64 0, .int .i64 0, .int .i64 0, .int .i64 0, .int .i64 0, .int .i64 0, .int .i64 0, .int .i64 0]) (0, 0) _ ?lg Tryz.underlying38 ?ld ?li ?_); (case lw => rfl); (case lx => rfl); (case lg => exact G14.out); (case ld => rfl); (case li => kernel_rfl))
    | ((with_reducible refine Qu.wpList_load_guarded (o := ⟨some 151, _, _, _, _, _⟩) ?lw 36 (.tmp 23) rfl w14.heap.size ?lx 36 (#[.int .i64 8, .int .i64 9, .int .i64 0, .int .i64 0, .int .i64 0, .int .i64 0, .int .i64 0, .int .i64 0]) (0, 0) _ ?lg Tryz.underlying36 ?ld ?li ?_); (case lw => rfl); (case lx => rfl); (case lg => exact G23.out); (case ld => rfl); (case li => kernel_rfl)))
  refine H14.out.queueF.mono ?_
  rintro e w15 ⟨p, cap, M, rfl, hM, -, -, hb⟩
  have H15 := Lib.hid (H14.out.step hb)
  have hl : (M.length : Int) = 1 := by
    have := congrArg List.length hM
    rw [List.length_map] at this
    rw [this]; rfl
  clear hb H14 hM
  go_wp2_with fail
  refine H15.out.oddF.mono ?_
  rintro e w16 ⟨rfl, rfl⟩
  have HB := Lib.hid H15.out.bl
  clear H15
  go_wp2
  go_ret
  exact ⟨rfl, HB.out⟩

end Go.Proofs.YtpknfbgnclgpmaaGreatDoor.Ho
