import Derived.Test.YtlfhkjjjocmpbaaGreatDoorQCcO
import Derived.Test.YtlfhkjjjocmpbaaGreatDoorQCcN
import Derived.Test.YtlfhkjjjocmpbaaGreatDoorSx
import Derived.Test.YtlfhkjjjocmpbaaGreatDoorLayMs
import Derived.Deep.CutRange
import Derived.Deep.DeepCutAuto

namespace Go.Proofs.YtlfhkjjjocmpbaaGreatDoor.Cc
open Go Go.RowKit

abbrev c0 : Cfg := ⟨2, 1, 1, 1, 2, 4, 0, 1, 1, 1, 1, 1, 1⟩
abbrev d56 : Wd := ⟨5, 6, 0, 0, 0, 0, 0, 0⟩
abbrev d59 : Wd := ⟨5, 9, 0, 0, 0, 0, 0, 0⟩
abbrev t1 : St := ⟨[⟨0, 3, d0, true⟩], [⟨3, 2, -1, 0, 0, d0, false, false⟩], []⟩
abbrev t2 : St := ⟨[⟨4, 3, d56, true⟩], [⟨3, 2, 0, 0, 4, d56, false, true⟩], []⟩
abbrev t3 : St := ⟨[⟨4, 3, d59, true⟩], [⟨3, 2, 0, 0, 4, d56, false, true⟩], []⟩
abbrev t4 : St := ⟨[⟨4, 3, d59, false⟩], [], []⟩
abbrev t5 : St := ⟨[⟨0, 3, d0, false⟩], [], [⟨3, d59, true⟩]⟩
abbrev t6 : St := ⟨[⟨0, 3, d0, false⟩], [], [⟨3, d59, false⟩]⟩
theorem c0_fits : c0.fits := by simp [Cfg.fits]
theorem c0_ok : okC c0 = true := by kernel_rfl
theorem aw1 : askP c0 1 (emp c0) 3 2 = ((msg 2 3 1 0 0 0 0 d0, 0), t1) := by kernel_rfl
theorem aw2 : doP c0 t1 ⟨1, 7, 0⟩ = ((0, 5), t1) := by kernel_rfl
theorem aw3 : takeP c0 1 t1 (msg 7 3 0 1 0 0 4 d56) = ((m0, false, 0), t2) := by kernel_rfl
theorem aw4 : doP c0 t2 ⟨3, 7, 9⟩ = ((6, 0), t3) := by kernel_rfl
theorem aw5 : finishP c0 1 t3 = ((msg 11 3 1 0 0 0 0 d0, true), t4) := by kernel_rfl
theorem aw6 : evictP c0 1 t4 0 0 = ((msg 3 3 1 0 0 0 0 d59, true, 0), t5) := by kernel_rfl
theorem aw7 : takeP c0 1 t5 (msg 5 3 0 1 0 1 0 d0) = ((msg 7 3 1 0 1 1 4 d59, true, 0), t6) := by kernel_rfl
theorem aw8 : takeP c0 1 t6 (msg 5 3 0 1 0 0 0 d0) = ((m0, false, 7), t6) := by kernel_rfl

end Go.Proofs.YtlfhkjjjocmpbaaGreatDoor.Cc

namespace Go.Proofs.YtlfhkjjjocmpbaaGreatDoor.Cc
open Go Go.RowKit

theorem wpList_load_guarded {P : Program} {ops : Array Oper} {rest : List Oper} {o : Oper} {a : Act} {w : World} {Q : Exit → Act → World → Prop} (hw : Region.wanted o (yielded ops a.tmps) = true) (ty : TypeId) (x : Operand) (ho : o.op = .load ty x)
  (g : Nat) (hx : a.eval x = .pointer (some ⟨g, 0, none⟩)) (t : TypeId) (cs : Array Value) (fr : Nat × Nat) (d : TypeDesc) (hg : w.heap[g]? = some (.cells cs t fr))
  (hu : P.underlying ty = some d) (hd : (match d with | .struct _ | .array _ _ => true | _ => false) = true) (hi : (P.info? ty).map (·.size) = some cs.size)
  (h : wpList P ops Q rest (a.put o.dst (.agg cs)) w) : wpList P ops Q (o :: rest) a w :=
 wpList_step fun K hK => by
  rw [if_pos hw]
  exact wp_load_row ty x ho g hx t cs fr d hg hu hd hi (hK _ _ h)

set_option maxRecDepth 100000 in
set_option maxHeartbeats 8000000 in

theorem awake_any (w : World) (hT : Tb w) :
  Calls Tryz.prog 8 #[] w fun e w' => e = .returned (.bool true) ∧ Below w.heap.size w w' := by
 have hq0 : ∀ w, (binOp .eql 38 (.agg #[.int .i64 2, .int .i64 3, .int .i64 1, .int .i64 0, .int .i64 0, .int .i64 0, .int .i64 0, .int .i64 0, .int .i64 0, .int .i64 0, .int .i64 0, .int .i64 0, .int .i64 0, .int .i64 0, .int .i64 0]) (.agg #[.int .i64 2, .int .i64 3, .int .i64 1, .int .i64 0, .int .i64 0, .int .i64 0, .int .i64 0, .int .i64 0, .int .i64 0, .int .i64 0, .int .i64 0, .int .i64 0, .int .i64 0, .int .i64 0, .int .i64 0])).run Tryz.prog w = .ok (.bool true) w := fun w => msg_eql (msg 2 3 1 0 0 0 0 d0) w
 have hq1 : ∀ w, (binOp .eql 38 (.agg #[.int .i64 11, .int .i64 3, .int .i64 1, .int .i64 0, .int .i64 0, .int .i64 0, .int .i64 0, .int .i64 0, .int .i64 0, .int .i64 0, .int .i64 0, .int .i64 0, .int .i64 0, .int .i64 0, .int .i64 0]) (.agg #[.int .i64 11, .int .i64 3, .int .i64 1, .int .i64 0, .int .i64 0, .int .i64 0, .int .i64 0, .int .i64 0, .int .i64 0, .int .i64 0, .int .i64 0, .int .i64 0, .int .i64 0, .int .i64 0, .int .i64 0])).run Tryz.prog w = .ok (.bool true) w := fun w => msg_eql (msg 11 3 1 0 0 0 0 d0) w
 have hq2 : ∀ w, (binOp .eql 38 (.agg #[.int .i64 3, .int .i64 3, .int .i64 1, .int .i64 0, .int .i64 0, .int .i64 0, .int .i64 0, .int .i64 5, .int .i64 9, .int .i64 0, .int .i64 0, .int .i64 0, .int .i64 0, .int .i64 0, .int .i64 0]) (.agg #[.int .i64 3, .int .i64 3, .int .i64 1, .int .i64 0, .int .i64 0, .int .i64 0, .int .i64 0, .int .i64 5, .int .i64 9, .int .i64 0, .int .i64 0, .int .i64 0, .int .i64 0, .int .i64 0, .int .i64 0])).run Tryz.prog w = .ok (.bool true) w := fun w => msg_eql (msg 3 3 1 0 0 0 0 d59) w
 have hq3 : ∀ w, (binOp .eql 38 (.agg #[.int .i64 7, .int .i64 3, .int .i64 1, .int .i64 0, .int .i64 1, .int .i64 1, .int .i64 4, .int .i64 5, .int .i64 9, .int .i64 0, .int .i64 0, .int .i64 0, .int .i64 0, .int .i64 0, .int .i64 0]) (.agg #[.int .i64 7, .int .i64 3, .int .i64 1, .int .i64 0, .int .i64 1, .int .i64 1, .int .i64 4, .int .i64 5, .int .i64 9, .int .i64 0, .int .i64 0, .int .i64 0, .int .i64 0, .int .i64 0, .int .i64 0])).run Tryz.prog w = .ok (.bool true) w := fun w => msg_eql (msg 7 3 1 0 1 1 4 d59) w
 have hz := b_alloc w (.cells (ccells c0) 24)
 have HN := Lib.hid (cnew_ok (w0 := w) (w := w.alloc (.cells (ccells c0) 24)) c0 1 hz hT c0_fits c0_ok (by decide) (by decide))
 have HN2 := Lib.hid (fun w => cnew_core c0 2 w c0_fits c0_ok (.inr (by decide)))
 clear hz
 go_enter Tryz.func8, Tryz.ntmps8
 go_wp2_with fail
 refine HN.out.mono ?_
 rintro e w1 ⟨K, rfl, ho, hb1⟩
 have H1 := Lib.hid ho
 have hcc := c_cell ((hb1.block w.heap.size (by simp)).trans (heap_alloc_new w (.cells (ccells c0) 24)))
 clear ho hb1 HN
 go_wp2_with fail
 refine (HN2.out _).mono ?_
 rintro e w2 ⟨rfl, hb2⟩
 have H2 := Lib.hid (H1.out.step hb2)
 clear hb2 hcc H1 HN2
 go_wp2_with fail
 refine (show Calls _ _ _ _ (RetA (msg 2 3 1 0 0 0 0 d0) 0 (OwnP w K c0 1 (0 + 2) t1 _)) from by have q := H2.out.ask 3 2; rw [aw1] at q; exact q).mono ?_
 rintro e w3 ⟨rfl, ho⟩
 have H3 := Lib.hid (ho.add (.cells (mcells (msg 2 3 1 0 0 0 0 d0)) 38))
 clear ho H2
 go_wp2_with fail
 refine (show Calls _ _ _ _ (fun e w' => e = .returned (.tuple #[.int .i64 0, .int .i64 5]) ∧ OwnP w K c0 1 (0 + 2) t1 _ w') from by have q := H3.out.doX ⟨1, 7, 0⟩; rw [aw2] at q; exact q).mono ?_
 rintro e w4 ⟨rfl, ho⟩
 have H4 := Lib.hid ho
 clear ho H3
 go_wp2_with fail
 refine (show Calls _ _ _ _ (RetT (m0, false, 0) (OwnP w K c0 1 (0 + 2 + 2) t2 _)) from by have q := H4.out.take (by decide) (msg 7 3 0 1 0 0 4 d56); rw [aw3] at q; exact q).mono ?_
 rintro e w5 ⟨rfl, ho⟩
 have H5 := Lib.hid (ho.add (.cells (mcells m0) 38))
 clear ho H4
 go_wp2_with fail
 refine (show Calls _ _ _ _ (fun e w' => e = .returned (.tuple #[.int .i64 6, .int .i64 0]) ∧ OwnP w K c0 1 (0 + 2 + 2) t3 _ w') from by have q := H5.out.doX ⟨3, 7, 9⟩; rw [aw4] at q; exact q).mono ?_
 rintro e w6 ⟨rfl, ho⟩
 have H6 := Lib.hid ho
 clear ho H5
 go_wp2_with fail
 refine (show Calls _ _ _ _ (RetB (msg 11 3 1 0 0 0 0 d0) true (OwnP w K c0 1 (0 + 2 + 2 + 2) t4 _)) from by have q := H6.out.finish; rw [aw5] at q; exact q).mono ?_
 rintro e w7 ⟨rfl, ho⟩
 have H7 := Lib.hid (ho.add (.cells (mcells (msg 11 3 1 0 0 0 0 d0)) 38))
 clear ho H6
 go_wp2_with fail
 refine (show Calls _ _ _ _ (RetT (msg 3 3 1 0 0 0 0 d59, true, 0) (OwnP w K c0 1 (0 + 2 + 2 + 2) t5 _)) from by have q := H7.out.evict 0 0; rw [aw6] at q; exact q).mono ?_
 rintro e w8 ⟨rfl, ho⟩
 have H8 := Lib.hid (ho.add (.cells (mcells (msg 3 3 1 0 0 0 0 d59)) 38))
 clear ho H7
 go_wp2_with fail
 refine (show Calls _ _ _ _ (RetT (msg 7 3 1 0 1 1 4 d59, true, 0) (OwnP w K c0 1 (0 + 2 + 2 + 2 + 2) t6 _)) from by have q := H8.out.take (by decide) (msg 5 3 0 1 0 1 0 d0); rw [aw7] at q; exact q).mono ?_
 rintro e w9 ⟨rfl, ho⟩
 have H9 := Lib.hid (ho.add (.cells (mcells (msg 7 3 1 0 1 1 4 d59)) 38))
 clear ho H8
 go_upto_region 13 with fail
 go_cut [23, 24, 25] from 27 to 92 (fun _ _ s25 wx => s25 = .int .i64 7 ∧ OwnP w K c0 1 (0 + 2 + 2 + 2 + 2 + 2) t6 [(w9.heap.size, .cells (mcells (msg 7 3 1 0 1 1 4 d59)) 38), (w8.heap.size, .cells (mcells (msg 3 3 1 0 0 0 0 d59)) 38), (w7.heap.size, .cells (mcells (msg 11 3 1 0 0 0 0 d0)) 38), (w5.heap.size, .cells (mcells m0) 38), (w3.heap.size, .cells (mcells (msg 2 3 1 0 0 0 0 d0)) 38)] wx)
 case first =>
  go_wp2_with fail
  refine (show Calls _ _ _ _ (RetT (m0, false, 7) (OwnP w K c0 1 (0 + 2 + 2 + 2 + 2 + 2) t6 _)) from by have q := H9.out.take (by decide) (msg 5 3 0 1 0 0 0 d0); rw [aw8] at q; exact q).mono ?_
  rintro e w10 ⟨rfl, ho⟩
  have H10 := Lib.hid (ho.add (.cells (mcells m0) 38))
  clear ho H9
  go_wp2
  go_meet
  case rel => exact ⟨rfl, H10.out.drop⟩
 case rest =>
  obtain ⟨rfl, ho⟩ := hcut
  have H10 := Lib.hid ho
  clear ho H9
  go_wp2_with fail
  refine H10.out.written.mono ?_
  rintro e w20 ⟨p, cap, rfl, hin, hb⟩
  have H20 := Lib.hid (H10.out.step hb)
  obtain ⟨g, rfl, hgl, hr⟩ := hin 0 ⟨3, d59, false⟩ rfl
  have hlive := hr 9 (.bool false) rfl
  have h6 := H20.out.box mz4
  have h15 := H20.out.box mz2
  have h17 := H20.out.box mz1
  have h20 := H20.out.box mz0
  have H6 := Lib.hid h6
  have H15 := Lib.hid h15
  have H17 := Lib.hid h17
  have HK20 := Lib.hid h20
  clear h6 h15 h17 h20
  simp at hlive
  clear hb H10 hin hr
  go_upto_region 15 with fail
  simp only [List.append]
  go_wp2_with (first
   | ((with_reducible refine wpList_load_guarded (o := ⟨some 100, _, _, _, _, _⟩) ?lw 38 (.tmp 6) rfl w3.heap.size ?lx 38 (#[.int .i64 2, .int .i64 3, .int .i64 1, .int .i64 0, .int .i64 0, .int .i64 0, .int .i64 0, .int .i64 0, .int .i64 0, .int .i64 0, .int .i64 0, .int .i64 0, .int .i64 0, .int .i64 0, .int .i64 0]) (0, 0) _ ?lg Tryz.underlying38 ?ld ?li ?_); (case lw => rfl); (case lx => rfl); (case lg => exact H6.out); (case ld => rfl); (case li => kernel_rfl))
   | ((with_reducible refine wpList_load_guarded (o := ⟨some 129, _, _, _, _, _⟩) ?lw 38 (.tmp 15) rfl w7.heap.size ?lx 38 (#[.int .i64 11, .int .i64 3, .int .i64 1, .int .i64 0, .int .i64 0, .int .i64 0, .int .i64 0, .int .i64 0, .int .i64 0, .int .i64 0, .int .i64 0, .int .i64 0, .int .i64 0, .int .i64 0, .int .i64 0]) (0, 0) _ ?lg Tryz.underlying38 ?ld ?li ?_); (case lw => rfl); (case lx => rfl); (case lg => exact H15.out); (case ld => rfl); (case li => kernel_rfl))
   | ((with_reducible refine wpList_load_guarded (o := ⟨some 137, _, _, _, _, _⟩) ?lw 38 (.tmp 17) rfl w8.heap.size ?lx 38 (#[.int .i64 3, .int .i64 3, .int .i64 1, .int .i64 0, .int .i64 0, .int .i64 0, .int .i64 0, .int .i64 5, .int .i64 9, .int .i64 0, .int .i64 0, .int .i64 0, .int .i64 0, .int .i64 0, .int .i64 0]) (0, 0) _ ?lg Tryz.underlying38 ?ld ?li ?_); (case lw => rfl); (case lx => rfl); (case lg => exact H17.out); (case ld => rfl); (case li => kernel_rfl))
   | ((with_reducible refine wpList_load_guarded (o := ⟨some 150, _, _, _, _, _⟩) ?lw 38 (.tmp 20) rfl w9.heap.size ?lx 38 (#[.int .i64 7, .int .i64 3, .int .i64 1, .int .i64 0, .int .i64 1, .int .i64 1, .int .i64 4, .int .i64 5, .int .i64 9, .int .i64 0, .int .i64 0, .int .i64 0, .int .i64 0, .int .i64 0, .int .i64 0]) (0, 0) _ ?lg Tryz.underlying38 ?ld ?li ?_); (case lw => rfl); (case lx => rfl); (case lg => exact HK20.out); (case ld => rfl); (case li => kernel_rfl)))
  refine H20.out.misses.mono ?_
  rintro e w21 ⟨p, cap, rfl, -, hb⟩
  have HB := Lib.hid (H20.out.step hb).below
  clear hb H20
  go_wp2
  go_ret
  exact ⟨rfl, HB.out⟩

end Go.Proofs.YtlfhkjjjocmpbaaGreatDoor.Cc
