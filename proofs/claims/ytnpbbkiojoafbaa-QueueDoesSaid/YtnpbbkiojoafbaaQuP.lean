/-
  awake is true: the calls whose answers the document fixes.
-/
import Derived.Test.YtnpbbkiojoafbaaQuN
namespace Go.Proofs.Ytnpbbkiojoafbaa
open Go Go.RowKit

/-- A list of one message that lies in a box. -/
theorem MIn.one {w : World} {n : Nat} {m : Msg} {T : TypeId} (h : w.heap[n]? = some (.cells (mcells m) T (0, 0))) : MIn w (some ⟨n, 0, none⟩) [m] := fun i x hx => by
  obtain ⟨hi, rfl⟩ := List.getElem?_eq_some_iff.1 hx
  simp at hi
  subst hi
  refine ⟨n, 0, rfl, lt_of_block h, fun j v hv => ?_⟩
  rw [blk_cell h]
  rw [show 0 + 0 * 15 + j = j by omega]
  simpa [mg] using hv
abbrev s0 : List En := []
abbrev s1 : List En := [⟨(⟨1, 5, 1, 0, 0, 0, 0, 0, 0, 0, 0, 0, 0, 0, 0⟩ : Msg), false, []⟩]
abbrev s2 : List En := [⟨(⟨1, 5, 1, 0, 0, 0, 0, 0, 0, 0, 0, 0, 0, 0, 0⟩ : Msg), false, []⟩, ⟨(⟨3, 5, 0, 0, 0, 0, 0, 0, 0, 0, 0, 0, 0, 0, 0⟩ : Msg), false, []⟩]
abbrev s3 : List En := [⟨(⟨1, 5, 1, 0, 0, 0, 0, 0, 0, 0, 0, 0, 0, 0, 0⟩ : Msg), false, []⟩, ⟨(⟨3, 5, 0, 0, 0, 0, 0, 0, 0, 0, 0, 0, 0, 0, 0⟩ : Msg), false, []⟩, ⟨(⟨2, 6, 0, 0, 0, 0, 0, 0, 0, 0, 0, 0, 0, 0, 0⟩ : Msg), false, []⟩]
abbrev s4 : List En := [⟨(⟨1, 5, 1, 0, 0, 0, 0, 0, 0, 0, 0, 0, 0, 0, 0⟩ : Msg), true, [(⟨7, 0, 0, 0, 0, 0, 0, 0, 0, 0, 0, 0, 0, 0, 0⟩ : Msg)]⟩, ⟨(⟨3, 5, 0, 0, 0, 0, 0, 0, 0, 0, 0, 0, 0, 0, 0⟩ : Msg), false, []⟩, ⟨(⟨2, 6, 0, 0, 0, 0, 0, 0, 0, 0, 0, 0, 0, 0, 0⟩ : Msg), false, []⟩]
abbrev s5 : List En := [⟨(⟨1, 5, 1, 0, 0, 0, 0, 0, 0, 0, 0, 0, 0, 0, 0⟩ : Msg), true, []⟩, ⟨(⟨3, 5, 0, 0, 0, 0, 0, 0, 0, 0, 0, 0, 0, 0, 0⟩ : Msg), false, []⟩, ⟨(⟨2, 6, 0, 0, 0, 0, 0, 0, 0, 0, 0, 0, 0, 0, 0⟩ : Msg), false, []⟩]
abbrev s6 : List En := [⟨(⟨3, 5, 0, 0, 0, 0, 0, 0, 0, 0, 0, 0, 0, 0, 0⟩ : Msg), false, []⟩, ⟨(⟨2, 6, 0, 0, 0, 0, 0, 0, 0, 0, 0, 0, 0, 0, 0⟩ : Msg), false, []⟩]
abbrev s7 : List En := [⟨(⟨3, 5, 0, 0, 0, 0, 0, 0, 0, 0, 0, 0, 0, 0, 0⟩ : Msg), true, [(⟨10, 0, 0, 0, 0, 0, 0, 0, 0, 0, 0, 0, 0, 0, 0⟩ : Msg)]⟩, ⟨(⟨2, 6, 0, 0, 0, 0, 0, 0, 0, 0, 0, 0, 0, 0, 0⟩ : Msg), false, []⟩]
abbrev s8 : List En := [⟨(⟨2, 6, 0, 0, 0, 0, 0, 0, 0, 0, 0, 0, 0, 0, 0⟩ : Msg), false, []⟩]
theorem aw1 : addP 3 s0 (⟨1, 5, 1, 0, 0, 0, 0, 0, 0, 0, 0, 0, 0, 0, 0⟩ : Msg) = (0, s1) := by rfl
theorem aw2 : addP 3 s1 (⟨3, 5, 0, 0, 0, 0, 0, 0, 0, 0, 0, 0, 0, 0, 0⟩ : Msg) = (0, s2) := by rfl
theorem aw3 : addP 3 s2 (⟨2, 6, 0, 0, 0, 0, 0, 0, 0, 0, 0, 0, 0, 0, 0⟩ : Msg) = (0, s3) := by rfl
theorem aw4 : addP 3 s3 (⟨2, 7, 0, 0, 0, 0, 0, 0, 0, 0, 0, 0, 0, 0, 0⟩ : Msg) = (4, s3) := by rfl
theorem aw5 : addP 3 s3 (⟨6, 0, 0, 0, 0, 0, 0, 0, 0, 0, 0, 0, 0, 0, 0⟩ : Msg) = (1, s3) := by rfl
theorem aw6 : rdy s3 0 = true := by rfl
theorem aw7 : rdy s3 1 = false := by rfl
theorem aw8 : rdy s3 2 = true := by rfl
theorem aw9 : startP s3 0 [(⟨7, 0, 0, 0, 0, 0, 0, 0, 0, 0, 0, 0, 0, 0, 0⟩ : Msg)] = (0, s4) := by rfl
theorem aw10 : startP s4 1 [(⟨10, 0, 0, 0, 0, 0, 0, 0, 0, 0, 0, 0, 0, 0, 0⟩ : Msg)] = (7, s4) := by rfl
theorem aw11 : nextP s4 0 = ((⟨7, 0, 0, 0, 0, 0, 0, 0, 0, 0, 0, 0, 0, 0, 0⟩ : Msg), true) := by rfl
theorem aw12 : finP s4 5 1 = (7, s4) := by rfl
theorem aw13 : sentP s4 0 = (0, s5) := by rfl
theorem aw14 : finP s5 5 1 = (0, s6) := by rfl
theorem aw15 : startP s6 0 [(⟨10, 0, 0, 0, 0, 0, 0, 0, 0, 0, 0, 0, 0, 0, 0⟩ : Msg)] = (0, s7) := by rfl
theorem aw16 : sentP s7 0 = (0, s8) := by rfl
theorem aw17 : getP s8 0 = (⟨(⟨2, 6, 0, 0, 0, 0, 0, 0, 0, 0, 0, 0, 0, 0, 0⟩ : Msg), false, []⟩, true) := by rfl
theorem aw18 : sentP s8 1 = (5, s8) := by rfl

def noX : Nat → Obj → Prop := fun _ _ => False
set_option maxRecDepth 100000 in
set_option maxHeartbeats 8000000 in
theorem awake_any (w : World) : Calls Try.prog 6 #[] w fun e w' => e = .returned (.bool true) ∧ Below w.heap.size w w' := by
  go_enter Try.func6, Try.ntmps6
  go_wp2_with fail
  refine (newO (w0 := w) (X := noX) (room := 3) (by omega) (by omega) (Below.refl _ _) (fun k o h => h.elim)).mono ?_
  rintro e w1 ⟨b, rfl, ho, -⟩
  have H := Lib.hid ho
  clear ho
  go_wp2_with fail
  refine (new_no 0 w1 (by omega)).mono ?_
  rintro e w2 ⟨rfl, rfl⟩
  go_wp2_with fail
  refine (H.out.addQ (⟨1, 5, 1, 0, 0, 0, 0, 0, 0, 0, 0, 0, 0, 0, 0⟩ : Msg) aw1).mono ?_
  rintro e wa0 ⟨rfl, ho⟩
  replace H := Lib.hid ho
  clear ho
  go_wp2_with fail
  refine (H.out.addQ (⟨3, 5, 0, 0, 0, 0, 0, 0, 0, 0, 0, 0, 0, 0, 0⟩ : Msg) aw2).mono ?_
  rintro e wa1 ⟨rfl, ho⟩
  replace H := Lib.hid ho
  clear ho
  go_wp2_with fail
  refine (H.out.addQ (⟨2, 6, 0, 0, 0, 0, 0, 0, 0, 0, 0, 0, 0, 0, 0⟩ : Msg) aw3).mono ?_
  rintro e wa2 ⟨rfl, ho⟩
  replace H := Lib.hid ho
  clear ho
  go_wp2_with fail
  refine (H.out.addQ (⟨2, 7, 0, 0, 0, 0, 0, 0, 0, 0, 0, 0, 0, 0, 0⟩ : Msg) aw4).mono ?_
  rintro e wa3 ⟨rfl, ho⟩
  replace H := Lib.hid ho
  clear ho
  go_wp2_with fail
  refine (H.out.addQ (⟨6, 0, 0, 0, 0, 0, 0, 0, 0, 0, 0, 0, 0, 0, 0⟩ : Msg) aw5).mono ?_
  rintro e wa4 ⟨rfl, ho⟩
  replace H := Lib.hid ho
  clear ho
  go_wp2_with fail
  refine (H.out.readyQ 0 aw6).mono ?_
  rintro e wb0 ⟨rfl, hb⟩
  replace H := Lib.hid (H.out.step hb)
  clear hb
  go_wp2_with fail
  refine (H.out.readyQ 1 aw7).mono ?_
  rintro e wb1 ⟨rfl, hb⟩
  replace H := Lib.hid (H.out.step hb)
  clear hb
  go_wp2_with fail
  refine (H.out.readyQ 2 aw8).mono ?_
  rintro e wb2 ⟨rfl, hb⟩
  replace H := Lib.hid (H.out.step hb)
  clear hb
  go_wp2_with fail
  replace H := Lib.hid (H.out.add (.cells #[.int .i64 7, .int .i64 0, .int .i64 0, .int .i64 0, .int .i64 0, .int .i64 0, .int .i64 0, .int .i64 0, .int .i64 0, .int .i64 0, .int .i64 0, .int .i64 0, .int .i64 0, .int .i64 0, .int .i64 0] 35))
  have HM := Lib.hid (MIn.one (m := (⟨7, 0, 0, 0, 0, 0, 0, 0, 0, 0, 0, 0, 0, 0, 0⟩ : Msg)) (H.out.box (List.mem_cons_self ..)))
  refine (H.out.startQ 0 (some ⟨wb2.heap.size, 0, none⟩) 1 [(⟨7, 0, 0, 0, 0, 0, 0, 0, 0, 0, 0, 0, 0, 0, 0⟩ : Msg)] HM.out (by simp) aw9).mono ?_
  rintro e wc0 ⟨rfl, ho⟩
  replace H := Lib.hid ho
  clear ho HM
  go_wp2_with fail
  replace H := Lib.hid (H.out.add (.cells #[.int .i64 10, .int .i64 0, .int .i64 0, .int .i64 0, .int .i64 0, .int .i64 0, .int .i64 0, .int .i64 0, .int .i64 0, .int .i64 0, .int .i64 0, .int .i64 0, .int .i64 0, .int .i64 0, .int .i64 0] 35))
  have HM := Lib.hid (MIn.one (m := (⟨10, 0, 0, 0, 0, 0, 0, 0, 0, 0, 0, 0, 0, 0, 0⟩ : Msg)) (H.out.box (List.mem_cons_self ..)))
  refine (H.out.startQ 1 (some ⟨wc0.heap.size, 0, none⟩) 1 [(⟨10, 0, 0, 0, 0, 0, 0, 0, 0, 0, 0, 0, 0, 0, 0⟩ : Msg)] HM.out (by simp) aw10).mono ?_
  rintro e wc1 ⟨rfl, ho⟩
  replace H := Lib.hid ho
  clear ho HM
  go_wp2_with fail
  refine (H.out.nextQ 0 aw11).mono ?_
  rintro e wd0 ⟨rfl, hb⟩
  replace H := Lib.hid (H.out.step hb)
  clear hb
  go_wp2_with fail
  replace H := Lib.hid (H.out.add (.cells #[.int .i64 7, .int .i64 0, .int .i64 0, .int .i64 0, .int .i64 0, .int .i64 0, .int .i64 0, .int .i64 0, .int .i64 0, .int .i64 0, .int .i64 0, .int .i64 0, .int .i64 0, .int .i64 0, .int .i64 0] 35))
  obtain ⟨we, hwe⟩ : ∃ we, we = wd0.alloc (.cells #[.int .i64 7, .int .i64 0, .int .i64 0, .int .i64 0, .int .i64 0, .int .i64 0, .int .i64 0, .int .i64 0, .int .i64 0, .int .i64 0, .int .i64 0, .int .i64 0, .int .i64 0, .int .i64 0, .int .i64 0] 35) := ⟨_, rfl⟩
  obtain ⟨k15, hk15⟩ : ∃ k, k = wd0.heap.size := ⟨_, rfl⟩
  rw [← hwe, ← hk15] at H
  rw [← hwe, ← hk15]
  clear hwe hk15
  refine (H.out.finQ 5 1 aw12).mono ?_
  rintro e we1 ⟨rfl, ho⟩
  replace H := Lib.hid ho
  clear ho
  go_wp2_with fail
  refine (H.out.sentQ 0 aw13).mono ?_
  rintro e we2 ⟨rfl, ho⟩
  replace H := Lib.hid ho
  clear ho
  go_wp2_with fail
  refine (H.out.finQ 5 1 aw14).mono ?_
  rintro e we3 ⟨rfl, ho⟩
  replace H := Lib.hid ho
  clear ho
  go_wp2_with fail
  replace H := Lib.hid (H.out.add (.cells #[.int .i64 10, .int .i64 0, .int .i64 0, .int .i64 0, .int .i64 0, .int .i64 0, .int .i64 0, .int .i64 0, .int .i64 0, .int .i64 0, .int .i64 0, .int .i64 0, .int .i64 0, .int .i64 0, .int .i64 0] 35))
  have HM := Lib.hid (MIn.one (m := (⟨10, 0, 0, 0, 0, 0, 0, 0, 0, 0, 0, 0, 0, 0, 0⟩ : Msg)) (H.out.box (List.mem_cons_self ..)))
  refine (H.out.startQ 0 (some ⟨we3.heap.size, 0, none⟩) 1 [(⟨10, 0, 0, 0, 0, 0, 0, 0, 0, 0, 0, 0, 0, 0, 0⟩ : Msg)] HM.out (by simp) aw15).mono ?_
  rintro e we4 ⟨rfl, ho⟩
  replace H := Lib.hid ho
  clear ho HM
  go_wp2_with fail
  refine (H.out.sentQ 0 aw16).mono ?_
  rintro e we5 ⟨rfl, ho⟩
  replace H := Lib.hid ho
  clear ho
  go_wp2_with fail
  refine (H.out.getQ 0 aw17).mono ?_
  rintro e wf ⟨y, rfl, hy, -, hb⟩
  replace H := Lib.hid ((H.out.step hb).addRow zec (ecells y) 57)
  have hyl : y.m.ln = 6 := by
    have e : y.m.ln = y.pl.m.ln := rfl
    rw [e, hy]
  have c7 := H.out.cells (n := k15) (cs := #[.int .i64 7, .int .i64 0, .int .i64 0, .int .i64 0, .int .i64 0, .int .i64 0, .int .i64 0, .int .i64 0, .int .i64 0, .int .i64 0, .int .i64 0, .int .i64 0, .int .i64 0, .int .i64 0, .int .i64 0]) (t := 35) (by simp) 0
  clear hb hy
  go_wp2_with (first
    | ((with_reducible refine wpList_store_row (o := ⟨none, _, _, _, _, _⟩) rfl 57 (.tmp 22) (.tmp 83) rfl wf.heap.size (ecells y) ?sx ?sy 57 ?old ?sg ?si ?so ?s1 ?_); (case sx => rfl); (case sy => rfl); (case old => exact zec); (case sg => exact heap_alloc_new wf _); (case si => kernel_rfl); (case so => rfl); (case s1 => kernel_rfl); generalize (wf.alloc (.cells zec 57)).setRow wf.heap.size (ecells y) = wg at *; have c22 := H.out.cells (List.mem_cons_self ..) 1; simp only [hyl, List.getElem?_toArray, List.getElem?_cons_succ, List.getElem?_cons_zero] at c22)
    | fail)
  refine (H.out.leftQ).mono ?_
  rintro e wh ⟨rfl, n, rfl⟩
  replace H := Lib.hid (H.out.drewN n)
  clear c7 c22
  generalize wg.drewN n = wh at *
  rw [show (3 - ((s8).length : Int)) = 2 from rfl]
  go_wp2_with fail
  refine (H.out.listQ).mono ?_
  rintro e wi ⟨p, c, M, rfl, hm, -, -, hb⟩
  replace H := Lib.hid (H.out.step hb)
  have hM : M.length = 1 := by have := congrArg List.length hm; simpa using this
  rw [hM]
  clear hb hm hM
  go_wp2_with fail
  refine (H.out.sentQ 1 aw18).mono ?_
  rintro e wj ⟨rfl, ho⟩
  have HB := Lib.hid ho.bl
  clear ho H
  go_wp2
  go_ret
  exact ⟨rfl, HB.out⟩

end Go.Proofs.Ytnpbbkiojoafbaa
