/-
  awake of layer 12 is true.
-/
import Derived.Test.YticfdkopephkkaaDoorMeH
namespace Go.Proofs.YticfdkopephkkaaDoor
open Go Go.RowKit

abbrev cS : Cfg := ⟨1, 1, 1, 1, 2, 2, 0, 1, 1, 1, 1, 1, 1⟩
abbrev cZ : Cfg := ⟨0, 0, 0, 0, 0, 0, 0, 0, 0, 0, 0, 0, 0⟩
theorem ok_S : okC cS = true := by decide +kernel
theorem ok_Z : okC cZ = false := by decide +kernel
theorem aw_store : doP [0, 0, 0, 0] ⟨2, 3, 7⟩ = ((0, 0), [0, 0, 0, 7]) := by rfl
theorem aw_swap : doP [0, 0, 0, 7] ⟨3, 3, 9⟩ = ((7, 0), [0, 0, 0, 9]) := by rfl
theorem aw_load : doP [0, 0, 0, 9] ⟨1, 3, 0⟩ = ((9, 0), [0, 0, 0, 9]) := by rfl
theorem aw_load4 : doP [0, 0, 0, 9] ⟨1, 4, 0⟩ = ((0, 1), [0, 0, 0, 9]) := by rfl
abbrev dA : Wd := ⟨0, 9, 0, 0, 0, 0, 0, 0⟩
abbrev dB : Wd := ⟨5, 6, 0, 0, 0, 0, 0, 0⟩
abbrev dC : Wd := ⟨1, 2, 0, 0, 0, 0, 0, 0⟩
abbrev dE : Wd := ⟨1, 8, 0, 0, 0, 0, 0, 0⟩
theorem aw_line : lnP cS [0, 0, 0, 9] 1 = (dA, 0) := by decide +kernel
theorem aw_write : wrP cS [0, 0, 0, 9] 0 dB = (0, [5, 6, 0, 9]) := by decide +kernel
theorem aw_apply : apP cS dC ⟨3, 3, 8⟩ = (dE, 2, 0) := by decide +kernel
theorem aw_word1 : wrd [5, 6, 0, 9] 1 = 6 := by rfl
theorem aw_word4 : wrd [5, 6, 0, 9] 4 = 0 := by rfl
theorem aw_write2 : wrP cS [5, 6, 0, 9] 2 d0 = (1, [5, 6, 0, 9]) := by decide +kernel


set_option maxRecDepth 100000 in
set_option maxHeartbeats 8000000 in
/-- awake: the calls whose answers the document fixes. -/
theorem awake12_any (w : World) (hT : Tb w) :
    Calls Tryd.prog 5 #[] w fun e w' => e = .returned (.bool true) ∧ Below w.heap.size w w' := by
  have HT := Lib.hid hT
  clear hT
  go_enter Tryd.func5, Tryd.ntmps5
  go_wp2_with fail
  refine (newO (c := cS) (L0 := [0, 0, 0, 0]) (by simp [Cfg.fits]) ok_S HT.out (balloc w _) rfl).mono ?_
  rintro e w1 ⟨b, g, rfl, ho, hb, -, hg⟩
  have H1 := Lib.hid (ho.box (box_at hb) (by simp at hg; omega))
  clear ho hb hg
  go_wp2_with fail
  refine (new_no cZ _ (by simp [Cfg.fits]) ok_Z).mono ?_
  rintro e w2 ⟨rfl, hb⟩
  have H2 := Lib.hid (H1.out.step hb)
  clear hb H1
  go_wp2_with fail
  refine (H2.out.op ⟨2, 3, 7⟩ aw_store).mono ?_
  rintro e w3 ⟨rfl, ho, -⟩
  have H3 := Lib.hid ho
  clear ho H2
  go_wp2_with fail
  refine (H3.out.op ⟨3, 3, 9⟩ aw_swap).mono ?_
  rintro e w4 ⟨rfl, ho, -⟩
  have H4 := Lib.hid ho
  clear ho H3
  go_wp2_with fail
  refine (H4.out.op ⟨1, 3, 0⟩ aw_load).mono ?_
  rintro e w5 ⟨rfl, ho, -⟩
  have H5 := Lib.hid ho
  clear ho H4
  go_wp2_with fail
  refine (H5.out.op ⟨1, 4, 0⟩ aw_load4).mono ?_
  rintro e w6 ⟨rfl, ho, -⟩
  have H6 := Lib.hid ho
  clear ho H5
  go_wp2_with fail
  refine (H6.out.line 1 aw_line).mono ?_
  rintro e w7 ⟨rfl, hb⟩
  have H7 := Lib.hid (H6.out.step hb)
  clear hb H6
  go_wp2_with (((with_reducible refine wpList_store_row (o := ⟨none, _, _, _, _, _⟩) rfl 34 (.tmp 14) (.tmp 61) rfl w7.heap.size (dcells dA) ?sx ?sy 34 ?old ?sg ?si ?so ?s1 ?_); (case sx => rfl); (case sy => rfl); (case old => exact dcells d0); (case sg => exact heap_alloc_new w7 _); (case si => kernel_rfl); (case so => rfl); (case s1 => kernel_rfl)))
  have H8 := Lib.hid (H7.out.newbox #[.int .i64 0, .int .i64 0, .int .i64 0, .int .i64 0, .int .i64 0, .int .i64 0, .int .i64 0, .int .i64 0] (dcells dA) 34)
  clear H7
  generalize (w7.alloc (.cells #[.int .i64 0, .int .i64 0, .int .i64 0, .int .i64 0, .int .i64 0, .int .i64 0, .int .i64 0, .int .i64 0] 34)).setRow w7.heap.size (dcells dA) = w8 at *
  generalize w7.heap.size = k1 at *
  refine (H8.out.write 0 dB aw_write).mono ?_
  rintro e w9 ⟨rfl, ho, -⟩
  have H9 := Lib.hid ho
  clear ho H8
  have hcc := blk_cell (H9.out.at (List.mem_cons_of_mem _ (List.mem_cons_self ..)))
  go_wp2_with fail
  refine (applyO dC ⟨3, 3, 8⟩ (c := cS) (by simp [Cfg.fits]) H9.out.tbr aw_apply).mono ?_
  rintro e w10 ⟨rfl, hb⟩
  have H10 := Lib.hid (H9.out.step hb)
  clear hb H9 hcc
  have h11 := H10.out.newbox #[.int .i64 0, .int .i64 0, .int .i64 0, .int .i64 0, .int .i64 0, .int .i64 0, .int .i64 0, .int .i64 0] (dcells dE) 34
  have hA := blk_cell (h11.at (List.mem_cons_of_mem _ (List.mem_cons_self ..)))
  have hB := blk_cell (h11.at (List.mem_cons_self ..))
  have H11 := Lib.hid h11
  have hq1 : ∀ w, (binOp .eql 34 (.agg (dcells dA)) (.agg (dcells dA))).run Tryd.prog w = .ok (.bool true) w := words_eql dA dA
  have hq2 : ∀ w, (binOp .eql 34 (.agg (dcells dE)) (.agg (dcells dE))).run Tryd.prog w = .ok (.bool true) w := words_eql dE dE
  clear H10 h11
  go_wp2_with ((with_reducible refine wpList_store_row (o := ⟨none, _, _, _, _, _⟩) rfl 34 (.tmp 17) (.tmp 71) rfl w10.heap.size (dcells dE) ?sx ?sy 34 ?old ?sg ?si ?so ?s1 ?_); (case sx => rfl); (case sy => rfl); (case old => exact dcells d0); (case sg => exact heap_alloc_new w10 _); (case si => kernel_rfl); (case so => rfl); (case s1 => kernel_rfl); generalize (w10.alloc (.cells #[.int .i64 0, .int .i64 0, .int .i64 0, .int .i64 0, .int .i64 0, .int .i64 0, .int .i64 0, .int .i64 0] 34)).setRow w10.heap.size (dcells dE) = w11 at *; generalize w10.heap.size = k2 at *)
  refine (H11.out.word 1 aw_word1).mono ?_
  rintro e w12 ⟨rfl, rfl⟩
  go_wp2_with fail
  refine (H11.out.word 4 aw_word4).mono ?_
  rintro e w12 ⟨rfl, rfl⟩
  go_wp2_with fail
  refine (H11.out.write 2 d0 aw_write2).mono ?_
  rintro e w13 ⟨rfl, ho, -⟩
  go_wp2
  go_ret
  exact ⟨rfl, ho.bl⟩

end Go.Proofs.YticfdkopephkkaaDoor
