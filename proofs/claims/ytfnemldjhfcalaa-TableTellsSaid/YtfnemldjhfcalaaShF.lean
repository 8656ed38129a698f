/-
  Add, Clear, Targets.
-/
import Derived.Test.YtfnemldjhfcalaaShE
import Derived.Laws.AppendOwn
namespace Go.Proofs.Ytfnemldjhfcalaa
open Go Go.RowKit Go.Sort

set_option maxHeartbeats 2000000 in
theorem add_any (s : St) (p : Option Addr) (cap : Nat) (x : Int) (w : World) (h : NumsIn w p s.l) (hl : s.l.length ≤ 5000) :
    Calls Try.prog 47 #[.agg (sval s p cap), .int .i64 x] w (GaveS w (addS s x).1 (addS s x).2) := by
  have K := H2.box w (sval s p cap) zc 24 24
  have H := Lib.hid h
  clear h
  rcases Bool.eq_false_or_eq_true (mayB s.c s.m s.l s.al) with hm | hm
  · have HM := Lib.hid hm
    have hl8 := (may_bounds hm).2.2.2.2
    have hp := pair_le (rises_all (may_rises hm)).1
    have HP := Lib.hid hp
    rcases Bool.eq_false_or_eq_true (hasB s.c x) with hh | hh
    · have HH := Lib.hid hh
      have e : addS s x = (withS s x, 0) := by unfold addS St.may; rw [if_pos hm, if_pos hh]
      rw [e]
      clear hm hh e hp
      go_enter Try.func47, Try.ntmps47
      go_wp2_with (fail)
      refine (may_any s.c s.m p cap s.l s.al _ (by omega) (H.out.step K.below)).mono ?_
      rintro e w1 ⟨rfl, hb1⟩
      rw [HM.out]
      have K2 := K.step hb1
      have hc2 := K2.cellsA
      clear hb1 K
      go_wp2_with (fail)
      refine (hasCore_any s.c s.m p s.l.length cap s.al x _).mono ?_
      rintro e w2 ⟨rfl, hb2⟩
      rw [HH.out]
      have K3 := K2.step hb2
      have hc3 := K3.cellsA
      clear hb2 hc2 K2
      go_wp2_with (fail)
      refine (with_any s p cap x _ (H.out.step K3.below) (by omega) HP.out).mono ?_
      rintro e w3 ⟨v, rfl, q, c', rfl, hin, hb3, hfr⟩
      have K4 := K3.step hb3
      have hlt := lt_of_block K3.b
      have HIN := Lib.hid hin
      have HF := Lib.hid hfr
      clear hb3 hc3 hin hfr
      go_wp2_with ((with_reducible refine wpList_store_row (o := ⟨none, _, _, _, _, _⟩) rfl 24 (.tmp 4) (.tmp 17) rfl (w.heap.size + 1) (sval (withS s x) q c') ?sx ?sy 24 zc ?sg ?si ?so ?s1 ?_); (case sx => rfl); (case sy => rfl); (case sg => exact K4.b); (case si => kernel_rfl); (case so => rfl); (case s1 => kernel_rfl))
      exact gave_ret rfl Try.results47 rfl rfl rfl (setRow_heap _ _ _ _ _ _ K4.b) (HIN.out.row _ (fun a ha => by have := HF.out a ha; omega) _) (below_setRow K4.below (by omega) _) (fun a ha => by have := HF.out a ha; omega)
    · have HH := Lib.hid hh
      have e : addS s x = (z0, 5) := by unfold addS St.may; rw [if_pos hm, if_neg (by rw [hh]; simp)]
      rw [e]
      clear hm hh e hp
      go_enter Try.func47, Try.ntmps47
      go_wp2_with (fail)
      refine (may_any s.c s.m p cap s.l s.al _ (by omega) (H.out.step K.below)).mono ?_
      rintro e w1 ⟨rfl, hb1⟩
      rw [HM.out]
      have K2 := K.step hb1
      have hc2 := K2.cellsA
      clear hb1 K
      go_wp2_with (fail)
      refine (hasCore_any s.c s.m p s.l.length cap s.al x _).mono ?_
      rintro e w2 ⟨rfl, hb2⟩
      rw [HH.out]
      have K3 := K2.step hb2
      clear hb2 hc2 K2
      go_wp2_with ((with_reducible refine wpList_store_row (o := ⟨none, _, _, _, _, _⟩) rfl 24 (.tmp 4) (.tmp 14) rfl (w.heap.size + 1) zc ?sx ?sy 24 zc ?sg ?si ?so ?s1 ?_); (case sx => rfl); (case sy => rfl); (case sg => exact K3.b); (case si => kernel_rfl); (case so => rfl); (case s1 => kernel_rfl))
      exact gave_ret (s := z0) rfl Try.results47 rfl rfl rfl (setRow_heap _ _ _ _ _ _ K3.b) (NumsIn.nil _ _) (below_setRow K3.below (by omega) _) (fun a ha => by cases ha)
  · have HM := Lib.hid hm
    have e : addS s x = (z0, 1) := by unfold addS St.may; rw [if_neg (by rw [hm]; simp)]
    rw [e]
    clear hm e
    go_enter Try.func47, Try.ntmps47
    go_wp2_with (fail)
    refine (may_any s.c s.m p cap s.l s.al _ (by omega) (H.out.step K.below)).mono ?_
    rintro e w1 ⟨rfl, hb1⟩
    rw [HM.out]
    have K3 := K.step hb1
    clear hb1 K
    go_wp2_with ((with_reducible refine wpList_store_row (o := ⟨none, _, _, _, _, _⟩) rfl 24 (.tmp 4) (.tmp 9) rfl (w.heap.size + 1) zc ?sx ?sy 24 zc ?sg ?si ?so ?s1 ?_); (case sx => rfl); (case sy => rfl); (case sg => exact K3.b); (case si => kernel_rfl); (case so => rfl); (case s1 => kernel_rfl))
    exact gave_ret (s := z0) rfl Try.results47 rfl rfl rfl (setRow_heap _ _ _ _ _ _ K3.b) (NumsIn.nil _ _) (below_setRow K3.below (by omega) _) (fun a ha => by cases ha)

theorem new_nil (c m : Int) : (newS c m).1.l = [] := by
  unfold newS
  split <;> rfl
theorem nil_len {l : List Int} (h : l = []) : l.length = 0 := by rw [h]; rfl

set_option maxHeartbeats 1000000 in
theorem clear_any (s : St) (p : Option Addr) (n cap : Nat) (w : World) :
    Calls Try.prog 49 #[.agg (sv s.c s.m p n cap s.al)] w (Gave1 w (newS s.c s.m).1) := by
  have K := H2.box w (sv s.c s.m p n cap s.al) zc 24 24
  have HL := Lib.hid (new_nil s.c s.m)
  go_enter Try.func49, Try.ntmps49
  go_wp2_with (fail)
  refine (new_any s.c s.m _).mono ?_
  rintro e w1 ⟨v, rfl, q, c', rfl, hin, hb1, hfr⟩
  generalize newS s.c s.m = N at *
  have HI := Lib.hid hin
  have HF := Lib.hid hfr
  have K2 := K.step hb1
  have K3 := K2.step (balloc w1 (.cells (sval N.1 q c') 24))
  have hlt := lt_of_block K2.b
  have hbl := balloc w1 (.cells (sval N.1 q c') 24)
  have HI3 := Lib.hid (HI.out.step hbl)
  clear K hb1 hin hfr hbl
  go_wp2_with ((with_reducible refine wpList_store_row (o := ⟨none, _, _, _, _, _⟩) rfl 24 (.tmp 2) (.tmp 13) rfl (w.heap.size + 1) (sval N.1 q c') ?sx ?sy 24 zc ?sg ?si ?so ?s1 ?_); (case sx => rfl); (case sy => rfl); (case sg => exact K3.b); (case si => kernel_rfl); (case so => rfl); (case s1 => kernel_rfl))
  exact gave1_ret rfl Try.results49 rfl rfl (setRow_heap _ _ _ _ _ _ K3.b) (HI3.out.row _ (fun a ha => by have := HF.out a ha; simp at this; omega) _) (below_setRow K3.below (by omega) _) (fun a ha => by have := HF.out a ha; simp at this; omega)

end Go.Proofs.Ytfnemldjhfcalaa
