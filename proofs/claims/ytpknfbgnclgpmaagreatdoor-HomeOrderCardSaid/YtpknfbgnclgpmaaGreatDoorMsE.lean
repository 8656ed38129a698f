/-
  What the rules hold of messages, one contract each.
-/
import Derived.Test.YtpknfbgnclgpmaaGreatDoorLayMs
namespace Go.Proofs.YtpknfbgnclgpmaaGreatDoor
open Go Go.RowKit Go.Sort

theorem request_holds (c : Cfg) (m : Msg) (w : World) (hm : Hm c m) :
    Calls Tryz.prog 171 #[.agg #[], cv c, mv m] w fun e w' => e = .returned (.bool (cth c m && bare m)) ∧ Below w.heap.size w w' := by
  have HM := Lib.hid hm
  clear hm
  have K0 := K3.box w #[] (ccells c) (mcells m) 192 24 38
  go_enter Tryz.func171, Tryz.ntmps171
  go_wp2_with (fail)
  refine (cth_any c m _ HM.out).mono ?_
  rintro e w1 ⟨rfl, hb1⟩
  have K1 := K0.step hb1
  have hc := K1.c
  clear hb1 K0
  rcases Bool.eq_false_or_eq_true (cth c m) with h | h
  · rw [h]
    have H := Lib.hid h
    clear h
    go_wp2_with (fail)
    refine (isBare_any m _).mono ?_
    rintro e w2 ⟨rfl, hb2⟩
    go_wp2
    go_ret
    exact ⟨ret_bool (by simp [H.out]), (K1.step hb2).below⟩
  · rw [h]
    have H := Lib.hid h
    clear h
    go_wp2
    go_ret
    exact ⟨ret_bool (by simp [H.out]), K1.below⟩

theorem ack_holds (c : Cfg) (m : Msg) (w : World) (hm : Hm c m) :
    Calls Tryz.prog 194 #[.agg #[], cv c, mv m] w fun e w' => e = .returned (.bool (ctc c m && bare m)) ∧ Below w.heap.size w w' := by
  have HM := Lib.hid hm
  clear hm
  have K0 := K3.box w #[] (ccells c) (mcells m) 199 24 38
  go_enter Tryz.func194, Tryz.ntmps194
  go_wp2_with (fail)
  refine (ctc_any c m _).mono ?_
  rintro e w1 ⟨rfl, hb1⟩
  have K1 := K0.step hb1
  have hc := K1.c
  clear hb1 K0
  rcases Bool.eq_false_or_eq_true (ctc c m) with h | h
  · rw [h]
    have H := Lib.hid h
    clear h
    go_wp2_with (fail)
    refine (isBare_any m _).mono ?_
    rintro e w2 ⟨rfl, hb2⟩
    go_wp2
    go_ret
    exact ⟨ret_bool (by simp [H.out]), (K1.step hb2).below⟩
  · rw [h]
    have H := Lib.hid h
    clear h
    go_wp2
    go_ret
    exact ⟨ret_bool (by simp [H.out]), K1.below⟩

theorem done_holds (c : Cfg) (m : Msg) (w : World) (hm : Hm c m) :
    Calls Tryz.prog 197 #[.agg #[], cv c, mv m] w fun e w' => e = .returned (.bool (cth c m && bare m)) ∧ Below w.heap.size w w' := by
  have HM := Lib.hid hm
  clear hm
  have K0 := K3.box w #[] (ccells c) (mcells m) 200 24 38
  go_enter Tryz.func197, Tryz.ntmps197
  go_wp2_with (fail)
  refine (cth_any c m _ HM.out).mono ?_
  rintro e w1 ⟨rfl, hb1⟩
  have K1 := K0.step hb1
  have hc := K1.c
  clear hb1 K0
  rcases Bool.eq_false_or_eq_true (cth c m) with h | h
  · rw [h]
    have H := Lib.hid h
    clear h
    go_wp2_with (fail)
    refine (isBare_any m _).mono ?_
    rintro e w2 ⟨rfl, hb2⟩
    go_wp2
    go_ret
    exact ⟨ret_bool (by simp [H.out]), (K1.step hb2).below⟩
  · rw [h]
    have H := Lib.hid h
    clear h
    go_wp2
    go_ret
    exact ⟨ret_bool (by simp [H.out]), K1.below⟩

theorem forward_holds (b : Bool) (c : Cfg) (m : Msg) (w : World) (hm : Hm c m) :
    Calls Tryz.prog 178 #[.agg #[.bool b], cv c, mv m] w fun e w' => e = .returned (.bool (fwdB c m b)) ∧ Below w.heap.size w w' := by
  have HM := Lib.hid hm
  clear hm
  have K0 := K3.box w #[.bool b] (ccells c) (mcells m) 196 24 38
  go_enter Tryz.func178, Tryz.ntmps178
  go_wp2_with (fail)
  refine (htc_any c m _ HM.out).mono ?_
  rintro e w1 ⟨rfl, hb1⟩
  have K1 := K0.step hb1
  have ha := K1.a; have hb := K1.b; have hc := K1.c
  clear hb1 K0
  rcases Bool.eq_false_or_eq_true (htc c m) with h | h
  · rw [h]
    have H1 := Lib.hid h
    clear h
    go_wp2_with (fail)
    refine (isAnother_any c _ _ _).mono ?_
    rintro e w2 ⟨rfl, hb2⟩
    have K2 := K1.step hb2
    clear ha hb hc hb2 K1
    have ha := K2.a; have hb := K2.b; have hc := K2.c
    rcases Bool.eq_false_or_eq_true (another c m.wh m.to) with h | h
    · rw [h]
      have H2 := Lib.hid h
      clear h
      go_wp2_with (fail)
      refine (areAcks_any c _ _ _).mono ?_
      rintro e w3 ⟨rfl, hb3⟩
      have K3 := K2.step hb3
      clear ha hb hc hb3 K2
      have hc := K3.c
      rcases Bool.eq_false_or_eq_true (acks c m.ac b) with h | h
      · rw [h]
        have H3 := Lib.hid h
        clear h
        go_wp2
        go_ret
        exact ⟨ret_bool (by simp [fwdB, H1.out, H2.out, H3.out]), K3.below⟩
      · rw [h]
        have H3 := Lib.hid h
        clear h
        go_wp2
        go_ret
        exact ⟨ret_bool (by simp [fwdB, H3.out]), K3.below⟩
    · rw [h]
      have H2 := Lib.hid h
      clear h
      go_wp2
      go_ret
      exact ⟨ret_bool (by simp [fwdB, H2.out]), K2.below⟩
  · rw [h]
    have H1 := Lib.hid h
    clear h
    go_wp2
    go_ret
    exact ⟨ret_bool (by simp [fwdB, H1.out]), K1.below⟩

theorem data_holds (c : Cfg) (m : Msg) (w : World) (hm : Hm c m) :
    Calls Tryz.prog 184 #[.agg #[], cv c, mv m] w fun e w' => e = .returned (.bool (datB c m)) ∧ Below w.heap.size w w' := by
  have HM := Lib.hid hm
  clear hm
  have K0 := K3.box w #[] (ccells c) (mcells m) 197 24 38
  go_enter Tryz.func184, Tryz.ntmps184
  go_wp2_with (fail)
  refine (sender_any c m _ HM.out).mono ?_
  rintro e w1 ⟨rfl, hb1⟩
  have K1 := K0.step hb1
  have hb := K1.b; have hc := K1.c
  clear hb1 K0
  rcases Bool.eq_false_or_eq_true (sender c m) with h | h
  · rw [h]
    have H1 := Lib.hid h
    clear h
    go_wp2_with (fail)
    refine (areAcks_any c _ _ _).mono ?_
    rintro e w2 ⟨rfl, hb2⟩
    have K2 := K1.step hb2
    clear hb hc hb2 K1
    have hc := K2.c
    rcases Bool.eq_false_or_eq_true (acks c m.ac true) with h | h
    · rw [h]
      have H2 := Lib.hid h
      clear h
      go_wp2_with (fail)
      refine (isGiven_any _ _).mono ?_
      rintro e w3 ⟨rfl, rfl⟩
      go_wp2
      go_ret
      exact ⟨ret_bool (by simp [datB, H1.out, H2.out]), K2.below⟩
    · rw [h]
      have H2 := Lib.hid h
      clear h
      go_wp2
      go_ret
      exact ⟨ret_bool (by simp [datB, H2.out]), K2.below⟩
  · rw [h]
    have H1 := Lib.hid h
    clear h
    go_wp2
    go_ret
    exact ⟨ret_bool (by simp [datB, H1.out]), K1.below⟩

theorem answer_holds (b : Bool) (c : Cfg) (m : Msg) (w : World) (hm : Hm c m) :
    Calls Tryz.prog 191 #[.agg #[.bool b], cv c, mv m] w fun e w' => e = .returned (.bool (ansB c m b)) ∧ Below w.heap.size w w' := by
  have HM := Lib.hid hm
  clear hm
  have K0 := K3.box w #[.bool b] (ccells c) (mcells m) 198 24 38
  go_enter Tryz.func191, Tryz.ntmps191
  go_wp2_with (fail)
  refine (htc_any c m _ HM.out).mono ?_
  rintro e w1 ⟨rfl, hb1⟩
  have K1 := K0.step hb1
  have ha := K1.a; have hb := K1.b; have hc := K1.c
  clear hb1 K0
  rcases Bool.eq_false_or_eq_true (htc c m) with h | h
  · rw [h]
    have H1 := Lib.hid h
    clear h
    by_cases h0 : m.wh = 0
    · have H2 := Lib.hid h0
      have h0' : (m.wh == 0) = true := by simpa using h0
      clear h0
      go_wp2_with (fail)
      refine (areAcks_any c _ _ _).mono ?_
      rintro e w3 ⟨rfl, hb3⟩
      have K3 := K1.step hb3
      clear ha hb hc hb3
      have hc := K3.c
      rcases Bool.eq_false_or_eq_true (acks c m.ac b) with h | h
      · rw [h]
        have H3 := Lib.hid h
        clear h
        go_wp2
        go_ret
        exact ⟨ret_bool (by simp [ansB, H1.out, H2.out, H3.out]), K3.below⟩
      · rw [h]
        have H3 := Lib.hid h
        clear h
        go_wp2
        go_ret
        exact ⟨ret_bool (by simp [ansB, H3.out]), K3.below⟩
    · have H2 := Lib.hid h0
      have h0' : (m.wh == 0) = false := by simpa using h0
      clear h0
      go_wp2
      go_ret
      exact ⟨ret_bool (by simp [ansB, H2.out]), K1.below⟩
  · rw [h]
    have H1 := Lib.hid h
    clear h
    go_wp2
    go_ret
    exact ⟨ret_bool (by simp [ansB, H1.out]), K1.below⟩

end Go.Proofs.YtpknfbgnclgpmaaGreatDoor
