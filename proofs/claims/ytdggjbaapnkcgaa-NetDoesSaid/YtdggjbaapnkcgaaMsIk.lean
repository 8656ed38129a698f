/-
  Ways through the document's own May: refMay_9_ow, refMay_9_wh, refMay_9_ac, refMay_10_fr, refMay_10_ow, refMay_10_wh, refMay_10_ac, refMay_11_ow.
-/
import Derived.Test.YtdggjbaapnkcgaaMsG
import Derived.Test.YtdggjbaapnkcgaaMsH
namespace Go.Proofs.Ytdggjbaapnkcgaa
open Go Go.RowKit Go.Sort

set_option maxRecDepth 100000 in
set_option maxHeartbeats 4000000 in
theorem refMay_9_ow (c : Cfg) (m : Msg) (w : World) (hok : okC c = true) (hln : isin m.ln c.li = true) (hkk : m.kd = 9) (f_to : isin m.to c.co = true) (f_fr : isin m.fr c.co = true) (f_ft : (m.fr == m.to) = false) (g_ow : (m.ow != 0) = true) :
    Calls Try.prog 23 #[cv c, mv m] w fun e w' => e = .returned (.bool false) ∧ Below w.heap.size w w' := by
  have HTH : Hid (toHome 9 = false) := Lib.hid (rfl)
  have hs := ok_sizes hok
  have h1 := hs.2.1.1
  have h2 := hs.2.1.2
  have hl := isin_of hln
  have hl1 := hl.1
  have hl2 := hl.2
  have h0 := chk_ok c hok
  have hne : (c.ho == 0) = false := by simp; omega
  have KK := K2.box w (ccells c) (mcells m) 24 37
  clear hok hln hs hl
  go_enter Try.func23, Try.ntmps23
  go_wp2_with (fail)
  refine (refCheck_any c _).mono ?_
  rintro e w1 ⟨rfl, hb1⟩
  have K1 := KK.step hb1
  have ha := K1.a; have hb := K1.b
  clear hb1 KK
  go_wp2_with (first
    | (go_at_call 36; refine (refHome_any _ _).mono ?_; rintro e w2 ⟨rfl, hb2⟩; rw [HTH.out]; have K1 := K1.step hb2; clear ha hb hb2; have ha := K1.a; have hb := K1.b)
    | (go_at_call 37; refine (refCore_any c _ _).mono ?_; rintro e w3 ⟨rfl, hb3⟩; have K1 := K1.step hb3; clear hb3 ha hb; have ha := K1.a; have hb := K1.b))
  go_ret
  exact ⟨rfl, K1.below⟩

set_option maxRecDepth 100000 in
set_option maxHeartbeats 4000000 in
theorem refMay_9_wh (c : Cfg) (m : Msg) (w : World) (hok : okC c = true) (hln : isin m.ln c.li = true) (hkk : m.kd = 9) (f_to : isin m.to c.co = true) (f_fr : isin m.fr c.co = true) (f_ft : (m.fr == m.to) = false) (f_ow : (m.ow != 0) = false) (g_wh : (m.wh != 0) = true) :
    Calls Try.prog 23 #[cv c, mv m] w fun e w' => e = .returned (.bool false) ∧ Below w.heap.size w w' := by
  have HTH : Hid (toHome 9 = false) := Lib.hid (rfl)
  have hs := ok_sizes hok
  have h1 := hs.2.1.1
  have h2 := hs.2.1.2
  have hl := isin_of hln
  have hl1 := hl.1
  have hl2 := hl.2
  have h0 := chk_ok c hok
  have hne : (c.ho == 0) = false := by simp; omega
  have KK := K2.box w (ccells c) (mcells m) 24 37
  clear hok hln hs hl
  go_enter Try.func23, Try.ntmps23
  go_wp2_with (fail)
  refine (refCheck_any c _).mono ?_
  rintro e w1 ⟨rfl, hb1⟩
  have K1 := KK.step hb1
  have ha := K1.a; have hb := K1.b
  clear hb1 KK
  go_wp2_with (first
    | (go_at_call 36; refine (refHome_any _ _).mono ?_; rintro e w2 ⟨rfl, hb2⟩; rw [HTH.out]; have K1 := K1.step hb2; clear ha hb hb2; have ha := K1.a; have hb := K1.b)
    | (go_at_call 37; refine (refCore_any c _ _).mono ?_; rintro e w3 ⟨rfl, hb3⟩; have K1 := K1.step hb3; clear hb3 ha hb; have ha := K1.a; have hb := K1.b))
  go_ret
  exact ⟨rfl, K1.below⟩

set_option maxRecDepth 100000 in
set_option maxHeartbeats 4000000 in
theorem refMay_9_ac (c : Cfg) (m : Msg) (w : World) (hok : okC c = true) (hln : isin m.ln c.li = true) (hkk : m.kd = 9) (f_to : isin m.to c.co = true) (f_fr : isin m.fr c.co = true) (f_ft : (m.fr == m.to) = false) (f_ow : (m.ow != 0) = false) (f_wh : (m.wh != 0) = false) (g_ac : (m.ac != 0) = true) :
    Calls Try.prog 23 #[cv c, mv m] w fun e w' => e = .returned (.bool false) ∧ Below w.heap.size w w' := by
  have HTH : Hid (toHome 9 = false) := Lib.hid (rfl)
  have hs := ok_sizes hok
  have h1 := hs.2.1.1
  have h2 := hs.2.1.2
  have hl := isin_of hln
  have hl1 := hl.1
  have hl2 := hl.2
  have h0 := chk_ok c hok
  have hne : (c.ho == 0) = false := by simp; omega
  have KK := K2.box w (ccells c) (mcells m) 24 37
  clear hok hln hs hl
  go_enter Try.func23, Try.ntmps23
  go_wp2_with (fail)
  refine (refCheck_any c _).mono ?_
  rintro e w1 ⟨rfl, hb1⟩
  have K1 := KK.step hb1
  have ha := K1.a; have hb := K1.b
  clear hb1 KK
  go_wp2_with (first
    | (go_at_call 36; refine (refHome_any _ _).mono ?_; rintro e w2 ⟨rfl, hb2⟩; rw [HTH.out]; have K1 := K1.step hb2; clear ha hb hb2; have ha := K1.a; have hb := K1.b)
    | (go_at_call 37; refine (refCore_any c _ _).mono ?_; rintro e w3 ⟨rfl, hb3⟩; have K1 := K1.step hb3; clear hb3 ha hb; have ha := K1.a; have hb := K1.b))
  go_ret
  exact ⟨rfl, K1.below⟩

set_option maxRecDepth 100000 in
set_option maxHeartbeats 4000000 in
theorem refMay_10_fr (c : Cfg) (m : Msg) (w : World) (hok : okC c = true) (hln : isin m.ln c.li = true) (hkk : m.kd = 10) (f_to : isin m.to c.co = true) (g_fr : (m.fr != m.ln % c.ho) = true) :
    Calls Try.prog 23 #[cv c, mv m] w fun e w' => e = .returned (.bool false) ∧ Below w.heap.size w w' := by
  have HTH : Hid (toHome 10 = false) := Lib.hid (rfl)
  have hs := ok_sizes hok
  have h1 := hs.2.1.1
  have h2 := hs.2.1.2
  have hl := isin_of hln
  have hl1 := hl.1
  have hl2 := hl.2
  have h0 := chk_ok c hok
  have hne : (c.ho == 0) = false := by simp; omega
  have KK := K2.box w (ccells c) (mcells m) 24 37
  clear hok hln hs hl
  go_enter Try.func23, Try.ntmps23
  go_wp2_with (fail)
  refine (refCheck_any c _).mono ?_
  rintro e w1 ⟨rfl, hb1⟩
  have K1 := KK.step hb1
  have ha := K1.a; have hb := K1.b
  clear hb1 KK
  go_wp2_with (first
    | (go_at_call 36; refine (refHome_any _ _).mono ?_; rintro e w2 ⟨rfl, hb2⟩; rw [HTH.out]; have K1 := K1.step hb2; clear ha hb hb2; have ha := K1.a; have hb := K1.b)
    | (go_at_call 37; refine (refCore_any c _ _).mono ?_; rintro e w3 ⟨rfl, hb3⟩; have K1 := K1.step hb3; clear hb3 ha hb; have ha := K1.a; have hb := K1.b))
  go_ret
  exact ⟨rfl, K1.below⟩

set_option maxRecDepth 100000 in
set_option maxHeartbeats 4000000 in
theorem refMay_10_ow (c : Cfg) (m : Msg) (w : World) (hok : okC c = true) (hln : isin m.ln c.li = true) (hkk : m.kd = 10) (f_to : isin m.to c.co = true) (f_fr : (m.fr != m.ln % c.ho) = false) (g_ow : (m.ow != 0) = true) :
    Calls Try.prog 23 #[cv c, mv m] w fun e w' => e = .returned (.bool false) ∧ Below w.heap.size w w' := by
  have HTH : Hid (toHome 10 = false) := Lib.hid (rfl)
  have hs := ok_sizes hok
  have h1 := hs.2.1.1
  have h2 := hs.2.1.2
  have hl := isin_of hln
  have hl1 := hl.1
  have hl2 := hl.2
  have h0 := chk_ok c hok
  have hne : (c.ho == 0) = false := by simp; omega
  have KK := K2.box w (ccells c) (mcells m) 24 37
  clear hok hln hs hl
  go_enter Try.func23, Try.ntmps23
  go_wp2_with (fail)
  refine (refCheck_any c _).mono ?_
  rintro e w1 ⟨rfl, hb1⟩
  have K1 := KK.step hb1
  have ha := K1.a; have hb := K1.b
  clear hb1 KK
  go_wp2_with (first
    | (go_at_call 36; refine (refHome_any _ _).mono ?_; rintro e w2 ⟨rfl, hb2⟩; rw [HTH.out]; have K1 := K1.step hb2; clear ha hb hb2; have ha := K1.a; have hb := K1.b)
    | (go_at_call 37; refine (refCore_any c _ _).mono ?_; rintro e w3 ⟨rfl, hb3⟩; have K1 := K1.step hb3; clear hb3 ha hb; have ha := K1.a; have hb := K1.b))
  go_ret
  exact ⟨rfl, K1.below⟩

set_option maxRecDepth 100000 in
set_option maxHeartbeats 4000000 in
theorem refMay_10_wh (c : Cfg) (m : Msg) (w : World) (hok : okC c = true) (hln : isin m.ln c.li = true) (hkk : m.kd = 10) (f_to : isin m.to c.co = true) (f_fr : (m.fr != m.ln % c.ho) = false) (f_ow : (m.ow != 0) = false) (g_wh : (m.wh != 0) = true) :
    Calls Try.prog 23 #[cv c, mv m] w fun e w' => e = .returned (.bool false) ∧ Below w.heap.size w w' := by
  have HTH : Hid (toHome 10 = false) := Lib.hid (rfl)
  have hs := ok_sizes hok
  have h1 := hs.2.1.1
  have h2 := hs.2.1.2
  have hl := isin_of hln
  have hl1 := hl.1
  have hl2 := hl.2
  have h0 := chk_ok c hok
  have hne : (c.ho == 0) = false := by simp; omega
  have KK := K2.box w (ccells c) (mcells m) 24 37
  clear hok hln hs hl
  go_enter Try.func23, Try.ntmps23
  go_wp2_with (fail)
  refine (refCheck_any c _).mono ?_
  rintro e w1 ⟨rfl, hb1⟩
  have K1 := KK.step hb1
  have ha := K1.a; have hb := K1.b
  clear hb1 KK
  go_wp2_with (first
    | (go_at_call 36; refine (refHome_any _ _).mono ?_; rintro e w2 ⟨rfl, hb2⟩; rw [HTH.out]; have K1 := K1.step hb2; clear ha hb hb2; have ha := K1.a; have hb := K1.b)
    | (go_at_call 37; refine (refCore_any c _ _).mono ?_; rintro e w3 ⟨rfl, hb3⟩; have K1 := K1.step hb3; clear hb3 ha hb; have ha := K1.a; have hb := K1.b))
  go_ret
  exact ⟨rfl, K1.below⟩

set_option maxRecDepth 100000 in
set_option maxHeartbeats 4000000 in
theorem refMay_10_ac (c : Cfg) (m : Msg) (w : World) (hok : okC c = true) (hln : isin m.ln c.li = true) (hkk : m.kd = 10) (f_to : isin m.to c.co = true) (f_fr : (m.fr != m.ln % c.ho) = false) (f_ow : (m.ow != 0) = false) (f_wh : (m.wh != 0) = false) (g_ac : (m.ac != 0) = true) :
    Calls Try.prog 23 #[cv c, mv m] w fun e w' => e = .returned (.bool false) ∧ Below w.heap.size w w' := by
  have HTH : Hid (toHome 10 = false) := Lib.hid (rfl)
  have hs := ok_sizes hok
  have h1 := hs.2.1.1
  have h2 := hs.2.1.2
  have hl := isin_of hln
  have hl1 := hl.1
  have hl2 := hl.2
  have h0 := chk_ok c hok
  have hne : (c.ho == 0) = false := by simp; omega
  have KK := K2.box w (ccells c) (mcells m) 24 37
  clear hok hln hs hl
  go_enter Try.func23, Try.ntmps23
  go_wp2_with (fail)
  refine (refCheck_any c _).mono ?_
  rintro e w1 ⟨rfl, hb1⟩
  have K1 := KK.step hb1
  have ha := K1.a; have hb := K1.b
  clear hb1 KK
  go_wp2_with (first
    | (go_at_call 36; refine (refHome_any _ _).mono ?_; rintro e w2 ⟨rfl, hb2⟩; rw [HTH.out]; have K1 := K1.step hb2; clear ha hb hb2; have ha := K1.a; have hb := K1.b)
    | (go_at_call 37; refine (refCore_any c _ _).mono ?_; rintro e w3 ⟨rfl, hb3⟩; have K1 := K1.step hb3; clear hb3 ha hb; have ha := K1.a; have hb := K1.b))
  go_ret
  exact ⟨rfl, K1.below⟩

set_option maxRecDepth 100000 in
set_option maxHeartbeats 4000000 in
theorem refMay_11_ow (c : Cfg) (m : Msg) (w : World) (hok : okC c = true) (hln : isin m.ln c.li = true) (hkk : m.kd = 11) (f_fr : isin m.fr c.co = true) (f_to : (m.to != m.ln % c.ho) = false) (g_ow : (m.ow != 0) = true) :
    Calls Try.prog 23 #[cv c, mv m] w fun e w' => e = .returned (.bool false) ∧ Below w.heap.size w w' := by
  have HTH : Hid (toHome 11 = true) := Lib.hid (rfl)
  have hs := ok_sizes hok
  have h1 := hs.2.1.1
  have h2 := hs.2.1.2
  have hl := isin_of hln
  have hl1 := hl.1
  have hl2 := hl.2
  have h0 := chk_ok c hok
  have hne : (c.ho == 0) = false := by simp; omega
  have KK := K2.box w (ccells c) (mcells m) 24 37
  clear hok hln hs hl
  go_enter Try.func23, Try.ntmps23
  go_wp2_with (fail)
  refine (refCheck_any c _).mono ?_
  rintro e w1 ⟨rfl, hb1⟩
  have K1 := KK.step hb1
  have ha := K1.a; have hb := K1.b
  clear hb1 KK
  go_wp2_with (first
    | (go_at_call 36; refine (refHome_any _ _).mono ?_; rintro e w2 ⟨rfl, hb2⟩; rw [HTH.out]; have K1 := K1.step hb2; clear ha hb hb2; have ha := K1.a; have hb := K1.b)
    | (go_at_call 37; refine (refCore_any c _ _).mono ?_; rintro e w3 ⟨rfl, hb3⟩; have K1 := K1.step hb3; clear hb3 ha hb; have ha := K1.a; have hb := K1.b))
  go_ret
  exact ⟨rfl, K1.below⟩

end Go.Proofs.Ytdggjbaapnkcgaa
