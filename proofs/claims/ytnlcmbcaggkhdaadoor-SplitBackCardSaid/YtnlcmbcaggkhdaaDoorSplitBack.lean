/-
  The walk of SplitBack: whatever sizes and address it is given, it returns true, and writes nothing that was there.
-/
import Derived.Test.YtnlcmbcaggkhdaaDoorSplitW
namespace Go.Proofs.YtnlcmbcaggkhdaaDoor
open Go Go.RowKit

theorem back_facts (c : Cfg) (a : Int) (h : adOk c a = true) : (joA c (adL c a) (adW c a) = a ∧ joE c (adL c a) (adW c a) = 0) ∧ lnE c (adL c a) = 0 ∧
    (tgL c (lnS c (adL c a)) (lnT c (adL c a)) = adL c a ∧ tgE c (lnS c (adL c a)) (lnT c (adL c a)) = 0) ∧ (0 ≤ adW c a ∧ adW c a < c.wo) ∧ (0 ≤ lnS c (adL c a) ∧ lnS c (adL c a) < c.se) := by
  obtain ⟨hok, h0, h1⟩ := ok_of_adOk h
  have hp := ok_pows c hok
  have hz : sz c = c.wo * c.li := by simp [sz, hok]
  have e := adOk_yes hz h0 h1
  have hw := hp.1.2.1
  have hs := hp.2.2.1.2.1
  have hl0 : 0 ≤ a / c.wo := Int.ediv_nonneg h0 (by omega)
  have hl1 : a / c.wo < c.li := Int.ediv_lt_of_lt_mul (by omega) (by rw [Int.mul_comm]; exact h1)
  have hm0 : 0 ≤ a % c.wo := Int.emod_nonneg a (by omega)
  have hm1 : a % c.wo < c.wo := Int.emod_lt_of_pos a (by omega)
  have hln : lnOk c (a / c.wo) = true := by simp [lnOk, hok, inR, hl0, hl1]
  have hj := joOk_yes (x := a % c.wo) hln (by simp [inR, hm0, hm1])
  have he := lnOk_yes hln
  have hd : a / c.wo * c.wo + a % c.wo = a := by have := Int.mul_ediv_add_emod a c.wo; rw [Int.mul_comm]; exact this
  rw [e.1, e.2.1, he.2.1, he.2.2.1, he.2.2.2]
  refine ⟨⟨hj.1.trans hd, hj.2⟩, rfl, ?_, ⟨hm0, hm1⟩, Int.emod_nonneg _ (by omega), Int.emod_lt_of_pos _ (by omega)⟩
  exact tg_hit hok hl0 hl1 rfl rfl

set_option maxRecDepth 100000 in
set_option maxHeartbeats 2000000 in
theorem back_yes (c : Cfg) (a : Int) (w : World) (hT : Tb w) (hc : c.fits) (h : adOk c a = true) :
    Calls Tryd.prog 4 #[cv c, .int .i64 a] w fun e w' => e = .returned (.bool true) ∧ Below w.heap.size w w' := by
  have HT := Lib.hid hT
  have HC := Lib.hid hc
  clear hT hc
  have hae : adE c a = 0 := by simp [adE, h]
  obtain ⟨⟨f1, f2⟩, f3, ⟨f4, f5⟩, ⟨f6, f7⟩, f8, f9⟩ := back_facts c a h
  clear h
  have K0 := Kp.box w #[Value.int .i64 c.co, .int .i64 c.ho, .int .i64 c.se, .int .i64 c.wa, .int .i64 c.wo, .int .i64 c.li, .int .i64 c.po, .int .i64 c.ms, .int .i64 c.bu, .int .i64 c.wb, .int .i64 c.r0, .int .i64 c.r1, .int .i64 c.r2] 24
  go_enter Tryd.func4, Tryd.ntmps4
  go_wp2_with (fail)
  refine (awake2_any _ (HT.out.keeps K0.2.2)).mono ?_
  rintro e w1 ⟨rfl, hb1⟩
  have K1 := K0.step hb1
  have hc1 := K1.1
  clear hb1 K0
  go_wp2_with (fail)
  refine (addr_any c _ _ HC.out (HT.out.keeps K1.2.2)).mono ?_
  rintro e w2 ⟨rfl, hb2⟩
  have K2 := K1.step hb2
  have hc2 := K2.1
  clear hb2 hc1
  go_wp2_with (fail)
  refine (joinS_any c _ _ _ HC.out (HT.out.keeps K2.2.2)).mono ?_
  rintro e w3 ⟨rfl, hb3⟩
  have K3 := K2.step hb3
  have hc3 := K3.1
  clear hb3 hc2
  go_wp2_with (fail)
  refine (line_any c _ _ HC.out (HT.out.keeps K3.2.2)).mono ?_
  rintro e w4 ⟨rfl, hb4⟩
  have K4 := K3.step hb4
  have hc4 := K4.1
  clear hb4 hc3
  go_wp2_with (fail)
  refine (tagged_any c _ _ _ HC.out (HT.out.keeps K4.2.2)).mono ?_
  rintro e w5 ⟨rfl, hb5⟩
  have K5 := K4.step hb5
  have hc5 := K5.1
  clear hb5 hc4
  go_wp2
  go_ret
  exact ⟨rfl, K5.2.2⟩

set_option maxHeartbeats 1000000 in
theorem back_no (c : Cfg) (a : Int) (w : World) (hT : Tb w) (hc : c.fits) (h : adOk c a = false) :
    Calls Tryd.prog 4 #[cv c, .int .i64 a] w fun e w' => e = .returned (.bool true) ∧ Below w.heap.size w w' := by
  have HT := Lib.hid hT
  have HC := Lib.hid hc
  clear hT hc
  obtain ⟨e1, e2, e3⟩ := adOk_no h
  clear h
  have K0 := Kp.box w #[Value.int .i64 c.co, .int .i64 c.ho, .int .i64 c.se, .int .i64 c.wa, .int .i64 c.wo, .int .i64 c.li, .int .i64 c.po, .int .i64 c.ms, .int .i64 c.bu, .int .i64 c.wb, .int .i64 c.r0, .int .i64 c.r1, .int .i64 c.r2] 24
  go_enter Tryd.func4, Tryd.ntmps4
  go_wp2_with (fail)
  refine (awake2_any _ (HT.out.keeps K0.2.2)).mono ?_
  rintro e w1 ⟨rfl, hb1⟩
  have K1 := K0.step hb1
  have hc1 := K1.1
  clear hb1 K0
  go_wp2_with (fail)
  refine (addr_any c _ _ HC.out (HT.out.keeps K1.2.2)).mono ?_
  rintro e w2 ⟨rfl, hb2⟩
  have K2 := K1.step hb2
  have hc2 := K2.1
  clear hb2 hc1
  go_wp2
  go_ret
  exact ⟨rfl, K2.2.2⟩

theorem back_any (c : Cfg) (a : Int) (w : World) (hT : Tb w) (hc : c.fits) :
    Calls Tryd.prog 4 #[cv c, .int .i64 a] w fun e w' => e = .returned (.bool true) ∧ Below w.heap.size w w' := by
  rcases Bool.eq_false_or_eq_true (adOk c a) with h | h
  · exact back_yes c a w hT hc h
  · exact back_no c a w hT hc h

end Go.Proofs.YtnlcmbcaggkhdaaDoor
