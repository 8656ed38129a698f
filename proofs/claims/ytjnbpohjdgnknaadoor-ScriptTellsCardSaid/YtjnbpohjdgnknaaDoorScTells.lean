/-
  ScriptTells.
-/
import Derived.Test.YtjnbpohjdgnknaaDoorScT
namespace Go.Proofs.YtjnbpohjdgnknaaDoor
open Go Go.RowKit

set_option maxRecDepth 100000 in
set_option maxHeartbeats 4000000 in
theorem stells_any (s : Scr) (p : Option Addr) (cp : Nat) (q : Option Addr) (cq : Nat) (w : World) (hS : Std w) (hs : ScAt w s p q) (hf : Big s) :
    Calls Tryd.prog 3 #[sv s p cp q cq] w fun e w' => e = .returned (.bool true) ∧ Below w.heap.size w w' := by
  have HF := Lib.hid hf
  have HS := Lib.hid hs
  have K0 := Kp.box w (sC s p cp q cq) 28
  have HZ := Lib.hid hS
  clear hs hf hS
  by_cases ht : 3000 < tot s
  · have hlb : decide (3000 < tot s) = true := by simpa using ht
    have HLB := Lib.hid hlb
    clear hlb
    go_enter Tryd.func3, Tryd.ntmps3
    go_wp2_with fail
    refine (awake4_any _ (HZ.out.step K0.2.2)).mono ?_
    rintro e w1 ⟨rfl, hb1⟩
    have K1 := K0.step hb1
    have hc1 := K1.1
    have S1 := Lib.hid (HS.out.step K1.2.2)
    clear hb1
    go_wp2_with fail
    refine (large_any s p cp q cq _ S1.out HF.out).mono ?_
    rintro e w2 ⟨rfl, hb2⟩
    rw [HLB.out]
    go_wp2
    go_ret
    exact ⟨rfl, bstep K1.2.2 hb2⟩
  · have hlb : decide (3000 < tot s) = false := by simpa using ht
    have HLB := Lib.hid hlb
    have FF := Lib.hid (HF.out.fine ht)
    clear hlb ht
    go_enter Tryd.func3, Tryd.ntmps3
    go_wp2_with fail
    refine (awake4_any _ (HZ.out.step K0.2.2)).mono ?_
    rintro e w1 ⟨rfl, hb1⟩
    have K1 := K0.step hb1
    have hc1 := K1.1
    have S1 := Lib.hid (HS.out.step K1.2.2)
    clear hb1
    go_wp2_with fail
    refine (large_any s p cp q cq _ S1.out HF.out).mono ?_
    rintro e w2 ⟨rfl, hb2⟩
    rw [HLB.out]
    have K2 := K1.step hb2
    have hc2 := K2.1
    have S2 := Lib.hid (HS.out.step K2.2.2)
    have Z2 := Lib.hid (HZ.out.step K2.2.2)
    clear hb2 hc1
    go_wp2_with fail
    refine (bytes_script s p cp q cq _ S2.out FF.out Z2.out.tab Z2.out.lt Z2.out.pow).mono ?_
    rintro e w3 ⟨rfl, hb3⟩
    have K3 := K2.step hb3
    have hc3 := K3.1
    have S3 := Lib.hid (HS.out.step K3.2.2)
    clear hb3 hc2
    generalize hbt : bts s = bt at *
    have HBT := Lib.hid hbt
    clear hbt
    obtain ⟨b, n⟩ := bt
    simp only
    go_wp2_with fail
    refine (own_any s p cp q cq _ S3.out FF.out).mono ?_
    rintro e w4 ⟨q', cq', rfl, S4, hb4⟩
    have K4 := K3.step hb4
    have S4' := Lib.hid S4
    clear hb4 hc3 S4
    go_wp2_with fail
    refine (refBytes_any s p cp q' cq' _ S4'.out FF.out).mono ?_
    rintro e w5 ⟨rfl, hb5⟩
    rw [HBT.out]
    have K5 := K4.step hb5
    simp only
    clear hb5
    go_wp2
    go_ret
    exact ⟨rfl, K5.2.2⟩

end Go.Proofs.YtjnbpohjdgnknaaDoor
