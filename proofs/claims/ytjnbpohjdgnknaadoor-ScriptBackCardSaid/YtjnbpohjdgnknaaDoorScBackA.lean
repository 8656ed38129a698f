/-
  The walk of ScriptBack: whatever bytes and script it is given, it returns true, and writes nothing that was there.
-/
import Derived.Test.YtjnbpohjdgnknaaDoorScV
namespace Go.Proofs.YtjnbpohjdgnknaaDoor
open Go Go.RowKit

set_option maxRecDepth 100000 in
set_option maxHeartbeats 4000000 in
theorem sback_long (t : ByteArray) (s : Scr) (p : Option Addr) (cp : Nat) (q : Option Addr) (cq : Nat) (w : World) (hS : Std w) (ht : t.size ≤ 9223372036854775807) (hs : ScAt w s p q) (hf : Big s) (h3 : 3000 < t.size) :
    Calls Tryd.prog 4 #[.string t, sv s p cp q cq] w fun e w' => e = .returned (.bool true) ∧ Below w.heap.size w w' := by
  have HF := Lib.hid hf
  have HS := Lib.hid hs
  have HZ := Lib.hid hS
  have K0 := Kp.box w (sC s p cp q cq) 28
  clear hs hf hS
  go_enter Tryd.func4, Tryd.ntmps4
  go_wp2_with fail
  refine (awake4_any _ (HZ.out.step K0.2.2)).mono ?_
  rintro e w1 ⟨rfl, hb1⟩
  have K1 := K0.step hb1
  clear hb1
  have hc1 := K1.1
  go_wp2
  go_ret
  exact ⟨rfl, K1.2.2⟩

set_option maxRecDepth 100000 in
set_option maxHeartbeats 4000000 in
theorem sback_large (t : ByteArray) (s : Scr) (p : Option Addr) (cp : Nat) (q : Option Addr) (cq : Nat) (w : World) (hS : Std w) (ht : t.size ≤ 9223372036854775807) (hs : ScAt w s p q) (hf : Big s) (h3 : ¬ 3000 < t.size) (hlg : 3000 < tot s) :
    Calls Tryd.prog 4 #[.string t, sv s p cp q cq] w fun e w' => e = .returned (.bool true) ∧ Below w.heap.size w w' := by
  have HF := Lib.hid hf
  have HS := Lib.hid hs
  have HZ := Lib.hid hS
  have K0 := Kp.box w (sC s p cp q cq) 28
  clear hs hf hS
  have hlb : decide (3000 < tot s) = true := by simpa using hlg
  have HLB := Lib.hid hlb
  clear hlb
  go_enter Tryd.func4, Tryd.ntmps4
  go_wp2_with fail
  refine (awake4_any _ (HZ.out.step K0.2.2)).mono ?_
  rintro e w1 ⟨rfl, hb1⟩
  have K1 := K0.step hb1
  clear hb1
  have S1 := Lib.hid (HS.out.step K1.2.2)
  have hc1 := K1.1
  go_wp2_with fail
  refine (large_any s p cp q cq _ S1.out HF.out).mono ?_
  rintro e w2 ⟨rfl, hb2⟩
  rw [HLB.out]
  have K2 := K1.step hb2
  clear hb2 hc1
  go_wp2
  go_ret
  exact ⟨rfl, K2.2.2⟩

set_option maxRecDepth 100000 in
set_option maxHeartbeats 4000000 in
theorem sback_err_no (t : ByteArray) (s : Scr) (p : Option Addr) (cp : Nat) (q : Option Addr) (cq : Nat) (w : World) (hS : Std w) (ht : t.size ≤ 9223372036854775807) (hs : ScAt w s p q) (hf : Big s) (h3 : ¬ 3000 < t.size) (hlg : ¬ 3000 < tot s) (x : Int) (hE : rdM t.data.toList = .error x) (hm : mayS s = false) :
    Calls Tryd.prog 4 #[.string t, sv s p cp q cq] w fun e w' => e = .returned (.bool true) ∧ Below w.heap.size w w' := by
  have HF := Lib.hid hf
  have HS := Lib.hid hs
  have HZ := Lib.hid hS
  have K0 := Kp.box w (sC s p cp q cq) 28
  clear hs hf hS
  have hlb : decide (3000 < tot s) = false := by simpa using hlg
  have HLB := Lib.hid hlb
  have FF := Lib.hid (HF.out.fine hlg)
  clear hlb hlg
  have hx := rd_err hE
  have hx2 : (x == 0) = false := by simpa using hx
  have HE := Lib.hid hE
  clear hE
  have HN : Hid (bts s = ([], 1)) := Lib.hid (by unfold bts; rw [hm]; rfl)
  clear hm
  go_enter Tryd.func4, Tryd.ntmps4
  go_wp2_with fail
  refine (awake4_any _ (HZ.out.step K0.2.2)).mono ?_
  rintro e w1 ⟨rfl, hb1⟩
  have K1 := K0.step hb1
  clear hb1
  have S1 := Lib.hid (HS.out.step K1.2.2)
  have hc1 := K1.1
  go_wp2_with fail
  refine (large_any s p cp q cq _ S1.out HF.out).mono ?_
  rintro e w2 ⟨rfl, hb2⟩
  rw [HLB.out]
  have K2 := K1.step hb2
  clear hb2 hc1
  go_wp2_with fail
  refine (read_script t _ (by omega)).mono ?_
  rintro e w3 ⟨hb3, h3⟩
  rw [HE.out] at h3
  subst h3
  have KP := K2.step (bstep hb3 ((Below.refl _ w3).alloc (Nat.le_refl _) (.cells (sL c0 nilV nilV) 28)))
  clear hb3 K2 K1 K0
  have KS := Lib.hid (HS.out.step KP.2.2)
  have KZ := Lib.hid (HZ.out.step KP.2.2)
  have hcp := KP.1
  go_wp2_with fail
  refine (bytes_script s p cp q cq _ KS.out FF.out KZ.out.tab KZ.out.lt KZ.out.pow).mono ?_
  rintro e wa ⟨rfl, hba⟩
  rw [HN.out]
  go_wp2
  go_ret
  exact ⟨rfl, bstep KP.2.2 hba⟩

set_option maxRecDepth 100000 in
set_option maxHeartbeats 4000000 in
theorem sback_err_yes (t : ByteArray) (s : Scr) (p : Option Addr) (cp : Nat) (q : Option Addr) (cq : Nat) (w : World) (hS : Std w) (ht : t.size ≤ 9223372036854775807) (hs : ScAt w s p q) (hf : Big s) (h3 : ¬ 3000 < t.size) (hlg : ¬ 3000 < tot s) (x : Int) (hE : rdM t.data.toList = .error x) (hm : mayS s = true) :
    Calls Tryd.prog 4 #[.string t, sv s p cp q cq] w fun e w' => e = .returned (.bool true) ∧ Below w.heap.size w w' := by
  have HF := Lib.hid hf
  have HS := Lib.hid hs
  have HZ := Lib.hid hS
  have K0 := Kp.box w (sC s p cp q cq) 28
  clear hs hf hS
  have hlb : decide (3000 < tot s) = false := by simpa using hlg
  have HLB := Lib.hid hlb
  have FF := Lib.hid (HF.out.fine hlg)
  clear hlb hlg
  have hx := rd_err hE
  have hx2 : (x == 0) = false := by simpa using hx
  have HE := Lib.hid hE
  clear hE
  have HY : Hid (bts s = (btsM s, 0)) := Lib.hid (by unfold bts; rw [if_pos hm])
  have HRD : Hid (rdM (ByteArray.mk (btsM s).toArray).data.toList = .ok s) := Lib.hid (by simpa using rd_bts hm)
  have HSZ : Hid ((ByteArray.mk (btsM s).toArray).size ≤ 100000000) := Lib.hid (bts_size FF.out hm)
  clear hm
  go_enter Tryd.func4, Tryd.ntmps4
  go_wp2_with fail
  refine (awake4_any _ (HZ.out.step K0.2.2)).mono ?_
  rintro e w1 ⟨rfl, hb1⟩
  have K1 := K0.step hb1
  clear hb1
  have S1 := Lib.hid (HS.out.step K1.2.2)
  have hc1 := K1.1
  go_wp2_with fail
  refine (large_any s p cp q cq _ S1.out HF.out).mono ?_
  rintro e w2 ⟨rfl, hb2⟩
  rw [HLB.out]
  have K2 := K1.step hb2
  clear hb2 hc1
  go_wp2_with fail
  refine (read_script t _ (by omega)).mono ?_
  rintro e w3 ⟨hb3, h3⟩
  rw [HE.out] at h3
  subst h3
  have KP := K2.step (bstep hb3 ((Below.refl _ w3).alloc (Nat.le_refl _) (.cells (sL c0 nilV nilV) 28)))
  clear hb3 K2 K1 K0
  have KS := Lib.hid (HS.out.step KP.2.2)
  have KZ := Lib.hid (HZ.out.step KP.2.2)
  have hcp := KP.1
  go_wp2_with fail
  refine (bytes_script s p cp q cq _ KS.out FF.out KZ.out.tab KZ.out.lt KZ.out.pow).mono ?_
  rintro e wa ⟨rfl, hba⟩
  rw [HY.out]
  have Ka := KP.step hba
  clear hba hcp
  go_wp2_with fail
  refine (read_script ⟨(btsM s).toArray⟩ _ HSZ.out).mono ?_
  rintro e wb ⟨hbb, hyb⟩
  rw [HRD.out] at hyb
  obtain ⟨pv, qv, rfl, hy1, hy2⟩ := hyb
  obtain ⟨p2, cp2, q2, cq2, rfl, rfl, at2⟩ := own_at hy1 hy2
  have Kb := Ka.step hbb
  have hbc : Below wb.heap.size wb (wb.alloc (.cells (sC s p2 cp2 q2 cq2) 28)).drew := ((Below.refl _ wb).alloc (Nat.le_refl _) _).drew
  have Kc := Lib.hid (Kb.step hbc)
  have AY : Hid (ScAt (wb.alloc (.cells (sC s p2 cp2 q2 cq2) 28)).drew s p2 q2) := Lib.hid (at2.step hbc)
  have AS : Hid (ScAt (wb.alloc (.cells (sC s p2 cp2 q2 cq2) 28)).drew s p q) := Lib.hid (HS.out.step Kc.out.2.2)
  have BY : Hid ((wb.alloc (.cells (sC s p2 cp2 q2 cq2) 28)).drew.heap[wb.heap.size]? = some (.cells (sC s p2 cp2 q2 cq2) 28 (0, 0))) := Lib.hid (heap_alloc_new wb _)
  clear hy1 hy2 at2 hbb hbc Ka Kb KP
  have tok1 : True := trivial
  go_wp2
  go_region_held3 (fun w' => (∀ o, w'.cell? ⟨w.heap.size, o, none⟩ = (sC s p cp q cq)[o]?) ∧ (∀ o, w'.cell? ⟨wb.heap.size, o, none⟩ = (sC s p2 cp2 q2 cq2)[o]?)) (first | exact ⟨K8.out.1, blk_cell B8.out⟩ | exact ⟨K7.out.1, blk_cell B7.out⟩ | exact ⟨K6.out.1, blk_cell B6.out⟩ | exact ⟨Kc.out.1, blk_cell BY.out⟩)
    (first
      | (go_at_call 10; have _t := tok1; clear _t tok1; refine (own_any s p2 cp2 q2 cq2 _ AY.out FF.out).mono ?_; rintro e w6 ⟨q6, c6, rfl, s6, hb6⟩; have K6 := Lib.hid (Kc.out.step hb6); have B6 := Lib.hid ((hb6.block wb.heap.size (lt_of_block BY.out)).trans BY.out); have S6 := Lib.hid s6; have AS6 := Lib.hid (AS.out.step hb6); clear s6 hb6)
      | (go_at_call 10; refine (own_any s p cp q cq _ AS6.out FF.out).mono ?_; rintro e w7 ⟨q7, c7, rfl, s7, hb7⟩; have K7 := Lib.hid (K6.out.step hb7); have B7 := Lib.hid ((hb7.block wb.heap.size (lt_of_block B6.out)).trans B6.out); have S7 := Lib.hid s7; have S67 := Lib.hid (S6.out.step hb7); clear s7 hb7)
      | (go_at_call 14; refine (same_any s p2 cp2 q6 c6 p cp q7 c7 _ S67.out S7.out FF.out).mono ?_; rintro e w8 ⟨rfl, hb8⟩; have K8 := Lib.hid (K7.out.step hb8); have B8 := Lib.hid ((hb8.block wb.heap.size (lt_of_block B7.out)).trans B7.out); clear hb8))
  go_wp2
  go_ret
  exact ⟨rfl, K8.out.2.2⟩

end Go.Proofs.YtjnbpohjdgnknaaDoor
