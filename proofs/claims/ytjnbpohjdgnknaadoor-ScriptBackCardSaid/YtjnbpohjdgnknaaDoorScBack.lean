/-
  The walk of ScriptBack, where the bytes tell a script.
-/
import Derived.Test.YtjnbpohjdgnknaaDoorScBackA
namespace Go.Proofs.YtjnbpohjdgnknaaDoor
open Go Go.RowKit

set_option maxRecDepth 100000 in
set_option maxHeartbeats 4000000 in
theorem sback_ok_no (t : ByteArray) (s : Scr) (p : Option Addr) (cp : Nat) (q : Option Addr) (cq : Nat) (w : World) (hS : Std w) (ht : t.size ≤ 9223372036854775807) (hs : ScAt w s p q) (hf : Big s) (h3 : ¬ 3000 < t.size) (hlg : ¬ 3000 < tot s) (s1 : Scr) (hE : rdM t.data.toList = .ok s1) (hm : mayS s = false) :
    Calls Tryd.prog 4 #[.string t, sv s p cp q cq] w fun e w' => e = .returned (.bool true) ∧ Below w.heap.size w w' := by
  have HF := Lib.hid hf
  have HS := Lib.hid hs
  have HZ := Lib.hid hS
  have K0 := Kp.box w (sC s p cp q cq) 28
  clear hs hf hS
  have hlb : decide (3000 < tot s) = false := by simpa using hlg
  have HLB := Lib.hid hlb
  have FF := Lib.hid (HF.out.fine hlg)
  clear hlb hlg
  have F1 := Lib.hid (rd_fine hE (by have e : t.data.toList.length = t.size := rfl; omega))
  have hp1 := F1.out.ps
  have hma := (bts_rd hE).2
  have HMA := Lib.hid (may_at hma).1
  have h0 := chk_ok s1.c (may_parts hma).1
  have hnb : ((s1.ps.length : Int) != s1.c.co) = false := by simp [(may_parts hma).2.1]
  have HE := Lib.hid hE
  clear hE hma
  have HN : Hid (bts s = ([], 1)) := Lib.hid (by unfold bts; rw [hm]; rfl)
  clear hm
  go_enter Tryd.func4, Tryd.ntmps4
  go_wp2_with fail
  refine (awake4_any _ (HZ.out.step K0.2.2)).mono ?_
  rintro e w1 ⟨rfl, hb1⟩
  have K1 := K0.step hb1
  clear hb1
  have S1 := Lib.hid (HS.out.step K1.2.2)
  have hc1 := K1.1
  go_wp2_with fail
  refine (large_any s p cp q cq _ S1.out HF.out).mono ?_
  rintro e w2 ⟨rfl, hb2⟩
  rw [HLB.out]
  have K2 := K1.step hb2
  clear hb2 hc1
  have Z2 := Lib.hid (HZ.out.step K2.2.2)
  go_wp2_with fail
  refine (read_script t _ (by omega)).mono ?_
  rintro e w3 ⟨hb3, h3⟩
  rw [HE.out] at h3
  obtain ⟨pv, qv, rfl, hy1, hy2⟩ := h3
  obtain ⟨p1, cp1, q1, cq1, rfl, rfl, at1⟩ := own_at hy1 hy2
  have hb3' := bstep hb3 ((Below.refl _ w3).alloc (Nat.le_refl _) (.cells (sC s1 p1 cp1 q1 cq1) 28))
  have K3 := K2.step hb3'
  have A3 := Lib.hid (at1.step ((Below.refl _ w3).alloc (Nat.le_refl _) (.cells (sC s1 p1 cp1 q1 cq1) 28)))
  have Z3 := Lib.hid (Z2.out.step hb3')
  have B3 : Hid ((w3.alloc (.cells (sC s1 p1 cp1 q1 cq1) 28)).heap[w3.heap.size]? = some (.cells (sC s1 p1 cp1 q1 cq1) 28 (0, 0))) := Lib.hid (heap_alloc_new w3 _)
  clear hy1 hy2 at1 hb3 hb3' K2 K1 K0
  go_wp2_with fail
  refine (bytes_read t s1 p1 cp1 q1 cq1 _ HE.out A3.out F1.out Z3.out).mono ?_
  rintro e w4 ⟨rfl, hb4⟩
  have K4 := K3.step hb4
  have A4 := Lib.hid (A3.out.step hb4)
  have B4 := Lib.hid ((hb4.block w3.heap.size (lt_of_block B3.out)).trans B3.out)
  have hx4 := blk_cell B4.out
  clear hb4 K3
  go_wp2_with fail
  refine (check_any s1.c _ F1.out.c).mono ?_
  rintro e w5 ⟨rfl, hb5⟩
  have K5 := K4.step hb5
  have A5 := Lib.hid (A4.out.step hb5)
  have B5 := Lib.hid ((hb5.block w3.heap.size (lt_of_block B4.out)).trans B4.out)
  have hx5 := blk_cell B5.out
  clear hb5 K4 hx4
  go_wp2
  clear hx5 h0 hnb
  go_loopw [59] (fun i wr => ∃ k : Nat, k ≤ s1.ps.length ∧ i = .int .i64 k ∧ Kp w (sC s p cp q cq) wr ∧ Hid (ScAt wr s1 p1 q1) ∧ Hid (wr.heap[w3.heap.size]? = some (.cells (sC s1 p1 cp1 q1 cq1) 28 (0, 0)))) (fun i _ => s1.ps.length - (intOf i).toNat)
  case atStart => exact ⟨0, Nat.zero_le _, rfl, K5, A5, B5⟩
  case round =>
    obtain ⟨k, hk, rfl, KP, AP, BP⟩ := hrel
    by_cases hlt : k < s1.ps.length
    · obtain ⟨g, off, u, rfl, hg, hcu, hou⟩ := AP.out.ps k hlt
      have hl := F1.out.l k hlt
      obtain ⟨pa, cap, rfl⟩ := hou.form
      have HO := Lib.hid hou
      have HFT := Lib.hid (HMA.out k hlt)
      have hxp := blk_cell BP.out
      clear hou
      generalize s1.ps.getD k [] = l at *
      go_wp2_with (go_at_call 13; refine (fits_any s1.c l _ _ F1.out.c HO.out hl).mono ?_; rintro e w6 ⟨rfl, hb6⟩; rw [HFT.out])
      have K6 := KP.step hb6
      have A6 := Lib.hid (AP.out.step hb6)
      have B6 := Lib.hid ((hb6.block w3.heap.size (lt_of_block BP.out)).trans BP.out)
      clear hb6
      go_roundw
      case rel => exact ⟨k + 1, by omega, by go_num, K6, A6, B6⟩
      case measure => simp [intOf]; omega
    · have hxp := blk_cell BP.out
      have KS := Lib.hid (HS.out.step KP.2.2)
      have KZ := Lib.hid (HZ.out.step KP.2.2)
      have hcp := KP.1
      go_wp2_with fail
      refine (bytes_script s p cp q cq _ KS.out FF.out KZ.out.tab KZ.out.lt KZ.out.pow).mono ?_
      rintro e wa ⟨rfl, hba⟩
      rw [HN.out]
      go_wp2
      go_ret
      exact ⟨rfl, bstep KP.2.2 hba⟩

set_option maxRecDepth 100000 in
set_option maxHeartbeats 4000000 in
theorem sback_ok_yes (t : ByteArray) (s : Scr) (p : Option Addr) (cp : Nat) (q : Option Addr) (cq : Nat) (w : World) (hS : Std w) (ht : t.size ≤ 9223372036854775807) (hs : ScAt w s p q) (hf : Big s) (h3 : ¬ 3000 < t.size) (hlg : ¬ 3000 < tot s) (s1 : Scr) (hE : rdM t.data.toList = .ok s1) (hm : mayS s = true) :
    Calls Tryd.prog 4 #[.string t, sv s p cp q cq] w fun e w' => e = .returned (.bool true) ∧ Below w.heap.size w w' := by
  have HF := Lib.hid hf
  have HS := Lib.hid hs
  have HZ := Lib.hid hS
  have K0 := Kp.box w (sC s p cp q cq) 28
  clear hs hf hS
  have hlb : decide (3000 < tot s) = false := by simpa using hlg
  have HLB := Lib.hid hlb
  have FF := Lib.hid (HF.out.fine hlg)
  clear hlb hlg
  have F1 := Lib.hid (rd_fine hE (by have e : t.data.toList.length = t.size := rfl; omega))
  have hp1 := F1.out.ps
  have hma := (bts_rd hE).2
  have HMA := Lib.hid (may_at hma).1
  have h0 := chk_ok s1.c (may_parts hma).1
  have hnb : ((s1.ps.length : Int) != s1.c.co) = false := by simp [(may_parts hma).2.1]
  have HE := Lib.hid hE
  clear hE hma
  have HY : Hid (bts s = (btsM s, 0)) := Lib.hid (by unfold bts; rw [if_pos hm])
  have HRD : Hid (rdM (ByteArray.mk (btsM s).toArray).data.toList = .ok s) := Lib.hid (by simpa using rd_bts hm)
  have HSZ : Hid ((ByteArray.mk (btsM s).toArray).size ≤ 100000000) := Lib.hid (bts_size FF.out hm)
  clear hm
  go_enter Tryd.func4, Tryd.ntmps4
  go_wp2_with fail
  refine (awake4_any _ (HZ.out.step K0.2.2)).mono ?_
  rintro e w1 ⟨rfl, hb1⟩
  have K1 := K0.step hb1
  clear hb1
  have S1 := Lib.hid (HS.out.step K1.2.2)
  have hc1 := K1.1
  go_wp2_with fail
  refine (large_any s p cp q cq _ S1.out HF.out).mono ?_
  rintro e w2 ⟨rfl, hb2⟩
  rw [HLB.out]
  have K2 := K1.step hb2
  clear hb2 hc1
  have Z2 := Lib.hid (HZ.out.step K2.2.2)
  go_wp2_with fail
  refine (read_script t _ (by omega)).mono ?_
  rintro e w3 ⟨hb3, h3⟩
  rw [HE.out] at h3
  obtain ⟨pv, qv, rfl, hy1, hy2⟩ := h3
  obtain ⟨p1, cp1, q1, cq1, rfl, rfl, at1⟩ := own_at hy1 hy2
  have hb3' := bstep hb3 ((Below.refl _ w3).alloc (Nat.le_refl _) (.cells (sC s1 p1 cp1 q1 cq1) 28))
  have K3 := K2.step hb3'
  have A3 := Lib.hid (at1.step ((Below.refl _ w3).alloc (Nat.le_refl _) (.cells (sC s1 p1 cp1 q1 cq1) 28)))
  have Z3 := Lib.hid (Z2.out.step hb3')
  have B3 : Hid ((w3.alloc (.cells (sC s1 p1 cp1 q1 cq1) 28)).heap[w3.heap.size]? = some (.cells (sC s1 p1 cp1 q1 cq1) 28 (0, 0))) := Lib.hid (heap_alloc_new w3 _)
  clear hy1 hy2 at1 hb3 hb3' K2 K1 K0
  go_wp2_with fail
  refine (bytes_read t s1 p1 cp1 q1 cq1 _ HE.out A3.out F1.out Z3.out).mono ?_
  rintro e w4 ⟨rfl, hb4⟩
  have K4 := K3.step hb4
  have A4 := Lib.hid (A3.out.step hb4)
  have B4 := Lib.hid ((hb4.block w3.heap.size (lt_of_block B3.out)).trans B3.out)
  have hx4 := blk_cell B4.out
  clear hb4 K3
  go_wp2_with fail
  refine (check_any s1.c _ F1.out.c).mono ?_
  rintro e w5 ⟨rfl, hb5⟩
  have K5 := K4.step hb5
  have A5 := Lib.hid (A4.out.step hb5)
  have B5 := Lib.hid ((hb5.block w3.heap.size (lt_of_block B4.out)).trans B4.out)
  have hx5 := blk_cell B5.out
  clear hb5 K4 hx4
  go_wp2
  clear hx5 h0 hnb
  go_loopw [59] (fun i wr => ∃ k : Nat, k ≤ s1.ps.length ∧ i = .int .i64 k ∧ Kp w (sC s p cp q cq) wr ∧ Hid (ScAt wr s1 p1 q1) ∧ Hid (wr.heap[w3.heap.size]? = some (.cells (sC s1 p1 cp1 q1 cq1) 28 (0, 0)))) (fun i _ => s1.ps.length - (intOf i).toNat)
  case atStart => exact ⟨0, Nat.zero_le _, rfl, K5, A5, B5⟩
  case round =>
    obtain ⟨k, hk, rfl, KP, AP, BP⟩ := hrel
    by_cases hlt : k < s1.ps.length
    · obtain ⟨g, off, u, rfl, hg, hcu, hou⟩ := AP.out.ps k hlt
      have hl := F1.out.l k hlt
      obtain ⟨pa, cap, rfl⟩ := hou.form
      have HO := Lib.hid hou
      have HFT := Lib.hid (HMA.out k hlt)
      have hxp := blk_cell BP.out
      clear hou
      generalize s1.ps.getD k [] = l at *
      go_wp2_with (go_at_call 13; refine (fits_any s1.c l _ _ F1.out.c HO.out hl).mono ?_; rintro e w6 ⟨rfl, hb6⟩; rw [HFT.out])
      have K6 := KP.step hb6
      have A6 := Lib.hid (AP.out.step hb6)
      have B6 := Lib.hid ((hb6.block w3.heap.size (lt_of_block BP.out)).trans BP.out)
      clear hb6
      go_roundw
      case rel => exact ⟨k + 1, by omega, by go_num, K6, A6, B6⟩
      case measure => simp [intOf]; omega
    · have hxp := blk_cell BP.out
      have KS := Lib.hid (HS.out.step KP.2.2)
      have KZ := Lib.hid (HZ.out.step KP.2.2)
      have hcp := KP.1
      go_wp2_with fail
      refine (bytes_script s p cp q cq _ KS.out FF.out KZ.out.tab KZ.out.lt KZ.out.pow).mono ?_
      rintro e wa ⟨rfl, hba⟩
      rw [HY.out]
      have Ka := KP.step hba
      clear hba hcp
      go_wp2_with fail
      refine (read_script ⟨(btsM s).toArray⟩ _ HSZ.out).mono ?_
      rintro e wb ⟨hbb, hyb⟩
      rw [HRD.out] at hyb
      obtain ⟨pv, qv, rfl, hy1, hy2⟩ := hyb
      obtain ⟨p2, cp2, q2, cq2, rfl, rfl, at2⟩ := own_at hy1 hy2
      have Kb := Ka.step hbb
      have hbc : Below wb.heap.size wb (wb.alloc (.cells (sC s p2 cp2 q2 cq2) 28)).drew := ((Below.refl _ wb).alloc (Nat.le_refl _) _).drew
      have Kc := Lib.hid (Kb.step hbc)
      have AY : Hid (ScAt (wb.alloc (.cells (sC s p2 cp2 q2 cq2) 28)).drew s p2 q2) := Lib.hid (at2.step hbc)
      have AS : Hid (ScAt (wb.alloc (.cells (sC s p2 cp2 q2 cq2) 28)).drew s p q) := Lib.hid (HS.out.step Kc.out.2.2)
      have BY : Hid ((wb.alloc (.cells (sC s p2 cp2 q2 cq2) 28)).drew.heap[wb.heap.size]? = some (.cells (sC s p2 cp2 q2 cq2) 28 (0, 0))) := Lib.hid (heap_alloc_new wb _)
      clear hy1 hy2 at2 hbb hbc Ka Kb KP
      have tok1 : True := trivial
      go_wp2
      go_region_held3 (fun w' => (∀ o, w'.cell? ⟨w.heap.size, o, none⟩ = (sC s p cp q cq)[o]?) ∧ (∀ o, w'.cell? ⟨wb.heap.size, o, none⟩ = (sC s p2 cp2 q2 cq2)[o]?)) (first | exact ⟨K8.out.1, blk_cell B8.out⟩ | exact ⟨K7.out.1, blk_cell B7.out⟩ | exact ⟨K6.out.1, blk_cell B6.out⟩ | exact ⟨Kc.out.1, blk_cell BY.out⟩)
        (first
          | (go_at_call 10; have _t := tok1; clear _t tok1; refine (own_any s p2 cp2 q2 cq2 _ AY.out FF.out).mono ?_; rintro e w6 ⟨q6, c6, rfl, s6, hb6⟩; have K6 := Lib.hid (Kc.out.step hb6); have B6 := Lib.hid ((hb6.block wb.heap.size (lt_of_block BY.out)).trans BY.out); have S6 := Lib.hid s6; have AS6 := Lib.hid (AS.out.step hb6); clear s6 hb6)
          | (go_at_call 10; refine (own_any s p cp q cq _ AS6.out FF.out).mono ?_; rintro e w7 ⟨q7, c7, rfl, s7, hb7⟩; have K7 := Lib.hid (K6.out.step hb7); have B7 := Lib.hid ((hb7.block wb.heap.size (lt_of_block B6.out)).trans B6.out); have S7 := Lib.hid s7; have S67 := Lib.hid (S6.out.step hb7); clear s7 hb7)
          | (go_at_call 14; refine (same_any s p2 cp2 q6 c6 p cp q7 c7 _ S67.out S7.out FF.out).mono ?_; rintro e w8 ⟨rfl, hb8⟩; have K8 := Lib.hid (K7.out.step hb8); have B8 := Lib.hid ((hb8.block wb.heap.size (lt_of_block B7.out)).trans B7.out); clear hb8))
      go_wp2
      go_ret
      exact ⟨rfl, K8.out.2.2⟩

/-- ScriptBack. -/
theorem sback_any (t : ByteArray) (s : Scr) (p : Option Addr) (cp : Nat) (q : Option Addr) (cq : Nat) (w : World) (hS : Std w) (ht : t.size ≤ 9223372036854775807) (hs : ScAt w s p q) (hf : Big s) :
    Calls Tryd.prog 4 #[.string t, sv s p cp q cq] w fun e w' => e = .returned (.bool true) ∧ Below w.heap.size w w' := by
  by_cases h3 : 3000 < t.size
  · exact sback_long t s p cp q cq w hS ht hs hf h3
  · by_cases hlg : 3000 < tot s
    · exact sback_large t s p cp q cq w hS ht hs hf h3 hlg
    · cases hE : rdM t.data.toList with
      | error x =>
        rcases Bool.eq_false_or_eq_true (mayS s) with hm | hm
        · exact sback_err_yes t s p cp q cq w hS ht hs hf h3 hlg x hE hm
        · exact sback_err_no t s p cp q cq w hS ht hs hf h3 hlg x hE hm
      | ok s1 =>
        rcases Bool.eq_false_or_eq_true (mayS s) with hm | hm
        · exact sback_ok_yes t s p cp q cq w hS ht hs hf h3 hlg s1 hE hm
        · exact sback_ok_no t s p cp q cq w hS ht hs hf h3 hlg s1 hE hm

end Go.Proofs.YtjnbpohjdgnknaaDoor
