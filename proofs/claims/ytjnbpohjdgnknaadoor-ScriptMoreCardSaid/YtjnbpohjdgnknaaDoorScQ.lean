/-
  What Bytes does, the document's.
-/
import Derived.Test.YtjnbpohjdgnknaaDoorScP
import Derived.Lib.QuietBelow
import Derived.BigQuiet
import Derived.Lib.SmallJoins
namespace Go.Proofs.YtjnbpohjdgnknaaDoor
open Go Go.RowKit Go.Sort

theorem cnt_one {n : Nat} (h : n < 128) : cntB n = [u8 (n : Int)] := by
  unfold cntB
  rw [if_pos h]
  rfl
theorem cnt_two {n : Nat} (h : ¬ n < 128) : cntB n = [u8 (128 + (n : Int) / 128)] ++ [u8 ((n : Int) % 128)] := by
  unfold cntB u8
  rw [if_neg h, show (128 + (n : Int) / 128).toNat = 128 + n / 128 by omega, show ((n : Int) % 128).toNat = n % 128 by omega]
  rfl

set_option maxRecDepth 100000 in
set_option maxHeartbeats 4000000 in
theorem refBytes_yes (s : Scr) (p : Option Addr) (cp : Nat) (q : Option Addr) (cq : Nat) (w : World) (hs : ScAt w s p q) (hf : Fine s) (hm : mayS s = true) :
    Calls Tryd.prog 9 #[sv s p cp q cq] w (RetS w (bts s).1 (bts s).2) := by
  have HE : Hid (bts s = (btsM s, 0)) := Lib.hid (by unfold bts; rw [if_pos hm])
  have HF := Lib.hid hf
  have HS := Lib.hid hs
  have HM := Lib.hid hm
  have HMA := Lib.hid (may_at hm)
  have HMP := Lib.hid (may_parts hm)
  have K0 := Kp.box w (sC s p cp q cq) 37
  have HS0 := Lib.hid (hs.step K0.2.2)
  obtain ⟨g0, g1, g2, g3, g4, g5, g6, g7, g8, g9, g10, g11, g12⟩ := ok_bytes HMP.out.1
  have hlp := hf.ps
  have hlk := hf.pk
  clear hs hf hm
  go_enter Tryd.func9, Tryd.ntmps9
  go_wp2_with fail
  refine (refMay_script s p cp q cq _ HS0.out HF.out).mono ?_
  rintro e w1 ⟨rfl, hb1⟩
  rw [HM.out]
  have K1 := K0.step hb1
  have hc1 := K1.1
  clear hb1
  go_wp2
  clear hc1
  have K2 := K1.step ((Below.refl _ w1).alloc (Nat.le_refl _) (.cells (cL s.c) 24))
  have hcc : ∀ o d os, (grow (redrawn (w1.alloc (.cells (cL s.c) 24)) d) os).cell? ⟨w1.heap.size, o, none⟩ = (cL s.c)[o]? := fun o d os =>
    ((below_regrown (w1.alloc (.cells (cL s.c) 24)) d os).cell (p := ⟨w1.heap.size, o, none⟩) (by simp)).trans (World.cell?_alloc_mark w1 _ 24 (0, 0) o)
  refine wp_region_quiet_below (by kernel_rfl) (by kernel_rfl) ?_
  repeat (go_big_quiet_step (first
    | (go_at_call 18; exact Calls.regrown_of (one_any _ _ (by omega) (by omega)))
    | (go_at_call 19; exact Calls.regrown_of (bits_any _ _))))
  refine wpQuiet_nil ?_
  intro w2 hw2
  have hb2 : Below (w1.alloc (.cells (cL s.c) 24)).heap.size (w1.alloc (.cells (cL s.c) 24)) w2 := by
    obtain ⟨pp, rfl⟩ := hw2
    exact below_regrown _ _ _
  have K3 := K2.step hb2
  have HB0 : Hid ((ByteArray.mk #[u8 s.c.co] ++ ByteArray.mk #[u8 (lg s.c.ho)] ++ ByteArray.mk #[u8 (lg s.c.se)] ++ ByteArray.mk #[u8 s.c.wa] ++ ByteArray.mk #[u8 (lg s.c.wo)] ++ ByteArray.mk #[u8 (lg s.c.li)] ++ ByteArray.mk #[u8 s.c.po] ++ ByteArray.mk #[u8 s.c.ms] ++ ByteArray.mk #[u8 s.c.bu] ++ ByteArray.mk #[u8 s.c.wb] ++ ByteArray.mk #[u8 s.c.r0] ++ ByteArray.mk #[u8 s.c.r1] ++ ByteArray.mk #[u8 s.c.r2]).data.toList = sizesB s.c) := Lib.hid (by simp only [Joins.data_append]; rfl)
  clear hw2 hb2 hcc K2 K1 K0
  generalize (ByteArray.mk #[u8 s.c.co] ++ ByteArray.mk #[u8 (lg s.c.ho)] ++ ByteArray.mk #[u8 (lg s.c.se)] ++ ByteArray.mk #[u8 s.c.wa] ++ ByteArray.mk #[u8 (lg s.c.wo)] ++ ByteArray.mk #[u8 (lg s.c.li)] ++ ByteArray.mk #[u8 s.c.po] ++ ByteArray.mk #[u8 s.c.ms] ++ ByteArray.mk #[u8 s.c.bu] ++ ByteArray.mk #[u8 s.c.wb] ++ ByteArray.mk #[u8 s.c.r0] ++ ByteArray.mk #[u8 s.c.r1] ++ ByteArray.mk #[u8 s.c.r2]) = b0 at *
  go_wp2
  go_loopw [5, 6] (fun t i wr => ∃ (k : Nat) (b : ByteArray), k ≤ s.ps.length ∧ i = .int .i64 k ∧ t = .string b ∧ Hid (b.data.toList = sizesB s.c ++ (s.ps.take k).flatMap progB) ∧ Kp w (sC s p cp q cq) wr) (fun _ i _ => s.ps.length - (intOf i).toNat)
  case atStart => exact ⟨0, b0, Nat.zero_le _, rfl, rfl, Lib.hid (by rw [HB0.out]; simp), K3⟩
  case round =>
    obtain ⟨k, b, hk, rfl, rfl, HX, K4⟩ := hrel
    have hc4 := K4.1
    by_cases hlt : k < s.ps.length
    · obtain ⟨g, off, u, rfl, hg, hcu, hou⟩ := (HS.out.ps.step K4.2.2) k hlt
      obtain ⟨pa, cap, rfl⟩ := hou.form
      have HO := Lib.hid hou
      have hfit := HMA.out.1 k hlt
      have hn := (prs_text hfit).2
      obtain ⟨h64, hmm, _⟩ := fits_parts hfit
      have HPR : Hid (prt (s.ps.getD k []) = (text (s.ps.getD k []), 0)) := Lib.hid (by unfold prt; rw [if_neg (by omega), if_pos (List.all_eq_true.2 hmm)])
      have HTK : Hid ((sizesB s.c ++ (s.ps.take k).flatMap progB) ++ progB (s.ps.getD k []) = sizesB s.c ++ (s.ps.take (k + 1)).flatMap progB) := Lib.hid (by rw [takeL_more s.ps k hlt, List.append_assoc])
      have hbl : b.size ≤ 80000000 := by
        have h1 := progs_len (c := s.c) (s.ps.take k) (fun l hl => HMP.out.2.2.1 l (List.mem_of_mem_take hl))
        have h2 : (s.ps.take k).length ≤ k := List.length_take_le _ _
        have h3 := congrArg List.length HX.out
        rw [List.length_append, sizes_len] at h3
        have h4 : b.data.toList.length = b.size := rfl
        omega
      clear hou hfit hmm
      generalize s.ps.getD k [] = l at *
      generalize sizesB s.c ++ (s.ps.take k).flatMap progB = bs at *
      go_wp2_with fail
      refine (refPrint_any l _ _ HO.out (by omega)).mono ?_
      rintro e w5 ⟨rfl, hb5⟩
      rw [HPR.out]
      have K5 := K4.step hb5
      have hsz : (ByteArray.mk (text l).toArray).size = (text l).length := by simp [ByteArray.size]
      have HT : Hid ((ByteArray.mk (text l).toArray).data.toList = text l) := Lib.hid (by simp)
      have HP : Hid (progB l = cntB (ByteArray.mk (text l).toArray).size ++ text l) := Lib.hid (by rw [hsz]; rfl)
      have hn2 : (ByteArray.mk (text l).toArray).size ≤ 1152 := by rw [hsz]; exact hn
      clear hsz hb5 hc4 hcu
      simp only
      generalize (ByteArray.mk (text l).toArray) = T at *
      by_cases hs : T.size < 128
      · have HC := Lib.hid (cnt_one hs)
        go_wp2_with (go_at_call 18; refine (one_any _ _ (by omega) (by omega)).mono ?_; rintro e w6 ⟨rfl, hb6⟩)
        have K6 := K5.step hb6
        clear hb6
        go_roundw
        case rel => exact ⟨k + 1, _, by omega, by go_num, rfl, Lib.hid (by rw [← HTK.out, HP.out, HC.out]; simp only [Joins.data_append]; rw [HX.out, HT.out]; simp), K6⟩
        case measure => simp [intOf]; omega
      · have HC := Lib.hid (cnt_two hs)
        go_wp2_with (go_at_call 18; refine (one_any _ _ (by omega) (by omega)).mono ?_; rintro e w6 ⟨rfl, hb6⟩; have K5 := K5.step hb6; clear hb6)
        go_roundw
        case rel => exact ⟨k + 1, _, by omega, by go_num, rfl, Lib.hid (by rw [← HTK.out, HP.out, HC.out]; simp only [Joins.data_append]; rw [HX.out, HT.out]; simp), K5⟩
        case measure => simp [intOf]; omega
    · have HX2 : Hid (b.data.toList = sizesB s.c ++ s.ps.flatMap progB) := Lib.hid (by
        have e := HX.out
        rwa [List.take_of_length_le (by omega)] at e)
      have HLB : Hid ((sizesB s.c ++ s.ps.flatMap progB).length ≤ 6000000) := Lib.hid (by
        have h1 := progs_len (c := s.c) s.ps HMP.out.2.2.1
        rw [List.length_append, sizes_len]
        omega)
      have HBT : Hid (btsM s = (sizesB s.c ++ s.ps.flatMap progB) ++ s.pk.flatMap pickL) := Lib.hid (by unfold btsM; rw [List.append_assoc])
      clear HX
      generalize sizesB s.c ++ s.ps.flatMap progB = bs0 at *
      go_wp2
      clear hc4
      go_loopw [5, 9] (fun t i wr => ∃ (k : Nat) (b : ByteArray), k ≤ s.pk.length ∧ i = .int .i64 k ∧ t = .string b ∧ Hid (b.data.toList = bs0 ++ (s.pk.take k).flatMap pickL) ∧ Kp w (sC s p cp q cq) wr) (fun _ i _ => s.pk.length - (intOf i).toNat)
      case atStart => exact ⟨0, b, Nat.zero_le _, rfl, rfl, Lib.hid (by rw [HX2.out]; simp), K4⟩
      case round =>
        obtain ⟨m, b', hm, rfl, rfl, HX, K5⟩ := hrel
        have hc5 := K5.1
        by_cases hlm : m < s.pk.length
        · obtain ⟨g, off, rfl, hg, c0', c1, c2⟩ := (HS.out.pk.step K5.2.2) m hlm
          obtain ⟨⟨x1, x2⟩, ⟨x3, x4⟩, x5, x6⟩ := pick_in (HMA.out.2 m hlm)
          have HTK : Hid ((bs0 ++ (s.pk.take m).flatMap pickL) ++ pickL (s.pk.getD m ⟨0, 0, 0⟩) = bs0 ++ (s.pk.take (m + 1)).flatMap pickL) := Lib.hid (by rw [takeP_more s.pk m hlm, List.append_assoc])
          have hbl : b'.size ≤ 80000000 := by
            have h2 : (s.pk.take m).length ≤ m := List.length_take_le _ _
            have h3 := HLB.out
            have h4 := congrArg List.length HX.out
            rw [List.length_append, picks_flat] at h4
            have h5 : b'.data.toList.length = b'.size := rfl
            omega
          have e0 : ∀ d os, (grow (redrawn wr d) os).cell? ⟨g, off + m * 3, none⟩ = some (.int .i64 (s.pk.getD m ⟨0, 0, 0⟩).k) := fun d os => cell_regrown c0' d os
          have e1 : ∀ d os, (grow (redrawn wr d) os).cell? ⟨g, off + m * 3 + 1, none⟩ = some (.int .i64 (s.pk.getD m ⟨0, 0, 0⟩).a) := fun d os => cell_regrown c1 d os
          have e2 : ∀ d os, (grow (redrawn wr d) os).cell? ⟨g, off + m * 3 + 2, none⟩ = some (.int .i64 (s.pk.getD m ⟨0, 0, 0⟩).v) := fun d os => cell_regrown c2 d os
          have e3 : ∀ d os, (grow (redrawn wr d) os).cell? ⟨w.heap.size, 14, none⟩ = some (.slice (some ⟨g, off, none⟩) s.pk.length cq) := fun d os => cell_regrown ((hc5 14).trans rfl) d os
          generalize s.pk.getD m ⟨0, 0, 0⟩ = x at *
          generalize bs0 ++ (s.pk.take m).flatMap pickL = bs at *
          go_wp2
          clear hc5 c0' c1 c2
          refine wp_region_quiet_below (by kernel_rfl) (by kernel_rfl) ?_
          repeat (go_big_quiet_step (first
            | (go_at_call 18; exact Calls.regrown_of (one_any _ _ (by omega) (by omega)))))
          refine wpQuiet_nil ?_
          intro w6 hw6
          have hb6 : Below wr.heap.size wr w6 := by
            obtain ⟨pp, rfl⟩ := hw6
            exact below_regrown _ _ _
          have K6 := K5.step hb6
          clear hw6 hb6 e0 e1 e2 e3
          go_wp2
          go_roundw
          case rel => exact ⟨m + 1, _, by omega, by go_num, rfl, Lib.hid (by rw [← HTK.out]; simp only [Joins.data_append]; rw [HX.out]; simp [pickL]), K6⟩
          case measure => simp [intOf]; omega
        · have HF2 : Hid (b'.data.toList = btsM s) := Lib.hid (by
            have e := HX.out
            rw [List.take_of_length_le (by omega)] at e
            rw [HBT.out]
            exact e)
          go_wp2
          go_ret2
          exact ⟨by rw [HE.out, ← HF2.out]; rfl, K5.2.2⟩

end Go.Proofs.YtjnbpohjdgnknaaDoor
