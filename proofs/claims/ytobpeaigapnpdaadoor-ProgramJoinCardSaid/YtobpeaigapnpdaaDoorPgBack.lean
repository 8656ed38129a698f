/-
  The walk of ProgramBack: whatever program and text it is given, it returns true, and writes nothing that was there.
-/
import Derived.Test.YtobpeaigapnpdaaDoorPgReads
namespace Go.Proofs.YtobpeaigapnpdaaDoor
open Go Go.RowKit

theorem prt_ok {l : List Op} (h : (prt l).2 = 0) : prt l = (text l, 0) ∧ l.length ≤ 64 ∧ l.all mayB = true := by
  unfold prt at *
  split at h
  · simp at h
  · rename_i h64
    split at h
    · rename_i hm
      refine ⟨?_, by omega, hm⟩
      rw [if_neg h64, if_pos hm]
    · simp at h
theorem prs_text {l : List Op} (h64 : l.length ≤ 64) (hm : l.all mayB = true) : prs (text l) = (l, 0) := by
  have hm' : ∀ x ∈ l, mayB x = true := List.all_eq_true.1 hm
  have := text_len l hm'
  unfold prs
  rw [if_neg (by omega), read_text l hm']
  simp [show ¬ 64 < l.length by omega]
theorem prs_ok {s : List UInt8} (h : (prs s).2 = 0) : text (prs s).1 = s ∧ (prs s).1.all mayB = true ∧ (prs s).1.length ≤ 64 := by
  have hl := prs_len s
  revert h hl
  unfold prs
  split
  · intro h; simp at h
  · split
    · intro h; simp at h
    · rename_i l hr
      split
      · intro h; simp at h
      · intro _ hl
        have := text_read hr
        exact ⟨this.1, List.all_eq_true.2 this.2, hl⟩
theorem prs_err {s : List UInt8} (h : ¬ (prs s).2 = 0) : (prs s).1 = [] := by
  revert h
  unfold prs
  split
  · intro _; rfl
  · split
    · intro _; rfl
    · split
      · intro _; rfl
      · intro h; exact absurd rfl h
theorem prt_of_prs {s : List UInt8} (h : (prs s).2 = 0) : prt (prs s).1 = (s, 0) := by
  obtain ⟨h1, h2, h3⟩ := prs_ok h
  unfold prt
  rw [if_neg (by omega), if_pos h2, h1]

set_option maxRecDepth 100000 in
set_option maxHeartbeats 4000000 in
theorem back_ok (l : List Op) (v : Value) (s : ByteArray) (w : World) (hT : Pow w.heap.size w) (hs : s.size ≤ 5000) (hv : OpsAt w v l) (hl : l.length ≤ 200) (hp : (prt l).2 = 0) :
    Calls Tryd.prog 5 #[v, .string s] w fun e w' => e = .returned (.bool true) ∧ Below w.heap.size w w' := by
  have HT := Lib.hid hT
  have HV := Lib.hid hv
  obtain ⟨h1, h2, h3⟩ := prt_ok hp
  have HP := Lib.hid h1
  have HQ := Lib.hid (prs_text h2 h3)
  have hx := text_len l (List.all_eq_true.1 h3)
  obtain ⟨p0, cap0, rfl, -⟩ := hv.in_
  clear hT hv hp h1 h3
  have hs : s.size ≤ 9223372036854775807 := by omega
  go_enter Tryd.func5, Tryd.ntmps5
  go_wp2_with fail
  refine (awake3_any _ HT.out).mono ?_
  rintro e w1 ⟨rfl, b1⟩
  go_wp2_with fail
  refine (print_any l _ _ (HV.out.step b1) (by omega) (pow_at HT.out b1)).mono ?_
  rw [HP.out]
  rintro e w2 ⟨rfl, hb2⟩
  have b2 := bstep b1 hb2
  clear hb2 b1
  go_wp2_with fail
  refine (parse_any ⟨(text l).toArray⟩ _ (by show (text l).length ≤ _; omega)).mono ?_
  rw [show prs (⟨(text l).toArray⟩ : ByteArray).data.toList = (l, 0) from HQ.out]
  rintro e w3 ⟨v3, rfl, o3, hb3⟩
  have b3 := bstep b2 hb3
  clear hb3 b2
  go_wp2_with fail
  refine (sameOps_any l _ _ _ (HV.out.step b3) o3 (by omega)).mono ?_
  rintro e w4 ⟨rfl, hb4⟩
  have bQ := bstep b3 hb4
  clear hb4 b3 o3 HP HQ hx
  go_wp2_with fail
  refine (parse_any s _ hs).mono ?_
  rintro e wP ⟨vP, rfl, oP, hbP⟩
  have bP := bstep bQ hbP
  clear hbP bQ
  by_cases hz : (prs s.data.toList).2 = 0
  · have hb := prs_ok hz
    have HB := Lib.hid (prt_of_prs hz)
    have HA := Lib.hid hb.2.1
    have hl64 := hb.2.2
    rw [hz]
    clear hb hz
    generalize hm : (prs s.data.toList).1 = m at *
    have HM := Lib.hid hm
    clear hm
    have HO := Lib.hid oP
    obtain ⟨p, cp, rfl, hin⟩ := oP.in_
    have HI := Lib.hid hin
    clear oP hin
    go_wp2
    go_loopw [57] (fun i wr => ∃ k : Nat, k ≤ m.length ∧ i = .int .i64 k ∧ Below wP.heap.size wP wr) (fun i _ => m.length - (intOf i).toNat)
    case atStart => exact ⟨0, Nat.zero_le _, rfl, Below.refl _ _⟩
    case round =>
      obtain ⟨k, hk, rfl, hbr⟩ := hrel
      by_cases hlt : k < m.length
      · obtain ⟨g, off, rfl, hg, c0, c1, c2⟩ := (HI.out.step hbr) k hlt
        have HMx := Lib.hid (mayK_of HA.out k hlt)
        generalize m.getD k ⟨0, 0, 0⟩ = x at *
        go_wp2_with (go_at_call 13; refine (may_any x _).mono ?_; rintro e w1 ⟨rfl, hb1⟩; rw [HMx.out])
        go_roundw
        case rel => exact ⟨k + 1, by omega, by go_num, hbr.trans ((bbox hb1).mono hbr.size)⟩
        case measure => simp [intOf]; omega
      · go_wp2_with fail
        refine (print_any m _ _ (HO.out.step hbr) (by omega) (pow_at HT.out (bstep bP hbr))).mono ?_
        rw [HB.out]
        rintro e wF ⟨rfl, hbF⟩
        go_wp2
        go_ret
        exact ⟨ret_bool (by simp), bstep (bstep bP hbr) hbF⟩
  · have hb := prs_err hz
    have hz' : ((prs s.data.toList).2 != 0) = true := by simpa using hz
    rw [hb] at oP
    obtain ⟨p, cp, rfl, -⟩ := oP.in_
    clear hb hz oP
    generalize (prs s.data.toList).2 = n at *
    go_wp2
    go_ret
    exact ⟨by simp, bP⟩

set_option maxRecDepth 100000 in
set_option maxHeartbeats 4000000 in
theorem back_err (l : List Op) (v : Value) (s : ByteArray) (w : World) (hT : Pow w.heap.size w) (hs : s.size ≤ 5000) (hv : OpsAt w v l) (hl : l.length ≤ 200) (hp : ((prt l).2 == 0) = false) :
    Calls Tryd.prog 5 #[v, .string s] w fun e w' => e = .returned (.bool true) ∧ Below w.heap.size w w' := by
  have HT := Lib.hid hT
  have HV := Lib.hid hv
  obtain ⟨p0, cap0, rfl, -⟩ := hv.in_
  clear hT hv
  have hs : s.size ≤ 9223372036854775807 := by omega
  go_enter Tryd.func5, Tryd.ntmps5
  go_wp2_with fail
  refine (awake3_any _ HT.out).mono ?_
  rintro e w1 ⟨rfl, b1⟩
  go_wp2_with fail
  refine (print_any l _ _ (HV.out.step b1) (by omega) (pow_at HT.out b1)).mono ?_
  rintro e w2 ⟨rfl, hb2⟩
  have bQ := bstep b1 hb2
  clear hb2 b1
  go_wp2_with fail
  refine (parse_any s _ hs).mono ?_
  rintro e wP ⟨vP, rfl, oP, hbP⟩
  have bP := bstep bQ hbP
  clear hbP bQ
  by_cases hz : (prs s.data.toList).2 = 0
  · have hb := prs_ok hz
    have HB := Lib.hid (prt_of_prs hz)
    have HA := Lib.hid hb.2.1
    have hl64 := hb.2.2
    rw [hz]
    clear hb hz
    generalize hm : (prs s.data.toList).1 = m at *
    have HM := Lib.hid hm
    clear hm
    have HO := Lib.hid oP
    obtain ⟨p, cp, rfl, hin⟩ := oP.in_
    have HI := Lib.hid hin
    clear oP hin
    go_wp2
    go_loopw [57] (fun i wr => ∃ k : Nat, k ≤ m.length ∧ i = .int .i64 k ∧ Below wP.heap.size wP wr) (fun i _ => m.length - (intOf i).toNat)
    case atStart => exact ⟨0, Nat.zero_le _, rfl, Below.refl _ _⟩
    case round =>
      obtain ⟨k, hk, rfl, hbr⟩ := hrel
      by_cases hlt : k < m.length
      · obtain ⟨g, off, rfl, hg, c0, c1, c2⟩ := (HI.out.step hbr) k hlt
        have HMx := Lib.hid (mayK_of HA.out k hlt)
        generalize m.getD k ⟨0, 0, 0⟩ = x at *
        go_wp2_with (go_at_call 13; refine (may_any x _).mono ?_; rintro e w1 ⟨rfl, hb1⟩; rw [HMx.out])
        go_roundw
        case rel => exact ⟨k + 1, by omega, by go_num, hbr.trans ((bbox hb1).mono hbr.size)⟩
        case measure => simp [intOf]; omega
      · go_wp2_with fail
        refine (print_any m _ _ (HO.out.step hbr) (by omega) (pow_at HT.out (bstep bP hbr))).mono ?_
        rw [HB.out]
        rintro e wF ⟨rfl, hbF⟩
        go_wp2
        go_ret
        exact ⟨ret_bool (by simp), bstep (bstep bP hbr) hbF⟩
  · have hb := prs_err hz
    have hz' : ((prs s.data.toList).2 != 0) = true := by simpa using hz
    rw [hb] at oP
    obtain ⟨p, cp, rfl, -⟩ := oP.in_
    clear hb hz oP
    generalize (prs s.data.toList).2 = n at *
    go_wp2
    go_ret
    exact ⟨by simp, bP⟩

theorem back_any (l : List Op) (v : Value) (s : ByteArray) (w : World) (hT : Pow w.heap.size w) (hs : s.size ≤ 9223372036854775807) (hv : OpsAt w v l) (hl : l.length ≤ 9223372036854775807) :
    Calls Tryd.prog 5 #[v, .string s] w fun e w' => e = .returned (.bool true) ∧ Below w.heap.size w w' := by
  by_cases h : l.length ≤ 200 ∧ s.size ≤ 5000
  · by_cases hp : (prt l).2 = 0
    · exact back_ok l v s w hT h.2 hv h.1 hp
    · exact back_err l v s w hT h.2 hv h.1 (by simpa using hp)
  · have HT := Lib.hid hT
    obtain ⟨p0, cap0, rfl, -⟩ := hv.in_
    clear hT hv
    by_cases h2 : 200 < l.length
    · clear h
      go_enter Tryd.func5, Tryd.ntmps5
      go_wp2_with (go_at_call 7; refine (awake3_any _ HT.out).mono ?_; rintro e w1 ⟨rfl, b1⟩)
      go_ret
      exact ⟨rfl, b1⟩
    · have h5 : 5000 < s.size := by omega
      clear h
      go_enter Tryd.func5, Tryd.ntmps5
      go_wp2_with (go_at_call 7; refine (awake3_any _ HT.out).mono ?_; rintro e w1 ⟨rfl, b1⟩)
      go_ret
      exact ⟨rfl, b1⟩

end Go.Proofs.YtobpeaigapnpdaaDoor
