/-
  What the document's own answers of layer 3 are, one contract each: all, Print, digits.
-/
import Derived.Test.YtjnbpohjdgnknaaDoorPgR
namespace Go.Proofs.YtjnbpohjdgnknaaDoor
open Go Go.RowKit

theorem size_list (b : ByteArray) : b.data.toList.length = b.size := rfl

set_option maxHeartbeats 2000000 in
theorem refAll_any (l : List Op) (v : Value) (w : World) (hv : OpsAt w v l) (hl : l.length ≤ 200) (hm : l.all mayB = true) :
    Calls Tryd.prog 37 #[v] w fun e w' => e = .returned (.string ⟨(text l).toArray⟩) ∧ Below w.heap.size w w' := by
  obtain ⟨p, cap, rfl, hin⟩ := hv.in_
  have HI := Lib.hid hin
  have HM := Lib.hid hm
  clear hv hin hm
  go_enter Tryd.func37, Tryd.ntmps37
  go_wp2
  go_loopw [3, 4] (fun t i wr => ∃ (k : Nat) (b : ByteArray), k ≤ l.length ∧ i = .int .i64 k ∧ t = .string b ∧ Hid (b.data.toList = text (l.take k)) ∧ Below w.heap.size w wr) (fun _ i _ => l.length - (intOf i).toNat)
  case atStart => exact ⟨0, ⟨#[]⟩, Nat.zero_le _, rfl, rfl, Lib.hid rfl, Below.refl _ _⟩
  case round =>
    obtain ⟨k, b, hk, rfl, rfl, HX, hb⟩ := hrel
    by_cases hlt : k < l.length
    · obtain ⟨g, off, rfl, hg, c0, c1, c2⟩ := (HI.out.step hb) k hlt
      have hmx := Lib.hid (mayK_of HM.out k hlt)
      have hle := text_le l HM.out k
      rw [← HX.out, size_list] at hle
      have hlx := txt_len hmx.out
      rcases Nat.eq_zero_or_pos k with hk0 | hk0
      · have HE : Hid (text (l.take (k + 1)) = b.data.toList ++ txt (l.getD k ⟨0, 0, 0⟩)) := Lib.hid (by rw [HX.out]; subst hk0; exact text_first l hlt)
        have hk1 : k ≤ 0 := by omega
        clear hk0
        generalize l.getD k ⟨0, 0, 0⟩ = x at *
        go_wp2_with (go_at_call 48; refine (refText_any x _ hmx.out).mono ?_; rintro e w1 ⟨rfl, hb1⟩)
        have hbw := bstep hb hb1
        clear hb1
        go_roundw
        case rel => exact ⟨k + 1, _, by omega, by go_num, rfl, Lib.hid (by rw [Joins.data_append, HE.out]), hbw⟩
        case measure => simp [intOf]; omega
      · have HE := Lib.hid (text_next l k hlt hk0)
        generalize l.getD k ⟨0, 0, 0⟩ = x at *
        go_wp2_with (go_at_call 48; refine (refText_any x _ hmx.out).mono ?_; rintro e w1 ⟨rfl, hb1⟩)
        have hbw := bstep hb hb1
        clear hb1
        go_roundw
        case rel => exact ⟨k + 1, _, by omega, by go_num, rfl, Lib.hid (by rw [Joins.data_append, Joins.data_append, HE.out, HX.out]), hbw⟩
        case measure => simp [intOf]; omega
    · have HX1 : Hid (b.data.toList = text l) := Lib.hid (by
        have e := HX.out
        rwa [List.take_of_length_le (by omega)] at e)
      clear HX
      go_wp2
      go_ret
      exact ⟨congrArg Ending.returned (str_eq HX1.out), hb⟩

set_option maxHeartbeats 2000000 in
/-- Print, the document's. -/
theorem refPrint_any (l : List Op) (v : Value) (w : World) (hv : OpsAt w v l) (hl : l.length ≤ 9223372036854775807) :
    Calls Tryd.prog 20 #[v] w (RetS w (prt l).1 (prt l).2) := by
  have HV := Lib.hid hv
  obtain ⟨p, cap, rfl, hin⟩ := hv.in_
  have HI := Lib.hid hin
  clear hv hin
  by_cases h64 : 64 < l.length
  · have HE : Hid (prt l = ([], 4)) := Lib.hid (by unfold prt; rw [if_pos h64])
    go_enter Tryd.func20, Tryd.ntmps20
    go_wp2
    go_ret2
    exact ⟨by rw [HE.out]; rfl, Below.refl _ _⟩
  · go_enter Tryd.func20, Tryd.ntmps20
    go_wp2
    go_loopw [4] (fun i wr => ∃ k : Nat, k ≤ l.length ∧ i = .int .i64 k ∧ Hid (mayK l k) ∧ Below w.heap.size w wr) (fun i _ => l.length - (intOf i).toNat)
    case atStart => exact ⟨0, Nat.zero_le _, rfl, Lib.hid (fun j hj => by omega), Below.refl _ _⟩
    case round =>
      obtain ⟨k, hk, rfl, HK, hb⟩ := hrel
      by_cases hlt : k < l.length
      · obtain ⟨g, off, rfl, hg, c0, c1, c2⟩ := (HI.out.step hb) k hlt
        rcases Bool.eq_false_or_eq_true (mayB (l.getD k ⟨0, 0, 0⟩)) with hm | hm
        · have HK2 : Hid (mayK l (k + 1)) := Lib.hid (fun j hj => by
            by_cases e : j = k
            · rw [e]; exact hm
            · exact HK.out j (by omega))
          have HM := Lib.hid hm
          clear hm HK
          generalize l.getD k ⟨0, 0, 0⟩ = x at *
          go_wp2_with (go_at_call 36; refine (refMay_any x _).mono ?_; rintro e w1 ⟨rfl, hb1⟩; rw [HM.out])
          have hbw := bstep hb hb1
          clear hb1
          go_roundw
          case rel => exact ⟨k + 1, by omega, by go_num, HK2, hbw⟩
          case measure => simp [intOf]; omega
        · have HN := Lib.hid (all_no hlt hm)
          have HE : Hid (prt l = ([], 1)) := Lib.hid (by unfold prt; rw [if_neg h64, HN.out]; rfl)
          have HM := Lib.hid hm
          clear hm HK
          generalize l.getD k ⟨0, 0, 0⟩ = x at *
          go_wp2_with (go_at_call 36; refine (refMay_any x _).mono ?_; rintro e w1 ⟨rfl, hb1⟩; rw [HM.out])
          go_ret2
          exact ⟨by rw [HE.out]; rfl, bstep hb hb1⟩
      · have HN : Hid (l.all mayB = true) := Lib.hid (by
          have : k = l.length := by omega
          subst this
          exact all_of HK.out)
        have HE : Hid (prt l = (text l, 0)) := Lib.hid (by unfold prt; rw [if_neg h64, if_pos HN.out])
        go_wp2_with (go_at_call 37; refine (refAll_any l _ _ (HV.out.step hb) (by omega) HN.out).mono ?_; rintro e w1 ⟨rfl, hb1⟩)
        go_ret2
        exact ⟨by rw [HE.out]; rfl, bstep hb hb1⟩

end Go.Proofs.YtjnbpohjdgnknaaDoor
