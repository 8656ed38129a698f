/-
  A home's lines, as Lines tells them.
-/
import Derived.Test.YtpknfbgnclgpmaaGreatDoorSplitL
namespace Go.Proofs.YtpknfbgnclgpmaaGreatDoor
open Go Go.RowKit

theorem lns_ok {c : Cfg} {h : Int} (hok : okC c = true) : lns c h = lnsK c.ho h c.li.toNat := by simp [lns, hok]
theorem lns_no {c : Cfg} {h : Int} (hok : okC c = false) : lns c h = [] := by simp [lns, hok]
theorem lnsK_none (s h : Int) (k : Nat) (hs : 1 ≤ s) (hh : inR h s = false) : lnsK s h k = [] := by
  unfold lnsK
  rw [List.filter_eq_nil_iff]
  intro j _ e
  have e' : j % s = h := by simpa using e
  have h0 := Int.emod_nonneg j (show s ≠ 0 by omega)
  have h1 := Int.emod_lt_of_pos j (show 0 < s by omega)
  rw [e'] at h0 h1
  simp [inR, h0, h1] at hh
theorem Row.nil_ (w : World) (B : Nat) : Row w B (.slice none 0 0) [] := .inl ⟨rfl, rfl⟩

theorem lines_any (c : Cfg) (h : Int) (w : World) (hc : c.fits) (hT : Tb w) :
    Calls Tryz.prog 67 #[cv c, .int .i64 h] w (RetRow w (lns c h)) := by
  have HC := Lib.hid hc
  have HT := Lib.hid hT
  clear hT
  have hho := fits_ho hc
  clear hc
  rcases Bool.eq_false_or_eq_true (okC c) with hok | hok
  · have h0 := chk_ok c hok
    have hp := ok_pows c hok
    have HP := Lib.hid hp.2.1.1
    have hl1 := hp.2.2.2.2.1
    have hl2 := hp.2.2.2.2.2
    have hh1 := hp.2.1.2.1
    have HL := Lib.hid (lns_ok (h := h) hok)
    clear hp hok
    rcases Bool.eq_false_or_eq_true (inR h c.ho) with hi | hi
    · obtain ⟨n, hn⟩ : ∃ n : Nat, c.li = n := ⟨c.li.toNat, by omega⟩
      have hn2 : n ≤ 1024 := by omega
      have HN := Lib.hid hn
      clear hn
      go_enter Tryz.func67, Tryz.ntmps67
      go_wp2_with (first
        | (go_at_call 65; refine (check_any c _ HC.out).mono ?_; rintro e w1 ⟨rfl, hb1⟩; have hcl := fun o => hb1.cell (p := ⟨w.heap.size, o, none⟩) (by simp); have hz1 := zbox hb1; have hbw := bbox hb1)
        | (go_at_call 107; refine (within_any _ _ _).mono ?_; rintro e w2 ⟨rfl, rfl⟩)
        | (go_at_call 108; refine (parts_any _ _ hho (HT.out.keeps hbw)).mono ?_; rintro e w3 ⟨rfl, hb3⟩; have hcl3 := fun o => hb3.cell (p := ⟨w.heap.size, o, none⟩) hz1))
      rw [HN.out]
      refine (having_any n _ _ _ hn2 HP.out).mono ?_
      rintro e w4 ⟨v, rfl, hr, hb4⟩
      have HR := Lib.hid hr
      clear hr
      go_wp2
      go_ret
      exact ⟨_, rfl, by rw [HL.out, HN.out]; exact HR.out, bstep (bstep hbw hb3) hb4⟩
    · have HE := Lib.hid (lnsK_none c.ho h c.li.toNat hh1 hi)
      go_enter Tryz.func67, Tryz.ntmps67
      go_wp2_with (first
        | (go_at_call 65; refine (check_any c _ HC.out).mono ?_; rintro e w1 ⟨rfl, hb1⟩; have hcl := fun o => hb1.cell (p := ⟨w.heap.size, o, none⟩) (by simp))
        | (go_at_call 107; refine (within_any _ _ _).mono ?_; rintro e w2 ⟨rfl, rfl⟩))
      go_ret
      exact ⟨_, rfl, by rw [HL.out, HE.out]; exact Row.nil_ _ _, bbox hb1⟩
  · have h0 := chk_no c hok
    have HL := Lib.hid (lns_no (h := h) hok)
    clear hok
    go_enter Tryz.func67, Tryz.ntmps67
    go_wp2_with (go_at_call 65; refine (check_any c _ HC.out).mono ?_; rintro e w1 ⟨rfl, hb1⟩)
    go_ret
    exact ⟨_, rfl, by rw [HL.out]; exact Row.nil_ _ _, bbox hb1⟩

theorem lns_le (c : Cfg) (h : Int) : (lns c h).length ≤ 1024 := by
  unfold lns
  split
  · rename_i hok
    have hp := ok_pows c hok
    have := lnsK_le c.ho h c.li.toNat
    omega
  · simp

end Go.Proofs.YtpknfbgnclgpmaaGreatDoor
