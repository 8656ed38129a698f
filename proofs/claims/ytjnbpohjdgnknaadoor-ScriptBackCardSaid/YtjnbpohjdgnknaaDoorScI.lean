/-
  Which scripts may be, the document's answer.
-/
import Derived.Test.YtjnbpohjdgnknaaDoorScH
namespace Go.Proofs.YtjnbpohjdgnknaaDoor
open Go Go.RowKit

theorem pick_ways {x : Op} (h : pickB x = false) : x.k < 0 ∨ (0 ≤ x.k ∧ x.a < 0) ∨ (0 ≤ x.k ∧ 0 ≤ x.a ∧ x.v < 0) ∨ (0 ≤ x.k ∧ 0 ≤ x.a ∧ 0 ≤ x.v ∧ 255 < x.k) ∨ (0 ≤ x.k ∧ 0 ≤ x.a ∧ 0 ≤ x.v ∧ x.k ≤ 255 ∧ 255 < x.a) ∨ (0 ≤ x.k ∧ 0 ≤ x.a ∧ 0 ≤ x.v ∧ x.k ≤ 255 ∧ x.a ≤ 255 ∧ 255 < x.v) := by
  have hn : ¬ ((0 ≤ x.k ∧ x.k ≤ 255) ∧ (0 ≤ x.a ∧ x.a ≤ 255) ∧ (0 ≤ x.v ∧ x.v ≤ 255)) := fun ⟨h1, h2, h3⟩ => by
    unfold pickB at h
    rw [byte_of h1.1 h1.2, byte_of h2.1 h2.2, byte_of h3.1 h3.2] at h
    cases h
  omega
theorem byte_in {n : Int} (h : byteB n = true) : 0 ≤ n ∧ n ≤ 255 := by unfold byteB at h; simpa using h
theorem pick_in {x : Op} (h : pickB x = true) : (0 ≤ x.k ∧ x.k ≤ 255) ∧ (0 ≤ x.a ∧ x.a ≤ 255) ∧ (0 ≤ x.v ∧ x.v ≤ 255) := by
  obtain ⟨h1, h2, h3⟩ := pick_all h
  exact ⟨byte_in h1, byte_in h2, byte_in h3⟩

set_option maxRecDepth 100000 in
set_option maxHeartbeats 4000000 in
theorem refMay_script (s : Scr) (p : Option Addr) (cp : Nat) (q : Option Addr) (cq : Nat) (w : World) (hs : ScAt w s p q) (hf : Fine s) :
    Calls Tryd.prog 17 #[sv s p cp q cq] w fun e w' => e = .returned (.bool (mayS s)) ∧ Below w.heap.size w w' := by
  have HC := Lib.hid hf.c
  have HF := Lib.hid hf
  have HS := Lib.hid hs
  have hlp := hf.ps
  have hlk := hf.pk
  clear hs hf
  have K0 := Kp.box w (sC s p cp q cq) 37
  rcases Bool.eq_false_or_eq_true (okC s.c) with hok | hok
  · have h0 := chk_ok s.c hok
    have HOK := Lib.hid hok
    clear hok
    by_cases hn : (s.ps.length : Int) = s.c.co
    · have hnb : ((s.ps.length : Int) != s.c.co) = false := by simp [hn]
      have HN := Lib.hid hn
      clear hn
      go_enter Tryd.func17, Tryd.ntmps17
      go_wp2_with fail
      refine (refCheck_any s.c _).mono ?_
      rintro e w1 ⟨rfl, hb1⟩
      have K1 := K0.step hb1
      have hc1 := K1.1
      clear hb1
      go_wp2
      clear hc1 K0 hnb h0
      go_loopw [3] (fun i wr => ∃ k : Nat, k ≤ s.ps.length ∧ i = .int .i64 k ∧ Hid (∀ j, j < k → fitsB s.c (s.ps.getD j []) = true) ∧ Kp w (sC s p cp q cq) wr) (fun i _ => s.ps.length - (intOf i).toNat)
      case atStart => exact ⟨0, Nat.zero_le _, rfl, Lib.hid (fun j hj => by omega), K1⟩
      case round =>
        obtain ⟨k, hk, rfl, HJ, K2⟩ := hrel
        have hc2 := K2.1
        have Kd := Lib.hid K2.drew
        by_cases hlt : k < s.ps.length
        · obtain ⟨g, off, u, rfl, hg, hcu, hou⟩ := (HS.out.ps.step K2.2.2) k hlt
          have hl := HF.out.l k hlt
          obtain ⟨pa, cap, rfl⟩ := hou.form
          have HO : Hid (OpsAt wr.drew _ (s.ps.getD k [])) := Lib.hid hou
          have HG := Lib.hid hcu
          have HC2 := Lib.hid hc2
          clear hou
          rcases Bool.eq_false_or_eq_true (fitsB s.c (s.ps.getD k [])) with hm | hm
          · have HJ2 : Hid (∀ j, j < k + 1 → fitsB s.c (s.ps.getD j []) = true) := Lib.hid (fun j hj => by
              by_cases e : j = k
              · rw [e]; exact hm
              · exact HJ.out j (by omega))
            have HM := Lib.hid hm
            clear hm HJ
            generalize s.ps.getD k [] = l at *
            go_wp2
            clear hc2 hcu
            go_region_held3 (fun w' => (∀ o, w'.cell? ⟨w.heap.size, o, none⟩ = (sC s (some ⟨g, off, none⟩) cp q cq)[o]?) ∧ w'.cell? ⟨g, off + k, none⟩ = some (.slice pa l.length cap)) (first | exact ⟨K3.out.1, hcu3.out⟩ | exact ⟨HC2.out, HG.out⟩)
              (first
                | (go_at_call 34; refine (refFits_any s.c l _ _ HO.out hl).mono ?_; rintro e w3 ⟨rfl, hb3⟩; have K3 := Lib.hid (Kd.out.step hb3); have hcu3 := Lib.hid ((hb3.cell (p := ⟨g, off + k, none⟩) hg).trans HG.out); rw [HM.out]))
            have K4 := K3.out
            go_wp2
            go_roundw
            case rel => exact ⟨k + 1, by omega, by go_num, HJ2, K4⟩
            case measure => simp [intOf]; omega
          · have HE := Lib.hid (may_no2 hlt hm)
            have HM := Lib.hid hm
            clear hm HJ
            generalize s.ps.getD k [] = l at *
            go_wp2
            clear hc2 hcu
            go_region_held3 (fun w' => (∀ o, w'.cell? ⟨w.heap.size, o, none⟩ = (sC s (some ⟨g, off, none⟩) cp q cq)[o]?) ∧ w'.cell? ⟨g, off + k, none⟩ = some (.slice pa l.length cap)) (first | exact ⟨K3.out.1, hcu3.out⟩ | exact ⟨HC2.out, HG.out⟩)
              (first
                | (go_at_call 34; refine (refFits_any s.c l _ _ HO.out hl).mono ?_; rintro e w3 ⟨rfl, hb3⟩; have K3 := Lib.hid (Kd.out.step hb3); have hcu3 := Lib.hid ((hb3.cell (p := ⟨g, off + k, none⟩) hg).trans HG.out); rw [HM.out]))
            go_wp2
            go_ret
            exact ⟨ret_false HE.out, K3.out.2.2⟩
        · have HJ2 : Hid (∀ j, j < s.ps.length → fitsB s.c (s.ps.getD j []) = true) := Lib.hid (fun j hj => HJ.out j (by omega))
          clear HJ
          go_wp2
          clear hc2
          go_loopw [4] (fun i wr => ∃ k : Nat, k ≤ s.pk.length ∧ i = .int .i64 k ∧ Hid (∀ j, j < k → pickB (s.pk.getD j ⟨0, 0, 0⟩) = true) ∧ Kp w (sC s p cp q cq) wr) (fun i _ => s.pk.length - (intOf i).toNat)
          case atStart => exact ⟨0, Nat.zero_le _, rfl, Lib.hid (fun j hj => by omega), K2⟩
          case round =>
            obtain ⟨m, hm, rfl, HP, K3⟩ := hrel
            have hc3 := K3.1
            have hsz := K3.2.1
            by_cases hlm : m < s.pk.length
            · obtain ⟨g, off, rfl, hg, c0, c1, c2⟩ := (HS.out.pk.step K3.2.2) m hlm
              rcases Bool.eq_false_or_eq_true (pickB (s.pk.getD m ⟨0, 0, 0⟩)) with hx | hx
              · have HP2 : Hid (∀ j, j < m + 1 → pickB (s.pk.getD j ⟨0, 0, 0⟩) = true) := Lib.hid (fun j hj => by
                  by_cases e : j = m
                  · rw [e]; exact hx
                  · exact HP.out j (by omega))
                obtain ⟨⟨x1, x2⟩, ⟨x3, x4⟩, x5, x6⟩ := pick_in hx
                clear hx HP
                generalize s.pk.getD m ⟨0, 0, 0⟩ = x at *
                go_wp2
                go_roundw
                case rel => exact ⟨m + 1, by omega, by go_num, HP2, K3.step ((Below.refl _ _).alloc (Nat.le_refl _) _)⟩
                case measure => simp [intOf]; omega
              · have HE := Lib.hid (may_no3 hlm hx)
                have hx3 := pick_ways hx
                clear hx HP
                generalize s.pk.getD m ⟨0, 0, 0⟩ = x at *
                rcases hx3 with x1 | ⟨x1, x2⟩ | ⟨x1, x2, x3⟩ | ⟨x1, x2, x3, x4⟩ | ⟨x1, x2, x3, x4, x5⟩ | ⟨x1, x2, x3, x4, x5, x6⟩
                all_goals
                  go_wp2
                  go_ret
                  exact ⟨ret_false HE.out, K3.2.2.alloc K3.2.2.size _⟩
            · have HE := Lib.hid (may_yes HOK.out HN.out HJ2.out (fun j hj => HP.out j (by omega)))
              clear HP
              go_wp2
              go_ret
              exact ⟨ret_true HE.out, K3.2.2⟩
    · have hnb : ((s.ps.length : Int) != s.c.co) = true := by simp [hn]
      have HE := Lib.hid (may_no1 hn)
      clear hn
      go_enter Tryd.func17, Tryd.ntmps17
      go_wp2_with fail
      refine (refCheck_any s.c _).mono ?_
      rintro e w1 ⟨rfl, hb1⟩
      have K1 := K0.step hb1
      have hc1 := K1.1
      clear hb1
      go_wp2
      go_ret
      exact ⟨ret_false HE.out, K1.2.2⟩
  · have h0 := chk_no s.c hok
    have HE := Lib.hid (may_no0 hok)
    clear hok
    go_enter Tryd.func17, Tryd.ntmps17
    go_wp2_with fail
    refine (refCheck_any s.c _).mono ?_
    rintro e w1 ⟨rfl, hb1⟩
    go_wp2
    go_ret
    exact ⟨ret_false HE.out, bbox hb1⟩

end Go.Proofs.YtjnbpohjdgnknaaDoor
