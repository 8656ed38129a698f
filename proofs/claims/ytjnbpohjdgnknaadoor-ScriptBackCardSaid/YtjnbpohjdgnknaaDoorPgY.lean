/-
  What Fits does, the document's: one contract.
-/
import Derived.Test.YtjnbpohjdgnknaaDoorPgX
namespace Go.Proofs.YtjnbpohjdgnknaaDoor
open Go Go.RowKit

theorem bdrew {w w1 : World} (h : Below w.drew.heap.size w.drew w1) : Below w.heap.size w w1 := ((Below.refl w.heap.size w).drew).trans h
theorem Kp.drew {w w1 : World} {L : Array Value} (h : Kp w L w1) : Kp w L w1.drew := ⟨h.1, h.2.1, h.2.2.drew⟩
/-- What has been found of the first so many. -/
def bothK (c : Cfg) (l : List Op) (k : Nat) : Prop := mayK l k ∧ lowK c l k
theorem bothK_more {c : Cfg} {l : List Op} {k : Nat} (h : bothK c l k) (h1 : mayB (l.getD k ⟨0, 0, 0⟩) = true) (h2 : lowB c (l.getD k ⟨0, 0, 0⟩) = true) : bothK c l (k + 1) :=
  ⟨fun j hj => by
    by_cases e : j = k
    · rw [e]; exact h1
    · exact h.1 j (by omega), fun j hj => by
    by_cases e : j = k
    · rw [e]; exact h2
    · exact h.2 j (by omega)⟩

set_option maxRecDepth 100000 in
set_option maxHeartbeats 8000000 in
/-- Fits, the document's. -/
theorem refFits_any (c : Cfg) (l : List Op) (v : Value) (w : World) (hv : OpsAt w v l) (hl : l.length ≤ 5000) :
    Calls Tryd.prog 34 #[cv c, v] w fun e w' => e = .returned (.bool (fitsB c l)) ∧ Below w.heap.size w w' := by
  obtain ⟨p, cap, rfl, hin⟩ := hv.in_
  have HI := Lib.hid hin
  clear hv hin
  have K0 := Kp.box w #[Value.int .i64 c.co, .int .i64 c.ho, .int .i64 c.se, .int .i64 c.wa, .int .i64 c.wo, .int .i64 c.li, .int .i64 c.po, .int .i64 c.ms, .int .i64 c.bu, .int .i64 c.wb, .int .i64 c.r0, .int .i64 c.r1, .int .i64 c.r2] 24
  rcases Bool.eq_false_or_eq_true (okC c) with hok | hok
  · have h0 := chk_ok c hok
    have HK := Lib.hid hok
    have hsb := sz_bound c hok
    have hmb := mul_bound _ _ hsb.1 hsb.2
    have HZ : Hid (sz c = c.wo * c.li) := Lib.hid (by simp [sz, hok])
    clear hok hsb
    by_cases h64 : 64 < l.length
    · have HE := Lib.hid (fits_no1 (c := c) h64)
      go_enter Tryd.func34, Tryd.ntmps34
      go_wp2_with (go_at_call 33; refine (refCheck_any c _).mono ?_; rintro e w1 ⟨rfl, hb1⟩)
      go_ret
      exact ⟨ret_false HE.out, bbox hb1⟩
    · go_enter Tryd.func34, Tryd.ntmps34
      go_wp2_with fail
      refine (refCheck_any c _).mono ?_
      rintro e w1 ⟨rfl, hb1⟩
      have K1 := K0.step hb1
      clear hb1 K0
      go_wp2
      go_loopw [5] (fun i wr => ∃ k : Nat, k ≤ l.length ∧ i = .int .i64 k ∧ Hid (bothK c l k) ∧ Kp w #[Value.int .i64 c.co, .int .i64 c.ho, .int .i64 c.se, .int .i64 c.wa, .int .i64 c.wo, .int .i64 c.li, .int .i64 c.po, .int .i64 c.ms, .int .i64 c.bu, .int .i64 c.wb, .int .i64 c.r0, .int .i64 c.r1, .int .i64 c.r2] wr) (fun i _ => l.length - (intOf i).toNat)
      case atStart => exact ⟨0, Nat.zero_le _, rfl, Lib.hid ⟨fun j hj => by omega, fun j hj => by omega⟩, K1⟩
      case round =>
        obtain ⟨k, hk, rfl, HW, Kr⟩ := hrel
        have hb := Kr.2.2
        by_cases hlt : k < l.length
        · obtain ⟨g, off, rfl, hg, c0, c1, c2⟩ := (HI.out.step hb) k hlt
          have k4 := Kr.1 4
          have k5 := Kr.1 5
          simp at k4 k5
          have Kd := Kr.drew
          have hi0 : (0 : Int) ≤ (k : Int) := by omega
          have hi1 : (k : Int) < (l.length : Int) := by omega
          rcases Bool.eq_false_or_eq_true (mayB (l.getD k ⟨0, 0, 0⟩)) with hm | hm
          · have HB := Lib.hid (fun h => bothK_more HW.out hm h)
            have HN := Lib.hid (fun h => fits_no3 (c := c) (low_no hlt h))
            have HM := Lib.hid hm
            clear hm
            have hw : IntKind.i64.wrap (c.wo * c.li) = c.wo * c.li := IntWalk.i64_in _ (by omega)
            have HX : Hid (l.getD k ⟨0, 0, 0⟩ = l.getD k ⟨0, 0, 0⟩) := Lib.hid rfl
            have HJ := Lib.hid (fun (w' : World) (h : Below wr.heap.size wr w') => (HI.out.step (bstep hb h)) k hlt)
            generalize l.getD k ⟨0, 0, 0⟩ = x at *
            go_wp2
            go_region_held3 (fun w' => w'.cell? ⟨g, off + k * 3, none⟩ = some (.int .i64 x.k) ∧ w'.cell? ⟨g, off + k * 3 + 1, none⟩ = some (.int .i64 x.a) ∧ w'.cell? ⟨g, off + k * 3 + 2, none⟩ = some (.int .i64 x.v) ∧ w'.cell? ⟨w.heap.size, 4, none⟩ = some (.int .i64 c.wo) ∧ w'.cell? ⟨w.heap.size, 5, none⟩ = some (.int .i64 c.li))
              (first | exact ⟨y0, y1, y2, y4, y5⟩ | exact ⟨c0, c1, c2, k4, k5⟩ | go_keep)
              (first
                | (go_at_call 36; refine (refMay_any x _).mono ?_; rintro e w2 ⟨rfl, hb2⟩; rw [HM.out]; have Kb := Kd.step hb2; have y4 := Kb.1 4; have y5 := Kb.1 5; simp at y4 y5; obtain ⟨g', off', eg, hg2, y0, y1, y2⟩ := HJ.out w2 (bdrew hb2); injection eg with eg; injection eg with eg1 eg2; subst eg1 eg2))
            have Kb2 := Kb
            clear hw Kb Kd y0 y1 y2 y4 y5 c0 c1 c2 k4 k5 hb2
            by_cases hx : x.a < c.wo * c.li
            · have HB2 := Lib.hid (HB.out (by unfold lowB; rw [HZ.out]; simpa using hx))
              go_wp2
              go_roundw
              case rel => exact ⟨k + 1, by omega, by go_num, HB2, Kb2⟩
              case measure => simp [intOf]; omega
            · have HE := Lib.hid (HN.out (by unfold lowB; rw [HZ.out]; simpa using hx))
              go_wp2
              go_ret
              exact ⟨ret_false HE.out, Kb2.2.2⟩
          · have HN := Lib.hid (fits_no2 (c := c) (all_no hlt hm))
            have HM := Lib.hid hm
            clear hm
            have HJ := Lib.hid (fun (w' : World) (h : Below wr.heap.size wr w') => (HI.out.step (bstep hb h)) k hlt)
            generalize l.getD k ⟨0, 0, 0⟩ = x at *
            go_wp2
            refine wp_region_noPanic ?_
            refine wp_region_held_drew (S := fun w' => w'.cell? ⟨g, off + k * 3, none⟩ = some (.int .i64 x.k) ∧ w'.cell? ⟨g, off + k * 3 + 1, none⟩ = some (.int .i64 x.a) ∧ w'.cell? ⟨g, off + k * 3 + 2, none⟩ = some (.int .i64 x.v) ∧ w'.cell? ⟨w.heap.size, 4, none⟩ = some (.int .i64 c.wo) ∧ w'.cell? ⟨w.heap.size, 5, none⟩ = some (.int .i64 c.li)) (by kernel_rfl) ⟨c0, c1, c2, k4, k5⟩ (fun hh => ?_)
            refine wpAnyH_take (fuel := 18) (i := 0) (oi := ⟨some 20, _, _, _, _, _⟩) (v := .slice (some ⟨g, off, none⟩) l.length cap) rfl (by kernel_rfl) (by kernel_rfl) (by kernel_rfl) (fun _ _ _ h => h) (Or.inl ⟨by rfl, ?_⟩) hh ?_
            · intro w' _
              go_simp
            simp only [Act.put, List.setIfInBounds_toArray]
            refine wpAnyH_take (fuel := 17) (i := 1) (oi := ⟨some 21, _, _, _, _, _⟩) (v := .int .i64 k) rfl (by kernel_rfl) (by kernel_rfl) (by kernel_rfl) (fun _ _ _ h => h) (Or.inl ⟨by rfl, ?_⟩) hh ?_
            · intro w' _
              go_simp
            simp only [Act.put, List.setIfInBounds_toArray]
            refine wpAnyH_take (fuel := 16) (i := 2) (oi := ⟨some 22, _, _, _, _, _⟩) (v := .pointer (some ⟨g, off + k * 3, none⟩)) rfl (by kernel_rfl) (by kernel_rfl) (by kernel_rfl) (fun _ _ _ h => h) (Or.inl ⟨by rfl, ?_⟩) hh ?_
            · intro w' _
              go_simp
            simp only [Act.put, List.setIfInBounds_toArray]
            refine wpAnyH_take (fuel := 15) (i := 3) (oi := ⟨some 23, _, _, _, _, _⟩) (v := ov x) rfl (by kernel_rfl) (by kernel_rfl) (by kernel_rfl) (fun _ _ _ h => h) (Or.inl ⟨by rfl, ?_⟩) hh ?_
            · rintro w' ⟨e0, e1, e2, e3, e4⟩
              go_simp
            simp only [Act.put, List.setIfInBounds_toArray]
            refine wpAnyH_ready (fuel := 14) (rs := [4]) (by kernel_rfl) (by simp) ?_
            refine AllReadyH.cons (o := ⟨some 24, _, _, _, _, _⟩) rfl (fun K hK => ?_) AllReadyH.nil
            go_simp
            refine (refMay_any x _).mono ?_
            rintro e w2 ⟨rfl, hb2⟩
            rw [HM.out]
            have Kb := Kd.step hb2
            have y4 := Kb.1 4
            have y5 := Kb.1 5
            simp at y4 y5
            obtain ⟨g', off', eg, hg2, y0, y1, y2⟩ := HJ.out w2 (bdrew hb2)
            injection eg with eg
            injection eg with eg1 eg2
            subst eg1 eg2
            show K _ _
            refine hK.out _ _ ⟨y0, y1, y2, y4, y5⟩ (fun hh2 => ?_)
            clear hK K hh
            refine wpAnyH_take (fuel := 13) (i := 5) (oi := ⟨some 25, _, _, _, _, _⟩) (v := .bool true) rfl (by kernel_rfl) (by kernel_rfl) (by kernel_rfl) (fun _ _ _ h => h) (Or.inl ⟨by rfl, ?_⟩) hh2 ?_
            · intro w' _
              go_simp
            simp only [Act.put, List.setIfInBounds_toArray]
            refine wpAnyH_take (fuel := 12) (i := 6) (oi := ⟨some 26, _, _, _, _, _⟩) (v := .bool true) rfl (by kernel_rfl) (by kernel_rfl) (by kernel_rfl) (fun _ _ _ h => h) (Or.inl ⟨by rfl, ?_⟩) hh2 ?_
            · intro w' _
              go_simp
            simp only [Act.put, List.setIfInBounds_toArray]
            refine wpAnyH_take (fuel := 11) (i := 7) (oi := ⟨some 27, _, _, _, _, _⟩) (v := undef) rfl (by kernel_rfl) (by kernel_rfl) (by kernel_rfl) (fun _ _ _ h => h) (Or.inr ⟨by rfl, rfl⟩) hh2 ?_
            simp only [Act.put, List.setIfInBounds_toArray]
            refine wpAnyH_take (fuel := 10) (i := 8) (oi := ⟨some 28, _, _, _, _, _⟩) (v := undef) rfl (by kernel_rfl) (by kernel_rfl) (by kernel_rfl) (fun _ _ _ h => h) (Or.inr ⟨by rfl, rfl⟩) hh2 ?_
            simp only [Act.put, List.setIfInBounds_toArray]
            refine wpAnyH_take (fuel := 9) (i := 9) (oi := ⟨some 29, _, _, _, _, _⟩) (v := undef) rfl (by kernel_rfl) (by kernel_rfl) (by kernel_rfl) (fun _ _ _ h => h) (Or.inr ⟨by rfl, rfl⟩) hh2 ?_
            simp only [Act.put, List.setIfInBounds_toArray]
            refine wpAnyH_take (fuel := 8) (i := 10) (oi := ⟨some 30, _, _, _, _, _⟩) (v := undef) rfl (by kernel_rfl) (by kernel_rfl) (by kernel_rfl) (fun _ _ _ h => h) (Or.inr ⟨by rfl, rfl⟩) hh2 ?_
            simp only [Act.put, List.setIfInBounds_toArray]
            refine wpAnyH_take (fuel := 7) (i := 11) (oi := ⟨some 31, _, _, _, _, _⟩) (v := undef) rfl (by kernel_rfl) (by kernel_rfl) (by kernel_rfl) (fun _ _ _ h => h) (Or.inr ⟨by rfl, rfl⟩) hh2 ?_
            simp only [Act.put, List.setIfInBounds_toArray]
            refine wpAnyH_take (fuel := 6) (i := 12) (oi := ⟨some 32, _, _, _, _, _⟩) (v := undef) rfl (by kernel_rfl) (by kernel_rfl) (by kernel_rfl) (fun _ _ _ h => h) (Or.inr ⟨by rfl, rfl⟩) hh2 ?_
            simp only [Act.put, List.setIfInBounds_toArray]
            refine wpAnyH_take (fuel := 5) (i := 13) (oi := ⟨some 33, _, _, _, _, _⟩) (v := undef) rfl (by kernel_rfl) (by kernel_rfl) (by kernel_rfl) (fun _ _ _ h => h) (Or.inr ⟨by rfl, rfl⟩) hh2 ?_
            simp only [Act.put, List.setIfInBounds_toArray]
            refine wpAnyH_take (fuel := 4) (i := 14) (oi := ⟨some 34, _, _, _, _, _⟩) (v := undef) rfl (by kernel_rfl) (by kernel_rfl) (by kernel_rfl) (fun _ _ _ h => h) (Or.inr ⟨by rfl, rfl⟩) hh2 ?_
            simp only [Act.put, List.setIfInBounds_toArray]
            refine wpAnyH_take (fuel := 3) (i := 15) (oi := ⟨some 35, _, _, _, _, _⟩) (v := undef) rfl (by kernel_rfl) (by kernel_rfl) (by kernel_rfl) (fun _ _ _ h => h) (Or.inr ⟨by rfl, rfl⟩) hh2 ?_
            simp only [Act.put, List.setIfInBounds_toArray]
            refine wpAnyH_take (fuel := 2) (i := 16) (oi := ⟨some 36, _, _, _, _, _⟩) (v := undef) rfl (by kernel_rfl) (by kernel_rfl) (by kernel_rfl) (fun _ _ _ h => h) (Or.inr ⟨by rfl, rfl⟩) hh2 ?_
            simp only [Act.put, List.setIfInBounds_toArray]
            refine wpAnyH_take (fuel := 1) (i := 17) (oi := ⟨some 37, _, _, _, _, _⟩) (v := undef) rfl (by kernel_rfl) (by kernel_rfl) (by kernel_rfl) (fun _ _ _ h => h) (Or.inr ⟨by rfl, rfl⟩) hh2 ?_
            simp only [Act.put, List.setIfInBounds_toArray]
            refine wpAnyH_take (fuel := 0) (i := 18) (oi := ⟨some 38, _, _, _, _, _⟩) (v := .bool true) rfl (by kernel_rfl) (by kernel_rfl) (by kernel_rfl) (fun _ _ _ h => h) (Or.inl ⟨by rfl, ?_⟩) hh2 ?_
            · intro w' _
              go_simp
            simp only [Act.put, List.setIfInBounds_toArray]
            refine wpAnyH_done (by kernel_rfl) ?_ _
            refine NoPanic.normal ?_
            go_wp2
            go_ret
            exact ⟨ret_false HN.out, Kb.2.2⟩
        · have HE : Hid (fitsB c l = true) := Lib.hid (by
            have : k = l.length := by omega
            subst this
            exact fits_yes HK.out (by omega) (all_of HW.out.1) (low_of HW.out.2))
          go_wp2
          go_ret
          exact ⟨ret_true HE.out, hb⟩
  · have h0 := chk_no c hok
    have HE := Lib.hid (fits_no0 (l := l) hok)
    clear hok
    go_enter Tryd.func34, Tryd.ntmps34
    go_wp2_with (go_at_call 33; refine (refCheck_any c _).mono ?_; rintro e w1 ⟨rfl, hb1⟩)
    go_ret
    exact ⟨ret_false HE.out, bbox hb1⟩

end Go.Proofs.YtjnbpohjdgnknaaDoor
