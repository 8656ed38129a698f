/-
  What Same does with two lists of the same operations, and Fits, the program's and the document's: one contract each.
-/
import Derived.Test.YtjnbpohjdgnknaaDoorPgT
import Derived.Test.YtjnbpohjdgnknaaDoorRef1
namespace Go.Proofs.YtjnbpohjdgnknaaDoor
open Go Go.RowKit

set_option maxHeartbeats 2000000 in
/-- Same: lists of the same operations. -/
theorem sameOps_any (l : List Op) (u v : Value) (w : World) (hu : OpsAt w u l) (hv : OpsAt w v l) (hl : l.length ≤ 5000) :
    Calls Tryd.prog 29 #[u, v] w fun e w' => e = .returned (.bool true) ∧ Below w.heap.size w w' := by
  obtain ⟨p, c1, rfl, hp⟩ := hu.in_
  obtain ⟨q, c2, rfl, hq⟩ := hv.in_
  have HP := Lib.hid hp
  have HQ := Lib.hid hq
  clear hu hv hp hq
  go_enter Tryd.func29, Tryd.ntmps29
  go_wp2
  go_loopw [5] (fun i wr => ∃ k m : Nat, k ≤ l.length ∧ i = .int .i64 k ∧ wr = w.drewN m) (fun i _ => l.length - (intOf i).toNat)
  case atStart => exact ⟨0, 0, Nat.zero_le _, rfl, rfl⟩
  case round =>
    obtain ⟨k, m, hk, rfl, rfl⟩ := hrel
    by_cases hlt : k < l.length
    · obtain ⟨g, off, rfl, hg, c0, c1, c2⟩ := HP.out k hlt
      obtain ⟨g', off', rfl, hg', d0, d1, d2⟩ := HQ.out k hlt
      generalize l.getD k ⟨0, 0, 0⟩ = x at *
      go_wp2
      go_quiet (fail)
      go_wp2
      go_roundw
      case rel => exact ⟨k + 1, _, by omega, by go_num, rfl⟩
      case measure => simp [intOf]; omega
    · go_wp2
      go_ret
      exact ⟨rfl, below_drewN (Below.refl _ _) _⟩

/-- Whether a program is one of a machine. -/
def lowB (c : Cfg) (x : Op) : Bool := decide (x.a < sz c)
def fitsB (c : Cfg) (l : List Op) : Bool := okC c && (decide (l.length ≤ 64) && (l.all mayB && l.all (lowB c)))
def lowK (c : Cfg) (l : List Op) (k : Nat) : Prop := ∀ j, j < k → lowB c (l.getD j ⟨0, 0, 0⟩) = true
theorem low_of {c : Cfg} {l : List Op} (h : lowK c l l.length) : l.all (lowB c) = true := by
  rw [List.all_eq_true]
  intro x hx
  obtain ⟨j, hj, rfl⟩ := List.getElem_of_mem hx
  have := h j hj
  rwa [List.getD_eq_getElem?_getD, List.getElem?_eq_getElem hj] at this
theorem low_no {c : Cfg} {l : List Op} {j : Nat} (hj : j < l.length) (h : lowB c (l.getD j ⟨0, 0, 0⟩) = false) : l.all (lowB c) = false := by
  rw [List.all_eq_false]
  refine ⟨l[j], List.getElem_mem hj, ?_⟩
  rw [List.getD_eq_getElem?_getD, List.getElem?_eq_getElem hj] at h
  simpa using h
theorem fits_no0 {c : Cfg} {l : List Op} (h : okC c = false) : fitsB c l = false := by simp [fitsB, h]
theorem fits_no1 {c : Cfg} {l : List Op} (h : 64 < l.length) : fitsB c l = false := by
  have : decide (l.length ≤ 64) = false := by simp; omega
  simp [fitsB, this]
theorem fits_no2 {c : Cfg} {l : List Op} (h : l.all mayB = false) : fitsB c l = false := by simp only [fitsB, h, Bool.false_and, Bool.and_false]
theorem fits_no3 {c : Cfg} {l : List Op} (h : l.all (lowB c) = false) : fitsB c l = false := by simp only [fitsB, h, Bool.and_false]
theorem fits_yes {c : Cfg} {l : List Op} (h0 : okC c = true) (h1 : l.length ≤ 64) (h2 : l.all mayB = true) (h3 : l.all (lowB c) = true) : fitsB c l = true := by
  have : decide (l.length ≤ 64) = true := by simpa using h1
  simp only [fitsB, h0, this, h2, h3, Bool.and_true]

theorem ret_false {b : Bool} (h : b = false) : Ending.returned (.bool false) = .returned (.bool b) := by rw [h]
theorem ret_true {b : Bool} (h : b = true) : Ending.returned (.bool true) = .returned (.bool b) := by rw [h]

set_option maxRecDepth 100000 in
set_option maxHeartbeats 4000000 in
/-- Fits, the program's. -/
theorem fits_any (c : Cfg) (l : List Op) (v : Value) (w : World) (hc : c.fits) (hv : OpsAt w v l) (hl : l.length ≤ 5000) :
    Calls Tryd.prog 13 #[cv c, v] w fun e w' => e = .returned (.bool (fitsB c l)) ∧ Below w.heap.size w w' := by
  have HC := Lib.hid hc
  have HV := Lib.hid hv
  obtain ⟨p, cap, rfl, hin⟩ := hv.in_
  have HI := Lib.hid hin
  clear hc hv hin
  have K0 := Kp.box w #[Value.int .i64 c.co, .int .i64 c.ho, .int .i64 c.se, .int .i64 c.wa, .int .i64 c.wo, .int .i64 c.li, .int .i64 c.po, .int .i64 c.ms, .int .i64 c.bu, .int .i64 c.wb, .int .i64 c.r0, .int .i64 c.r1, .int .i64 c.r2] 24
  rcases Bool.eq_false_or_eq_true (okC c) with hok | hok
  · have h0 := chk_ok c hok
    have HK := Lib.hid hok
    have hsb := sz_bound c hok
    have hmb := mul_bound _ _ hsb.1 hsb.2
    have hsz : sz c = c.wo * c.li := by simp [sz, hok]
    rw [← hsz] at hmb
    clear hok hsb hsz
    by_cases h64 : 64 < l.length
    · have HE := Lib.hid (fits_no1 (c := c) h64)
      go_enter Tryd.func13, Tryd.ntmps13
      go_wp2_with (go_at_call 12; refine (check_any c _ HC.out).mono ?_; rintro e w1 ⟨rfl, hb1⟩)
      go_ret
      exact ⟨ret_false HE.out, bbox hb1⟩
    · rcases Bool.eq_false_or_eq_true (l.all mayB) with hm | hm
      · have HM := Lib.hid hm
        clear hm
        go_enter Tryd.func13, Tryd.ntmps13
        go_wp2_with fail
        refine (check_any c _ HC.out).mono ?_
        rintro e w1 ⟨rfl, hb1⟩
        have K1 := K0.step hb1
        have hc1 := K1.1
        clear hb1
        go_wp2_with fail
        refine (allMay_any l _ _ (HV.out.step K1.2.2) (by omega)).mono ?_
        rintro e w2 ⟨rfl, hb2⟩
        rw [HM.out]
        have K2 := K1.step hb2
        have hc2 := K2.1
        clear hb2 hc1
        go_wp2_with fail
        refine (size_any c _ HC.out).mono ?_
        rintro e w3 ⟨rfl, hb3⟩
        have K3 := K2.step hb3
        have hb3w := K3.2.2
        clear hb3 hc2 K0 K1 K2 K3
        go_wp2
        go_loopw [25] (fun i wr => ∃ k : Nat, k ≤ l.length ∧ i = .int .i64 k ∧ Hid (lowK c l k) ∧ Below w.heap.size w wr) (fun i _ => l.length - (intOf i).toNat)
        case atStart => exact ⟨0, Nat.zero_le _, rfl, Lib.hid (fun j hj => by omega), hb3w⟩
        case round =>
          obtain ⟨k, hk, rfl, HW, hb⟩ := hrel
          by_cases hlt : k < l.length
          · obtain ⟨g, off, rfl, hg, c0, c1, c2⟩ := (HI.out.step hb) k hlt
            rcases Bool.eq_false_or_eq_true (lowB c (l.getD k ⟨0, 0, 0⟩)) with hm | hm
            · have HW2 : Hid (lowK c l (k + 1)) := Lib.hid (fun j hj => by
                by_cases e : j = k
                · rw [e]; exact hm
                · exact HW.out j (by omega))
              have hx : (l.getD k ⟨0, 0, 0⟩).a < sz c := by simpa [lowB] using hm
              clear hm HW
              generalize l.getD k ⟨0, 0, 0⟩ = x at *
              go_wp2
              go_roundw
              case rel => exact ⟨k + 1, by omega, by go_num, HW2, hb.alloc hb.size _⟩
              case measure => simp [intOf]; omega
            · have HE := Lib.hid (fits_no3 (c := c) (low_no hlt hm))
              have hx : sz c ≤ (l.getD k ⟨0, 0, 0⟩).a := by simpa [lowB] using hm
              clear hm HW
              generalize l.getD k ⟨0, 0, 0⟩ = x at *
              go_wp2
              go_ret
              exact ⟨ret_false HE.out, hb.alloc hb.size _⟩
          · have HE : Hid (fitsB c l = true) := Lib.hid (by
              have : k = l.length := by omega
              subst this
              exact fits_yes HK.out (by omega) HM.out (low_of HW.out))
            go_wp2
            go_ret
            exact ⟨ret_true HE.out, hb⟩
      · have HE := Lib.hid (fits_no2 (c := c) hm)
        have HM := Lib.hid hm
        clear hm
        go_enter Tryd.func13, Tryd.ntmps13
        go_wp2_with (first
          | (go_at_call 12; refine (check_any c _ HC.out).mono ?_; rintro e w1 ⟨rfl, hb1⟩)
          | (go_at_call 27; refine (allMay_any l _ _ (HV.out.step (bbox hb1)) (by omega)).mono ?_; rintro e w2 ⟨rfl, hb2⟩; rw [HM.out]))
        go_ret
        exact ⟨ret_false HE.out, bstep (bbox hb1) hb2⟩
  · have h0 := chk_no c hok
    have HE := Lib.hid (fits_no0 (l := l) hok)
    clear hok
    go_enter Tryd.func13, Tryd.ntmps13
    go_wp2_with (go_at_call 12; refine (check_any c _ HC.out).mono ?_; rintro e w1 ⟨rfl, hb1⟩)
    go_ret
    exact ⟨ret_false HE.out, bbox hb1⟩

end Go.Proofs.YtjnbpohjdgnknaaDoor
