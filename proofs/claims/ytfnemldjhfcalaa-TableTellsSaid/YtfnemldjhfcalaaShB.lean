/-
  Whether a set of sharers may be; whether a core may be one.
-/
import Derived.Test.YtfnemldjhfcalaaShA
import Derived.Deep.RegionHeld3
namespace Go.Proofs.Ytfnemldjhfcalaa
open Go Go.RowKit Go.Sort

set_option maxHeartbeats 1000000 in
theorem rising_any (c m : Int) (p : Option Addr) (cap : Nat) (l : List Int) (al : Bool) (w : World) (hc0 : c ≤ 64) (hl : l.length ≤ 5000) (h : NumsIn w p l) :
    Calls Try.prog 44 #[.agg (sv c m p l.length cap al)] w fun e w' => e = .returned (.bool (risesB c 0 l)) ∧ Below w.heap.size w w' := by
  have K1 := Kp.box w (sv c m p l.length cap al) 24
  have H := Lib.hid h
  clear h
  go_enter Try.func44, Try.ntmps44
  go_wp2
  go_loopw [3, 9] (fun a i wr => ∃ (k : Nat) (y : Int), k ≤ l.length ∧ i = .int .i64 k ∧ a = .int .i64 y ∧ y ≤ 64 ∧ 0 ≤ y ∧ risesB c 0 l = risesB c y (l.drop k) ∧ Kp w (sv c m p l.length cap al) wr) (fun _ i _ => l.length - (intOf i).toNat)
  case atStart => exact ⟨0, 0, Nat.zero_le _, rfl, rfl, by omega, by omega, rfl, K1⟩
  case round =>
    obtain ⟨k, y, hk, rfl, rfl, hy1, hy0, hr, K⟩ := hrel
    have HR := Lib.hid hr
    clear hr K1
    by_cases hlt : k < l.length
    · obtain ⟨g, off, rfl, hg, hc⟩ := (H.out.step K.2.2) k hlt
      have HD := Lib.hid (drop_at l k hlt)
      generalize l.getD k 0 = x at hc HD
      have hb : x < y → risesB c 0 l = false := fun h => by rw [HR.out, HD.out]; simp [risesB, h]
      by_cases hxy : x < y
      · have HX := Lib.hid (hb hxy)
        clear hb
        go_wp2
        go_ret
        exact ⟨ret_bool HX.out.symm, K.2.2⟩
      · clear hb
        have hcg : ∀ o, wr.cell? ⟨w.heap.size, o, none⟩ = (sv c m (some ⟨g, off, none⟩) l.length cap al)[o]? := K.1
        rcases Bool.eq_false_or_eq_true (hasB c x) with hx | hx
        · have hxc : 0 ≤ x ∧ x < c := by simpa [hasB] using hx
          have HX := Lib.hid hx
          clear hx
          go_wp2_with (go_at_call 29; refine (hasCore_any c m _ l.length cap al x _).mono ?_; rintro e w1 ⟨rfl, hb1⟩; rw [HX.out]; have K2 := K.step hb1; have hc2 := K2.1; clear hcg hb1)
          go_roundw
          case rel => exact ⟨k + 1, x + 1, by omega, by go_num, by go_num, by omega, by omega, by rw [HR.out, HD.out]; simp [risesB, hxy, HX.out], K2⟩
          case measure => simp [intOf]; omega
        · have HX : Hid (risesB c 0 l = false) := Lib.hid (by rw [HR.out, HD.out]; simp [risesB, hx])
          have HX2 := Lib.hid hx
          clear hx
          go_wp2_with (go_at_call 29; refine (hasCore_any c m _ l.length cap al x _).mono ?_; rintro e w1 ⟨rfl, hb1⟩; rw [HX2.out]; have K2 := K.step hb1; clear hcg hb1)
          go_ret
          exact ⟨ret_bool HX.out.symm, K2.2.2⟩
    · go_wp2
      go_ret
      exact ⟨ret_bool (by rw [HR.out, List.drop_eq_nil_of_le (by omega)]; rfl), K.2.2⟩

/-- May such a set be? -/
def mayB (c m : Int) (l : List Int) (al : Bool) : Bool := decide (1 ≤ c) && decide (c ≤ 64) && decide (0 ≤ m) && decide (m ≤ 8) && decide ((l.length : Int) ≤ if al then 0 else m) && risesB c 0 l

set_option maxRecDepth 100000 in
set_option maxHeartbeats 4000000 in
theorem may_any (c m : Int) (p : Option Addr) (cap : Nat) (l : List Int) (al : Bool) (w : World) (hl : l.length ≤ 5000) (h : NumsIn w p l) :
    Calls Try.prog 27 #[.agg (sv c m p l.length cap al)] w fun e w' => e = .returned (.bool (mayB c m l al)) ∧ Below w.heap.size w w' := by
  have K := Kp.box w (sv c m p l.length cap al) 24
  have hcg := K.grown
  have HL := Lib.hid K.2.2
  have H := Lib.hid h
  clear K h
  obtain ⟨r, hr⟩ : ∃ r : Int, r = if al then 0 else m := ⟨_, rfl⟩
  have HR := Lib.hid hr
  clear hr
  have hd : decide (1 ≤ c) = false ∨ (decide (1 ≤ c) = true ∧ decide (c ≤ 64) = false) ∨ (decide (1 ≤ c) = true ∧ decide (c ≤ 64) = true ∧ decide (0 ≤ m) = false) ∨ (decide (1 ≤ c) = true ∧ decide (c ≤ 64) = true ∧ decide (0 ≤ m) = true ∧ decide (m ≤ 8) = false) ∨ (decide (1 ≤ c) = true ∧ decide (c ≤ 64) = true ∧ decide (0 ≤ m) = true ∧ decide (m ≤ 8) = true ∧ decide ((l.length : Int) ≤ r) = false) ∨ (decide (1 ≤ c) = true ∧ decide (c ≤ 64) = true ∧ decide (0 ≤ m) = true ∧ decide (m ≤ 8) = true ∧ decide ((l.length : Int) ≤ r) = true) := by
    simp only [decide_eq_true_eq, decide_eq_false_iff_not]
    omega
  rcases hd with h1 | ⟨h1, h2⟩ | ⟨h1, h2, h3⟩ | ⟨h1, h2, h3, h4⟩ | ⟨h1, h2, h3, h4, h5⟩ | ⟨h1, h2, h3, h4, h5⟩
  all_goals
    go_enter Try.func27, Try.ntmps27
    go_wp2
    refine wp_region_quiet_below (by kernel_rfl) (by kernel_rfl) ?_
    repeat (go_big_quiet_step (first
      | (go_at_call 43; exact Calls.regrown_of (room_is HR.out c p l.length cap _))
      | (go_at_call 44; exact Calls.regrown_of (rising_any c m p cap l al _ (by simpa using h2) hl ((H.out.step HL.out).step (below_regrown _ _ _))))))
    refine wpQuiet_nil ?_
    rintro w2 ⟨pp, rfl⟩
    go_wp2
    go_ret
    exact ⟨ret_bool (by simp [mayB, ← HR.out, *]), bstep HL.out (below_regrown _ _ _)⟩

theorem may_bounds {c m : Int} {l : List Int} {al : Bool} (h : mayB c m l al = true) : 1 ≤ c ∧ c ≤ 64 ∧ 0 ≤ m ∧ m ≤ 8 ∧ l.length ≤ 8 := by
  simp only [mayB, Bool.and_eq_true, decide_eq_true_eq] at h
  obtain ⟨⟨⟨⟨⟨h1, h2⟩, h3⟩, h4⟩, h5⟩, _⟩ := h
  refine ⟨h1, h2, h3, h4, ?_⟩
  cases al
  · rw [if_neg (by simp)] at h5; omega
  · rw [if_pos rfl] at h5; omega

def hasAll (c m : Int) (l : List Int) (al : Bool) (x : Int) : Bool := mayB c m l al && hasB c x && toldB l al x

set_option maxRecDepth 100000 in
set_option maxHeartbeats 2000000 in
theorem has_any (c m : Int) (p : Option Addr) (cap : Nat) (l : List Int) (al : Bool) (x : Int) (w : World) (hl : l.length ≤ 5000) (h : NumsIn w p l) :
    Calls Try.prog 16 #[.agg (sv c m p l.length cap al), .int .i64 x] w fun e w' => e = .returned (.bool (hasAll c m l al x)) ∧ Below w.heap.size w w' := by
  have H := Lib.hid h
  clear h
  rcases Bool.eq_false_or_eq_true (mayB c m l al) with h1 | h1 <;> rcases Bool.eq_false_or_eq_true (hasB c x) with h2 | h2
  all_goals
    have H1 := Lib.hid h1
    have H2 := Lib.hid h2
    clear h1 h2
    have K := Kp.box w (sv c m p l.length cap al) 24
    have hcg := K.1
    go_enter Try.func16, Try.ntmps16
    go_wp2_with (first
      | (go_at_call 27; refine (may_any c m p cap l al _ hl (H.out.step (balloc _ _))).mono ?_; rintro e w1 ⟨rfl, hb1⟩; rw [H1.out]; have K2 := K.step hb1; have hc2 := K2.1; clear hcg hb1)
      | (go_at_call 29; refine (hasCore_any c m p l.length cap al x _).mono ?_; rintro e w2 ⟨rfl, hb2⟩; rw [H2.out]; have K3 := K2.step hb2; have hc3 := K3.1; clear hc2 hb2)
      | (go_at_call 30; refine (told_any c m p cap l al x _ hl (H.out.step K3.2.2)).mono ?_; rintro e w3 ⟨rfl, hb3⟩; have K4 := K3.step hb3; have hc4 := K4.1; clear hc3 hb3))
    go_ret
    exact ⟨ret_bool (by simp [hasAll, H1.out, H2.out]), by first | exact K4.2.2 | exact K3.2.2 | exact K2.2.2⟩

end Go.Proofs.Ytfnemldjhfcalaa
