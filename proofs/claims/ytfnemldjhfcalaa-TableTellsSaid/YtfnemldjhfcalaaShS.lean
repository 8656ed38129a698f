/-
  The document's May, Has, in and Targets.
-/
import Derived.Test.YtfnemldjhfcalaaShR
import Derived.Test.YtfnemldjhfcalaaShM
namespace Go.Proofs.Ytfnemldjhfcalaa
open Go Go.RowKit Go.Sort

/-- What a pointer is to be no less than. -/
def leastAt (l : List Int) (k : Nat) : Int := if k = 0 then 0 else l.getD (k - 1) 0 + 1

set_option maxRecDepth 100000 in
set_option maxHeartbeats 4000000 in
theorem refMay_no (c m : Int) (p : Option Addr) (cap : Nat) (l : List Int) (al : Bool) (w : World) (hl : l.length ≤ 9223372036854775807) (h : ¬ (1 ≤ c ∧ c ≤ 64 ∧ 0 ≤ m ∧ m ≤ 8 ∧ (l.length : Int) ≤ m)) :
    Calls Try.prog 28 #[.agg (sv c m p l.length cap al)] w fun e w' => e = .returned (.bool false) ∧ Below w.heap.size w w' := by
  have hd : decide (c < 1) = true ∨ (decide (c < 1) = false ∧ decide (64 < c) = true) ∨ (decide (c < 1) = false ∧ decide (64 < c) = false ∧ decide (m < 0) = true) ∨ (decide (c < 1) = false ∧ decide (64 < c) = false ∧ decide (m < 0) = false ∧ decide (8 < m) = true) ∨ (decide (c < 1) = false ∧ decide (64 < c) = false ∧ decide (m < 0) = false ∧ decide (8 < m) = false ∧ decide (m < (l.length : Int)) = true) := by
    simp only [decide_eq_true_eq, decide_eq_false_iff_not]
    omega
  clear h
  rcases hd with h1 | ⟨h1, h2⟩ | ⟨h1, h2, h3⟩ | ⟨h1, h2, h3, h4⟩ | ⟨h1, h2, h3, h4, h5⟩
  all_goals
    go_enter Try.func28, Try.ntmps28
    go_wp2
    go_ret
    exact ⟨rfl, balloc _ _⟩

set_option maxRecDepth 100000 in
set_option maxHeartbeats 4000000 in
theorem refMay_all (c m : Int) (p : Option Addr) (cap : Nat) (l : List Int) (w : World) (hin : NumsIn w p l) (h1 : 1 ≤ c) (h2 : c ≤ 64) (h3 : 0 ≤ m) (h4 : m ≤ 8) (h5 : (l.length : Int) ≤ m) :
    Calls Try.prog 28 #[.agg (sv c m p l.length cap true)] w fun e w' => e = .returned (.bool (decide (l.length = 0))) ∧ Below w.heap.size w w' := by
  have HI := Lib.hid hin
  by_cases h0 : l.length = 0
  · go_enter Try.func28, Try.ntmps28
    go_wp2
    refine wp_loop_rounds 1 ?_
    rw [rounds_succ]
    go_wp2
    go_ret
    exact ⟨ret_bool (by simp [h0]), balloc _ _⟩
  · obtain ⟨g, off, rfl, hg, hc⟩ := (HI.out.step (balloc w (.cells (sv c m p l.length cap true) 35))) 0 (by omega)
    rw [Nat.add_zero] at hc
    have hpos : 0 < l.length := by omega
    have H0 := Lib.hid h0
    clear h0 hin
    go_enter Try.func28, Try.ntmps28
    go_wp2
    refine wp_loop_rounds 1 ?_
    rw [rounds_succ]
    go_wp2
    go_ret
    exact ⟨ret_bool (by simp [H0.out]), balloc _ _⟩

theorem rises_head {c x a : Int} {t : List Int} : risesB c a (x :: t) = (!decide (x < a) && hasB c x && risesB c (x + 1) t) := rfl

set_option maxRecDepth 100000 in
set_option maxHeartbeats 4000000 in
theorem refMay_few (c m : Int) (p : Option Addr) (cap : Nat) (l : List Int) (w : World) (hin : NumsIn w p l) (h1 : 1 ≤ c) (h2 : c ≤ 64) (h3 : 0 ≤ m) (h4 : m ≤ 8) (h5 : (l.length : Int) ≤ m) :
    Calls Try.prog 28 #[.agg (sv c m p l.length cap false)] w fun e w' => e = .returned (.bool (risesB c 0 l)) ∧ Below w.heap.size w w' := by
  have K := Kp.box w (sv c m p l.length cap false) 35
  have HI := Lib.hid (hin.step K.2.2)
  have hcc := K.1
  clear hin
  go_enter Try.func28, Try.ntmps28
  go_wp2
  generalize World.alloc _ _ = w1 at K HI hcc ⊢
  go_loop [3] (fun i => ∃ k : Nat, k ≤ l.length ∧ i = .int .i64 k ∧ risesB c 0 l = risesB c (leastAt l k) (l.drop k)) (fun i => l.length - (intOf i).toNat)
  case atStart => exact ⟨0, Nat.zero_le _, rfl, rfl⟩
  case round =>
    obtain ⟨k, hk, rfl, hr⟩ := hrel
    have HR := Lib.hid hr
    clear hr
    by_cases hlt : k < l.length
    · obtain ⟨g, off, rfl, hg, hc⟩ := HI.out k hlt
      have HD := Lib.hid (drop_at l k hlt)
      have hnext : leastAt l (k + 1) = l.getD k 0 + 1 := by unfold leastAt; rw [if_neg (by omega)]; rfl
      have HNX := Lib.hid hnext
      rcases Nat.eq_zero_or_pos k with rfl | hk0
      · rw [Nat.add_zero] at hc
        have hla : leastAt l 0 = 0 := rfl
        have HLA := Lib.hid hla
        generalize l.getD 0 0 = x at hc HD HNX
        have hd : decide (x < 0) = true ∨ (decide (x < 0) = false ∧ decide (c ≤ x) = true) ∨ (decide (x < 0) = false ∧ decide (c ≤ x) = false) := by
          simp only [decide_eq_true_eq, decide_eq_false_iff_not]
          omega
        clear hla hnext
        rcases hd with hx | ⟨hx, hx2⟩ | ⟨hx, hx2⟩
        · have HF : Hid (risesB c 0 l = false) := Lib.hid (by
            rw [HR.out, HD.out, rises_head]
            simp at hx
            simp [hasB]
            omega)
          go_wp2
          go_ret
          exact ⟨ret_bool HF.out.symm, K.2.2⟩
        · have HF : Hid (risesB c 0 l = false) := Lib.hid (by
            rw [HR.out, HD.out, rises_head]
            simp at hx hx2
            simp [hasB]
            omega)
          go_wp2
          go_ret
          exact ⟨ret_bool HF.out.symm, K.2.2⟩
        · have HF : Hid (risesB c 0 l = risesB c (leastAt l (0 + 1)) (l.drop (0 + 1))) := Lib.hid (by
            rw [HNX.out, HR.out, HD.out, HLA.out, rises_head]
            simp at hx hx2
            have : hasB c x = true := hasB_iff.2 ⟨hx, hx2⟩
            rw [this]
            simp
            omega)
          go_wp2
          go_round
          case rel => exact ⟨0 + 1, by omega, by go_num, HF.out⟩
          case measure => simp [intOf]; omega
      · obtain ⟨j, rfl⟩ : ∃ j, k = j + 1 := ⟨k - 1, by omega⟩
        obtain ⟨-, hc'⟩ := HI.out.at j (by omega)
        have hla : leastAt l (j + 1) = l.getD j 0 + 1 := by unfold leastAt; rw [if_neg (by omega)]; rfl
        have HLA := Lib.hid hla
        generalize l.getD (j + 1) 0 = x at hc HD HNX
        generalize l.getD j 0 = y at hc' HLA
        have hd : decide (x < 0) = true ∨ (decide (x < 0) = false ∧ decide (c ≤ x) = true) ∨ (decide (x < 0) = false ∧ decide (c ≤ x) = false ∧ decide (x ≤ y) = true) ∨ (decide (x < 0) = false ∧ decide (c ≤ x) = false ∧ decide (x ≤ y) = false) := by
          simp only [decide_eq_true_eq, decide_eq_false_iff_not]
          omega
        obtain ⟨K1, hK1⟩ : ∃ K1 : Nat, K1 = j + 1 := ⟨_, rfl⟩
        rw [← hK1] at hlt hk hc
        rw [← hK1]
        have hw : IntKind.i64.wrap ((K1 : Int) - 1) = (j : Int) := by
          rw [IntKind.wrap_i64]
          omega
        have hw2 : RowKit.wrap64 ((K1 : Int) - 1) = (j : Int) := by
          simp only [RowKit.wrap64]
          omega
        have hk1 : 0 < K1 := by omega
        have HK1 := Lib.hid hK1
        have hjl : j < l.length := by omega
        clear hla hnext hK1
        rcases hd with hx | ⟨hx, hx2⟩ | ⟨hx, hx2, hx3⟩ | ⟨hx, hx2, hx3⟩
        · have HF : Hid (risesB c 0 l = false) := Lib.hid (by
            rw [HR.out, HD.out, rises_head]
            simp at hx
            simp [hasB]
            omega)
          go_wp2
          go_ret
          exact ⟨ret_bool HF.out.symm, K.2.2⟩
        · have HF : Hid (risesB c 0 l = false) := Lib.hid (by
            rw [HR.out, HD.out, rises_head]
            simp at hx hx2
            simp [hasB]
            omega)
          go_wp2
          go_ret
          exact ⟨ret_bool HF.out.symm, K.2.2⟩
        · have HF : Hid (risesB c 0 l = false) := Lib.hid (by
            rw [HR.out, HD.out, HLA.out, rises_head]
            simp at hx3
            have : decide (x < y + 1) = true := by simp; omega
            rw [this]
            rfl)
          go_wp2
          go_ret
          exact ⟨ret_bool HF.out.symm, K.2.2⟩
        · have HF : Hid (risesB c 0 l = risesB c (leastAt l (K1 + 1)) (l.drop (K1 + 1))) := Lib.hid (by
            rw [HK1.out, HNX.out, HR.out, HD.out, HLA.out, rises_head]
            simp at hx hx2 hx3
            have h1 : hasB c x = true := hasB_iff.2 ⟨hx, hx2⟩
            have h2 : decide (x < y + 1) = false := by simp; omega
            rw [h1, h2]
            rfl)
          go_wp2
          go_round
          case rel => exact ⟨K1 + 1, by omega, by go_num, HF.out⟩
          case measure => simp [intOf]; omega
    · have hkl : k = l.length := by omega
      go_wp2
      go_ret
      exact ⟨ret_bool (by rw [HR.out, List.drop_eq_nil_of_le (by omega)]; rfl), K.2.2⟩

theorem refMay_any (c m : Int) (p : Option Addr) (cap : Nat) (l : List Int) (al : Bool) (w : World) (hin : NumsIn w p l) (hl : l.length ≤ 9223372036854775807) :
    Calls Try.prog 28 #[.agg (sv c m p l.length cap al)] w fun e w' => e = .returned (.bool (mayB c m l al)) ∧ Below w.heap.size w w' := by
  by_cases h : 1 ≤ c ∧ c ≤ 64 ∧ 0 ≤ m ∧ m ≤ 8 ∧ (l.length : Int) ≤ m
  · obtain ⟨h1, h2, h3, h4, h5⟩ := h
    cases al
    · have e : mayB c m l false = risesB c 0 l := by simp [mayB, h1, h2, h3, h4, h5]
      rw [e]
      exact refMay_few c m p cap l w hin h1 h2 h3 h4 h5
    · have e : mayB c m l true = decide (l.length = 0) := by
        by_cases h0 : l.length = 0
        · have : l = [] := List.eq_nil_of_length_eq_zero h0
          subst this
          simp [mayB, h1, h2, h3, h4, risesB]
        · have : decide ((l.length : Int) ≤ 0) = false := by simp only [decide_eq_false_iff_not]; omega
          simp only [mayB, if_true, this]
          simp [h0]
      rw [e]
      exact refMay_all c m p cap l w hin h1 h2 h3 h4 h5
  · have e : mayB c m l al = false := by
      rcases Bool.eq_false_or_eq_true (mayB c m l al) with he | he
      · exfalso
        apply h
        simp only [mayB, Bool.and_eq_true, decide_eq_true_eq] at he
        obtain ⟨⟨⟨⟨⟨h1, h2⟩, h3⟩, h4⟩, h5⟩, -⟩ := he
        refine ⟨h1, h2, h3, h4, ?_⟩
        cases al
        · rwa [if_neg (by simp)] at h5
        · rw [if_pos rfl] at h5
          omega
      · exact he
    rw [e]
    exact refMay_no c m p cap l al w hl h

end Go.Proofs.Ytfnemldjhfcalaa
