/-
  What the document's Check does, and what Size does, the program's and the document's.
-/
import Derived.Test.YtbopjnpohenkhaaDoorChk
namespace Go.Proofs.YtbopjnpohenkhaaDoor
open Go Go.RowKit

theorem bnd_in (s lo hi : Int) : bndB s lo hi false = inB s lo hi := by simp [bndB, inB]
theorem bnd_pow (s hi : Int) : bndB s 1 hi true = powB s hi := by
  unfold bndB powB
  rcases Bool.eq_false_or_eq_true (isPow s) with h | h
  · obtain ⟨k, hk, rfl⟩ := (isPow_iff s).1 h
    have := two_lt k hk
    simp [h]
    intro _
    omega
  · simp [h]

/-- The room of each network, by its number. -/
def room (c : Cfg) (k : Nat) : Int := [c.r0, c.r1, c.r2].getD k 0

theorem okC_eq (c : Cfg) : okC c = (inB c.co 1 64 && powB c.ho 16 && powB c.se 64 && inB c.wa 1 8 && powB c.wo 8 && powB c.li 1024 && inB c.po 0 8 && inB c.ms 1 8 && inB c.bu 1 16 && inB c.wb 1 8 && (inB (room c 0) 1 64 && inB (room c 1) 1 64 && inB (room c 2) 1 64)) := by
  unfold okC
  rw [show List.range 13 = [0, 1, 2, 3, 4, 5, 6, 7, 8, 9, 10, 11, 12] by decide]
  simp only [List.all_cons, List.all_nil, okAt, bsz, blo, bhi, bpw, room, List.getD_cons_zero, List.getD_cons_succ, bnd_in, bnd_pow, Bool.and_assoc, Bool.and_true]

theorem chk_ok (c : Cfg) (h : okC c = true) : chk c = 0 := by simp [chk, h]
theorem chk_no (c : Cfg) (h : okC c = false) : chk c = 1 := by simp [chk, h]

theorem no0 (c : Cfg) (h : ¬ inB c.co 1 64 = true) : chk c = 1 := chk_no c (by rw [okC_eq]; simp at h; simp [h])
theorem no1 (c : Cfg) (h : ¬ powB c.ho 16 = true) : chk c = 1 := chk_no c (by rw [okC_eq]; simp at h; simp [h])
theorem no2 (c : Cfg) (h : ¬ powB c.se 64 = true) : chk c = 1 := chk_no c (by rw [okC_eq]; simp at h; simp [h])
theorem no3 (c : Cfg) (h : ¬ powB c.wo 8 = true) : chk c = 1 := chk_no c (by rw [okC_eq]; simp at h; simp [h])
theorem no4 (c : Cfg) (h : (!powB c.li 1024) = true) : chk c = 1 := chk_no c (by rw [okC_eq]; simp at h; simp [h])
theorem no5 (c : Cfg) (h : ¬ inB c.wa 1 8 = true) : chk c = 1 := chk_no c (by rw [okC_eq]; simp at h; simp [h])
theorem no6 (c : Cfg) (h : ¬ inB c.po 0 8 = true) : chk c = 1 := chk_no c (by rw [okC_eq]; simp at h; simp [h])
theorem no7 (c : Cfg) (h : ¬ inB c.ms 1 8 = true) : chk c = 1 := chk_no c (by rw [okC_eq]; simp at h; simp [h])
theorem no8 (c : Cfg) (h : ¬ inB c.bu 1 16 = true) : chk c = 1 := chk_no c (by rw [okC_eq]; simp at h; simp [h])
theorem no9 (c : Cfg) (h : (!inB c.wb 1 8) = true) : chk c = 1 := chk_no c (by rw [okC_eq]; simp at h; simp [h])
theorem noRoom (c : Cfg) (k : Nat) (hk : k < 3) (h : inB (room c k) 1 64 = false) : chk c = 1 := chk_no c (by
  rw [okC_eq]
  rcases (show k = 0 ∨ k = 1 ∨ k = 2 by omega) with rfl | rfl | rfl <;> simp [h])
theorem yes (c : Cfg) (h0 : inB c.co 1 64 = true) (h1 : powB c.ho 16 = true) (h2 : powB c.se 64 = true) (h3 : powB c.wo 8 = true) (h4 : (!powB c.li 1024) = false) (h5 : inB c.wa 1 8 = true) (h6 : inB c.po 0 8 = true) (h7 : inB c.ms 1 8 = true) (h8 : inB c.bu 1 16 = true) (h9 : (!inB c.wb 1 8) = false) (hr : ∀ j, j < 3 → inB (room c j) 1 64 = true) : chk c = 0 := chk_ok c (by
  have a := hr 0 (by omega)
  have b := hr 1 (by omega)
  have d := hr 2 (by omega)
  simp at h4 h9
  rw [okC_eq]; simp [h0, h1, h2, h3, h4, h5, h6, h7, h8, h9, a, b, d])

set_option maxHeartbeats 1000000 in
theorem refCheck_any (c : Cfg) (w : World) :
    Calls Tryd.prog 10 #[cv c] w fun e w' => e = .returned (.int .i64 (chk c)) ∧ Below w.heap.size w w' := by
  go_enter Tryd.func10, Tryd.ntmps10
  go_wp2_with (first | (go_at_call 19; refine (in_any _ _ _ _).mono ?_; rintro e w1 ⟨rfl, rfl⟩) | (go_at_call 20; refine (refPow_any _ _ _).mono ?_; rintro e w1 ⟨rfl, rfl⟩))
  all_goals try (go_ret; exact ⟨ret_int (by first | exact (no0 c (by assumption)).symm | exact (no1 c (by assumption)).symm | exact (no2 c (by assumption)).symm | exact (no3 c (by assumption)).symm | exact (no4 c (by assumption)).symm | exact (no5 c (by assumption)).symm | exact (no6 c (by assumption)).symm | exact (no7 c (by assumption)).symm | exact (no8 c (by assumption)).symm | exact (no9 c (by assumption)).symm), (Below.refl _ _).alloc (Nat.le_refl _) _⟩)
  have HY : Hid ((∀ j, j < 3 → inB (room c j) 1 64 = true) → chk c = 0) := Lib.hid (yes c (by assumption) (by assumption) (by assumption) (by assumption) (by assumption) (by assumption) (by assumption) (by assumption) (by assumption) (by assumption))
  have e4' : (!powB c.li 1024) = false := by assumption
  have e9' : (!inB c.wb 1 8) = false := by assumption
  have e4 : powB c.li 1024 = true := by simpa using e4'
  have e9 : inB c.wb 1 8 = true := by simpa using e9'
  rw [e4, e9]
  clear e4 e9 e4' e9'
  go_loop [3] (fun i => ∃ k : Nat, k ≤ 3 ∧ i = .int .i64 k ∧ Hid (∀ j, j < k → inB (room c j) 1 64 = true)) (fun i => 3 - (intOf i).toNat)
  case atStart => exact ⟨0, by omega, rfl, Lib.hid (fun j hj => by omega)⟩
  case round =>
    obtain ⟨k, hk, rfl, HJ⟩ := hrel
    by_cases hlt : k < 3
    · have hcell : #[Value.int .i64 c.co, .int .i64 c.ho, .int .i64 c.se, .int .i64 c.wa, .int .i64 c.wo, .int .i64 c.li, .int .i64 c.po, .int .i64 c.ms, .int .i64 c.bu, .int .i64 c.wb, .int .i64 c.r0, .int .i64 c.r1, .int .i64 c.r2][10 + k]? = some (.int .i64 (room c k)) := by
        rcases (show k = 0 ∨ k = 1 ∨ k = 2 by omega) with rfl | rfl | rfl <;> rfl
      go_wp2_with (go_at_call 19; refine (in_any _ _ _ _).mono ?_; rintro e w1 ⟨rfl, rfl⟩)
      · have h : (!inB (room c k) 1 64) = true := by assumption
        go_ret
        exact ⟨ret_int (noRoom c k hlt (by simpa using h)).symm, (Below.refl _ _).alloc (Nat.le_refl _) _⟩
      · have h : (!inB (room c k) 1 64) = false := by assumption
        have HK : Hid (∀ j, j < k + 1 → inB (room c j) 1 64 = true) := Lib.hid (fun j hj => by
          by_cases e : j = k
          · subst e; simpa using h
          · exact HJ.out j (by omega))
        go_round
        case rel => exact ⟨trivial, _, _, _, _, _, _, _, _, _, _, _, _, ⟨k + 1, by omega, by go_num, HK⟩, rfl⟩
        case measure => simp [intOf]; omega
    · go_wp2
      go_ret
      exact ⟨ret_int (HY.out (fun j hj => HJ.out j (by omega))).symm, (Below.refl _ _).alloc (Nat.le_refl _) _⟩

/-- How many addresses there are. -/
def sz (c : Cfg) : Int := if okC c = true then c.wo * c.li else 0

theorem inB_of {n lo hi : Int} (h : inB n lo hi = true) : lo ≤ n ∧ n ≤ hi := by simpa [inB] using h
theorem powB_of {n hi : Int} (h : powB n hi = true) : 1 ≤ n ∧ n ≤ hi := by
  unfold powB at h
  simp at h
  obtain ⟨k, hk, rfl⟩ := (isPow_iff n).1 h.1
  have := two_lt k hk
  omega
theorem sz_bound (c : Cfg) (h : okC c = true) : (1 ≤ c.wo ∧ c.wo ≤ 8) ∧ 1 ≤ c.li ∧ c.li ≤ 1024 := by
  rw [okC_eq] at h
  simp at h
  exact ⟨powB_of (by simp [h]), powB_of (by simp [h])⟩
theorem mul_bound (a b : Int) (ha : 1 ≤ a ∧ a ≤ 8) (hb : 1 ≤ b ∧ b ≤ 1024) : 1 ≤ a * b ∧ a * b ≤ 8192 := by
  have h1 : 1 * 1 ≤ a * b := Int.mul_le_mul ha.1 hb.1 (by omega) (by omega)
  have h2 : a * b ≤ 8 * 1024 := Int.mul_le_mul ha.2 hb.2 (by omega) (by omega)
  omega

theorem size_any (c : Cfg) (w : World) (hc : c.fits) :
    Calls Tryd.prog 13 #[cv c] w fun e w' => e = .returned (.int .i64 (sz c)) ∧ Below w.heap.size w w' := by
  have HC := Lib.hid hc
  clear hc
  rcases Bool.eq_false_or_eq_true (okC c) with h | h
  · have h0 := chk_ok c h
    have hb := sz_bound c h
    have hm := mul_bound _ _ hb.1 hb.2
    have HS : Hid (sz c = c.wo * c.li) := Lib.hid (by simp [sz, h])
    clear h hb
    go_enter Tryd.func13, Tryd.ntmps13
    go_wp2_with (go_at_call 9; refine (check_any c _ HC.out).mono ?_; rintro e w1 ⟨rfl, hb1⟩; have hcl := fun o => hb1.cell (p := ⟨w.heap.size, o, none⟩) (by simp))
    go_ret
    exact ⟨ret_int HS.out.symm, ((Below.refl _ _).alloc (Nat.le_refl _) _).trans (hb1.mono (by simp))⟩
  · have h0 := chk_no c h
    have HS : Hid (sz c = 0) := Lib.hid (by simp [sz, h])
    clear h
    go_enter Tryd.func13, Tryd.ntmps13
    go_wp2_with (go_at_call 9; refine (check_any c _ HC.out).mono ?_; rintro e w1 ⟨rfl, hb1⟩)
    go_ret
    exact ⟨ret_int HS.out.symm, ((Below.refl _ _).alloc (Nat.le_refl _) _).trans (hb1.mono (by simp))⟩

theorem refSize_any (c : Cfg) (w : World) :
    Calls Tryd.prog 14 #[cv c] w fun e w' => e = .returned (.int .i64 (sz c)) ∧ Below w.heap.size w w' := by
  rcases Bool.eq_false_or_eq_true (okC c) with h | h
  · have h0 := chk_ok c h
    have hb := sz_bound c h
    have hm := mul_bound _ _ hb.1 hb.2
    have HS : Hid (sz c = c.wo * c.li) := Lib.hid (by simp [sz, h])
    clear h hb
    go_enter Tryd.func14, Tryd.ntmps14
    go_wp2_with (go_at_call 10; refine (refCheck_any c _).mono ?_; rintro e w1 ⟨rfl, hb1⟩; have hcl := fun o => hb1.cell (p := ⟨w.heap.size, o, none⟩) (by simp))
    go_ret
    exact ⟨ret_int HS.out.symm, ((Below.refl _ _).alloc (Nat.le_refl _) _).trans (hb1.mono (by simp))⟩
  · have h0 := chk_no c h
    have HS : Hid (sz c = 0) := Lib.hid (by simp [sz, h])
    clear h
    go_enter Tryd.func14, Tryd.ntmps14
    go_wp2_with (go_at_call 10; refine (refCheck_any c _).mono ?_; rintro e w1 ⟨rfl, hb1⟩)
    go_ret
    exact ⟨ret_int HS.out.symm, ((Below.refl _ _).alloc (Nat.le_refl _) _).trans (hb1.mono (by simp))⟩

theorem Tab.keeps {w w' : World} (h : Tab w) (h1 : 1 < w.heap.size) (hb : Below w.heap.size w w') : Tab w' := fun j hj => by
  rw [hb.cell (p := ⟨1, j, none⟩) h1]; exact h j hj

/-- awake: the calls whose answers the document fixes. -/
theorem awake_any (w : World) (hT : Tab w) (h1 : 1 < w.heap.size) :
    Calls Tryd.prog 6 #[] w fun e w' => e = .returned (.bool true) ∧ Below w.heap.size w w' := by
  have HT := Lib.hid hT
  clear hT
  have a1 : chk ⟨1, 1, 2, 1, 4, 8, 0, 1, 1, 1, 1, 1, 1⟩ = 0 := by decide +kernel
  have a2 : chk ⟨0, 0, 0, 0, 0, 0, 0, 0, 0, 0, 0, 0, 0⟩ = 1 := by decide +kernel
  have a3 : sz ⟨1, 1, 2, 1, 4, 8, 0, 1, 1, 1, 1, 1, 1⟩ = 32 := by decide +kernel
  have a4 : lst 9 = 16 := by decide +kernel
  have a5 : lg 8 = 3 := by decide +kernel
  have a6 : isPow 8 = true := by decide +kernel
  have a7 : isPow 6 = false := by decide +kernel
  go_enter Tryd.func6, Tryd.ntmps6
  go_wp2_with (first
    | (go_at_call 7; refine (power_any _ _ (by omega) (HT.out.keeps h1 ((Below.refl _ _).alloc (Nat.le_refl _) _))).mono ?_; rintro e w1 ⟨rfl, rfl⟩)
    | (go_at_call 11; refine (least_any _ _ (by omega) (by omega)).mono ?_; rintro e w1 ⟨rfl, rfl⟩))
  refine (check_any ⟨1, 1, 2, 1, 4, 8, 0, 1, 1, 1, 1, 1, 1⟩ _ (by simp [Cfg.fits])).mono ?_
  rintro e w1 ⟨rfl, hb1⟩
  have hcl := fun o => hb1.cell (p := ⟨w.heap.size, o, none⟩) (by simp)
  go_wp2_with (fail)
  refine (check_any ⟨0, 0, 0, 0, 0, 0, 0, 0, 0, 0, 0, 0, 0⟩ _ (by simp [Cfg.fits])).mono ?_
  rintro e w2 ⟨rfl, hb2⟩
  have hz : w.heap.size < w1.heap.size := by have := hb1.size; simp at this; omega
  have hcl2 := fun o => hb2.cell (p := ⟨w.heap.size, o, none⟩) hz
  go_wp2_with (go_at_call 11; refine (least_any _ _ (by omega) (by omega)).mono ?_; rintro e w1 ⟨rfl, rfl⟩)
  refine (size_any ⟨1, 1, 2, 1, 4, 8, 0, 1, 1, 1, 1, 1, 1⟩ _ (by simp [Cfg.fits])).mono ?_
  rintro e w3 ⟨rfl, hb3⟩
  go_wp2
  go_ret
  refine ⟨rfl, ((Below.refl _ _).alloc (Nat.le_refl _) _).trans ((hb1.mono (by simp)).trans ((hb2.mono (by omega)).trans (hb3.mono ?_)))⟩
  have := hb2.size
  omega

end Go.Proofs.YtbopjnpohenkhaaDoor
