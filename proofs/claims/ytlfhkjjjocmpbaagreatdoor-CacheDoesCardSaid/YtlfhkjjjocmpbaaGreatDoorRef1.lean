/-
  What the document's own answers of layer 1 are: Power, Check.
-/
import Derived.Test.YtlfhkjjjocmpbaaGreatDoorLayBase
namespace Go.Proofs.YtlfhkjjjocmpbaaGreatDoor
open Go Go.RowKit

theorem in_any (n lo hi : Int) (w : World) :
    Calls Tryz.prog 68 #[.int .i64 n, .int .i64 lo, .int .i64 hi] w fun e w' => e = .returned (.bool (inB n lo hi)) ∧ w = w' := by
  go_enter Tryz.func68, Tryz.ntmps68
  go_wp2
  · have h : lo ≤ n := by assumption
    go_ret
    exact ⟨ret_bool (by simp [inB, h]), rfl⟩
  · have h : n < lo := by assumption
    go_ret
    exact ⟨ret_bool (by simp [inB]; omega), rfl⟩

/-- Power, the document's. -/
theorem refPower_any (n : Int) (w : World) :
    Calls Tryz.prog 125 #[.int .i64 n] w fun e w' => e = .returned (.tuple #[.int .i64 (lg n), .bool (isPow n)]) ∧ w = w' := by
  go_enter Tryz.func125, Tryz.ntmps125
  go_wp2
  go_loop [4, 5] (fun p i => ∃ (k : Nat) (x : Int), k ≤ 63 ∧ i = .int .i64 k ∧ p = .int .i64 x ∧ (k < 63 → x = (2 : Int) ^ k) ∧ ∀ j, j < k → n ≠ (2 : Int) ^ j) (fun _ i => 63 - (intOf i).toNat)
  case atStart => exact ⟨0, 1, by omega, rfl, rfl, fun _ => rfl, fun j hj => by omega⟩
  case round =>
    obtain ⟨k, x, hk, rfl, rfl, hx, hn⟩ := hrel
    have HX := Lib.hid hx
    have HN := Lib.hid hn
    clear hx hn
    by_cases hlt : k < 63
    · have hb := two_lt k hlt
      have hxk := HX.out hlt
      by_cases he : x = n
      · have e1 : lg n = k := by rw [← he, hxk]; exact lg_two k hlt
        have e2 : isPow n = true := by rw [← he, hxk]; exact isPow_two k hlt
        have E1 := Lib.hid e1
        have E2 := Lib.hid e2
        have het : (x == n) = true := by simpa using he
        clear e1 e2 he hxk
        go_wp2
        go_ret2
        exact ⟨ret_pair (by rw [E1.out]) E2.out.symm, rfl⟩
      · have hef : (x == n) = false := by simpa using he
        have hx0 : 0 < x := by omega
        have hx1 : x ≤ 4611686018427387904 := by omega
        have HXK := Lib.hid hxk
        clear he hxk hb
        go_wp2
        go_round
        case rel => 
          refine ⟨k + 1, _, by omega, by go_num, rfl, fun h => ?_, fun j hj => ?_⟩
          · have hb2 := two_lt (k + 1) (by omega)
            rw [HXK.out]
            rw [Int.pow_succ] at hb2 ⊢
            unfold wrap64
            omega
          · by_cases hjk : j = k
            · subst hjk
              rw [← HXK.out]
              intro e
              rw [e] at hef
              simp at hef
            · exact HN.out j (by omega)
        case measure => simp [intOf]; omega
    · have hk63 : k = 63 := by omega
      have hno : isPow n = false := by
        rcases Bool.eq_false_or_eq_true (isPow n) with h | h
        · obtain ⟨j, hj, e⟩ := (isPow_iff n).1 h
          exact absurd e (HN.out j (by omega))
        · exact h
      have HNO := Lib.hid hno
      clear hno hk63
      go_wp2
      go_ret2
      exact ⟨ret_pair (by rw [lg_no n HNO.out]; rfl) HNO.out.symm, rfl⟩

theorem refPow_any (n hi : Int) (w : World) :
    Calls Tryz.prog 69 #[.int .i64 n, .int .i64 hi] w fun e w' => e = .returned (.bool (powB n hi)) ∧ w = w' := by
  go_enter Tryz.func69, Tryz.ntmps69
  go_wp2_with (go_at_call 125; refine (refPower_any _ _).mono ?_; rintro e w' ⟨rfl, rfl⟩)
  · have h : isPow n = true := by assumption
    go_ret
    exact ⟨ret_bool (by simp [powB, h]), rfl⟩
  · have h : ¬ isPow n = true := by assumption
    go_ret
    exact ⟨ret_bool (by simp [powB, h]), rfl⟩

theorem no0 (c : Cfg) (h : ¬ inB c.co 1 64 = true) : chk c = 1 := chk_no c (by rw [okC_eq]; simp at h; simp [h])
theorem no1 (c : Cfg) (h : ¬ powB c.ho 16 = true) : chk c = 1 := chk_no c (by rw [okC_eq]; simp at h; simp [h])
theorem no2 (c : Cfg) (h : ¬ powB c.se 64 = true) : chk c = 1 := chk_no c (by rw [okC_eq]; simp at h; simp [h])
theorem no3 (c : Cfg) (h : ¬ powB c.wo 8 = true) : chk c = 1 := chk_no c (by rw [okC_eq]; simp at h; simp [h])
theorem no4 (c : Cfg) (h : (!powB c.li 1024) = true) : chk c = 1 := chk_no c (by rw [okC_eq]; simp at h; simp [h])
theorem no5 (c : Cfg) (h : ¬ inB c.wa 1 8 = true) : chk c = 1 := chk_no c (by rw [okC_eq]; simp at h; simp [h])
theorem no6 (c : Cfg) (h : ¬ inB c.po 0 8 = true) : chk c = 1 := chk_no c (by rw [okC_eq]; simp at h; simp [h])
theorem no7 (c : Cfg) (h : ¬ inB c.ms 1 8 = true) : chk c = 1 := chk_no c (by rw [okC_eq]; simp at h; simp [h])
theorem no8 (c : Cfg) (h : ¬ inB c.bu 1 16 = true) : chk c = 1 := chk_no c (by rw [okC_eq]; simp at h; simp [h])
theorem no9 (c : Cfg) (h : (!inB c.wb 1 8) = true) : chk c = 1 := chk_no c (by rw [okC_eq]; simp at h; simp [h])
theorem noRoom (c : Cfg) (k : Nat) (hk : k < 3) (h : inB (room c k) 1 64 = false) : chk c = 1 := chk_no c (by
  rw [okC_eq]
  rcases (show k = 0 ∨ k = 1 ∨ k = 2 by omega) with rfl | rfl | rfl <;> simp [h])
theorem yes (c : Cfg) (h0 : inB c.co 1 64 = true) (h1 : powB c.ho 16 = true) (h2 : powB c.se 64 = true) (h3 : powB c.wo 8 = true) (h4 : (!powB c.li 1024) = false) (h5 : inB c.wa 1 8 = true) (h6 : inB c.po 0 8 = true) (h7 : inB c.ms 1 8 = true) (h8 : inB c.bu 1 16 = true) (h9 : (!inB c.wb 1 8) = false) (hr : ∀ j, j < 3 → inB (room c j) 1 64 = true) : chk c = 0 := chk_ok c (by
  have a := hr 0 (by omega)
  have b := hr 1 (by omega)
  have d := hr 2 (by omega)
  simp at h4 h9
  rw [okC_eq]; simp [h0, h1, h2, h3, h4, h5, h6, h7, h8, h9, a, b, d])

set_option maxHeartbeats 1000000 in
theorem refCheck_any (c : Cfg) (w : World) :
    Calls Tryz.prog 32 #[cv c] w fun e w' => e = .returned (.int .i64 (chk c)) ∧ Below w.heap.size w w' := by
  go_enter Tryz.func32, Tryz.ntmps32
  go_wp2_with (first | (go_at_call 68; refine (in_any _ _ _ _).mono ?_; rintro e w1 ⟨rfl, rfl⟩) | (go_at_call 69; refine (refPow_any _ _ _).mono ?_; rintro e w1 ⟨rfl, rfl⟩))
  all_goals try (go_ret; exact ⟨ret_int (by first | exact (no0 c (by assumption)).symm | exact (no1 c (by assumption)).symm | exact (no2 c (by assumption)).symm | exact (no3 c (by assumption)).symm | exact (no4 c (by assumption)).symm | exact (no5 c (by assumption)).symm | exact (no6 c (by assumption)).symm | exact (no7 c (by assumption)).symm | exact (no8 c (by assumption)).symm | exact (no9 c (by assumption)).symm), (Below.refl _ _).alloc (Nat.le_refl _) _⟩)
  have HY : Hid ((∀ j, j < 3 → inB (room c j) 1 64 = true) → chk c = 0) := Lib.hid (yes c (by assumption) (by assumption) (by assumption) (by assumption) (by assumption) (by assumption) (by assumption) (by assumption) (by assumption) (by assumption))
  have e4' : (!powB c.li 1024) = false := by assumption
  have e9' : (!inB c.wb 1 8) = false := by assumption
  have e4 : powB c.li 1024 = true := by simpa using e4'
  have e9 : inB c.wb 1 8 = true := by simpa using e9'
  rw [e4, e9]
  clear e4 e9 e4' e9'
  go_loop [3] (fun i => ∃ k : Nat, k ≤ 3 ∧ i = .int .i64 k ∧ Hid (∀ j, j < k → inB (room c j) 1 64 = true)) (fun i => 3 - (intOf i).toNat)
  case atStart => exact ⟨0, by omega, rfl, Lib.hid (fun j hj => by omega)⟩
  case round =>
    obtain ⟨k, hk, rfl, HJ⟩ := hrel
    by_cases hlt : k < 3
    · have hcell : #[Value.int .i64 c.co, .int .i64 c.ho, .int .i64 c.se, .int .i64 c.wa, .int .i64 c.wo, .int .i64 c.li, .int .i64 c.po, .int .i64 c.ms, .int .i64 c.bu, .int .i64 c.wb, .int .i64 c.r0, .int .i64 c.r1, .int .i64 c.r2][10 + k]? = some (.int .i64 (room c k)) := by
        rcases (show k = 0 ∨ k = 1 ∨ k = 2 by omega) with rfl | rfl | rfl <;> rfl
      go_wp2_with (go_at_call 68; refine (in_any _ _ _ _).mono ?_; rintro e w1 ⟨rfl, rfl⟩)
      · have h : (!inB (room c k) 1 64) = true := by assumption
        go_ret
        exact ⟨ret_int (noRoom c k hlt (by simpa using h)).symm, (Below.refl _ _).alloc (Nat.le_refl _) _⟩
      · have h : (!inB (room c k) 1 64) = false := by assumption
        have HK : Hid (∀ j, j < k + 1 → inB (room c j) 1 64 = true) := Lib.hid (fun j hj => by
          by_cases e : j = k
          · subst e; simpa using h
          · exact HJ.out j (by omega))
        go_round
        case rel => exact ⟨trivial, _, _, _, _, _, _, _, _, _, _, _, _, ⟨k + 1, by omega, by go_num, HK⟩, rfl⟩
        case measure => simp [intOf]; omega
    · go_wp2
      go_ret
      exact ⟨ret_int (HY.out (fun j hj => HJ.out j (by omega))).symm, (Below.refl _ _).alloc (Nat.le_refl _) _⟩

end Go.Proofs.YtlfhkjjjocmpbaaGreatDoor
