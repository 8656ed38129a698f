/-
  The document's array, further: Lay.
-/
import Derived.Test.YtldbepaclddgmaaDoorArS
namespace Go.Proofs.YtldbepaclddgmaaDoor
open Go Go.RowKit Go.Sort

/-- Numbers that the document's Lay reckons. -/
theorem lay_math {c : Cfg} (ok : okC c = true) (line : Int) {m : Nat} (hm : (m : Int) < c.wa) :
    line % c.se * c.wa = (soN c line : Int) ∧ wrap64 (wrap64 (soN c line : Int) + m) = (soN c line + m : Nat) := by
  obtain ⟨⟨a1, a2⟩, ⟨b1, b2⟩, _, _⟩ := ok_ways ok
  have h2 := (soN_lt ok line).2
  have h3 : c.se.toNat * c.wa.toNat ≤ 64 * 8 := Nat.mul_le_mul (by omega) (by omega)
  have h4 : soN c line + m < 512 := by omega
  constructor
  · unfold soN
    have hwa : ((c.wa.toNat : Nat) : Int) = c.wa := Int.toNat_of_nonneg (by omega)
    have hse : c.se ≠ 0 := by omega
    rw [Int.natCast_mul, hwa, Int.toNat_of_nonneg (Int.emod_nonneg line hse)]
  · rw [wrap_small (soN c line : Int) (by omega) (by omega), wrap_small ((soN c line : Int) + m) (by omega) (by omega)]
    omega

set_option maxHeartbeats 2000000 in
theorem refLay_any {w : World} {b g : Nat} {c : Cfg} {L : List Wy} (h : Ar w b g c L) (gd : Good c L) (line way : Int) :
    Calls Tryd.prog 10 #[.pointer (some ⟨b, 0, none⟩), .int .i64 line, .int .i64 way] w (GaveA w b g c (layP c L line way)) := by
  have HEl : ∀ n, layP c L line way = (n, L) → Hid (∀ w', Below w.heap.size w w' → GaveA w b g c (layP c L line way) (.returned (.int .i64 n)) w') := fun n e => Lib.hid (fun w' hb => by
    rw [e]
    exact ⟨rfl, h.below hb, .of_below hb⟩)
  have hw := ok_ways h.sz.ok
  have hok := h.sz.ok
  by_cases hbad : lnOk c line = false ∨ way < 0 ∨ c.wa ≤ way
  · have HE := HEl 1 (layP_bad hbad)
    have hcase : line < 0 ∨ (¬ line < 0 ∧ c.li ≤ line) ∨ (¬ line < 0 ∧ ¬ c.li ≤ line ∧ way < 0) ∨ (¬ line < 0 ∧ ¬ c.li ≤ line ∧ ¬ way < 0 ∧ c.wa ≤ way) := by
      unfold lnOk inR at hbad
      simp [hok] at hbad
      omega
    have h5 := h.hd 5
    have h3 := h.hd 3
    simp at h5 h3
    clear h gd hbad hok HEl
    rcases hcase with k1 | ⟨k1, k2⟩ | ⟨k1, k2, k3⟩ | ⟨k1, k2, k3, k4⟩
    all_goals
      go_enter Tryd.func10, Tryd.ntmps10
      go_wp2
      go_ret
      exact HE.out _ (Below.refl _ _)
  · have hgood : lnOk c line = true ∧ 0 ≤ line ∧ line < c.li ∧ 0 ≤ way ∧ way < c.wa := by
      rcases Bool.eq_false_or_eq_true (lnOk c line) with hl | hl
      · have := ok_of_lnOk hl
        exact ⟨hl, this.2.1, this.2.2, by omega, by omega⟩
      · exact absurd (.inl hl) hbad
    obtain ⟨hl, k1, k2, k3, k4⟩ := hgood
    obtain ⟨m, rfl⟩ : ∃ m : Nat, way = m := ⟨way.toNat, by omega⟩
    have h5 := h.hd 5
    have h3 := h.hd 3
    have h2 := h.hd 2
    have h13 := h.hd 13
    simp at h5 h3 h2 h13
    have hln : line ≤ 1024 := by omega
    have hwa : c.wa ≤ 8 := by omega
    have hse : 1 ≤ c.se ∧ c.se ≤ 64 := by omega
    have hne : (c.se == 0) = false := by simp; omega
    rcases hp : plc c L line with _ | k
    · have HP := Lib.hid (place_no h gd line hp)
      obtain ⟨x, hx⟩ := h.sz.at_some (line := line) (j := m) (by omega)
      have hi := (List.getElem?_eq_some_iff.1 hx).1
      have q0 := h.ways _ x hx 0 _ rfl
      have q10 := h.ways _ x hx 10 _ rfl
      rw [Nat.zero_add] at q0 q10
      rw [Nat.add_zero] at q0
      obtain ⟨e1, e2⟩ := lay_math hok line k4
      rcases Bool.eq_false_or_eq_true (tk x) with ht | ht
      · have HE := HEl 4 (layP_full hbad hp (by rw [Int.toNat_natCast, tkAt_some hx, ht]))
        have hs : (x.st != 0) = true ∨ (x.st != 0) = false ∧ x.lk = true := by
          unfold tk at ht
          rcases Bool.eq_false_or_eq_true (x.st != 0) with hs | hs
          · exact .inl hs
          · exact .inr ⟨hs, by rw [hs] at ht; simpa using ht⟩
        generalize soN c line = so at *
        obtain ⟨i, hi2⟩ : ∃ i, so + m = i := ⟨_, rfl⟩
        rw [hi2] at e2 q0 q10 hi
        clear h gd hbad hok HEl hp hx ht hw hi2 hl
        rcases hs with hs | ⟨hs, hs2⟩
        all_goals
          go_enter Tryd.func10, Tryd.ntmps10
          go_wp2_with (go_at_call 26; refine HP.out.mono ?_; rintro e w1 ⟨rfl, rfl⟩)
          go_quiet (fail)
          rw [e2]
          clear e1 e2
          go_wp2
          go_ret
          exact HE.out _ (below_drewN (Below.refl _ _) _)
      · have HE : Hid (∀ w1, Below w.heap.size w w1 → w1.there g ((soN c line + m) * 11) 11 ∧ GaveA w b g c (layP c L line m) (.returned (.int .i64 0)) (w1.setCells g ((soN c line + m) * 11) (yc (newY line)))) := Lib.hid (fun w1 hb => by
          rw [layP_yes hbad hp (by rw [Int.toNat_natCast, tkAt_some hx, ht]), Int.toNat_natCast]
          have hs := (h.below hb).store hx (newY line) 0 (yc (newY line)) (by rw [yc_len]; omega) (fun j _ => by rw [Nat.zero_add]) (fun j h1 h2 => by rw [yc_len] at h2; omega)
          have ht := turn_setCells g ((soN c line + m) * 11 + 0) (yc (newY line)) w1
          have hth := (h.below hb).there hx 0 11 (by omega)
          rw [Nat.add_zero] at hs ht hth
          exact ⟨hth, rfl, hs, (TurnG.of_below hb).trans ht⟩)
        have hs : (x.st != 0) = false ∧ x.lk = false := by
          unfold tk at ht
          simpa using ht
        obtain ⟨hs, hs2⟩ := hs
        generalize soN c line = so at *
        obtain ⟨i, hi2⟩ : ∃ i, so + m = i := ⟨_, rfl⟩
        rw [hi2] at e2 q0 q10 hi HE
        clear h gd hbad hok HEl hp hx ht hw hi2 hl
        go_enter Tryd.func10, Tryd.ntmps10
        go_wp2_with (go_at_call 26; refine HP.out.mono ?_; rintro e w1 ⟨rfl, rfl⟩)
        go_quiet (fail)
        rw [e2]
        clear e1 e2
        have hE := HE.out _ (below_drewN (Below.refl _ _) nq)
        go_wp2_with (((with_reducible refine wpList_store_mid (op := ⟨none, _, _, _, _, _⟩) rfl 46 (.tmp 77) (.tmp 76) rfl g (i * 11) (ycells (newY line)) ?sx ?sy ?st ?si ?s1 ?_); (case sx => rfl); (case sy => rfl); (case st => exact hE.1); (case si => kernel_rfl); (case s1 => kernel_rfl)))
        go_ret
        exact hE.2
    · have HP := Lib.hid (place_yes h gd line hp)
      have HE := HEl 6 (layP_twice hbad hp)
      generalize soN c line + k = i at *
      clear h gd hbad hok HEl hp hw hl
      go_enter Tryd.func10, Tryd.ntmps10
      go_wp2_with (go_at_call 26; refine HP.out.mono ?_; rintro e w1 ⟨rfl, rfl⟩)
      go_ret
      exact HE.out _ (Below.refl _ _)

end Go.Proofs.YtldbepaclddgmaaDoor
