/-
  The document's array, further: Set.
-/
import Derived.Test.YtldbepaclddgmaaDoorArV
namespace Go.Proofs.YtldbepaclddgmaaDoor
open Go Go.RowKit Go.Sort

theorem at_range (d : Wd) (k : Nat) (hk : k < 8) : (dcells d)[k]? = some (.int .i64 (d.at k)) := word_cell d k hk

set_option maxHeartbeats 2000000 in
theorem refSet_any {w : World} {b g : Nat} {c : Cfg} {L : List Wy} (h : Ar w b g c L) (gd : Good c L) (line st : Int) (d : Wd) :
    Calls Tryd.prog 11 #[.pointer (some ⟨b, 0, none⟩), .int .i64 line, .int .i64 st, .agg (dcells d)] w (GaveA w b g c (setP c L line st d)) := by
  have hB0 : ∀ o, Below w.heap.size w (w.alloc o) := fun o => (Below.refl _ _).alloc (Nat.le_refl _) _
  have HEl : ∀ n, setP c L line st d = (n, L) → Hid (∀ w', Below w.heap.size w w' → GaveA w b g c (setP c L line st d) (.returned (.int .i64 n)) w') := fun n e => Lib.hid (fun w' hb => by
    rw [e]
    exact ⟨rfl, h.below hb, .of_below hb⟩)
  rcases hp : plc c L line with _ | k
  · have HP := Lib.hid (fun o => place_no (h.below (hB0 o)) gd line hp)
    have HE := HEl 5 (setP_no st d hp)
    clear h gd hp HEl
    go_enter Tryd.func11, Tryd.ntmps11
    go_wp2_with (go_at_call 26; refine (HP.out _).mono ?_; rintro e w1 ⟨rfl, rfl⟩)
    go_ret
    exact HE.out _ (hB0 _)
  · obtain ⟨hl, hk, x, hx, hx'⟩ := h.sz.plc_some hp
    have hw := (ok_ways h.sz.ok).2.2.1
    have HP := Lib.hid (fun o => place_yes (h.below (hB0 o)) gd line hp)
    have hi := (List.getElem?_eq_some_iff.1 hx).1
    have hn512 : L.length ≤ 512 := by
      have hw := ok_ways h.sz.ok
      have := Nat.mul_le_mul (show c.se.toNat ≤ 64 by omega) (show c.wa.toNat ≤ 8 by omega)
      rw [h.sz.len]
      omega
    by_cases hs : stOk st = true
    · obtain ⟨N, hN⟩ : ∃ N : Nat, c.wo = N := ⟨c.wo.toNat, by omega⟩
      have hN8 : N ≤ 8 := by omega
      have h4' : ∀ o, (w.alloc o).cell? ⟨b, 4, none⟩ = some (.int .i64 (N : Int)) := fun o => by
        have := (h.below (hB0 o)).hd 4
        simp at this
        rw [hN] at this
        exact this
      have h13' : ∀ o, (w.alloc o).cell? ⟨b, 13, none⟩ = some (.slice (some ⟨g, 0, none⟩) L.length L.length) := fun o => by
        have := (h.below (hB0 o)).hd 13
        simpa using this
      have HCELL : Hid (∀ j, j < 8 → (w.alloc (.cells (dcells d) 35)).cell? ⟨w.heap.size, j, none⟩ = some (.int .i64 (d.at j))) := Lib.hid (fun j hj => by
        rw [World.cell?_alloc_mark w _ 35 (0, 0) j]
        exact at_range d j hj)
      have HE1 : wOk c d = false → Hid (∀ w', Below w.heap.size w w' → GaveA w b g c (setP c L line st d) (.returned (.int .i64 1)) w') := fun e => HEl 1 (setP_bad st d hp (by rw [e]; simp))
      have HT : wOk c d = true → _ := fun e => refSet_tell h hp hx ⟨hs, e⟩ (hB0 (.cells (dcells d) 35))
      have HC : Hid (∀ o, (∀ p, (w.alloc o).frozen? ⟨g, p, none⟩ = false) ∧ (w.alloc o).rangeAt g ((soN c line + k) * 11) (yc x)) := Lib.hid (fun o => ⟨(h.below (hB0 o)).fz, by
        have := (h.below (hB0 o)).ways _ x hx
        rwa [Nat.zero_add] at this⟩)
      have hne : ¬ g = w.heap.size := by have := h.gl; omega
      have HT2 := Lib.hid HT
      have HE2 := Lib.hid HE1
      have HW0 : Hid (∀ j, N ≤ j → j < 8 → (d.at j != 0) = true → wOk c d = false) := Lib.hid (fun j h1 h2 h3 => wOk_no N j hN h1 h2 h3)
      have HW1 : Hid ((∀ j, N ≤ j → j < 8 → (d.at j != 0) = false) → wOk c d = true) := Lib.hid (fun h => wOk_yes N hN h)
      have hs0 : 0 ≤ st := by simp [stOk] at hs; omega
      have hs4 : st ≤ 4 := by simp [stOk] at hs; omega
      have hbx := hB0 (.cells (dcells d) 35)
      have h4 := h4' (.cells (dcells d) 35)
      have h13 := h13' (.cells (dcells d) 35)
      have HB := Lib.hid hbx
      have HN := Lib.hid hN
      have hcbox : ∀ o, (w.alloc (.cells (dcells d) 35)).cell? ⟨w.heap.size, o, none⟩ = (dcells d)[o]? := fun o => World.cell?_alloc_mark w _ 35 (0, 0) o
      generalize soN c line + k = i at *
      have HLN := Lib.hid (show i < c.se.toNat * c.wa.toNat by rw [← h.sz.len]; exact hi)
      generalize L.length = n at *
      have hi2 : i ≤ 512 := by omega
      clear h gd hp hl hk hx hx' hw hbx h4' h13' HEl HE1 HT hs hN hB0
      go_enter Tryd.func11, Tryd.ntmps11
      go_wp2_with (go_at_call 26; refine (HP.out _).mono ?_; rintro e w1 ⟨rfl, rfl⟩)
      go_loopw [10] (fun v wr => ∃ k : Nat, N ≤ k ∧ k ≤ 8 ∧ v = .int .i64 k ∧ Hid (∀ j, N ≤ j → j < k → (d.at j != 0) = false) ∧ w.alloc (.cells (dcells d) 35) = wr) (fun v _ => 8 - (intOf v).toNat)
      case atStart => exact ⟨N, Nat.le_refl _, hN8, rfl, Lib.hid (fun j h1 h2 => by omega), rfl⟩
      case round =>
        obtain ⟨k, hk0, hk, rfl, HJ, rfl⟩ := hrel
        by_cases hlt : k < 8
        · have hcell := HCELL.out k hlt
          rcases Bool.eq_false_or_eq_true (d.at k != 0) with hd | hd
          · have HE := HE2.out (HW0.out k hk0 hlt hd)
            generalize d.at k = v at hcell hd
            clear hcbox
            go_wp2
            go_ret
            exact HE.out _ HB.out
          · have HK : Hid (∀ j, N ≤ j → j < k + 1 → (d.at j != 0) = false) := Lib.hid (fun j h1 h2 => by
              by_cases e : j = k
              · subst e
                exact hd
              · exact HJ.out j h1 (by omega))
            generalize d.at k = v at hcell hd
            clear hcbox
            go_wp2
            go_roundw
            case rel => exact ⟨k + 1, by omega, by omega, by go_num, HK, trivial⟩
            case measure => simp [intOf]; omega
        · obtain ⟨M, ha, ht, H1, H2⟩ := HT2.out (HW1.out (fun j h1 h2 => HJ.out j h1 (by omega)))
          obtain ⟨hfz, hrg⟩ := HC.out (.cells (dcells d) 35)
          have q0 := hrg 0 _ rfl
          rw [Nat.add_zero] at q0
          have q2 := hrg 2 _ rfl
          have q3 := hrg 3 _ rfl
          have q4 := hrg 4 _ rfl
          have q5 := hrg 5 _ rfl
          have q6 := hrg 6 _ rfl
          have q7 := hrg 7 _ rfl
          have q8 := hrg 8 _ rfl
          have q9 := hrg 9 _ rfl
          have HA := Lib.hid ha
          have HTT := Lib.hid ht
          have HH1 := Lib.hid H1
          have HH2 := Lib.hid H2
          clear ha ht H1 H2 hrg HC HT2 HW1 HW0 HE2 HCELL HJ HP HB HN
          generalize w.alloc (.cells (dcells d) 35) = w1 at *
          have hst : (st == 0) = true ∨ (st == 0) = false := Bool.eq_false_or_eq_true _
          rcases hst with hst | hst
          · have h0 : st = 0 := by simpa using hst
            have HE := Lib.hid (HH2.out h0)
            clear HH1 HH2 h0
            go_wp2
            go_region
            refine (fun (W : World) (hA : Ar W b g c M) (hT : TurnG g w W) => ?_ : ∀ W, Ar W b g c M → TurnG g w W → Exit.then _ _ _ _ W) _ HA.out HTT.out
            obtain ⟨hth, hE⟩ := HE.out W hA hT
            have h13 := hA.hd 13
            simp at h13
            have hlen : i < M.length := by
              have := hA.sz.len
              have := HLN.out
              omega
            generalize M.length = n2 at *
            have hE2 := Lib.hid hE
            clear hE HE HA HTT hA hT hcbox q0 q2 q3 q4 q5 q6 q7 q8 q9 hfz h4
            go_wp2_with (((with_reducible refine wpList_store_mid (op := ⟨none, _, _, _, _, _⟩) rfl 35 (.tmp 60) (.tmp 58) rfl g (i * 11 + 2) (dcells d0) ?sx ?sy ?st ?si ?s1 ?_); (case sx => rfl); (case sy => rfl); (case st => exact hth); (case si => kernel_rfl); (case s1 => kernel_rfl)))
            go_ret
            exact hE2.out
          · have h0 : st ≠ 0 := by simpa using hst
            have HE := Lib.hid (HH1.out h0)
            clear HH1 HH2 h0
            go_wp2
            go_region
            refine (fun (W : World) (hA : Ar W b g c M) (hT : TurnG g w W) => ?_ : ∀ W, Ar W b g c M → TurnG g w W → Exit.then _ _ _ _ W) _ HA.out HTT.out
            have hE : GaveA w b g c (setP c L line st d) (.returned (.int .i64 0)) W := by
              rw [HE.out]
              exact ⟨rfl, hA, hT⟩
            have hE2 := Lib.hid hE
            clear hE HE HA HTT hA hT hcbox q0 q2 q3 q4 q5 q6 q7 q8 q9 hfz h4 h13
            go_wp2
            go_ret
            exact hE2.out
    · have HE := HEl 1 (setP_bad st d hp (by simp [hs]))
      have hs2 : st < 0 ∨ ¬ st < 0 ∧ 4 < st := by simp [stOk] at hs; omega
      generalize soN c line + k = i at *
      have hi2 : i ≤ 512 := by omega
      clear h gd hp hl hk hx hx' hw HEl hs hi
      rcases hs2 with hs | ⟨hs, hs2⟩
      all_goals
        go_enter Tryd.func11, Tryd.ntmps11
        go_wp2_with (go_at_call 26; refine (HP.out _).mono ?_; rintro e w1 ⟨rfl, rfl⟩)
        go_ret
        exact HE.out _ (hB0 _)

end Go.Proofs.YtldbepaclddgmaaDoor
