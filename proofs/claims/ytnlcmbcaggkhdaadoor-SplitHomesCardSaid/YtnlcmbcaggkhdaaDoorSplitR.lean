/-
  What the document's own answers of layer 2 are (Addr, Line, Join, Tagged), one contract each: the same answers as the program's.
-/
import Derived.Test.YtnlcmbcaggkhdaaDoorSplitB
import Derived.Test.YtnlcmbcaggkhdaaDoorRef1
import Derived.Deep.QuietTactic
import Derived.BigQuiet
namespace Go.Proofs.YtnlcmbcaggkhdaaDoor
open Go Go.RowKit

theorem below_drewN {B : Nat} {w w' : World} (h : Below B w w') (n : Nat) : Below B w (w'.drewN n) := ⟨h.os, h.tape, h.output, h.size, h.block⟩

theorem adOk_yes {c : Cfg} {a : Int} (hz : sz c = c.wo * c.li) (ha : 0 ≤ a) (hb : a < c.wo * c.li) : adL c a = a / c.wo ∧ adW c a = a % c.wo ∧ adE c a = 0 := by
  have : adOk c a = true := by unfold adOk inR; rw [hz]; simp [ha, hb]
  simp [adL, adW, adE, this]
theorem adOk_no {c : Cfg} {a : Int} (h : adOk c a = false) : adL c a = 0 ∧ adW c a = 0 ∧ adE c a = 1 := by simp [adL, adW, adE, h]
theorem inR_neg {n m : Int} (h : ¬ 0 ≤ n) : inR n m = false := by simp [inR, h]
theorem inR_past {n m : Int} (h : ¬ n < m) : inR n m = false := by simp [inR, h]
theorem lnOk_yes {c : Cfg} {l : Int} (h : lnOk c l = true) : lnH c l = l % c.ho ∧ lnS c l = l % c.se ∧ lnT c l = l / c.se ∧ lnE c l = 0 := by simp [lnH, lnS, lnT, lnE, h]
theorem lnOk_no {c : Cfg} {l : Int} (h : lnOk c l = false) : lnH c l = 0 ∧ lnS c l = 0 ∧ lnT c l = 0 ∧ lnE c l = 1 := by simp [lnH, lnS, lnT, lnE, h]

theorem refAddr_any (c : Cfg) (a : Int) (w : World) :
    Calls Tryd.prog 8 #[cv c, .int .i64 a] w fun e w' => e = .returned (.tuple #[.int .i64 (adL c a), .int .i64 (adW c a), .int .i64 (adE c a)]) ∧ Below w.heap.size w w' := by
  rcases Bool.eq_false_or_eq_true (okC c) with hok | hok
  · have h0 := chk_ok c hok
    have hp := ok_pows c hok
    have hm := mul_bound _ _ hp.1.2 hp.2.2.2.2
    have hw1 := hp.1.2.1
    have hw2 := hp.1.2.2
    have HZ := Lib.hid (show sz c = c.wo * c.li by simp [sz, hok])
    clear hp hok
    have hne : (c.wo == 0) = false := by simp; omega
    by_cases ha : 0 ≤ a
    · by_cases hb : a < c.wo * c.li
      · have HL := Lib.hid (adOk_yes HZ.out ha hb)
        go_enter Tryd.func8, Tryd.ntmps8
        go_wp2_with (go_at_call 22; refine (refCheck_any c _).mono ?_; rintro e w1 ⟨rfl, hb1⟩; have hcl := fun o => hb1.cell (p := ⟨w.heap.size, o, none⟩) (by simp))
        go_quiet (fail)
        go_wp2
        go_ret3
        exact ⟨ret3 HL.out.1.symm HL.out.2.1.symm HL.out.2.2.symm, below_drewN (bbox hb1) _⟩
      · have HL := Lib.hid (adOk_no (c := c) (a := a) (by unfold adOk; rw [HZ.out]; exact inR_past hb))
        go_enter Tryd.func8, Tryd.ntmps8
        go_wp2_with (go_at_call 22; refine (refCheck_any c _).mono ?_; rintro e w1 ⟨rfl, hb1⟩; have hcl := fun o => hb1.cell (p := ⟨w.heap.size, o, none⟩) (by simp))
        go_ret3
        exact ⟨ret3 HL.out.1.symm HL.out.2.1.symm HL.out.2.2.symm, bbox hb1⟩
    · have HL := Lib.hid (adOk_no (c := c) (a := a) (inR_neg ha))
      go_enter Tryd.func8, Tryd.ntmps8
      go_wp2_with (go_at_call 22; refine (refCheck_any c _).mono ?_; rintro e w1 ⟨rfl, hb1⟩; have hcl := fun o => hb1.cell (p := ⟨w.heap.size, o, none⟩) (by simp))
      go_ret3
      exact ⟨ret3 HL.out.1.symm HL.out.2.1.symm HL.out.2.2.symm, bbox hb1⟩
  · have h0 := chk_no c hok
    have HL := Lib.hid (adOk_no (c := c) (a := a) (by unfold adOk; rw [show sz c = 0 by simp [sz, hok]]; simp [inR]))
    clear hok
    go_enter Tryd.func8, Tryd.ntmps8
    go_wp2_with (go_at_call 22; refine (refCheck_any c _).mono ?_; rintro e w1 ⟨rfl, hb1⟩)
    go_ret3
    exact ⟨ret3 HL.out.1.symm HL.out.2.1.symm HL.out.2.2.symm, bbox hb1⟩

theorem refLine_any (c : Cfg) (l : Int) (w : World) :
    Calls Tryd.prog 10 #[cv c, .int .i64 l] w fun e w' => e = .returned (.tuple #[.int .i64 (lnH c l), .int .i64 (lnS c l), .int .i64 (lnT c l), .int .i64 (lnE c l)]) ∧ Below w.heap.size w w' := by
  rcases Bool.eq_false_or_eq_true (okC c) with hok | hok
  · have h0 := chk_ok c hok
    have hp := ok_pows c hok
    have hh1 := hp.2.1.2.1
    have hh2 := hp.2.1.2.2
    have hs1 := hp.2.2.1.2.1
    have hs2 := hp.2.2.1.2.2
    have hl2 := hp.2.2.2.2.2
    have HO := Lib.hid hok
    clear hp hok
    have hne : (c.ho == 0) = false := by simp; omega
    have hne2 : (c.se == 0) = false := by simp; omega
    by_cases ha : 0 ≤ l
    · by_cases hb : l < c.li
      · have HL := Lib.hid (lnOk_yes (c := c) (l := l) (by simp [lnOk, HO.out, inR, ha, hb]))
        have hq0 : 0 ≤ l / c.se := Int.ediv_nonneg ha (by omega)
        have hq1 : l / c.se ≤ l := Int.ediv_le_self _ ha
        go_enter Tryd.func10, Tryd.ntmps10
        go_wp2_with (go_at_call 22; refine (refCheck_any c _).mono ?_; rintro e w1 ⟨rfl, hb1⟩; have hcl := fun o => hb1.cell (p := ⟨w.heap.size, o, none⟩) (by simp))
        go_quiet (fail)
        go_wp2
        refine bodyPost_ret (v := .tuple #[.int .i64 (l % c.ho), .int .i64 (l % c.se), .int .i64 (l / c.se), .int .i64 0]) (by simp [results, Tryd.results10, go_sem]) rfl ⟨ret4 HL.out.1.symm HL.out.2.1.symm HL.out.2.2.1.symm HL.out.2.2.2.symm, below_drewN (bbox hb1) _⟩
      · have HL := Lib.hid (lnOk_no (c := c) (l := l) (by simp [lnOk, inR_past hb]))
        go_enter Tryd.func10, Tryd.ntmps10
        go_wp2_with (go_at_call 22; refine (refCheck_any c _).mono ?_; rintro e w1 ⟨rfl, hb1⟩; have hcl := fun o => hb1.cell (p := ⟨w.heap.size, o, none⟩) (by simp))
        refine bodyPost_ret (v := .tuple #[.int .i64 0, .int .i64 0, .int .i64 0, .int .i64 1]) (by simp [results, Tryd.results10, go_sem]) rfl ⟨ret4 HL.out.1.symm HL.out.2.1.symm HL.out.2.2.1.symm HL.out.2.2.2.symm, bbox hb1⟩
    · have HL := Lib.hid (lnOk_no (c := c) (l := l) (by simp [lnOk, inR_neg ha]))
      go_enter Tryd.func10, Tryd.ntmps10
      go_wp2_with (go_at_call 22; refine (refCheck_any c _).mono ?_; rintro e w1 ⟨rfl, hb1⟩; have hcl := fun o => hb1.cell (p := ⟨w.heap.size, o, none⟩) (by simp))
      refine bodyPost_ret (v := .tuple #[.int .i64 0, .int .i64 0, .int .i64 0, .int .i64 1]) (by simp [results, Tryd.results10, go_sem]) rfl ⟨ret4 HL.out.1.symm HL.out.2.1.symm HL.out.2.2.1.symm HL.out.2.2.2.symm, bbox hb1⟩
  · have h0 := chk_no c hok
    have HL := Lib.hid (lnOk_no (c := c) (l := l) (by simp [lnOk, hok]))
    clear hok
    go_enter Tryd.func10, Tryd.ntmps10
    go_wp2_with (go_at_call 22; refine (refCheck_any c _).mono ?_; rintro e w1 ⟨rfl, hb1⟩)
    refine bodyPost_ret (v := .tuple #[.int .i64 0, .int .i64 0, .int .i64 0, .int .i64 1]) (by simp [results, Tryd.results10, go_sem]) rfl ⟨ret4 HL.out.1.symm HL.out.2.1.symm HL.out.2.2.1.symm HL.out.2.2.2.symm, bbox hb1⟩

theorem refJoin_any (c : Cfg) (l x : Int) (w : World) :
    Calls Tryd.prog 12 #[cv c, .int .i64 l, .int .i64 x] w fun e w' => e = .returned (.tuple #[.int .i64 (joA c l x), .int .i64 (joE c l x)]) ∧ Below w.heap.size w w' := by
  rcases Bool.eq_false_or_eq_true (okC c) with hok | hok
  · have h0 := chk_ok c hok
    have hp := ok_pows c hok
    have hw1 := hp.1.2.1
    have hw2 := hp.1.2.2
    have hl2 := hp.2.2.2.2.2
    have HO := Lib.hid hok
    clear hp hok
    by_cases ha : 0 ≤ l
    · by_cases hb : l < c.li
      · by_cases ga : 0 ≤ x
        · by_cases gb : x < c.wo
          · have HL := Lib.hid (joOk_yes (c := c) (l := l) (x := x) (by simp [lnOk, HO.out, inR, ha, hb]) (by simp [inR, ga, gb]))
            have hm0 : 0 ≤ l * c.wo := Int.mul_nonneg ha (by omega)
            have hm : l * c.wo ≤ 1024 * c.wo := mul_lt_of (n := c.li) hb hl2 hw1
            go_enter Tryd.func12, Tryd.ntmps12
            go_wp2_with (go_at_call 22; refine (refCheck_any c _).mono ?_; rintro e w1 ⟨rfl, hb1⟩; have hcl := fun o => hb1.cell (p := ⟨w.heap.size, o, none⟩) (by simp))
            go_ret2
            exact ⟨ret2 HL.out.1.symm HL.out.2.symm, bbox hb1⟩
          · have HL := Lib.hid (joOk_no2 (c := c) (l := l) (x := x) (inR_past gb))
            go_enter Tryd.func12, Tryd.ntmps12
            go_wp2_with (go_at_call 22; refine (refCheck_any c _).mono ?_; rintro e w1 ⟨rfl, hb1⟩; have hcl := fun o => hb1.cell (p := ⟨w.heap.size, o, none⟩) (by simp))
            go_ret2
            exact ⟨ret2 HL.out.1.symm HL.out.2.symm, bbox hb1⟩
        · have HL := Lib.hid (joOk_no2 (c := c) (l := l) (x := x) (inR_neg ga))
          go_enter Tryd.func12, Tryd.ntmps12
          go_wp2_with (go_at_call 22; refine (refCheck_any c _).mono ?_; rintro e w1 ⟨rfl, hb1⟩; have hcl := fun o => hb1.cell (p := ⟨w.heap.size, o, none⟩) (by simp))
          go_ret2
          exact ⟨ret2 HL.out.1.symm HL.out.2.symm, bbox hb1⟩
      · have HL := Lib.hid (joOk_no1 (c := c) (l := l) (x := x) (by simp [lnOk, inR_past hb]))
        go_enter Tryd.func12, Tryd.ntmps12
        go_wp2_with (go_at_call 22; refine (refCheck_any c _).mono ?_; rintro e w1 ⟨rfl, hb1⟩; have hcl := fun o => hb1.cell (p := ⟨w.heap.size, o, none⟩) (by simp))
        go_ret2
        exact ⟨ret2 HL.out.1.symm HL.out.2.symm, bbox hb1⟩
    · have HL := Lib.hid (joOk_no1 (c := c) (l := l) (x := x) (by simp [lnOk, inR_neg ha]))
      go_enter Tryd.func12, Tryd.ntmps12
      go_wp2_with (go_at_call 22; refine (refCheck_any c _).mono ?_; rintro e w1 ⟨rfl, hb1⟩; have hcl := fun o => hb1.cell (p := ⟨w.heap.size, o, none⟩) (by simp))
      go_ret2
      exact ⟨ret2 HL.out.1.symm HL.out.2.symm, bbox hb1⟩
  · have h0 := chk_no c hok
    have HL := Lib.hid (joOk_no1 (c := c) (l := l) (x := x) (by simp [lnOk, hok]))
    clear hok
    go_enter Tryd.func12, Tryd.ntmps12
    go_wp2_with (go_at_call 22; refine (refCheck_any c _).mono ?_; rintro e w1 ⟨rfl, hb1⟩)
    go_ret2
    exact ⟨ret2 HL.out.1.symm HL.out.2.symm, bbox hb1⟩

theorem tag_iff (k s t n : Int) (hn : 1 ≤ n) : (k % n = s ∧ k / n = t) ↔ (k = t * n + s ∧ 0 ≤ s ∧ s < n) := by
  constructor
  · rintro ⟨rfl, rfl⟩
    have := Int.mul_ediv_add_emod k n
    have := Int.emod_nonneg k (show n ≠ 0 by omega)
    have := Int.emod_lt_of_pos k (show 0 < n by omega)
    rw [Int.mul_comm]
    omega
  · rintro ⟨rfl, h0, h1⟩
    refine ⟨?_, ?_⟩
    · rw [Int.add_comm, Int.add_mul_emod_self_right]; exact Int.emod_eq_of_lt h0 h1
    · rw [Int.add_comm, Int.add_mul_ediv_right _ _ (show n ≠ 0 by omega), Int.ediv_eq_zero_of_lt h0 h1]; omega
theorem tg_hit {c : Cfg} {k s t : Int} (hok : okC c = true) (h0 : 0 ≤ k) (h1 : k < c.li) (hs : k % c.se = s) (ht : k / c.se = t) : tgL c s t = k ∧ tgE c s t = 0 := by
  have hp := ok_pows c hok
  have hn := hp.2.2.1.2.1
  obtain ⟨e, a, b⟩ := (tag_iff k s t c.se hn).1 ⟨hs, ht⟩
  have t0 : 0 ≤ t := by rw [← ht]; exact Int.ediv_nonneg h0 (by omega)
  have t1 : t ≤ k := by rw [← ht]; exact Int.ediv_le_self _ h0
  have r := tgOk_yes (c := c) (s := s) (t := t) (by unfold lnOk inR; rw [hok]; simp; omega) (by simp [inR, a, b]) (by rw [← e]; simp [inR, h0, h1])
  exact ⟨r.1.trans e.symm, r.2⟩
theorem tg_miss {c : Cfg} {s t : Int} (hok : okC c = true) (h : ∀ k : Nat, (k : Int) < c.li → ¬ ((k : Int) % c.se = s ∧ (k : Int) / c.se = t)) : tgL c s t = 0 ∧ tgE c s t = 1 := by
  have hp := ok_pows c hok
  have hn := hp.2.2.1.2.1
  have : tgOk c s t = false := by
    rcases Bool.eq_false_or_eq_true (tgOk c s t) with h' | h'
    · exfalso
      unfold tgOk at h'
      simp at h'
      have a := inR_of h'.1.2
      have b := inR_of h'.2
      refine h (t * c.se + s).toNat (by omega) ?_
      rw [show (((t * c.se + s).toNat : Nat) : Int) = t * c.se + s by omega]
      exact (tag_iff _ s t c.se hn).2 ⟨rfl, a.1, a.2⟩
    · exact h'
  simp [tgL, tgE, this]

set_option maxHeartbeats 1000000 in
theorem refTagged_any (c : Cfg) (s t : Int) (w : World) :
    Calls Tryd.prog 14 #[cv c, .int .i64 s, .int .i64 t] w fun e w' => e = .returned (.tuple #[.int .i64 (tgL c s t), .int .i64 (tgE c s t)]) ∧ Below w.heap.size w w' := by
  rcases Bool.eq_false_or_eq_true (okC c) with hok | hok
  · have h0 := chk_ok c hok
    have hp := ok_pows c hok
    have hs1 := hp.2.2.1.2.1
    have hs2 := hp.2.2.1.2.2
    have hl1 := hp.2.2.2.2.1
    have hl2 := hp.2.2.2.2.2
    have HO := Lib.hid hok
    clear hp hok
    have hne : (c.se == 0) = false := by simp; omega
    go_enter Tryd.func14, Tryd.ntmps14
    go_wp2_with (go_at_call 22; refine (refCheck_any c _).mono ?_; rintro e w1 ⟨rfl, hb1⟩; have hcl := fun o => hb1.cell (p := ⟨w.heap.size, o, none⟩) (by simp))
    go_loop [8] (fun i => ∃ k : Nat, i = .int .i64 k ∧ (k : Int) ≤ c.li ∧ Hid (∀ j : Nat, j < k → ¬ ((j : Int) % c.se = s ∧ (j : Int) / c.se = t))) (fun i => (c.li - intOf i).toNat)
    case atStart => exact ⟨0, rfl, by omega, Lib.hid (fun j hj => by omega)⟩
    case round =>
      obtain ⟨k, rfl, hk, HJ⟩ := hrel
      have hq0 : 0 ≤ (k : Int) / c.se := Int.ediv_nonneg (by omega) (by omega)
      have hq1 : (k : Int) / c.se ≤ k := Int.ediv_le_self _ (by omega)
      by_cases hlt : (k : Int) < c.li
      · by_cases hs : (k : Int) % c.se = s
        · by_cases ht : (k : Int) / c.se = t
          · have HL := Lib.hid (tg_hit HO.out (by omega) hlt hs ht)
            have hs' : ((k : Int) % c.se == s) = true := by simpa using hs
            have ht' : ((k : Int) / c.se == t) = true := by simpa using ht
            clear hs ht
            go_wp2
            go_ret2
            exact ⟨ret2 HL.out.1.symm HL.out.2.symm, bbox hb1⟩
          · have HK : Hid (∀ j : Nat, j < k + 1 → ¬ ((j : Int) % c.se = s ∧ (j : Int) / c.se = t)) := Lib.hid (fun j hj => by
              by_cases e : j = k
              · subst e; exact fun h => ht h.2
              · exact HJ.out j (by omega))
            have hs' : ((k : Int) % c.se == s) = true := by simpa using hs
            have ht' : ((k : Int) / c.se == t) = false := by simpa using ht
            clear hs ht
            go_wp2
            go_round
            case rel => exact ⟨k + 1, by go_num, by omega, HK⟩
            case measure => simp [intOf]; omega
        · have HK : Hid (∀ j : Nat, j < k + 1 → ¬ ((j : Int) % c.se = s ∧ (j : Int) / c.se = t)) := Lib.hid (fun j hj => by
            by_cases e : j = k
            · subst e; exact fun h => hs h.1
            · exact HJ.out j (by omega))
          have hs' : ((k : Int) % c.se == s) = false := by simpa using hs
          clear hs
          go_wp2
          go_round
          case rel => exact ⟨k + 1, by go_num, by omega, HK⟩
          case measure => simp [intOf]; omega
      · have HL := Lib.hid (tg_miss (c := c) (s := s) (t := t) HO.out (fun j hj => HJ.out j (by omega)))
        go_wp2
        go_ret2
        exact ⟨ret2 HL.out.1.symm HL.out.2.symm, bbox hb1⟩
  · have h0 := chk_no c hok
    have HL := Lib.hid (tgOk_no1 (c := c) (s := s) (t := t) (by simp [lnOk, hok]))
    clear hok
    go_enter Tryd.func14, Tryd.ntmps14
    go_wp2_with (go_at_call 22; refine (refCheck_any c _).mono ?_; rintro e w1 ⟨rfl, hb1⟩)
    go_ret2
    exact ⟨ret2 HL.out.1.symm HL.out.2.symm, bbox hb1⟩

end Go.Proofs.YtnlcmbcaggkhdaaDoor
