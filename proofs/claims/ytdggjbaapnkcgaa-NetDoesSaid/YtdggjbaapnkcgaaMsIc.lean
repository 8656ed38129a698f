/-
  Ways through the document's own May: refMay_8, refMay_9, refMay_10.
-/
import Derived.Test.YtdggjbaapnkcgaaMsG
import Derived.Test.YtdggjbaapnkcgaaMsH
namespace Go.Proofs.Ytdggjbaapnkcgaa
open Go Go.RowKit Go.Sort

set_option maxRecDepth 100000 in
set_option maxHeartbeats 4000000 in
theorem refMay_8 (c : Cfg) (m : Msg) (w : World) (hok : okC c = true) (hln : isin m.ln c.li = true) (hkk : m.kd = 8) (f_to : isin m.to c.co = true) (f_fr : (m.fr != m.ln % c.ho) = false) (f_ow : (m.ow != 0) = false) (f_wh : (m.wh != 0) = false) (f_ac0 : 0 ≤ m.ac) (f_ac1 : m.ac < c.co) :
    Calls Try.prog 23 #[cv c, mv m] w fun e w' => e = .returned (.bool (wordsB m 0)) ∧ Below w.heap.size w w' := by
  have HTH : Hid (toHome 8 = false) := Lib.hid (rfl)
  have hs := ok_sizes hok
  have h1 := hs.2.1.1
  have h2 := hs.2.1.2
  have hl := isin_of hln
  have hl1 := hl.1
  have hl2 := hl.2
  have h0 := chk_ok c hok
  have hne : (c.ho == 0) = false := by simp; omega
  have KK := K2.box w (ccells c) (mcells m) 24 37
  clear hok hln hs hl
  go_enter Try.func23, Try.ntmps23
  go_wp2_with (fail)
  refine (refCheck_any c _).mono ?_
  rintro e w1 ⟨rfl, hb1⟩
  have K1 := KK.step hb1
  have ha := K1.a; have hb := K1.b
  clear hb1 KK
  go_wp2_with (first
    | (go_at_call 36; refine (refHome_any _ _).mono ?_; rintro e w2 ⟨rfl, hb2⟩; rw [HTH.out]; have K1 := K1.step hb2; clear ha hb hb2; have ha := K1.a; have hb := K1.b)
    | (go_at_call 37; refine (refCore_any c _ _).mono ?_; rintro e w3 ⟨rfl, hb3⟩; have K1 := K1.step hb3; clear hb3 ha hb; have ha := K1.a; have hb := K1.b))
  go_loop [6] (fun i => ∃ k : Nat, k ≤ 8 ∧ i = .int .i64 k ∧ Hid (∀ j, j < k → wordB 0 m j = true)) (fun i => 8 - (intOf i).toNat)
  case atStart => exact ⟨0, by omega, rfl, Lib.hid (fun j hj => by omega)⟩
  case round =>
    obtain ⟨k, hk, rfl, HJ⟩ := hrel
    by_cases hlt : k < 8
    · have hcell : (mcells m)[7 + k]? = some (.int .i64 (m.wd k)) := word_cell m k hlt
      have hcl := (hb (7 + k)).trans hcell
      have hk0 := (hb 0).trans (show (mcells m)[0]? = some (.int .i64 m.kd) from rfl)
      clear hb
      rcases Bool.eq_false_or_eq_true (wordB 0 m k) with hw | hw
      · have HK : Hid (∀ j, j < k + 1 → wordB 0 m j = true) := Lib.hid (fun j hj => by
          by_cases e : j = k
          · subst e; exact hw
          · exact HJ.out j (by omega))
        obtain ⟨x1, x2, x3⟩ := word_yes hw
        generalize m.wd k = x at *
        clear hw hcell
        rcases (show ((x != 0) = false ∧ x = 0) ∨ ((x != 0) = true ∧ x ≠ 0) by by_cases hz : x = 0 <;> simp [hz]) with ⟨hz, hz'⟩ | ⟨hz, hz'⟩
        all_goals go_wp2
        all_goals try (exfalso; omega)
        all_goals (go_round <;> first | exact ⟨k + 1, by omega, by go_num, HK⟩ | (simp [intOf]; done) | (simp [intOf]; omega))
      · have HK := Lib.hid (words_not k hlt hw)
        have hx' := word_no hw
        generalize m.wd k = x at *
        clear hw hcell
        rcases hx' with hx | hx | ⟨y1, y2, y3, y4⟩
        all_goals go_wp2
        all_goals try (exfalso; omega)
        all_goals go_ret
        all_goals exact ⟨ret_bool HK.out.symm, K1.below⟩
    · have HY := Lib.hid (words_yes (m := m) (n := 0) (fun j hj => HJ.out j (by omega)))
      go_wp2
      go_ret
      exact ⟨ret_bool HY.out.symm, K1.below⟩

set_option maxRecDepth 100000 in
set_option maxHeartbeats 4000000 in
theorem refMay_9 (c : Cfg) (m : Msg) (w : World) (hok : okC c = true) (hln : isin m.ln c.li = true) (hkk : m.kd = 9) (f_to : isin m.to c.co = true) (f_fr : isin m.fr c.co = true) (f_ft : (m.fr == m.to) = false) (f_ow : (m.ow != 0) = false) (f_wh : (m.wh != 0) = false) (f_ac : (m.ac != 0) = false) :
    Calls Try.prog 23 #[cv c, mv m] w fun e w' => e = .returned (.bool (wordsB m 0)) ∧ Below w.heap.size w w' := by
  have HTH : Hid (toHome 9 = false) := Lib.hid (rfl)
  have hs := ok_sizes hok
  have h1 := hs.2.1.1
  have h2 := hs.2.1.2
  have hl := isin_of hln
  have hl1 := hl.1
  have hl2 := hl.2
  have h0 := chk_ok c hok
  have hne : (c.ho == 0) = false := by simp; omega
  have KK := K2.box w (ccells c) (mcells m) 24 37
  clear hok hln hs hl
  go_enter Try.func23, Try.ntmps23
  go_wp2_with (fail)
  refine (refCheck_any c _).mono ?_
  rintro e w1 ⟨rfl, hb1⟩
  have K1 := KK.step hb1
  have ha := K1.a; have hb := K1.b
  clear hb1 KK
  go_wp2_with (first
    | (go_at_call 36; refine (refHome_any _ _).mono ?_; rintro e w2 ⟨rfl, hb2⟩; rw [HTH.out]; have K1 := K1.step hb2; clear ha hb hb2; have ha := K1.a; have hb := K1.b)
    | (go_at_call 37; refine (refCore_any c _ _).mono ?_; rintro e w3 ⟨rfl, hb3⟩; have K1 := K1.step hb3; clear hb3 ha hb; have ha := K1.a; have hb := K1.b))
  go_loop [6] (fun i => ∃ k : Nat, k ≤ 8 ∧ i = .int .i64 k ∧ Hid (∀ j, j < k → wordB 0 m j = true)) (fun i => 8 - (intOf i).toNat)
  case atStart => exact ⟨0, by omega, rfl, Lib.hid (fun j hj => by omega)⟩
  case round =>
    obtain ⟨k, hk, rfl, HJ⟩ := hrel
    by_cases hlt : k < 8
    · have hcell : (mcells m)[7 + k]? = some (.int .i64 (m.wd k)) := word_cell m k hlt
      have hcl := (hb (7 + k)).trans hcell
      have hk0 := (hb 0).trans (show (mcells m)[0]? = some (.int .i64 m.kd) from rfl)
      clear hb
      rcases Bool.eq_false_or_eq_true (wordB 0 m k) with hw | hw
      · have HK : Hid (∀ j, j < k + 1 → wordB 0 m j = true) := Lib.hid (fun j hj => by
          by_cases e : j = k
          · subst e; exact hw
          · exact HJ.out j (by omega))
        obtain ⟨x1, x2, x3⟩ := word_yes hw
        generalize m.wd k = x at *
        clear hw hcell
        rcases (show ((x != 0) = false ∧ x = 0) ∨ ((x != 0) = true ∧ x ≠ 0) by by_cases hz : x = 0 <;> simp [hz]) with ⟨hz, hz'⟩ | ⟨hz, hz'⟩
        all_goals go_wp2
        all_goals try (exfalso; omega)
        all_goals (go_round <;> first | exact ⟨k + 1, by omega, by go_num, HK⟩ | (simp [intOf]; done) | (simp [intOf]; omega))
      · have HK := Lib.hid (words_not k hlt hw)
        have hx' := word_no hw
        generalize m.wd k = x at *
        clear hw hcell
        rcases hx' with hx | hx | ⟨y1, y2, y3, y4⟩
        all_goals go_wp2
        all_goals try (exfalso; omega)
        all_goals go_ret
        all_goals exact ⟨ret_bool HK.out.symm, K1.below⟩
    · have HY := Lib.hid (words_yes (m := m) (n := 0) (fun j hj => HJ.out j (by omega)))
      go_wp2
      go_ret
      exact ⟨ret_bool HY.out.symm, K1.below⟩

set_option maxRecDepth 100000 in
set_option maxHeartbeats 4000000 in
theorem refMay_10 (c : Cfg) (m : Msg) (w : World) (hok : okC c = true) (hln : isin m.ln c.li = true) (hkk : m.kd = 10) (f_to : isin m.to c.co = true) (f_fr : (m.fr != m.ln % c.ho) = false) (f_ow : (m.ow != 0) = false) (f_wh : (m.wh != 0) = false) (f_ac : (m.ac != 0) = false) :
    Calls Try.prog 23 #[cv c, mv m] w fun e w' => e = .returned (.bool (wordsB m 0)) ∧ Below w.heap.size w w' := by
  have HTH : Hid (toHome 10 = false) := Lib.hid (rfl)
  have hs := ok_sizes hok
  have h1 := hs.2.1.1
  have h2 := hs.2.1.2
  have hl := isin_of hln
  have hl1 := hl.1
  have hl2 := hl.2
  have h0 := chk_ok c hok
  have hne : (c.ho == 0) = false := by simp; omega
  have KK := K2.box w (ccells c) (mcells m) 24 37
  clear hok hln hs hl
  go_enter Try.func23, Try.ntmps23
  go_wp2_with (fail)
  refine (refCheck_any c _).mono ?_
  rintro e w1 ⟨rfl, hb1⟩
  have K1 := KK.step hb1
  have ha := K1.a; have hb := K1.b
  clear hb1 KK
  go_wp2_with (first
    | (go_at_call 36; refine (refHome_any _ _).mono ?_; rintro e w2 ⟨rfl, hb2⟩; rw [HTH.out]; have K1 := K1.step hb2; clear ha hb hb2; have ha := K1.a; have hb := K1.b)
    | (go_at_call 37; refine (refCore_any c _ _).mono ?_; rintro e w3 ⟨rfl, hb3⟩; have K1 := K1.step hb3; clear hb3 ha hb; have ha := K1.a; have hb := K1.b))
  go_loop [6] (fun i => ∃ k : Nat, k ≤ 8 ∧ i = .int .i64 k ∧ Hid (∀ j, j < k → wordB 0 m j = true)) (fun i => 8 - (intOf i).toNat)
  case atStart => exact ⟨0, by omega, rfl, Lib.hid (fun j hj => by omega)⟩
  case round =>
    obtain ⟨k, hk, rfl, HJ⟩ := hrel
    by_cases hlt : k < 8
    · have hcell : (mcells m)[7 + k]? = some (.int .i64 (m.wd k)) := word_cell m k hlt
      have hcl := (hb (7 + k)).trans hcell
      have hk0 := (hb 0).trans (show (mcells m)[0]? = some (.int .i64 m.kd) from rfl)
      clear hb
      rcases Bool.eq_false_or_eq_true (wordB 0 m k) with hw | hw
      · have HK : Hid (∀ j, j < k + 1 → wordB 0 m j = true) := Lib.hid (fun j hj => by
          by_cases e : j = k
          · subst e; exact hw
          · exact HJ.out j (by omega))
        obtain ⟨x1, x2, x3⟩ := word_yes hw
        generalize m.wd k = x at *
        clear hw hcell
        rcases (show ((x != 0) = false ∧ x = 0) ∨ ((x != 0) = true ∧ x ≠ 0) by by_cases hz : x = 0 <;> simp [hz]) with ⟨hz, hz'⟩ | ⟨hz, hz'⟩
        all_goals go_wp2
        all_goals try (exfalso; omega)
        all_goals (go_round <;> first | exact ⟨k + 1, by omega, by go_num, HK⟩ | (simp [intOf]; done) | (simp [intOf]; omega))
      · have HK := Lib.hid (words_not k hlt hw)
        have hx' := word_no hw
        generalize m.wd k = x at *
        clear hw hcell
        rcases hx' with hx | hx | ⟨y1, y2, y3, y4⟩
        all_goals go_wp2
        all_goals try (exfalso; omega)
        all_goals go_ret
        all_goals exact ⟨ret_bool HK.out.symm, K1.below⟩
    · have HY := Lib.hid (words_yes (m := m) (n := 0) (fun j hj => HJ.out j (by omega)))
      go_wp2
      go_ret
      exact ⟨ret_bool HY.out.symm, K1.below⟩

end Go.Proofs.Ytdggjbaapnkcgaa
