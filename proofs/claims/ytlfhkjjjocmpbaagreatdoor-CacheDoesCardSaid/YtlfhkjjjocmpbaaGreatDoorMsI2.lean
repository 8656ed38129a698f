/-
  What the document's own May does with a message of a kind, of a line and a machine that may be.
-/
import Derived.Test.YtlfhkjjjocmpbaaGreatDoorMsGc
import Derived.Test.YtlfhkjjjocmpbaaGreatDoorMsH
import Derived.Deep.DeepCutAuto
import Derived.Deep.CutBlock
namespace Go.Proofs.YtlfhkjjjocmpbaaGreatDoor
open Go Go.RowKit Go.Sort

theorem five_or (k : Int) : (k == 5 || k == 7 || k == 8) = true ↔ (k = 5 ∨ k = 7 ∨ k = 8) := by simp [or_assoc]

set_option maxRecDepth 100000 in
set_option maxHeartbeats 16000000 in
theorem refMay_yes (c : Cfg) (m : Msg) (w : World) (hok : okC c = true) (hln : isin m.ln c.li = true) (hkd : isKind m.kd = true) :
    Calls Tryz.prog 79 #[cv c, mv m] w fun e w' => e = .returned (.bool (mayM c m)) ∧ Below w.heap.size w w' := by
  have HO := Lib.hid hok
  have HLN := Lib.hid hln
  have HKD := Lib.hid hkd
  have hs := ok_sizes hok
  have h1 := hs.2.1.1
  have h2 := hs.2.1.2
  have hl := isin_of hln
  have hl1 := hl.1
  have hl2 := hl.2
  have hk := isKind_of hkd
  have hk1 := hk.1
  have hk2 := hk.2
  have h0 := chk_ok c hok
  have hne : (c.ho == 0) = false := by simp; omega
  have KK := K2.box w (ccells c) (mcells m) 24 38
  clear hok hln hkd hs hl hk
  go_enter Tryz.func79, Tryz.ntmps79
  go_wp2_with (fail)
  refine (refCheck_any c _).mono ?_
  rintro e w1 ⟨rfl, hb1⟩
  have K1 := KK.step hb1
  have ha := K1.a; have hb := K1.b
  clear hb1 KK
  go_upto_if 40 with (go_at_call 80; refine (refHome_any _ _).mono ?_; rintro e w2 ⟨rfl, hb2⟩)
  have K2' := K1.step hb2
  clear ha hb hb2 K1
  have ha := K2'.a; have hb := K2'.b
  go_cut [] (fun wx => K2 w (ccells c) (mcells m) wx ∧ Hid (endsB c m = true))
  case first =>
    as_aux_lemma =>
      rename_i Q hr K J K' k3
      rcases Bool.eq_false_or_eq_true (toHome m.kd) with h | h
      · rw [h]
        have H := Lib.hid h
        clear h
        go_wp2_with (go_at_call 127; refine (refCore_any c _ _).mono ?_; rintro e w3 ⟨rfl, hb3⟩; have K3' := K2'.step hb3; clear hb3 ha hb; have ha := K3'.a; have hb := K3'.b)
        all_goals have h := H.out
        all_goals clear ha hb
        all_goals first
          | (go_meet; refine ⟨K3', Lib.hid ?_⟩; (try clear H); (try clear K2'); (try clear HO); (try clear HLN); (try clear HKD); (try clear k3); (try clear k2); (try clear K'); (try clear J); (try clear k1); (try clear K); (try clear Q); (try clear hr); (try clear h0); (try clear hne); (try clear K3'); simp_all [endsB])
          | (go_ret; refine ⟨ret_bool (may_ends HKD.out ?_).symm, K3'.below⟩; (try clear H); (try clear K2'); (try clear HO); (try clear HLN); (try clear HKD); (try clear k3); (try clear k2); (try clear K'); (try clear J); (try clear k1); (try clear K); (try clear Q); (try clear hr); (try clear h0); (try clear hne); (try clear K3'); simp_all [endsB])
      · rw [h]
        have H := Lib.hid h
        clear h
        go_wp2_with (go_at_call 127; refine (refCore_any c _ _).mono ?_; rintro e w3 ⟨rfl, hb3⟩; have K3' := K2'.step hb3; clear hb3 ha hb; have ha := K3'.a; have hb := K3'.b)
        all_goals have h := H.out
        all_goals clear ha hb
        all_goals first
          | (go_meet; refine ⟨K3', Lib.hid ?_⟩; (try clear H); (try clear K2'); (try clear HO); (try clear HLN); (try clear HKD); (try clear k3); (try clear k2); (try clear K'); (try clear J); (try clear k1); (try clear K); (try clear Q); (try clear hr); (try clear h0); (try clear hne); (try clear K3'); simp_all [endsB])
          | (go_ret; refine ⟨ret_bool (may_ends HKD.out ?_).symm, K3'.below⟩; (try clear H); (try clear K2'); (try clear HO); (try clear HLN); (try clear HKD); (try clear k3); (try clear k2); (try clear K'); (try clear J); (try clear k1); (try clear K); (try clear Q); (try clear hr); (try clear h0); (try clear hne); (try clear K3'); simp_all [endsB])
  case rest =>
    as_aux_lemma =>
    obtain ⟨K3', HE⟩ := hcut
    clear ha hb K2'
    have ha := K3'.a; have hb := K3'.b
    go_upto_block 0 with (fail)
    go_cut [] (fun wx => K2 w (ccells c) (mcells m) wx ∧ Hid (swB c m = true))
    case first =>
      as_aux_lemma =>
      rename_i Q hr K k1 J K' k2 k3
      go_wp2_with (go_at_call 127; refine (refCore_any c _ _).mono ?_; rintro e w3 ⟨rfl, hb3⟩; have K3' := K3'.step hb3; clear hb3 ha hb; have ha := K3'.a; have hb := K3'.b)
      all_goals clear ha hb
      all_goals first
        | (go_meet; refine ⟨K3', Lib.hid ?_⟩; (try clear HE); (try clear HO); (try clear HLN); (try clear HKD); (try clear k3); (try clear k2); (try clear K'); (try clear J); (try clear k1); (try clear K); (try clear Q); (try clear hr); (try clear h0); (try clear hne); (try clear K3'); (first | (simp_all [swB, given]; done) | grind [swB, given]))
        | (go_ret; refine ⟨ret_bool (may_sw HKD.out ?_).symm, K3'.below⟩; (try clear HE); (try clear HO); (try clear HLN); (try clear HKD); (try clear k3); (try clear k2); (try clear K'); (try clear J); (try clear k1); (try clear K); (try clear Q); (try clear hr); (try clear h0); (try clear hne); (try clear K3'); (first | (simp_all [swB, given]; done) | grind [swB, given]))
    case rest =>
      as_aux_lemma =>
      obtain ⟨K4, HS⟩ := hcut
      clear ha hb K3'
      have ha := K4.a; have hb := K4.b
      go_upto_region 27 with (fail)
      go_cut [58, 177] (fun _ s177 wx => s177 = .bool (!zB m) ∧ K2 w (ccells c) (mcells m) wx)
      case first =>
        as_aux_lemma =>
        rename_i Q hr K k1 J K' k2 k3
        go_wp2
        all_goals clear ha hb
        all_goals (go_meet; refine ⟨congrArg Value.bool ?_, K4⟩; (try clear HE); (try clear HS); (try clear HO); (try clear HLN); (try clear HKD); (try clear k3); (try clear k2); (try clear K'); (try clear J); (try clear k1); (try clear K); (try clear Q); (try clear hr); (try clear h0); (try clear hne); (try clear K4); first | (simp_all [zB]; done) | grind [zB])
      case rest =>
        as_aux_lemma =>
        obtain ⟨rfl, K5⟩ := hcut
        clear ha hb K4
        have ha := K5.a; have hb := K5.b
        rcases Bool.eq_false_or_eq_true (zB m) with hz | hz
        rotate_left
        · rw [hz]
          clear ha hb
          have HZ := Lib.hid hz
          clear hz
          go_wp2
          go_ret
          exact ⟨ret_bool (may_z HKD.out HZ.out).symm, K5.below⟩
        rw [hz]
        have HZ := Lib.hid hz
        clear hz
        go_upto_region 29 with (fail)
        go_cut [190] (fun s190 wx => s190 = .bool (m.kd == 5 || m.kd == 7 || m.kd == 8) ∧ K2 w (ccells c) (mcells m) wx)
        case first =>
          as_aux_lemma =>
          rename_i Q hr K k1 J K' k2 k3
          go_wp2
          all_goals clear ha hb
          all_goals (go_meet; refine ⟨congrArg Value.bool ?_, K5⟩; (try clear HE); (try clear HS); (try clear HZ); (try clear HO); (try clear HLN); (try clear HKD); (try clear k3); (try clear k2); (try clear K'); (try clear J); (try clear k1); (try clear K); (try clear Q); (try clear hr); (try clear h0); (try clear hne); (try clear K5); first | (simp_all; done) | grind)
        case rest =>
          as_aux_lemma =>
          obtain ⟨rfl, K6⟩ := hcut
          clear ha hb K5
          have ha := K6.a; have hb := K6.b
          go_upto_if 190 with (fail)
          go_cut [] (fun wx => K2 w (ccells c) (mcells m) wx ∧ Hid (aB c m = true))
          case first =>
            as_aux_lemma =>
            rename_i Q hr K k1 J K' k2 k3
            have h5 := five_or m.kd
            rcases Bool.eq_false_or_eq_true (m.kd == 5 || m.kd == 7 || m.kd == 8) with h | h
            · rw [h]
              have H := Lib.hid (h5.1 h)
              clear h h5
              go_wp2
              all_goals have h := H.out
              all_goals clear ha hb
              all_goals first
                | (go_meet; refine ⟨K6, Lib.hid ?_⟩; (try clear HE); (try clear HS); (try clear HZ); (try clear H); (try clear HO); (try clear HLN); (try clear HKD); (try clear k3); (try clear k2); (try clear K'); (try clear J); (try clear k1); (try clear K); (try clear Q); (try clear hr); (try clear h0); (try clear hne); (try clear K6); (first | (simp_all [aB]; done) | (simp_all [aB, isin]; done) | grind [aB, isin]))
                | (go_ret; refine ⟨ret_bool (may_a HKD.out ?_).symm, K6.below⟩; (try clear HE); (try clear HS); (try clear HZ); (try clear H); (try clear HO); (try clear HLN); (try clear HKD); (try clear k3); (try clear k2); (try clear K'); (try clear J); (try clear k1); (try clear K); (try clear Q); (try clear hr); (try clear h0); (try clear hne); (try clear K6); (first | (simp_all [aB]; done) | (simp_all [aB, isin]; done) | grind [aB, isin]))
            · have H := Lib.hid (show ¬ (m.kd = 5 ∨ m.kd = 7 ∨ m.kd = 8) from fun h' => by rw [h5.2 h'] at h; cases h)
              rw [h]
              clear h h5
              go_wp2
              all_goals have h := H.out
              all_goals clear ha hb
              all_goals first
                | (go_meet; refine ⟨K6, Lib.hid ?_⟩; (try clear HE); (try clear HS); (try clear HZ); (try clear H); (try clear HO); (try clear HLN); (try clear HKD); (try clear k3); (try clear k2); (try clear K'); (try clear J); (try clear k1); (try clear K); (try clear Q); (try clear hr); (try clear h0); (try clear hne); (try clear K6); (first | (simp_all [aB]; done) | (simp_all [aB, isin]; done) | grind [aB, isin]))
                | (go_ret; refine ⟨ret_bool (may_a HKD.out ?_).symm, K6.below⟩; (try clear HE); (try clear HS); (try clear HZ); (try clear H); (try clear HO); (try clear HLN); (try clear HKD); (try clear k3); (try clear k2); (try clear K'); (try clear J); (try clear k1); (try clear K); (try clear Q); (try clear hr); (try clear h0); (try clear hne); (try clear K6); (first | (simp_all [aB]; done) | (simp_all [aB, isin]; done) | grind [aB, isin]))
          case rest =>
            as_aux_lemma =>
            obtain ⟨K7, HA⟩ := hcut
            have HM : Hid (mayM c m = wordsB m (nw c m.kd)) := Lib.hid (may_split HO.out HKD.out HLN.out HE.out HS.out HZ.out HA.out)
            clear ha hb K6
            have ha := K7.a; have hb := K7.b
            rcases Bool.eq_false_or_eq_true (m.kd == 3) with h | h
            · rw [show nw c m.kd = c.wo by unfold nw; rw [if_pos (by left; simpa using h)]] at HM
              have h3 : (m.kd != 3) = false := by simpa using h
              clear h
              as_aux_lemma =>
              go_wp2
              go_loop [6] (fun i => ∃ k : Nat, k ≤ 8 ∧ i = .int .i64 k ∧ Hid (∀ j, j < k → wordB c.wo m j = true)) (fun i => 8 - (intOf i).toNat)
              case atStart => exact ⟨0, by omega, rfl, Lib.hid (fun j hj => by omega)⟩
              case round =>
                obtain ⟨k, hk, rfl, HJ⟩ := hrel
                by_cases hlt : k < 8
                · have hcell : (mcells m)[7 + k]? = some (.int .i64 (m.wd k)) := word_cell m k hlt
                  have hcl := (hb (7 + k)).trans hcell
                  have hk0 := (hb 0).trans (show (mcells m)[0]? = some (.int .i64 m.kd) from rfl)
                  clear hb
                  rcases Bool.eq_false_or_eq_true (wordB c.wo m k) with hw | hw
                  · have HK : Hid (∀ j, j < k + 1 → wordB c.wo m j = true) := Lib.hid (fun j hj => by
                      by_cases e : j = k
                      · subst e; exact hw
                      · exact HJ.out j (by omega))
                    obtain ⟨x1, x2, x3⟩ := word_yes hw
                    generalize m.wd k = x at *
                    clear hw hcell
                    rcases (show ((x != 0) = false ∧ x = 0) ∨ ((x != 0) = true ∧ x ≠ 0) by by_cases hz : x = 0 <;> simp [hz]) with ⟨hz, hz'⟩ | ⟨hz, hz'⟩
                    all_goals go_wp2
                    all_goals try (exfalso; omega)
                    all_goals (go_round <;> first | exact ⟨k + 1, by omega, by go_num, HK⟩ | (simp [intOf]; done) | (simp [intOf]; omega))
                  · have HK := Lib.hid (words_not k hlt hw)
                    have hx' := word_no hw
                    generalize m.wd k = x at *
                    clear hw hcell
                    rcases hx' with hx | hx | ⟨y1, y2, y3, y4⟩
                    all_goals go_wp2
                    all_goals try (exfalso; omega)
                    all_goals go_ret
                    all_goals exact ⟨ret_bool (HM.out.trans HK.out).symm, K7.below⟩
                · have HY := Lib.hid (words_yes (m := m) (n := c.wo) (fun j hj => HJ.out j (by omega)))
                  go_wp2
                  go_ret
                  exact ⟨ret_bool (HM.out.trans HY.out).symm, K7.below⟩
            · have h3 : (m.kd != 3) = true := by simpa using h
              rcases Bool.eq_false_or_eq_true (m.kd == 7) with h' | h'
              · rw [show nw c m.kd = c.wo by unfold nw; rw [if_pos (by right; simpa using h')]] at HM
                have h7 : (m.kd != 7) = false := by simpa using h'
                clear h h'
                as_aux_lemma =>
                go_wp2
                go_loop [6] (fun i => ∃ k : Nat, k ≤ 8 ∧ i = .int .i64 k ∧ Hid (∀ j, j < k → wordB c.wo m j = true)) (fun i => 8 - (intOf i).toNat)
                case atStart => exact ⟨0, by omega, rfl, Lib.hid (fun j hj => by omega)⟩
                case round =>
                  obtain ⟨k, hk, rfl, HJ⟩ := hrel
                  by_cases hlt : k < 8
                  · have hcell : (mcells m)[7 + k]? = some (.int .i64 (m.wd k)) := word_cell m k hlt
                    have hcl := (hb (7 + k)).trans hcell
                    have hk0 := (hb 0).trans (show (mcells m)[0]? = some (.int .i64 m.kd) from rfl)
                    clear hb
                    rcases Bool.eq_false_or_eq_true (wordB c.wo m k) with hw | hw
                    · have HK : Hid (∀ j, j < k + 1 → wordB c.wo m j = true) := Lib.hid (fun j hj => by
                        by_cases e : j = k
                        · subst e; exact hw
                        · exact HJ.out j (by omega))
                      obtain ⟨x1, x2, x3⟩ := word_yes hw
                      generalize m.wd k = x at *
                      clear hw hcell
                      rcases (show ((x != 0) = false ∧ x = 0) ∨ ((x != 0) = true ∧ x ≠ 0) by by_cases hz : x = 0 <;> simp [hz]) with ⟨hz, hz'⟩ | ⟨hz, hz'⟩
                      all_goals go_wp2
                      all_goals try (exfalso; omega)
                      all_goals (go_round <;> first | exact ⟨k + 1, by omega, by go_num, HK⟩ | (simp [intOf]; done) | (simp [intOf]; omega))
                    · have HK := Lib.hid (words_not k hlt hw)
                      have hx' := word_no hw
                      generalize m.wd k = x at *
                      clear hw hcell
                      rcases hx' with hx | hx | ⟨y1, y2, y3, y4⟩
                      all_goals go_wp2
                      all_goals try (exfalso; omega)
                      all_goals go_ret
                      all_goals exact ⟨ret_bool (HM.out.trans HK.out).symm, K7.below⟩
                  · have HY := Lib.hid (words_yes (m := m) (n := c.wo) (fun j hj => HJ.out j (by omega)))
                    go_wp2
                    go_ret
                    exact ⟨ret_bool (HM.out.trans HY.out).symm, K7.below⟩
              · rw [show nw c m.kd = 0 by unfold nw; rw [if_neg (by simp at h h'; omega)]] at HM
                have h7 : (m.kd != 7) = true := by simpa using h'
                clear h h'
                as_aux_lemma =>
                go_wp2
                go_loop [6] (fun i => ∃ k : Nat, k ≤ 8 ∧ i = .int .i64 k ∧ Hid (∀ j, j < k → wordB 0 m j = true)) (fun i => 8 - (intOf i).toNat)
                case atStart => exact ⟨0, by omega, rfl, Lib.hid (fun j hj => by omega)⟩
                case round =>
                  obtain ⟨k, hk, rfl, HJ⟩ := hrel
                  by_cases hlt : k < 8
                  · have hcell : (mcells m)[7 + k]? = some (.int .i64 (m.wd k)) := word_cell m k hlt
                    have hcl := (hb (7 + k)).trans hcell
                    have hk0 := (hb 0).trans (show (mcells m)[0]? = some (.int .i64 m.kd) from rfl)
                    clear hb
                    rcases Bool.eq_false_or_eq_true (wordB 0 m k) with hw | hw
                    · have HK : Hid (∀ j, j < k + 1 → wordB 0 m j = true) := Lib.hid (fun j hj => by
                        by_cases e : j = k
                        · subst e; exact hw
                        · exact HJ.out j (by omega))
                      obtain ⟨x1, x2, x3⟩ := word_yes hw
                      generalize m.wd k = x at *
                      clear hw hcell
                      rcases (show ((x != 0) = false ∧ x = 0) ∨ ((x != 0) = true ∧ x ≠ 0) by by_cases hz : x = 0 <;> simp [hz]) with ⟨hz, hz'⟩ | ⟨hz, hz'⟩
                      all_goals go_wp2
                      all_goals try (exfalso; omega)
                      all_goals (go_round <;> first | exact ⟨k + 1, by omega, by go_num, HK⟩ | (simp [intOf]; done) | (simp [intOf]; omega))
                    · have HK := Lib.hid (words_not k hlt hw)
                      have hx' := word_no hw
                      generalize m.wd k = x at *
                      clear hw hcell
                      rcases hx' with hx | hx | ⟨y1, y2, y3, y4⟩
                      all_goals go_wp2
                      all_goals try (exfalso; omega)
                      all_goals go_ret
                      all_goals exact ⟨ret_bool (HM.out.trans HK.out).symm, K7.below⟩
                  · have HY := Lib.hid (words_yes (m := m) (n := 0) (fun j hj => HJ.out j (by omega)))
                    go_wp2
                    go_ret
                    exact ⟨ret_bool (HM.out.trans HY.out).symm, K7.below⟩

end Go.Proofs.YtlfhkjjjocmpbaaGreatDoor
