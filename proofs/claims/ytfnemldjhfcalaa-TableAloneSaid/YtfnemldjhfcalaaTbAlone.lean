/-
  TableAlone is true.
-/
import Derived.Test.YtfnemldjhfcalaaTbOne
import Derived.Test.YtfnemldjhfcalaaTbQ
import Derived.Deep.RegionHeld3
import Derived.Deep.CutRange
import Derived.Deep.DeepCutAuto
namespace Go.Proofs.Ytfnemldjhfcalaa
open Go Go.RowKit Go.Sort

set_option maxRecDepth 100000 in
set_option maxHeartbeats 4000000 in
theorem tableAlone_any (e : En) (p : Option Addr) (cap : Nat) (m : Msg) (v : W8) (y : Int) (w : World) (hl : e.s.l.length ≤ 9223372036854775807) (hn : NumsIn w p e.s.l) :
    Calls Try.prog 5 #[ev e p cap, mv m, .agg (wcells v), .int .i64 y] w (Yes w) := by
  have B0 := Bx.three w (ecells e p cap) (mcells m) (wcells v) 26 30 28
  have HN := Lib.hid hn
  clear hn
  by_cases hlen : e.s.l.length ≤ 100
  rotate_left
  · have hq : (100 : Int) < (e.s.l.length : Int) := by omega
    clear hlen
    go_enter Try.func5, Try.ntmps5
    go_wp2_with (go_at_call 6; refine (tawake_any _).mono ?_; rintro _ w1 ⟨rfl, hb1⟩; have B1 := B0.step hb1; have hcE := B1.cells (.tail _ (.tail _ (.head _))); clear hb1)
    go_ret
    exact ⟨rfl, B1.below⟩
  have hq : ¬ (100 : Int) < (e.s.l.length : Int) := by omega
  have hl5 : e.s.l.length ≤ 5000 := by omega
  rcases next_fine e m v with ⟨err, hN, hne⟩ | ⟨hg, t, X, L, hN, hF⟩
  · have HT := Lib.hid (show nextT e m v = (tZ, err) from hN)
    have hne' : (err != 0) = true := by simpa using hne
    clear hN hne
    go_enter Try.func5, Try.ntmps5
    go_wp2_with (first
      | (go_at_call 6; refine (tawake_any _).mono ?_; rintro _ w1 ⟨rfl, hb1⟩; have B1 := B0.step hb1; have hcE := B1.cells (.tail _ (.tail _ (.head _))); have hcM := B1.cells (.tail _ (.head _)); have hcW := B1.cells (.head _); clear hb1)
      | (go_at_call 9; refine (next_is HT.out p cap _ (HN.out.step B1.below) hl5).mono ?_; rintro _ w2 ⟨pt, ct, q, qc, rfl, -, -, hb2⟩; have B2 := B1.step hb2; clear hb2 hcE hcM hcW))
    go_ret
    exact ⟨rfl, bstep B2.below (balloc _ _)⟩
  have HT := Lib.hid hN
  have HF := Lib.hid hF
  have HG := Lib.hid hg
  obtain ⟨N, hNN⟩ : ∃ N, N = t.sent.length := ⟨_, rfl⟩
  have hN65 : N ≤ 65 := by rw [hNN, hF.sent]; simp [invs_len]; exact hF.len
  have htl : t.e.s.l.length ≤ 5000 := by
    have := (may_bounds (may_parts hF.may).1).2.2.2.2
    omega
  have HNN := Lib.hid hNN
  clear hN hF hNN hg
  go_enter Try.func5, Try.ntmps5
  go_upto_region 8 with (first
    | (go_at_call 6; refine (tawake_any _).mono ?_; rintro _ w1 ⟨rfl, hb1⟩; have B1 := B0.step hb1; have hcE := B1.cells (.tail _ (.tail _ (.head _))); have hcM := B1.cells (.tail _ (.head _)); have hcW := B1.cells (.head _); clear hb1)
    | (go_at_call 9; refine (next_is HT.out p cap _ (HN.out.step B1.below) hl5).mono ?_; rintro _ w2 ⟨pt, ct, q, qc, rfl, hn2, hm2, hb2⟩; rw [← HNN.out]; have B2 := (B1.step hb2).add (tcells t pt ct (.slice q N qc)) 42; have hbT := balloc w2 (.cells (tcells t pt ct (.slice q N qc)) 42); have HN2 := Lib.hid (hn2.step hbT); have HM2 := Lib.hid (hm2.step hbT); clear hb2 hcE hcM hcW hn2 hm2 hbT))
  have hcE := B2.cells (.tail _ (.tail _ (.tail _ (.head _))))
  generalize w2.heap.size = tb at *
  generalize World.alloc w2 _ = w3 at *
  go_cut [11] (fun s wx => s = .bool (wasB e y) ∧ Bx w [(tb, tcells t pt ct (.slice q N qc), 42), (w.heap.size + 1 + 1, wcells v, 28), (w.heap.size + 1, mcells m, 30), (w.heap.size, ecells e p cap, 26)] wx ∧ NumsIn wx pt t.e.s.l ∧ MsIn wx q t.sent)
  case first =>
    by_cases h0 : 0 ≤ y
    · rcases Bool.eq_false_or_eq_true (e.ow == y) with h1 | h1
      · have HV : Hid (wasB e y = true) := Lib.hid (was_iff.2 ⟨h0, .inl (by simpa using h1)⟩)
        go_wp2
        go_meet
        case rel => exact ⟨by rw [HV.out], B2, HN2.out, HM2.out⟩
      · have HV : Hid (wasB e y = hasE e y) := Lib.hid (by unfold wasB; rw [h1]; simp [h0])
        go_wp2_with (go_at_call 16; refine (has_is (s := e.s) (x := y) (b := hasE e y) rfl p cap _ (HN.out.step B2.below) hl5).mono ?_; rintro _ w4 ⟨rfl, hb4⟩)
        go_meet
        case rel => exact ⟨by rw [HV.out], (B2).step hb4, (HN2.out).step hb4, (HM2.out).step hb4⟩
    · have h0' : decide (0 ≤ y) = false := by simpa using h0
      have HV : Hid (wasB e y = false) := Lib.hid (by unfold wasB; rw [h0']; rfl)
      clear h0
      go_wp2
      go_meet
      case rel => exact ⟨by rw [HV.out], B2, HN2.out, HM2.out⟩
  case rest =>
    obtain ⟨rfl, B3, hn3, hm3⟩ := hcut
    have HN3 := Lib.hid hn3
    have HM3 := Lib.hid hm3
    have hcT := B3.cells (.head _)
    clear hn3 hm3 B2 HN2 HM2 hcE
    generalize hA : wasB e y = a
    have HA := Lib.hid hA
    clear hA
    go_upto_region 9 with fail
    go_cut [12] (fun s wx => s = .bool (wasB t.e y) ∧ Bx w [(tb, tcells t pt ct (.slice q N qc), 42), (w.heap.size + 1 + 1, wcells v, 28), (w.heap.size + 1, mcells m, 30), (w.heap.size, ecells e p cap, 26)] wx ∧ NumsIn wx pt t.e.s.l ∧ MsIn wx q t.sent)
    case first =>
      by_cases h0 : 0 ≤ y
      · rcases Bool.eq_false_or_eq_true (t.e.ow == y) with h1 | h1
        · have HV : Hid (wasB t.e y = true) := Lib.hid (was_iff.2 ⟨h0, .inl (by simpa using h1)⟩)
          go_wp2
          go_meet
          case rel => exact ⟨by rw [HV.out], B3, HN3.out, HM3.out⟩
        · have HV : Hid (wasB t.e y = hasE t.e y) := Lib.hid (by unfold wasB; rw [h1]; simp [h0])
          go_wp2_with (go_at_call 16; refine (has_is (s := t.e.s) (x := y) (b := hasE t.e y) rfl pt ct _ (HN3.out) htl).mono ?_; rintro _ w4 ⟨rfl, hb4⟩)
          go_meet
          case rel => exact ⟨by rw [HV.out], (B3).step hb4, (HN3.out).step hb4, (HM3.out).step hb4⟩
      · have h0' : decide (0 ≤ y) = false := by simpa using h0
        have HV : Hid (wasB t.e y = false) := Lib.hid (by unfold wasB; rw [h0']; rfl)
        clear h0
        go_wp2
        go_meet
        case rel => exact ⟨by rw [HV.out], B3, HN3.out, HM3.out⟩
    case rest =>
      obtain ⟨rfl, B4, hn4, hm4⟩ := hcut
      have HN4 := Lib.hid hn4
      have HM4 := Lib.hid hm4
      clear hn4 hm4 B3 HN3 HM3 hcT
      have hcT := B4.cells (.head _)
      have hcM := B4.cells (.tail _ (.tail _ (.head _)))
      have hcE := B4.cells (.tail _ (.tail _ (.tail _ (.head _))))
      by_cases hk2 : m.kd = 2
      · obtain ⟨f1, f2, f3⟩ := alone_take HG.out hk2 HT.out y
        have hq2 : (m.kd == 2) = true := by simpa using hk2
        have hq3 : (t.e.ow == m.fr) = true := by simpa using f3
        rw [f1]
        rw [HA.out] at f2
        have F2 := Lib.hid f2
        clear f1 f2 f3 hk2
        go_wp2
        go_loopw [13, 69] (fun d i wr => ∃ k : Nat, k ≤ N ∧ i = .int .i64 k ∧ d = .bool (toldM y (t.sent.take k)) ∧ Bx w [(tb, tcells t pt ct (.slice q N qc), 42), (w.heap.size + 1 + 1, wcells v, 28), (w.heap.size + 1, mcells m, 30), (w.heap.size, ecells e p cap, 26)] wr ∧ MsIn wr q t.sent) (fun _ i _ => N - (intOf i).toNat)
        case atStart => exact ⟨0, Nat.zero_le _, rfl, rfl, B4, HM4.out⟩
        case round =>
          obtain ⟨k, hk, rfl, rfl, B5, hm5⟩ := hrel
          clear B4 HM4 HN4 hcT hcM hcE
          have hcT := B5.cells (.head _)
          have hcM := B5.cells (.tail _ (.tail _ (.head _)))
          by_cases hlt : k < N
          · obtain ⟨x, hx⟩ : ∃ x, t.sent[k]? = some x := ⟨_, List.getElem?_eq_getElem (by rw [← HNN.out]; exact hlt)⟩
            obtain ⟨kq, rfl, hkq, hr⟩ := hm5 k x hx
            have HR := Lib.hid hr
            have HM5 := Lib.hid hm5
            have HTM := Lib.hid (told_more y t.sent k x hx)
            clear hx hr hm5
            generalize toldM y (t.sent.take k) = d at *
            have hd : (d = true) ∨ (d = false ∧ (x.to == y) = false) ∨ (d = false ∧ (x.to == y) = true ∧ (x.kd == 5) = true) ∨ (d = false ∧ (x.to == y) = true ∧ (x.kd == 5) = false) := by
              cases d <;> cases (x.to == y) <;> cases (x.kd == 5) <;> simp
            rcases hd with rfl | ⟨rfl, d1⟩ | ⟨rfl, d1, d2⟩ | ⟨rfl, d1, d2⟩
            all_goals
              go_wp2_with ((with_reducible refine wpList_load_at (op := ⟨some 72, _, _, _, _, _⟩) rfl 30 (.tmp 71) rfl kq (k * 15) ?sx (mcells x) _ ?sc Try.underlying30 ?sd ?si ?_); (case sx => rfl); (case sc => exact HR.out); (case sd => rfl); (case si => kernel_rfl))
              go_roundw
              case rel => exact ⟨k + 1, by omega, by go_num, by rw [HTM.out]; simp [toldX, *], B5.step (balloc _ _), HM5.out.step (balloc _ _)⟩
              case measure => simp [intOf]; omega
          · have hke : t.sent.take k = t.sent := List.take_of_length_le (by rw [← HNN.out]; omega)
            rw [hke]
            have hF2 := F2.out
            clear hke
            generalize toldM y t.sent = d at *
            have hd : ((y == m.fr) = true ∧ a = true) ∨ ((y == m.fr) = true ∧ a = false) ∨ ((y == m.fr) = false ∧ a = false) ∨ ((y == m.fr) = false ∧ a = true ∧ d = true) := by
              cases hy : (y == m.fr) <;> cases a <;> simp_all
            clear hF2 F2
            rcases hd with ⟨d1, rfl⟩ | ⟨d1, rfl⟩ | ⟨d1, rfl⟩ | ⟨d1, rfl, rfl⟩
            all_goals
              rw [d1]
              go_wp2
              go_ret
              exact ⟨rfl, B5.below⟩
      · have hq2 : (m.kd == 2) = false := by simpa using hk2
        by_cases hk1 : m.kd = 1
        · obtain ⟨f1, f2⟩ := alone_share HG.out hk1 HT.out y
          have hq1 : (m.kd == 1) = true := by simpa using hk1
          rw [HA.out] at f1
          clear hk1 hk2
          generalize wasB t.e y = b at *
          have hd : (a = true ∧ b = true ∧ (y != m.fr) = true) ∨ (a = true ∧ b = true ∧ (y != m.fr) = false) ∨ (a = false ∧ b = true ∧ (y != m.fr) = false) ∨ (a = false ∧ b = true ∧ (y != m.fr) = true) ∨ (a = false ∧ b = false ∧ (y != m.fr) = true) := by
            by_cases hy : y = m.fr
            · have := f2 hy
              subst this
              cases a <;> simp [hy]
            · have hy' : (y != m.fr) = true := by simpa using hy
              rw [hy']
              cases a <;> cases b <;> simp_all
          clear f1 f2
          rcases hd with ⟨rfl, rfl, d1⟩ | ⟨rfl, rfl, d1⟩ | ⟨rfl, rfl, d1⟩ | ⟨rfl, rfl, d1⟩ | ⟨rfl, rfl, d1⟩
          all_goals
            go_wp2
            go_ret
            exact ⟨rfl, B4.below⟩
        · obtain ⟨f1, f2, f3⟩ := alone_leave HG.out hk1 hk2 HT.out
          have hq1 : (m.kd == 1) = false := by simpa using hk1
          have hE : hasE t.e y = hasE e y := by unfold hasE; rw [f3]
          have HH1 := Lib.hid hE
          clear hk1 hk2 f3 hE
          obtain ⟨h, hh⟩ : ∃ h, h = hasE e y := ⟨_, rfl⟩
          have HH2 : Hid (hasAll e.s.c e.s.m e.s.l e.s.al y = h) := Lib.hid hh.symm
          have HH3 : Hid (hasAll t.e.s.c t.e.s.m t.e.s.l t.e.s.al y = h) := Lib.hid (HH1.out.trans hh.symm)
          clear HH1 hh
          have hd : ((e.ow == m.fr) = true ∧ t.wr = true) ∨ ((e.ow == m.fr) = false ∧ t.wr = false) := by
            cases hy : (e.ow == m.fr) <;> simp_all
          clear f1
          have L0 := Lib.hid B4
          rcases hd with ⟨d1, d2⟩ | ⟨d1, d2⟩
          all_goals
            go_wp2_with fail
            go_region_held3 (fun w' => (∀ o, w'.cell? ⟨tb, o, none⟩ = (tcells t pt ct (.slice q N qc))[o]?) ∧ (∀ o, w'.cell? ⟨w.heap.size + 1, o, none⟩ = (mcells m)[o]?) ∧ (∀ o, w'.cell? ⟨w.heap.size, o, none⟩ = (ecells e p cap)[o]?))
              (first | exact ⟨L2.out.cells (.head _), L2.out.cells (.tail _ (.tail _ (.head _))), L2.out.cells (.tail _ (.tail _ (.tail _ (.head _))))⟩ | exact ⟨L1.out.cells (.head _), L1.out.cells (.tail _ (.tail _ (.head _))), L1.out.cells (.tail _ (.tail _ (.tail _ (.head _))))⟩ | exact ⟨L0.out.cells (.head _), L0.out.cells (.tail _ (.tail _ (.head _))), L0.out.cells (.tail _ (.tail _ (.tail _ (.head _))))⟩ | go_keep)
              (first
                | (go_at_call 16; have hL1 := L1; clear hL1; refine (has_is (s := e.s) (x := y) HH2.out p cap _ (HN.out.step L1.out.below) hl5).mono ?_; rintro _ w6 ⟨rfl, hb6⟩; have L2 := Lib.hid (L1.out.step hb6); clear hb6)
                | (go_at_call 16; refine (has_is (s := t.e.s) (x := y) HH3.out pt ct _ (by first | exact HN4.out | exact HN4.out.step (below_drew _)) htl).mono ?_; rintro _ w5 ⟨rfl, hb5⟩; have L1 := (by first | exact Lib.hid (L0.out.step hb5) | exact Lib.hid ((L0.out.step (below_drew _)).step hb5)); clear hb5))
            go_wp2
            go_ret
            exact ⟨rfl, L2.out.below⟩

end Go.Proofs.Ytfnemldjhfcalaa
