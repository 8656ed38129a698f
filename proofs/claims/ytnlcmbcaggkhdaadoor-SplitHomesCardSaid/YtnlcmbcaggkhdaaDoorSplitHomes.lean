/-
  The walk of SplitHomes: whatever sizes it is given, it returns true, and writes nothing that was there.
-/
import Derived.Test.YtnlcmbcaggkhdaaDoorSplitN
namespace Go.Proofs.YtnlcmbcaggkhdaaDoor
open Go Go.RowKit

theorem Kp.drewN {w w1 : World} {L : Array Value} (h : Kp w L w1) (n : Nat) : Kp w L (w1.drewN n) := ⟨h.1, h.2.1, below_drewN h.2.2 n⟩
theorem Row.drewN {w : World} {B : Nat} {v : Value} {xs : List Int} (h : Row w B v xs) (n : Nat) : Row (w.drewN n) B v xs := h
theorem Row.at_ {w : World} {B : Nat} {p : Option Addr} {n cap : Nat} {xs : List Int} (h : Row w B (.slice p n cap) xs) {j : Nat} (hj : j < xs.length) : ∃ g, p = some ⟨g, 0, none⟩ ∧ g < B ∧ ∀ i, i < xs.length → w.cell? ⟨g, i, none⟩ = some (.int .i64 (xs.getD i 0)) := by
  rcases h with ⟨_, rfl⟩ | ⟨g, cap', e, hg, hc⟩
  · simp at hj
  · injection e with e1 e2 e3
    exact ⟨g, e1, hg, hc⟩

/-- What the law asks of a home's lines. -/
structure HomeFacts (c : Cfg) (k n : Nat) (xs : List Int) : Prop where
  len : xs.length ≤ 1024
  home : ∀ j, j < xs.length → lnH c (xs.getD j 0) = k
  fine : ∀ j, j < xs.length → lnE c (xs.getD j 0) = 0
  lo : ∀ j, j < xs.length → 0 ≤ xs.getD j 0
  hi : ∀ j, j < xs.length → xs.getD j 0 ≤ 1024
  next : ∀ j, j + 1 < xs.length → xs.getD (j + 1) 0 = xs.getD j 0 + c.ho
  sum : tot c.ho n (k + 1) = tot c.ho n k + xs.length

theorem homeFacts (c : Cfg) (k n : Nat) (hok : okC c = true) (hn : c.li = n) (hk : (k : Int) < c.ho) : HomeFacts c k n (lns c k) := by
  have hp := ok_pows c hok
  have e : lns c k = lnsK c.ho k n := by rw [lns_ok hok, hn]; simp
  have hle := lns_le c k
  rw [e] at hle ⊢
  have hin := lnsK_in c.ho k n
  have hln : ∀ j, j < (lnsK c.ho k n).length → lnOk c ((lnsK c.ho k n).getD j 0) = true := fun j hj => by
    have := hin j hj
    unfold lnOk inR
    rw [hok, hn]
    simp only [Bool.true_and, Bool.and_eq_true, decide_eq_true_eq]
    omega
  exact ⟨hle, fun j hj => (lnOk_yes (hln j hj)).1.trans (hin j hj).2.2, fun j hj => (lnOk_yes (hln j hj)).2.2.2, fun j hj => (hin j hj).1, fun j hj => by have := (hin j hj).2.1; have := hp.2.2.2.2.2; omega,
    fun j hj => lnsK_next c.ho k hp.2.1.2.1 (by omega) hk n j hj, tot_succ _ _ _⟩

theorem homes_no (c : Cfg) (w : World) (hT : Tb w) (hc : c.fits) (h : okC c = false) :
    Calls Tryd.prog 5 #[cv c] w fun e w' => e = .returned (.bool true) ∧ Below w.heap.size w w' := by
  have HT := Lib.hid hT
  have HC := Lib.hid hc
  clear hT hc
  have h0 := chk_no c h
  have HL := Lib.hid (lns_no (h := 0) h)
  clear h
  have K0 := Kp.box w #[Value.int .i64 c.co, .int .i64 c.ho, .int .i64 c.se, .int .i64 c.wa, .int .i64 c.wo, .int .i64 c.li, .int .i64 c.po, .int .i64 c.ms, .int .i64 c.bu, .int .i64 c.wb, .int .i64 c.r0, .int .i64 c.r1, .int .i64 c.r2] 24
  go_enter Tryd.func5, Tryd.ntmps5
  go_wp2_with (fail)
  refine (awake2_any _ (HT.out.keeps K0.2.2)).mono ?_
  rintro e w1 ⟨rfl, hb1⟩
  have K1 := K0.step hb1
  have hc1 := K1.1
  clear hb1 K0
  go_wp2_with (fail)
  refine (check_any c _ HC.out).mono ?_
  rintro e w2 ⟨rfl, hb2⟩
  have K2 := K1.step hb2
  have hc2 := K2.1
  clear hb2 hc1
  go_wp2_with (fail)
  refine (lines_any c 0 _ HC.out (HT.out.keeps K2.2.2)).mono ?_
  rintro e w3 ⟨v3, rfl, hr3, hb3⟩
  have K3 := K2.step hb3
  have hc3 := K3.1
  clear hb3 hc2
  obtain ⟨s3, cap3, rfl⟩ := hr3.form
  rw [HL.out]
  clear hr3
  go_wp2
  go_ret
  exact ⟨rfl, K3.2.2⟩

set_option maxRecDepth 100000 in
set_option maxHeartbeats 4000000 in
theorem homes_yes (c : Cfg) (w : World) (hT : Tb w) (hc : c.fits) (h : okC c = true) :
    Calls Tryd.prog 5 #[cv c] w fun e w' => e = .returned (.bool true) ∧ Below w.heap.size w w' := by
  have HT := Lib.hid hT
  have HC := Lib.hid hc
  clear hT hc
  have h0 := chk_ok c h
  have hp := ok_pows c h
  have hh1 := hp.2.1.2.1
  have hh2 := hp.2.1.2.2
  obtain ⟨n, hn⟩ : ∃ n : Nat, c.li = n := ⟨c.li.toNat, by have := hp.2.2.2.2.1; omega⟩
  have hn2 : n ≤ 1024 := by have := hp.2.2.2.2.2; omega
  have HF := Lib.hid (fun (k : Nat) (hk : (k : Int) < c.ho) => homeFacts c k n h hn hk)
  have HA := Lib.hid (tot_all c.ho hh1 n)
  have HN := Lib.hid hn
  clear h hp hn
  have K0 := Kp.box w #[Value.int .i64 c.co, .int .i64 c.ho, .int .i64 c.se, .int .i64 c.wa, .int .i64 c.wo, .int .i64 c.li, .int .i64 c.po, .int .i64 c.ms, .int .i64 c.bu, .int .i64 c.wb, .int .i64 c.r0, .int .i64 c.r1, .int .i64 c.r2] 24
  go_enter Tryd.func5, Tryd.ntmps5
  go_wp2_with (fail)
  refine (awake2_any _ (HT.out.keeps K0.2.2)).mono ?_
  rintro e w1 ⟨rfl, hb1⟩
  have K1 := K0.step hb1
  have hc1 := K1.1
  clear hb1 K0
  go_wp2_with (fail)
  refine (check_any c _ HC.out).mono ?_
  rintro e w2 ⟨rfl, hb2⟩
  have K2 := K1.step hb2
  have hc2 := K2.1
  clear hb2 hc1
  go_wp2
  clear hc2
  go_loopw [3, 4] (fun s i wr => ∃ k : Nat, (k : Int) ≤ c.ho ∧ i = .int .i64 k ∧ s = .int .i64 (tot c.ho n k) ∧ Kp w #[Value.int .i64 c.co, .int .i64 c.ho, .int .i64 c.se, .int .i64 c.wa, .int .i64 c.wo, .int .i64 c.li, .int .i64 c.po, .int .i64 c.ms, .int .i64 c.bu, .int .i64 c.wb, .int .i64 c.r0, .int .i64 c.r1, .int .i64 c.r2] wr) (fun _ i _ => (c.ho - intOf i).toNat)
  case atStart => exact ⟨0, by omega, rfl, rfl, K2⟩
  case round =>
    obtain ⟨k, hk, rfl, rfl, K⟩ := hrel
    have hcK := K.1
    have htl := tot_le c.ho n k
    by_cases hlt : (k : Int) < c.ho
    · have F := HF.out k hlt
      go_wp2_with (fail)
      refine (lines_any c k _ HC.out (HT.out.keeps K.2.2)).mono ?_
      rintro e w3 ⟨v3, rfl, hr3, hb3⟩
      have K3 := K.step hb3
      clear hb3 hcK K
      generalize lns c k = xs at *
      obtain ⟨p, cap, rfl⟩ := hr3.form
      have hlen := F.len
      go_wp2
      go_loopw [32] (fun i wr => ∃ j : Nat, j ≤ xs.length ∧ i = .int .i64 j ∧ Kp w #[Value.int .i64 c.co, .int .i64 c.ho, .int .i64 c.se, .int .i64 c.wa, .int .i64 c.wo, .int .i64 c.li, .int .i64 c.po, .int .i64 c.ms, .int .i64 c.bu, .int .i64 c.wb, .int .i64 c.r0, .int .i64 c.r1, .int .i64 c.r2] wr ∧ Row wr wr.heap.size (.slice p xs.length cap) xs) (fun i _ => xs.length - (intOf i).toNat)
      case atStart => exact ⟨0, by omega, rfl, K3, hr3⟩
      case round =>
        obtain ⟨j, hj, rfl, K4, hr4⟩ := hrel
        by_cases hjt : j < xs.length
        · obtain ⟨g, rfl, hg, hcell⟩ := hr4.at_ hjt
          have hx := hcell j hjt
          have fH := F.home j hjt
          have fE := F.fine j hjt
          have f0 := F.lo j hjt
          have f1 := F.hi j hjt
          rcases Nat.eq_zero_or_pos j with hj0 | hj0
          · generalize xs.getD j 0 = x at *
            have hc4 := K4.1
            clear hcell
            subst hj0
            go_wp2_with (fail)
            refine (line_any c x _ HC.out (HT.out.keeps K4.2.2)).mono ?_
            rintro e w5 ⟨rfl, hb5⟩
            have K5 := K4.step hb5
            have hr5 := hr4.step hb5
            have hc5 := K5.1
            clear hb5 hc4
            go_wp2
            go_quiet (fail)
            go_wp2
            go_roundw
            case rel => exact ⟨0 + 1, by omega, by go_num, K5.drewN _, hr5.drewN _⟩
            case measure => simp [intOf]; omega
          · obtain ⟨m, rfl⟩ : ∃ m, j = m + 1 := ⟨j - 1, by omega⟩
            have hy := hcell m (by omega)
            have fN := F.next m hjt
            have g0 := F.lo m (by omega)
            have g1 := F.hi m (by omega)
            generalize xs.getD (m + 1) 0 = x at *
            generalize xs.getD m 0 = y at *
            subst fN
            have hc4 := K4.1
            clear hcell
            have hy' := Lib.hid hy
            clear hy
            go_wp2_with (fail)
            refine (line_any c (y + c.ho) _ HC.out (HT.out.keeps K4.2.2)).mono ?_
            rintro e w5 ⟨rfl, hb5⟩
            have K5 := K4.step hb5
            have hr5 := hr4.step hb5
            have hc5 := K5.1
            have hy5 : w5.cell? ⟨g, m, none⟩ = some (.int .i64 y) := (hb5.cell (p := ⟨g, m, none⟩) hg).trans hy'.out
            clear hb5 hc4 hx hy'
            go_wp2
            go_quiet (fail)
            go_wp2
            go_roundw
            case rel => exact ⟨m + 1 + 1, by omega, by go_num, K5.drewN _, hr5.drewN _⟩
            case measure => simp [intOf]; omega
        · have HS := Lib.hid F.sum
          have hc4 := K4.1
          have htl2 := tot_le c.ho n (k + 1)
          go_wp2
          go_roundw
          case rel => exact ⟨k + 1, by omega, by go_num, by rw [HS.out]; go_num, K4⟩
          case measure => simp [intOf]; omega
    · have HE : Hid ((tot c.ho n k : Int) = c.li) := Lib.hid (by
        have : k = c.ho.toNat := by omega
        rw [this, HA.out, HN.out])
      go_wp2
      go_ret
      exact ⟨ret_bool (by simpa using HE.out), K.2.2⟩

theorem homes_any (c : Cfg) (w : World) (hT : Tb w) (hc : c.fits) :
    Calls Tryd.prog 5 #[cv c] w fun e w' => e = .returned (.bool true) ∧ Below w.heap.size w w' := by
  rcases Bool.eq_false_or_eq_true (okC c) with h | h
  · exact homes_yes c w hT hc h
  · exact homes_no c w hT hc h

end Go.Proofs.YtnlcmbcaggkhdaaDoor
