/-
  SharerBut, its walk.
-/
import Derived.Test.YtlkeecghofldeaaShQ
import Derived.Test.YtlkeecghofldeaaShHas
namespace Go.Proofs.Ytlkeecghofldeaa
open Go Go.RowKit Go.Maps

theorem but_long (c m : Int) (p : Option Addr) (cap : Nat) (l : List Int) (al : Bool) (q : Option Addr) (cq : Nat) (but : List Int) (w : World) (hm : l.length ≤ 9223372036854775807) (hm2 : but.length ≤ 9223372036854775807) (h : 100 < l.length ∨ (l.length ≤ 100 ∧ 100 < but.length)) :
    Calls Try.prog 5 #[.agg (sv c m p l.length cap al), .slice q but.length cq] w (Holds w) := by
  have hd : decide (100 < (l.length : Int)) = true ∨ (decide (100 < (l.length : Int)) = false ∧ decide (100 < (but.length : Int)) = true) := by
    simp only [decide_eq_true_eq, decide_eq_false_iff_not]
    omega
  have K := Kp.box w (sv c m p l.length cap al) 24
  clear h
  rcases hd with h | ⟨h, h'⟩
  all_goals
    go_enter Try.func5, Try.ntmps5
    go_wp2_with (go_at_call 7; refine (awake_any _).mono ?_; rintro e w1 ⟨rfl, hb⟩; have K2 := K.step hb; have hc2 := K2.1; clear K hb)
    go_ret
    exact ⟨rfl, K2.2.2⟩
theorem but_bad (c m : Int) (p : Option Addr) (cap : Nat) (l : List Int) (al : Bool) (q : Option Addr) (cq : Nat) (but : List Int) (w : World) (hin : NumsIn w p l) (hl : l.length ≤ 100) (hb : but.length ≤ 100) (h : mayB c m l al = false) :
    Calls Try.prog 5 #[.agg (sv c m p l.length cap al), .slice q but.length cq] w (Holds w) := by
  have K := Kp.box w (sv c m p l.length cap al) 24
  have HI := Lib.hid hin
  have HM := Lib.hid h
  clear hin h
  go_enter Try.func5, Try.ntmps5
  go_wp2_with fail
  refine (awake_any _).mono ?_
  rintro e w1 ⟨rfl, hb1⟩
  have K2 := K.step hb1
  have hc2 := K2.1
  clear K hb1
  go_wp2_with fail
  refine (may_any c m p cap l al _ (by omega) (HI.out.step K2.2.2)).mono ?_
  rintro e w2 ⟨rfl, hb2⟩
  rw [HM.out]
  have K3 := K2.step hb2
  clear hb2 hc2
  go_wp2_with fail
  go_ret
  exact ⟨rfl, K3.2.2⟩

/-- What holds while those that are left out are gone through. -/
structure BSt (w : World) (L : Array Value) (mb c : Nat) (f : Int → Bool) (n : Nat) (D : DataW Unit) (wr : World) : Prop where
  kp : Kp w L wr
  map : wr.ownsMap Try.prog 3 (plainElem (H := Unit) Try.prog 4) mb n D
  set : SetIs D c f
  big : w.heap.size + 1 ≤ mb
theorem BSt.step {w wr wr' : World} {L : Array Value} {mb c n : Nat} {f : Int → Bool} {D : DataW Unit} (h : BSt w L mb c f n D wr) (hb : Below wr.heap.size wr wr') : BSt w L mb c f n D wr' :=
  ⟨h.kp.step hb, own_map_block h.map (hb.block mb (own_map_lt h.map)), h.set, h.big⟩
theorem BSt.keyed {w wr wr' : World} {L : Array Value} {mb c n : Nat} {f : Int → Bool} {D : DataW Unit} (h : BSt w L mb c f n D wr) {x : Int} (hx : hasB c x = true) (hm : wr'.ownsMap Try.prog 3 (plainElem (H := Unit) Try.prog 4) mb (n + 1) (D.put (.int .i64 x) (.lit (.bool true)))) (hg : wr.grownBy wr' (some mb)) :
    BSt w L mb c (orB f x) (n + 1) (D.put (.int .i64 x) (.lit (.bool true))) wr' :=
  ⟨h.kp.past (grown_below hg h.big (by have := h.kp.2.1; omega)), hm, h.set.put hx, h.big⟩

set_option maxRecDepth 1000000 in
set_option maxHeartbeats 8000000 in
theorem but_fine (c : Nat) (m : Int) (p : Option Addr) (cap : Nat) (l : List Int) (al : Bool) (q : Option Addr) (cq : Nat) (but : List Int) (w : World) (hin : NumsIn w p l) (hib : NumsIn w q but) (hb : but.length ≤ 100) (hm : mayB c m l al = true) :
    Calls Try.prog 5 #[.agg (sv c m p l.length cap al), .slice q but.length cq] w (Holds w) := by
  have hmm := @run_makeMap Try.prog
  have K := Kp.box w (sv c m p l.length cap al) 24
  have HI := Lib.hid hin
  have HB := Lib.hid hib
  have HM := Lib.hid hm
  obtain ⟨hc1, hc64, -, -, hl8⟩ := may_bounds hm
  have HT : Hid (targetsS ⟨c, m, l, al⟩ but = pickS l al but c) := Lib.hid (by unfold targetsS St.may; rw [if_pos hm]; rfl)
  have HT0 : Hid (targetsS ⟨c, m, l, al⟩ [] = pickS l al [] c) := Lib.hid (by unfold targetsS St.may; rw [if_pos hm]; rfl)
  have hmem : ∀ j, j < (pickS l al but c).length → hasAll c m l al ((pickS l al but c).getD j 0) = true ∧ (but.contains ((pickS l al but c).getD j 0)) = false ∧ -1 < (pickS l al but c).getD j 0 := fun j hj => by
    have h1 := getD_in hj
    rw [pickS_canon, mem_canon] at h1
    rw [pickS_canon]
    obtain ⟨⟨h0, hc⟩, hf⟩ := h1
    rw [Bool.and_eq_true] at hf
    refine ⟨?_, by simpa using hf.2, by omega⟩
    unfold hasAll
    rw [hm, hasB_iff.2 ⟨h0, hc⟩, hf.1]
    rfl
  have hlt2 : ∀ i j, i < j → j < (pickS l al but c).length → (pickS l al but c).getD i 0 < (pickS l al but c).getD j 0 := fun i j hi hj => getD_lt (by rw [pickS_canon]; exact canon_sorted c _) hi hj
  have hcnt : (pickS l al but c).length + (canon c (outF l al but but.length)).length = (pickS l al [] c).length := by
    rw [pickS_canon, pickS_canon, outF_all, canon_split]
    congr 1
    exact canon_congr fun y _ _ => by simp
  have hTl := pickS_len l al but c
  have hTl0 := pickS_len l al [] c
  generalize hTe : pickS l al but c = T at *
  generalize hTe0 : pickS l al [] c = T0 at *
  have HMEM := Lib.hid hmem
  have HLT := Lib.hid hlt2
  have HCNT := Lib.hid hcnt
  clear hin hib hm hmem hlt2 hcnt hTe hTe0
  go_enter Try.func5, Try.ntmps5
  go_wp2_with fail
  refine (awake_any _).mono ?_
  rintro e w1 ⟨rfl, hb1⟩
  have K2 := K.step hb1
  have hc2 := K2.1
  clear K hb1
  go_wp2_with fail
  refine (may_any c m p cap l al _ (by omega) (HI.out.step K2.2.2)).mono ?_
  rintro e w2 ⟨rfl, hb2⟩
  rw [HM.out]
  have K3 := K2.step hb2
  have hc3 := K3.1
  clear hb2 hc2 K2
  go_wp2_with fail
  refine (targets_is (s := ⟨c, m, l, al⟩) HT.out p cap q cq _ (HI.out.step K3.2.2) (HB.out.step K3.2.2) (by simp only; omega) (by omega)).mono ?_
  rintro e w3 ⟨pt, ct, rfl, hit, hb3⟩
  have K4 := K3.step hb3
  have HIT := Lib.hid hit
  clear hb3 hc3 K3 hit
  go_wp2_with fail
  go_loopw [6, 35] (fun a i wr => ∃ (k : Nat) (y : Int), k ≤ T.length ∧ i = .int .i64 k ∧ a = .int .i64 y ∧ (∀ j, k ≤ j → j < T.length → y < T.getD j 0) ∧ Below w3.heap.size w3 wr) (fun _ i _ => T.length - (intOf i).toNat)
  case atStart => exact ⟨0, -1, Nat.zero_le _, rfl, rfl, fun j _ hj => (HMEM.out j hj).2.2, Below.refl _ _⟩
  case round =>
    obtain ⟨k, y, hk, rfl, rfl, hy, hbw⟩ := hrel
    have K5 := K4.step hbw
    have hc5 := K5.1
    have HY := Lib.hid hy
    have HBW := Lib.hid hbw
    clear hy hbw
    by_cases hlt : k < T.length
    · as_aux_lemma =>
      obtain ⟨hh, hnb, -⟩ := HMEM.out k hlt
      have hyk := HY.out k (Nat.le_refl _) hlt
      have hnx : ∀ j, k + 1 ≤ j → j < T.length → T.getD k 0 < T.getD j 0 := fun j h1 h2 => HLT.out k j (by omega) h2
      obtain ⟨g, off, rfl, hg, hx⟩ := (HIT.out.step HBW.out) k hlt
      have HNX := Lib.hid hnx
      generalize T.getD k 0 = x at *
      have hle : decide (x ≤ y) = false := by simp; omega
      have HH := Lib.hid hh
      have HNB := Lib.hid hnb
      clear hh hnb hyk hnx
      obtain ⟨wo, rfl⟩ : ∃ wo : World, wo = wr := ⟨_, rfl⟩
      go_wp2_with fail
      refine (has_is (s := ⟨c, m, l, al⟩) HH.out p cap _ (HI.out.step K5.2.2) (by simp only; omega)).mono ?_
      rintro e w6 ⟨rfl, hb6⟩
      have HBW6 := Lib.hid (bstep HBW.out hb6)
      have HBB := Lib.hid (HB.out.step (K5.step hb6).2.2)
      clear hb6 hc5 K5 hx
      go_wp2_with fail
      go_loop [51] (fun i => ∃ j : Nat, j ≤ but.length ∧ i = .int .i64 j) (fun i => but.length - (intOf i).toNat)
      case atStart => exact ⟨0, Nat.zero_le _, rfl⟩
      case round =>
        obtain ⟨j, hj, rfl⟩ := hrel
        by_cases hjl : j < but.length
        · obtain ⟨g2, off2, rfl, hg2, hx2⟩ := HBB.out j hjl
          have hne : (but.getD j 0 == x) = false := by
            have h1 := getD_in hjl
            have h2 := HNB.out
            rw [← Bool.not_eq_true, List.contains_iff_mem] at h2
            simp only [beq_eq_false_iff_ne]
            exact fun e => h2 (e ▸ h1)
          generalize but.getD j 0 = z at hx2 hne
          go_wp2_with fail
          go_round
          case rel => exact ⟨j + 1, by omega, by go_num⟩
          case measure => simp [intOf]; omega
        · go_wp2_with fail
          go_roundw
          case rel => exact ⟨k + 1, x, by omega, by go_num, rfl, HNX.out, HBW6.out⟩
          case measure => simp [intOf]; omega
    · as_aux_lemma =>
      have hbm := balloc wr (.map #[] 0)
      have hb0 : BSt w (sv c m p l.length cap al) wr.heap.size c (outF l al but 0) 0 (.map []) (wr.alloc (.map #[] 0)) :=
        ⟨K5.step hbm, World.ownsMap_made _ _ _ _, by rw [outF_zero]; exact SetIs.empty c, by have := K5.2.1; omega⟩
      have HS0 := Lib.hid hb0
      clear hb0 hbm hc5 K4 K5 HBW HY
      go_wp2_with fail
      generalize wr.heap.size = mb at HS0 ⊢
      generalize World.alloc _ _ = wq at HS0 ⊢
      clear hmm
      go_loopw [63] (fun i wr => ∃ k : Nat, k ≤ but.length ∧ i = .int .i64 k ∧ ∃ n D, n ≤ k ∧ BSt w (sv c m p l.length cap al) mb c (outF l al but k) n D wr) (fun i _ => but.length - (intOf i).toNat)
      case atStart => exact ⟨0, Nat.zero_le _, rfl, 0, _, Nat.le_refl _, HS0.out⟩
      case round =>
        obtain ⟨j, hj, rfl, n, D, hn, hs⟩ := hrel
        have HS := Lib.hid hs
        have hcs := hs.kp.1
        clear hs HS0
        by_cases hjl : j < but.length
        · obtain ⟨g2, off2, rfl, hg2, hx2⟩ := (HB.out.step HS.out.kp.2.2) j hjl
          have hyes := fun h => outF_yes (l := l) (al := al) hjl h
          have hno := fun h => outF_no (l := l) (al := al) (c := c) hjl h
          generalize but.getD j 0 = z at hx2 hyes hno
          rcases Bool.eq_false_or_eq_true (hasAll c m l al z) with hz | hz
          · have hz2 : hasB c z = true ∧ toldB l al z = true := by
              unfold hasAll at hz
              rw [HM.out, Bool.true_and, Bool.and_eq_true] at hz
              exact hz
            have HZ := Lib.hid hz
            have HZC := Lib.hid hz2.1
            have HF := Lib.hid (hyes hz2.2)
            have HWF := Lib.hid (wf_small (c := z) (by have := (hasB_iff.1 hz2.1).1; omega) (by have := (hasB_iff.1 hz2.1).2; omega))
            clear hz hz2 hyes hno
            go_wp2_with fail
            refine (has_is (s := ⟨c, m, l, al⟩) HZ.out p cap _ (HI.out.step HS.out.kp.2.2) (by simp only; omega)).mono ?_
            rintro e w8 ⟨rfl, hb8⟩
            have HS8 := Lib.hid (HS.out.step hb8)
            clear hb8 hcs
            go_wp2_with (at_mapUpdate; refine wpList_mapUpdate_own _ rfl (.tmp 70) (.tmp 71) (.const (.bool true)) 43 rfl 3 4 law3 Try.underlying43 _ mb n D rfl HS8.out.map (by unfold maxLen; omega) (.int .i64 z) (.bool true) (.int .i64 z) rfl rfl (keyOf_int_mk Try.underlying3 HWF.out) (.lit (.bool true)) [] (plainElem_bool Try.underlying4 true) ?_; intro w9 hm9 hg9; have HS9 := Lib.hid (HS8.out.keyed HZC.out hm9 hg9); clear hm9 hg9)
            go_roundw
            case rel => exact ⟨j + 1, by omega, by go_num, n + 1, _, by omega, HS9.out.kp, HS9.out.map, HS9.out.set.congr fun y _ _ => HF.out y, HS9.out.big⟩
            case measure => simp [intOf]; omega
          · have hz2 : hasB c z = false ∨ toldB l al z = false := by
              unfold hasAll at hz
              rw [HM.out, Bool.true_and, Bool.and_eq_false_iff] at hz
              exact hz
            have HZ := Lib.hid hz
            have HF := Lib.hid (hno hz2)
            clear hz hz2 hyes hno
            go_wp2_with fail
            refine (has_is (s := ⟨c, m, l, al⟩) HZ.out p cap _ (HI.out.step HS.out.kp.2.2) (by simp only; omega)).mono ?_
            rintro e w8 ⟨rfl, hb8⟩
            have HS8 := Lib.hid (HS.out.step hb8)
            clear hb8 hcs
            go_wp2_with fail
            go_roundw
            case rel => exact ⟨j + 1, by omega, by go_num, n, D, by omega, HS8.out.kp, HS8.out.map, HS8.out.set.congr fun y h0 h1 => HF.out y h0 h1, HS8.out.big⟩
            case measure => simp [intOf]; omega
        · have hje : j = but.length := by omega
          have hsz := HS.out.set.size
          rw [hje] at hsz
          have hcn := HCNT.out
          rw [← hsz] at hcn
          have HSZ : Hid (RowKit.wrap64 ((T.length : Int) + (Maps.size D : Int)) = (T0.length : Int)) := Lib.hid (by
            simp only [RowKit.wrap64]
            omega)
          clear hsz hcn hje
          go_wp2_with (first
            | (at_len; refine wpList_len_own _ rfl _ 43 rfl 3 4 Try.underlying43 _ mb n D rfl HS.out.map ?_)
            | (go_at_call 17; refine (targets_is (s := ⟨c, m, l, al⟩) (but := []) HT0.out p cap none 0 _ (HI.out.step HS.out.kp.2.2) (NumsIn.nil _ _) (by simp only; omega) (by simp)).mono ?_; rintro e w9 ⟨p9, c9, rfl, -, hb9⟩))
          go_ret
          exact ⟨ret_bool (by rw [HSZ.out]; simp), bstep HS.out.kp.2.2 hb9⟩

theorem sharerBut_any (c m : Int) (p : Option Addr) (cap : Nat) (l : List Int) (al : Bool) (q : Option Addr) (cq : Nat) (but : List Int) (w : World) (hin : NumsIn w p l) (hm : l.length ≤ 9223372036854775807) (hib : NumsIn w q but) (hm2 : but.length ≤ 9223372036854775807) :
    Calls Try.prog 5 #[.agg (sv c m p l.length cap al), .slice q but.length cq] w (Holds w) := by
  by_cases h : 100 < l.length ∨ (l.length ≤ 100 ∧ 100 < but.length)
  · exact but_long c m p cap l al q cq but w hm hm2 h
  · rcases Bool.eq_false_or_eq_true (mayB c m l al) with hm | hm
    · obtain ⟨h1, h2, -⟩ := may_bounds hm
      obtain ⟨n, rfl⟩ : ∃ n : Nat, c = n := ⟨c.toNat, by omega⟩
      exact but_fine n m p cap l al q cq but w hin hib (by omega) hm
    · exact but_bad c m p cap l al q cq but w hin (by omega) (by omega) hm

end Go.Proofs.Ytlkeecghofldeaa
