/-
  The document's Has, in and Targets.
-/
import Derived.Test.YtfnemldjhfcalaaShR
import Derived.Test.YtfnemldjhfcalaaShM
namespace Go.Proofs.Ytfnemldjhfcalaa
open Go Go.RowKit Go.Sort

theorem has_take {l : List Int} {x : Int} {k : Nat} (h : k < l.length) : (l.take (k + 1)).contains x = ((l.take k).contains x || l.getD k 0 == x) := by
  have e : l.take (k + 1) = l.take k ++ [l.getD k 0] := by
    rw [List.take_add_one]
    simp [List.getElem?_eq_getElem h, List.getD_eq_getElem?_getD]
  rw [e, List.getD_eq_getElem?_getD]
  generalize l[k]?.getD 0 = y
  rw [Bool.eq_iff_iff, List.contains_iff_mem, List.mem_append, List.mem_singleton, Bool.or_eq_true, List.contains_iff_mem, beq_iff_eq]
  exact ⟨fun h => h.imp id Eq.symm, fun h => h.imp id Eq.symm⟩

set_option maxRecDepth 100000 in
set_option maxHeartbeats 2000000 in
theorem refHas_any (c m : Int) (p : Option Addr) (cap : Nat) (l : List Int) (al : Bool) (x : Int) (w : World) (hl : l.length ≤ 5000) (h : NumsIn w p l) :
    Calls Try.prog 41 #[.agg (sv c m p l.length cap al), .int .i64 x] w fun e w' => e = .returned (.bool (hasB c x && toldB l al x)) ∧ Below w.heap.size w w' := by
  have K := Kp.box w (sv c m p l.length cap al) 35
  have hd : decide (x < 0) = true ∨ (decide (x < 0) = false ∧ decide (c ≤ x) = true) ∨ (decide (x < 0) = false ∧ decide (c ≤ x) = false) := by
    simp only [decide_eq_true_eq, decide_eq_false_iff_not]
    omega
  rcases hd with hx | ⟨hx, hx2⟩ | ⟨hx, hx2⟩
  · have HF : Hid (hasB c x = false) := Lib.hid (by simp at hx; simp [hasB]; omega)
    go_enter Try.func41, Try.ntmps41
    go_wp2
    go_ret
    exact ⟨ret_bool (by rw [HF.out]; rfl), K.2.2⟩
  · have HF : Hid (hasB c x = false) := Lib.hid (by simp at hx hx2; simp [hasB]; omega)
    go_enter Try.func41, Try.ntmps41
    go_wp2
    go_ret
    exact ⟨ret_bool (by rw [HF.out]; rfl), K.2.2⟩
  · have HF : Hid (hasB c x = true) := Lib.hid (by simp at hx hx2; simp [hasB]; omega)
    have HI := Lib.hid (h.step K.2.2)
    have hcc := K.1
    clear h
    go_enter Try.func41, Try.ntmps41
    go_wp2
    generalize World.alloc _ _ = w1 at K HI hcc ⊢
    go_loop [5, 6] (fun b i => ∃ k : Nat, k ≤ l.length ∧ i = .int .i64 k ∧ b = .bool (al || (l.take k).contains x)) (fun _ i => l.length - (intOf i).toNat)
    case atStart => exact ⟨0, Nat.zero_le _, rfl, by simp⟩
    case round =>
      obtain ⟨k, hk, rfl, rfl⟩ := hrel
      by_cases hlt : k < l.length
      · obtain ⟨g, off, rfl, hg, hc⟩ := HI.out k hlt
        have HT := Lib.hid (has_take (x := x) hlt)
        generalize l.getD k 0 = y at hc HT
        generalize (l.take k).contains x = b at HT ⊢
        rcases Bool.eq_false_or_eq_true (al || b) with hb | hb
        · rw [hb]
          go_wp2
          go_round
          case rel => exact ⟨k + 1, by omega, by go_num, by rw [HT.out, ← Bool.or_assoc, hb]; rfl⟩
          case measure => simp [intOf]; omega
        · rw [hb]
          go_wp2
          go_round
          case rel => exact ⟨k + 1, by omega, by go_num, by rw [HT.out, ← Bool.or_assoc, hb]; rfl⟩
          case measure => simp [intOf]; omega
      · go_wp2
        go_ret
        exact ⟨ret_bool (by rw [HF.out, List.take_of_length_le (by omega)]; simp [toldB]), K.2.2⟩
theorem refHas_is {s : St} {x : Int} {b : Bool} (h : (hasB s.c x && toldB s.l s.al x) = b) (p : Option Addr) (cap : Nat) (w : World) (hi : NumsIn w p s.l) (hl : s.l.length ≤ 5000) :
    Calls Try.prog 41 #[.agg (sval s p cap), .int .i64 x] w fun e w' => e = .returned (.bool b) ∧ Below w.heap.size w w' := by
  subst h
  exact refHas_any s.c s.m p cap s.l s.al x w hl hi

theorem refIn_any (p : Option Addr) (cap : Nat) (l : List Int) (x : Int) (w : World) (hl : l.length ≤ 5000) (h : NumsIn w p l) :
    Calls Try.prog 42 #[.slice p l.length cap, .int .i64 x] w fun e w' => e = .returned (.bool (l.contains x)) ∧ w' = w := by
  have H := Lib.hid h
  clear h
  go_enter Try.func42, Try.ntmps42
  go_wp2
  go_loop [5] (fun i => ∃ k : Nat, k ≤ l.length ∧ i = .int .i64 k ∧ (l.take k).contains x = false) (fun i => l.length - (intOf i).toNat)
  case atStart => exact ⟨0, Nat.zero_le _, rfl, by simp⟩
  case round =>
    obtain ⟨k, hk, rfl, hno⟩ := hrel
    have HN := Lib.hid hno
    clear hno
    by_cases hlt : k < l.length
    · have hmem : l.getD k 0 ∈ l := by
        rw [List.getD_eq_getElem?_getD, List.getElem?_eq_getElem hlt]
        exact List.getElem_mem hlt
      obtain ⟨g, off, rfl, hg, hc⟩ := H.out k hlt
      have HT := Lib.hid (has_take (x := x) hlt)
      have HM := Lib.hid hmem
      clear hmem
      generalize l.getD k 0 = y at hc HT HM
      rcases Bool.eq_false_or_eq_true (y == x) with he | he
      · have HE := Lib.hid he
        go_wp2
        go_ret
        exact ⟨ret_bool (by
          have e : y = x := by simpa using HE.out
          have := HM.out
          rw [e] at this
          exact (decide_eq_true this).symm), rfl⟩
      · have HE := Lib.hid he
        go_wp2
        go_round
        case rel => exact ⟨k + 1, by omega, by go_num, by rw [HT.out, HN.out, HE.out]; rfl⟩
        case measure => simp [intOf]; omega
    · go_wp2
      go_ret
      exact ⟨ret_bool (by have := HN.out; rw [List.take_of_length_le (by omega)] at this; simp at this; simpa using this), rfl⟩

set_option maxHeartbeats 2000000 in
theorem refTargets_any (cn : Nat) (m : Int) (p : Option Addr) (cap : Nat) (l : List Int) (al : Bool) (pb : Option Addr) (cb : Nat) (but : List Int) (w : World) (h : NumsIn w p l) (h2 : NumsIn w pb but) (hl : l.length ≤ 5000) (hl2 : but.length ≤ 5000) (hc64 : cn ≤ 64) :
    Calls Try.prog 25 #[.agg (sv cn m p l.length cap al), .slice pb but.length cb] w (GaveL w (pickS l al but cn)) := by
  obtain ⟨i0, hi0, hz0, hz1, hz2⟩ := info_parts A3
  have K := Kp.box w (sv cn m p l.length cap al) 35
  have H := Lib.hid h
  have HB := Lib.hid h2
  have K2 := K.step (balloc (w.alloc (.cells (sv cn m p l.length cap al) 35)) (.cells #[] 3))
  have hown0 : ((w.alloc (.cells (sv cn m p l.length cap al) 35)).alloc (.cells #[] 3)).ownsRow (w.heap.size + 1) 3 1 (.slice (some ⟨w.heap.size + 1, 0, none⟩) 0 0) (pickS l al but 0).length (ints (pickS l al but 0)) := by
    have := World.ownsRow_made (base := w.heap.size + 1) (e := 3) (size := 1) (w.alloc (.cells (sv cn m p l.length cap al) 35)) #[] 0 (by simp) (Nat.zero_le _) rfl
    simpa [pickS, upTo] using this
  have HW0 := Lib.hid hown0
  have hc0 := K2.1
  clear h h2 K hown0
  go_enter Try.func25, Try.ntmps25
  go_wp2
  go_loopw [5, 6] (fun v i wr => ∃ k : Nat, k ≤ cn ∧ i = .int .i64 k ∧ wr.ownsRow (w.heap.size + 1) 3 1 v (pickS l al but k).length (ints (pickS l al but k)) ∧ Kp w (sv cn m p l.length cap al) wr) (fun _ i _ => cn - (intOf i).toNat)
  case atStart => exact ⟨0, Nat.zero_le _, rfl, HW0.out, K2⟩
  case round =>
    obtain ⟨k, hk, rfl, hown, K3⟩ := hrel
    have hc3 := K3.1
    have HW := Lib.hid hown
    clear hown hc0 K2
    by_cases hlt : k < cn
    · have hkb : hasB cn k = true := hasB_iff.2 ⟨by omega, by omega⟩
      rcases Bool.eq_false_or_eq_true (toldB l al k) with ht | ht
      · have HT := Lib.hid (show (hasB cn k && toldB l al k) = true by rw [hkb, ht]; rfl)
        rcases Bool.eq_false_or_eq_true (but.contains (k : Int)) with hb | hb
        · have HE := Lib.hid (pickS_no (l := l) (al := al) (but := but) (k := k) (by rw [hb]; simp))
          have HBT := Lib.hid hb
          clear hb ht hkb
          go_wp2_with (fail)
          refine (refHas_is (s := ⟨cn, m, l, al⟩) HT.out p cap _ (H.out.step K3.2.2) (by simp only; omega)).mono ?_
          rintro e w4 ⟨rfl, hb4⟩
          have K4 := K3.step hb4
          have HW4 := Lib.hid (own_block HW.out fun q hq => hb4.block q (HW.out.lt q hq).2)
          clear hb4 hc3 K3
          go_wp2_with (fail)
          refine (refIn_any pb cb but k _ hl2 (HB.out.step K4.2.2)).mono ?_
          rintro e w5 ⟨rfl, rfl⟩
          rw [HBT.out]
          have hc5 := K4.1
          go_wp2
          go_roundw
          case rel => exact ⟨k + 1, by omega, by go_num, by rw [HE.out]; exact HW4.out, K4⟩
          case measure => simp [intOf]; omega
        · have HE := Lib.hid (pickS_yes (l := l) (al := al) (but := but) (k := k) (by rw [hb, ht]; rfl))
          have HBT := Lib.hid hb
          have hlen := pickS_len l al but k
          clear hb ht hkb
          go_wp2_with (fail)
          refine (refHas_is (s := ⟨cn, m, l, al⟩) HT.out p cap _ (H.out.step K3.2.2) (by simp only; omega)).mono ?_
          rintro e w4 ⟨rfl, hb4⟩
          have K4 := K3.step hb4
          have HW4 := Lib.hid (own_block HW.out fun q hq => hb4.block q (HW.out.lt q hq).2)
          clear hb4 hc3 K3
          go_wp2_with (fail)
          refine (refIn_any pb cb but k _ hl2 (HB.out.step K4.2.2)).mono ?_
          rintro e w5 ⟨rfl, rfl⟩
          rw [HBT.out]
          have hz4 := K4.2.1
          have HW5 := Lib.hid (HW4.out.alloc (.cells #[.int .i64 k] 3))
          go_wp2_with (at_builtin; refine wpList_append_own _ rfl (.tmp 23) (.tmp 25) 22 rfl (w.heap.size + 1) 3 i0 (.int .i64 0) 1 8 Try.underlying22 hi0 hz0 hz1 hz2 rfl (by decide) _ (pickS l al but k).length (ints (pickS l al but k)) rfl HW5.out ⟨w5.heap.size, 0, none⟩ 1 1 [.int .i64 k] rfl rfl ?c1 ?c2 ?c3 ?c4 ?c5 ?_)
          case c1 => intro j u hj; cases j <;> simp at hj; subst hj; exact World.cell?_alloc_mark w5 #[.int .i64 k] 3 (0, 0) 0
          case c2 => simp [Value.oneCell']
          case c3 => simp only [maxLen]; omega
          case c4 => omega
          case c5 => simp; omega
          intro v' w6 hown6 hgrow _
          have hb6 : Below (w.heap.size + 1) w5 w6 := ((Below.refl _ _).alloc (by omega) (.cells #[.int .i64 k] 3)).grown hgrow (by simp; omega) (fun q hq => (HW4.out.lt q hq).1)
          have K6 := K4.past hb6
          have HW6 := Lib.hid hown6
          clear hgrow hown6 hb6 K4
          go_wp2
          go_roundw
          case rel =>
            refine ⟨k + 1, by omega, by go_num, ?_, K6⟩
            rw [HE.out, List.length_append]
            simpa using HW6.out
          case measure => simp [intOf]; omega
      · have HE := Lib.hid (pickS_no (l := l) (al := al) (but := but) (k := k) (by rw [ht]; rfl))
        have HT := Lib.hid (show (hasB cn k && toldB l al k) = false by rw [hkb, ht]; rfl)
        clear ht hkb
        go_wp2_with (fail)
        refine (refHas_is (s := ⟨cn, m, l, al⟩) HT.out p cap _ (H.out.step K3.2.2) (by simp only; omega)).mono ?_
        rintro e w4 ⟨rfl, hb4⟩
        have K4 := K3.step hb4
        have HW4 := Lib.hid (own_block HW.out fun q hq => hb4.block q (HW.out.lt q hq).2)
        clear hb4 hc3 K3
        go_wp2
        go_roundw
        case rel => exact ⟨k + 1, by omega, by go_num, by rw [HE.out]; exact HW4.out, K4⟩
        case measure => simp [intOf]; omega
    · have hkc : k = cn := by omega
      subst hkc
      obtain ⟨q, cq, e, hin⟩ := own_in HW.out
      subst e
      have HI := Lib.hid hin
      clear hin
      go_wp2
      go_ret
      exact ⟨q, cq, rfl, HI.out, K3.2.2⟩

end Go.Proofs.Ytfnemldjhfcalaa
