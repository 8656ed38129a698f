/-
  Targets: the cores that may be, rising, but those.
-/
import Derived.Test.YtfnemldjhfcalaaShF
namespace Go.Proofs.Ytfnemldjhfcalaa
open Go Go.RowKit Go.Sort

theorem A3 : (Try.prog.info? 3).map (fun i => (i.zero, i.size, i.bytes)) = some (some (.int .i64 0), 1, 8) := by kernel_rfl
/-- The numbers below k, rising. -/
def upTo (k : Nat) : List Int := (List.range k).map Int.ofNat
theorem upTo_succ (k : Nat) : upTo (k + 1) = upTo k ++ [(k : Int)] := by
  unfold upTo
  rw [List.range_succ, List.map_append]
  rfl
theorem upTo_len (k : Nat) : (upTo k).length = k := by simp [upTo]
/-- Those below k that may be sharers and are not left out. -/
def pickS (l : List Int) (al : Bool) (but : List Int) (k : Nat) : List Int := (upTo k).filter fun x => toldB l al x && !but.contains x
def targetsS (s : St) (but : List Int) : List Int := if s.may then pickS s.l s.al but s.c.toNat else []
theorem pickS_len (l : List Int) (al : Bool) (but : List Int) (k : Nat) : (pickS l al but k).length ≤ k := by
  have := List.length_filter_le (fun x => toldB l al x && !but.contains x) (upTo k)
  rw [upTo_len] at this
  exact this
theorem pickS_no {l : List Int} {al : Bool} {but : List Int} {k : Nat} (h : (toldB l al k && !but.contains (k : Int)) = false) : pickS l al but (k + 1) = pickS l al but k := by
  unfold pickS
  rw [upTo_succ, List.filter_append]
  simp only [List.filter_cons, List.filter_nil, h]
  simp
theorem pickS_yes {l : List Int} {al : Bool} {but : List Int} {k : Nat} (h : (toldB l al k && !but.contains (k : Int)) = true) : pickS l al but (k + 1) = pickS l al but k ++ [(k : Int)] := by
  unfold pickS
  rw [upTo_succ, List.filter_append]
  simp only [List.filter_cons, List.filter_nil, h]
  simp

theorem Kp.past {w wr wr' : World} {L : Array Value} (h : Kp w L wr) (hb : Below (w.heap.size + 1) wr wr') : Kp w L wr' :=
  ⟨fun o => (hb.cell (p := ⟨w.heap.size, o, none⟩) (by simp)).trans (h.1 o), Nat.lt_of_lt_of_le h.2.1 hb.size, h.2.2.trans (hb.mono (by omega))⟩

/-- What a call gives that tells a list of numbers. -/
def GaveL (w : World) (l : List Int) (e : Ending) (w' : World) : Prop := ∃ p cap, e = .returned (.slice p l.length cap) ∧ NumsIn w' p l ∧ Below w.heap.size w w'

/-- .. and that it is new. -/
def GaveF (w : World) (l : List Int) (e : Ending) (w' : World) : Prop := ∃ p cap, e = .returned (.slice p l.length cap) ∧ NumsIn w' p l ∧ Below w.heap.size w w' ∧ ∀ a, p = some a → w.heap.size ≤ a.block

set_option maxHeartbeats 2000000 in
theorem targets_fresh (s : St) (p : Option Addr) (cap : Nat) (pb : Option Addr) (cb : Nat) (but : List Int) (w : World) (h : NumsIn w p s.l) (h2 : NumsIn w pb but) (hl : s.l.length ≤ 5000) (hl2 : but.length ≤ 5000) :
    Calls Try.prog 51 #[.agg (sval s p cap), .slice pb but.length cb] w (GaveF w (targetsS s but)) := by
  obtain ⟨i0, hi0, hz0, hz1, hz2⟩ := info_parts A3
  obtain ⟨c, m, l, al⟩ := s
  simp only at h hl
  have K := Kp.box w (sv c m p l.length cap al) 24
  have H := Lib.hid h
  have HB := Lib.hid h2
  clear h h2
  rcases Bool.eq_false_or_eq_true (mayB c m l al) with hm | hm
  · have HM := Lib.hid hm
    obtain ⟨hc1, hc64, -⟩ := may_bounds hm
    obtain ⟨cn, rfl⟩ : ∃ cn : Nat, c = cn := ⟨c.toNat, by omega⟩
    have e : targetsS ⟨cn, m, l, al⟩ but = pickS l al but cn := by unfold targetsS St.may; rw [if_pos hm]; rfl
    rw [e]
    clear hm e
    go_enter Try.func51, Try.ntmps51
    go_wp2_with (fail)
    refine (may_any cn m p cap l al _ hl (H.out.step K.2.2)).mono ?_
    rintro e w1 ⟨rfl, hb1⟩
    rw [HM.out]
    have K2 := K.step hb1
    have hcc := K2.1
    clear hb1 K
    go_wp2
    go_loopw [5, 12] (fun v i wr => ∃ k : Nat, k ≤ cn ∧ i = .int .i64 k ∧ wr.ownsRow (w.heap.size + 1) 3 1 v (pickS l al but k).length (ints (pickS l al but k)) ∧ Kp w (sv cn m p l.length cap al) wr) (fun _ i _ => cn - (intOf i).toNat)
    case atStart => exact ⟨0, Nat.zero_le _, rfl, World.ownsRow_nil _ _ _ _, K2⟩
    case round =>
      obtain ⟨k, hk, rfl, hown, K3⟩ := hrel
      have hc3 := K3.1
      have HW := Lib.hid hown
      clear hown hcc K2
      by_cases hlt : k < cn
      · rcases Bool.eq_false_or_eq_true (toldB l al k) with ht | ht
        · have HT := Lib.hid ht
          clear ht
          rcases Bool.eq_false_or_eq_true (but.contains (k : Int)) with hb | hb
          · have HE := Lib.hid (pickS_no (l := l) (al := al) (but := but) (k := k) (by rw [hb]; simp))
            have HBT := Lib.hid hb
            clear hb
            go_wp2_with (fail)
            refine (told_any cn m p cap l al k _ hl (H.out.step K3.2.2)).mono ?_
            rintro e w4 ⟨rfl, hb4⟩
            rw [HT.out]
            have K4 := K3.step hb4
            have HW4 := Lib.hid (own_block HW.out fun q hq => hb4.block q (HW.out.lt q hq).2)
            clear hb4 hc3 K3
            go_wp2_with (fail)
            refine (contains_any pb cb but k _ hl2 (HB.out.step K4.2.2)).mono ?_
            rintro e w5 ⟨rfl, rfl⟩
            rw [HBT.out]
            go_wp2
            go_roundw
            case rel => exact ⟨k + 1, by omega, by go_num, by rw [HE.out]; exact HW4.out, K4⟩
            case measure => simp [intOf]; omega
          · have HE := Lib.hid (pickS_yes (l := l) (al := al) (but := but) (k := k) (by rw [hb, HT.out]; rfl))
            have HBT := Lib.hid hb
            have hlen := pickS_len l al but k
            clear hb
            go_wp2_with (fail)
            refine (told_any cn m p cap l al k _ hl (H.out.step K3.2.2)).mono ?_
            rintro e w4 ⟨rfl, hb4⟩
            rw [HT.out]
            have K4 := K3.step hb4
            have HW4 := Lib.hid (own_block HW.out fun q hq => hb4.block q (HW.out.lt q hq).2)
            clear hb4 hc3 K3
            go_wp2_with (fail)
            refine (contains_any pb cb but k _ hl2 (HB.out.step K4.2.2)).mono ?_
            rintro e w5 ⟨rfl, rfl⟩
            rw [HBT.out]
            have hz4 := K4.2.1
            have HW5 := Lib.hid (HW4.out.alloc (.cells #[.int .i64 k] 3))
            go_wp2_with (at_builtin; refine wpList_append_own _ rfl (.tmp 24) (.tmp 26) 22 rfl (w.heap.size + 1) 3 i0 (.int .i64 0) 1 8 Try.underlying22 hi0 hz0 hz1 hz2 rfl (by decide) _ (pickS l al but k).length (ints (pickS l al but k)) rfl HW5.out ⟨w5.heap.size, 0, none⟩ 1 1 [.int .i64 k] rfl rfl ?c1 ?c2 ?c3 ?c4 ?c5 ?_)
            case c1 => intro j u hj; cases j <;> simp at hj; subst hj; exact World.cell?_alloc_mark w5 #[.int .i64 k] 3 (0, 0) 0
            case c2 => simp [Value.oneCell']
            case c3 => simp only [maxLen]; omega
            case c4 => omega
            case c5 => simp; omega
            intro v' w6 hown6 hgrow _
            have hb6 : Below (w.heap.size + 1) w5 w6 := ((Below.refl _ _).alloc (by omega) (.cells #[.int .i64 k] 3)).grown hgrow (by simp; omega) (fun q hq => (HW4.out.lt q hq).1)
            have K6 := K4.past hb6
            have HW6 := Lib.hid hown6
            clear hgrow hown6 hb6 K4
            go_wp2
            go_roundw
            case rel =>
              refine ⟨k + 1, by omega, by go_num, ?_, K6⟩
              rw [HE.out, List.length_append]
              simpa using HW6.out
            case measure => simp [intOf]; omega
        · have HE := Lib.hid (pickS_no (l := l) (al := al) (but := but) (k := k) (by rw [ht]; rfl))
          have HT := Lib.hid ht
          clear ht
          go_wp2_with (fail)
          refine (told_any cn m p cap l al k _ hl (H.out.step K3.2.2)).mono ?_
          rintro e w4 ⟨rfl, hb4⟩
          rw [HT.out]
          have K4 := K3.step hb4
          have HW4 := Lib.hid (own_block HW.out fun q hq => hb4.block q (HW.out.lt q hq).2)
          clear hb4 hc3 K3
          go_wp2
          go_roundw
          case rel => exact ⟨k + 1, by omega, by go_num, by rw [HE.out]; exact HW4.out, K4⟩
          case measure => simp [intOf]; omega
      · have hkc : k = cn := by omega
        subst hkc
        obtain ⟨q, cq, e, hin⟩ := own_in HW.out
        subst e
        have HI := Lib.hid hin
        have hqb : ∀ a, q = some a → w.heap.size ≤ a.block := fun a ha => by have := (HW.out.lt a.block (by rw [ha]; rfl)).1; omega
        clear hin
        go_wp2
        go_ret
        exact ⟨q, cq, rfl, HI.out, K3.2.2, hqb⟩
  · have HM := Lib.hid hm
    have e : targetsS ⟨c, m, l, al⟩ but = [] := by unfold targetsS St.may; rw [if_neg (by rw [hm]; simp)]
    rw [e]
    clear hm e
    go_enter Try.func51, Try.ntmps51
    go_wp2_with (fail)
    refine (may_any c m p cap l al _ hl (H.out.step K.2.2)).mono ?_
    rintro e w1 ⟨rfl, hb1⟩
    rw [HM.out]
    have K2 := K.step hb1
    clear hb1 K
    go_wp2
    go_ret
    exact ⟨none, 0, rfl, NumsIn.nil _ _, K2.2.2, fun a ha => by cases ha⟩
theorem targets_any (s : St) (p : Option Addr) (cap : Nat) (pb : Option Addr) (cb : Nat) (but : List Int) (w : World) (h : NumsIn w p s.l) (h2 : NumsIn w pb but) (hl : s.l.length ≤ 5000) (hl2 : but.length ≤ 5000) :
    Calls Try.prog 51 #[.agg (sval s p cap), .slice pb but.length cb] w (GaveL w (targetsS s but)) :=
  (targets_fresh s p cap pb cb but w h h2 hl hl2).mono fun _ _ ⟨q, c, e, h1, h2, _⟩ => ⟨q, c, e, h1, h2⟩

end Go.Proofs.Ytfnemldjhfcalaa
