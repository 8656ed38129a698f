/-
  SharerHas, its walk.
-/
import Derived.Test.YtlkeecghofldeaaShN
namespace Go.Proofs.Ytlkeecghofldeaa
open Go Go.RowKit Go.Maps

/-- It holds, and nothing of before has changed. -/
def Holds (w : World) (e : Ending) (w' : World) : Prop := e = .returned (.bool true) ∧ Below w.heap.size w w'

theorem has_long (cores ptrs : Int) (p : Option Addr) (cap : Nat) (l : List Int) (w : World) (hm : l.length ≤ 9223372036854775807) (h : 100 < l.length) :
    Calls Try.prog 4 #[.int .i64 cores, .int .i64 ptrs, .slice p l.length cap] w (Holds w) := by
  go_enter Try.func4, Try.ntmps4
  go_wp2_with (go_at_call 7; refine (awake_any _).mono ?_; rintro e w1 ⟨rfl, hb⟩)
  go_ret
  exact ⟨rfl, hb⟩

set_option maxRecDepth 100000 in
set_option maxHeartbeats 2000000 in
theorem has_bad (cores ptrs : Int) (p : Option Addr) (cap : Nat) (l : List Int) (w : World) (h : l.length ≤ 100) (hn : newS cores ptrs = (⟨0, 0, [], false⟩, 1)) :
    Calls Try.prog 4 #[.int .i64 cores, .int .i64 ptrs, .slice p l.length cap] w (Holds w) := by
  have HNW := Lib.hid hn
  clear hn
  go_enter Try.func4, Try.ntmps4
  go_wp2_with fail
  refine (awake_any _).mono ?_
  rintro e w1 ⟨rfl, hb1⟩
  go_wp2_with fail
  refine (new_is HNW.out _).mono ?_
  rintro e w2 ⟨v, rfl, p2, c2, rfl, -, hb2, -⟩
  have hb3 := bstep (bstep hb1 hb2) (balloc w2 (.cells #[.int .i64 0, .int .i64 0, .slice p2 0 c2, .bool false] 24))
  have HB3 := Lib.hid hb3
  clear hb1 hb2 hb3
  go_wp2_with fail
  refine (may_is (s := ⟨0, 0, [], false⟩) (b := false) rfl p2 c2 _ (NumsIn.nil _ _) (by simp)).mono ?_
  rintro e w4 ⟨rfl, hb4⟩
  go_wp2_with fail
  go_ret
  exact ⟨rfl, bstep HB3.out hb4⟩

theorem wf_small {c : Int} (h0 : -1000 ≤ c) (h1 : c ≤ 1000) : (Lit.int .i64 c).wf = true := by
  have e : IntKind.i64.min = -9223372036854775808 := by decide
  have e2 : IntKind.i64.max = 9223372036854775807 := by decide
  simp only [Lit.wf, Bool.and_eq_true, decide_eq_true_eq]
  omega
/-- What holds at each round's head. -/
def HRel (w : World) (b mb c : Nat) (m : Int) (l : List Int) (i : Value) (wr : World) : Prop :=
  ∃ k : Nat, k ≤ l.length ∧ i = .int .i64 k ∧ ∃ (f : Int → Bool) (n : Nat) (D : DataW Unit), n ≤ k ∧ HSt w b mb (stOf c m f) c f n D wr

set_option maxRecDepth 1000000 in
set_option maxHeartbeats 8000000 in
theorem has_fine (c : Nat) (m : Int) (p : Option Addr) (cap : Nat) (l : List Int) (w : World) (hin : NumsIn w p l) (h : l.length ≤ 100) (h1 : 1 ≤ c) (h2 : c ≤ 64) (h3 : 0 ≤ m) (h4 : m ≤ 8) :
    Calls Try.prog 4 #[.int .i64 c, .int .i64 m, .slice p l.length cap] w (Holds w) := by
  have HI := Lib.hid hin
  have hmm := @run_makeMap Try.prog
  have HNW := Lib.hid (new_st h1 h2 h3 h4)
  clear hin
  go_enter Try.func4, Try.ntmps4
  go_wp2_with fail
  refine (awake_any _).mono ?_
  rintro e w1 ⟨rfl, hb1⟩
  go_wp2_with fail
  refine (new_is HNW.out _).mono ?_
  generalize hs0 : stOf c m (fun _ => false) = s0
  rintro e w2 ⟨v, rfl, p2, c2, rfl, hin2, hb2, hf2⟩
  have hbA := balloc w2 (.cells (sval s0 p2 c2) 24)
  have hbB := balloc (w2.alloc (.cells (sval s0 p2 c2) 24)) (.map #[] 0)
  have hs12 := hb2.size
  have hs1 := hb1.size
  have hb0 : HSt w w2.heap.size (w2.heap.size + 1) s0 c (fun _ => false) 0 (.map []) ((w2.alloc (.cells (sval s0 p2 c2) 24)).alloc (.map #[] 0)) :=
    have hz : (w2.alloc (.cells (sval s0 p2 c2) 24)).heap.size = w2.heap.size + 1 := by simp
    ⟨⟨p2, c2, new_at1 w2 _ _, (hin2.step hbA).step hbB, fun _ _ _ h => h⟩, hz ▸ World.ownsMap_made _ _ _ _, SetIs.empty c, by omega, by omega, bstep (bstep (bstep hb1 hb2) hbA) hbB⟩
  have HB0 := Lib.hid hb0
  clear hb0 hbA hbB hb1 hb2 hf2 hin2
  go_wp2_with fail
  clear hmm
  subst hs0
  generalize w2.heap.size = b at HB0 ⊢
  generalize World.alloc _ (Obj.map #[] 0) = w3 at HB0 ⊢
  generalize b + 1 = mb at HB0 ⊢
  go_loopw [34] (fun i wr => HRel w b mb c m l i wr) (fun i _ => l.length - (intOf i).toNat)
  case atStart => exact ⟨0, Nat.zero_le _, rfl, _, 0, _, Nat.le_refl _, HB0.out⟩
  case round =>
    obtain ⟨k, hk, rfl, f, n, D, hn, hst⟩ := hrel
    have HS := Lib.hid hst
    have HIN := Lib.hid (HI.out.step hst.below)
    clear hst HB0
    obtain ⟨pb, cb, hbk, hib, -⟩ := HS.out.box
    have hcb : ∀ o, wr.cell? ⟨b, o, none⟩ = (sval (stOf c m f) pb cb)[o]? := fun o => blk_cell hbk o
    have hgb := lt_of_block hbk
    have hls := stOf_len c m f
    by_cases hlt : k < l.length
    · obtain ⟨g, off, rfl, hg, hx⟩ := HIN.out k hlt
      generalize l.getD k 0 = x at hx
      rcases Bool.eq_false_or_eq_true (hasB c x) with hxc | hxc
      · have HA := Lib.hid (add_yes (f := f) h1 h2 h3 h4 hxc)
        have HM := Lib.hid (stOf_may (c := c) (m := m) (f := orB f x) h1 h2 h3 h4)
        have HH : Hid (∀ y : Int, (hasB c y && orB f x y) = true → hasAll (stOf c m (orB f x)).c (stOf c m (orB f x)).m (stOf c m (orB f x)).l (stOf c m (orB f x)).al y = true) := Lib.hid fun y hy => by
          rw [Bool.and_eq_true] at hy
          exact has_yes h1 h2 h3 h4 hy.1 hy.2
        have HT := Lib.hid (fun hf => targets_few (c := c) (m := m) (f := orB f x) h1 h2 h3 h4 hf)
        have HXC := Lib.hid hxc
        have hls' := stOf_len c m (orB f x)
        have HWF := Lib.hid (wf_small (c := x) (by have := (hasB_iff.1 hxc).1; omega) (by have := (hasB_iff.1 hxc).2; omega))
        generalize hse : stOf c m f = s at *
        generalize hse2 : stOf c m (orB f x) = s' at *
        have HE2 := Lib.hid hse2
        obtain ⟨wo, rfl⟩ : ∃ wo : World, wo = wr := ⟨_, rfl⟩
        clear hse hse2 hxc
        go_wp2_with fail
        refine (add_is HA.out pb cb _ hib (by omega)).mono ?_
        rintro e w4 ⟨v, rfl, p4, c4, rfl, hi4, hb4, hf4⟩
        have hbA := balloc w4 (.cells #[.int .i64 s'.c, .int .i64 s'.m, .slice p4 s'.l.length c4, .bool s'.al] 24)
        have hbk4 := (hbA.block b (Nat.lt_of_lt_of_le hgb hb4.size)).trans ((hb4.block b hgb).trans hbk)
        have hs5 := ((HS.out.step hb4).step hbA).stored (s' := s') (cap := c4) (hi4.step hbA) (fun a ha => by have := hf4 a ha; omega)
        have HBK4 := Lib.hid hbk4
        have HS5 := Lib.hid hs5
        clear hb4 hcb hib hgb hbA hbk4 hs5 hi4 hf4 hbk
        go_wp2_with (first
          | ((with_reducible refine wpList_store_row (o := ⟨none, _, _, _, _, _⟩) rfl 24 (.tmp 7) (.tmp 57) rfl b (sval s' p4 c4) ?sx ?sy 24 (sval s pb cb) ?sg ?si ?so ?s1 ?_); (case sx => rfl); (case sy => rfl); (case sg => exact HBK4.out); (case si => kernel_rfl); (case so => rfl); (case s1 => kernel_rfl))
          | (at_mapUpdate; refine wpList_mapUpdate_own _ rfl (.tmp 58) (.tmp 59) (.const (.bool true)) 43 rfl 3 4 law3 Try.underlying43 _ mb n D rfl HS5.out.map (by unfold maxLen; omega) (.int .i64 x) (.bool true) (.int .i64 x) rfl rfl (keyOf_int_mk Try.underlying3 HWF.out) (.lit (.bool true)) [] (plainElem_bool Try.underlying4 true) ?_; intro w6 hm6 hg6; have HS6 := Lib.hid (HS5.out.keyed HXC.out hm6 hg6); clear hm6 hg6)
          | (at_range; refine wpList_range_own _ rfl _ 43 rfl 3 4 law3 Try.underlying43 _ mb (n + 1) _ rfl HS6.out.map ?_; intro w7 hrg7 hg7 hs7; have HR7 := Lib.hid (HRg.start HS6.out hrg7 hg7); clear hrg7 hg7 hs7)
          | go_in)
        go_frame
        generalize w6.heap.size = r at HR7 ⊢
        clear HS5 HS6 HBK4
        go_loopw [14] (fun _ wr => ∃ left cnt, HRg w b mb r s' c (orB f x) (n + 1) (D.put (.int .i64 x) (.lit (.bool true))) cnt left wr) (fun _ wr => wr.rangeLeft mb r)
        case atStart => exact ⟨_, _, HR7.out⟩
        case round =>
          obtain ⟨left, cnt, hr⟩ := hrel
          have HR := Lib.hid hr
          have HSZ := Lib.hid hr.st.set.size
          clear hr HR7
          go_wp2_with (first
            | (at_next; refine wpList_next_keys rfl _ rfl 3 law3 Try.underlying3 _ mb r (n + 1) _ left cnt rfl HR.out.rg ?_ ?_)
            | go_in)
          · intro _ _
            obtain ⟨pd, cd, hbk, hib, -⟩ := HR.out.st.box
            have hcb : ∀ o, wr.cell? ⟨b, o, none⟩ = (sval s' pd cd)[o]? := fun o => blk_cell hbk o
            have HIB := Lib.hid hib
            have hlb := lt_of_block hbk
            clear hib hbk
            go_wp2_with fail
            refine (may_is HM.out pd cd _ HIB.out (by omega)).mono ?_
            rintro e w9 ⟨rfl, hb9⟩
            have HR9 := Lib.hid (HR.out.step hb9)
            have HIB9 := Lib.hid (HIB.out.step hb9)
            have hcb9 : ∀ o, w9.cell? ⟨b, o, none⟩ = (sval s' pd cd)[o]? := fun o => (hb9.cell (p := ⟨b, o, none⟩) hlb).trans (hcb o)
            clear hb9 hcb HIB
            have HE2' := HE2.out
            by_cases hN : ((canon c (orB f x)).length : Int) ≤ m
            · have HTF := Lib.hid (HT.out hN)
              generalize hK : canon c (orB f x) = K at *
              have hln9 : ∀ ty, (Builtin.len_ #[43] ty #[.map (some mb)]).run Try.prog w9 = .ok (.int .i64 (K.length : Int)) w9 := fun ty => by rw [HR9.out.st.map.len Try.underlying43 ty, HSZ.out]
              go_wp2_with (go_at_call 17; refine (targets_is (but := []) HTF.out pd cd none 0 _ HIB9.out (NumsIn.nil _ _) (by omega) (by simp)).mono ?_; rintro e w10 ⟨p10, c10, rfl, -, hb10⟩; have HR10 := Lib.hid (HR9.out.step hb10); have hln10 : ∀ ty, (Builtin.len_ #[43] ty #[.map (some mb)]).run Try.prog w10 = .ok (.int .i64 (K.length : Int)) w10 := (fun ty => by rw [HR10.out.st.map.len Try.underlying43 ty, HSZ.out]); clear hb10 hln9)
              go_roundw
              case rel => exact ⟨k + 1, by omega, by go_num, orB f x, n + 1, _, by omega, by rw [HE2.out]; exact HR10.out.st⟩
              case measure => simp [intOf]; omega
            · have hN' : decide (((canon c (orB f x)).length : Int) ≤ m) = false := by simpa using hN
              generalize hK : canon c (orB f x) = K at *
              have hln9 : ∀ ty, (Builtin.len_ #[43] ty #[.map (some mb)]).run Try.prog w9 = .ok (.int .i64 (K.length : Int)) w9 := fun ty => by rw [HR9.out.st.map.len Try.underlying43 ty, HSZ.out]
              go_wp2
              go_roundw
              case rel => exact ⟨k + 1, by omega, by go_num, orB f x, n + 1, _, by omega, by rw [HE2.out]; exact HR9.out.st⟩
              case measure => simp [intOf]; omega
          · intro y cv w8 cnt' hleft hrg hlt8 hg8 hen
            have hsub := HR.out.sub y hleft
            have HR8 := Lib.hid (HR.out.next hrg hg8)
            obtain ⟨pd, cd, hbk, hib, -⟩ := HR8.out.st.box
            have hcb : ∀ o, w8.cell? ⟨b, o, none⟩ = (sval s' pd cd)[o]? := fun o => blk_cell hbk o
            have HIB := Lib.hid hib
            have HHY := Lib.hid (HH.out y hsub)
            clear hrg hg8 hleft hsub hib hbk
            go_wp2_with fail
            refine (has_is HHY.out pd cd _ HIB.out (by omega)).mono ?_
            rintro e w9 ⟨rfl, hb9⟩
            have HR9 := Lib.hid (HR8.out.step hb9)
            clear hb9 hen hcb
            go_wp2_with fail
            go_roundw
            case rel => exact ⟨_, cnt', HR9.out⟩
            case measure => rw [HR9.out.rg.left_eq, HR.out.rg.left_eq]; exact hlt8
      · have HA := Lib.hid (add_no (f := f) h1 h2 h3 h4 hxc)
        have hd : (decide (x ≥ 0) = false) ∨ (decide (x ≥ 0) = true ∧ decide (x < c) = false) := by
          simp [hasB] at hxc
          simp
          omega
        generalize hse : stOf c m f = s at *
        have HE := Lib.hid hse
        clear hse
        rcases hd with hd | ⟨hd, hd2⟩
        all_goals
          go_wp2_with fail
          refine (add_is HA.out pb cb _ hib (by omega)).mono ?_
          rintro e w4 ⟨v, rfl, p4, c4, rfl, -, hb4, -⟩
          have HS4 := Lib.hid ((HS.out.step hb4).step (balloc w4 (.cells (sval z0 p4 c4) 24)))
          clear hb4 hcb hib hgb
          go_wp2_with fail
          go_roundw
          case rel => exact ⟨k + 1, by omega, by go_num, f, n, D, by omega, by rw [HE.out]; exact HS4.out⟩
          case measure => simp [intOf]; omega
    · generalize hs : stOf c m f = s at *
      have HC : Hid (s.c = c ∧ s.m = m) := Lib.hid ⟨by rw [← hs]; exact stOf_c c m f, by rw [← hs]; exact stOf_m c m f⟩
      clear hs
      go_wp2_with fail
      refine (clear_any s pb s.l.length cb _).mono ?_
      rintro e w4 ⟨v, rfl, p4, c4, rfl, hi4, hb4, -⟩
      have HT := Lib.hid (targets_new s.c s.m)
      have HL := Lib.hid (new_nil s.c s.m)
      have HS4 := Lib.hid (HS.out.step hb4)
      have HI4 := Lib.hid hi4
      generalize (newS s.c s.m).1 = z at *
      clear hcb hib hgb hb4 hi4
      go_wp2_with fail
      refine (targets_is (but := []) HT.out p4 c4 none 0 _ HI4.out (NumsIn.nil _ _) (by rw [HL.out]; simp) (by simp)).mono ?_
      rintro e w5 ⟨p5, c5, rfl, -, hb5⟩
      go_wp2_with fail
      go_ret
      exact ⟨rfl, bstep HS4.out.below hb5⟩

theorem sharerHas_any (cores ptrs : Int) (p : Option Addr) (cap : Nat) (l : List Int) (w : World) (hin : NumsIn w p l) (hm : l.length ≤ 9223372036854775807) :
    Calls Try.prog 4 #[.int .i64 cores, .int .i64 ptrs, .slice p l.length cap] w (Holds w) := by
  by_cases hl : 100 < l.length
  · exact has_long cores ptrs p cap l w hm hl
  · rcases Bool.eq_false_or_eq_true (mayB cores ptrs [] false) with h | h
    · obtain ⟨h1, h2, h3, h4⟩ := may_new.1 h
      obtain ⟨c, rfl⟩ : ∃ c : Nat, cores = c := ⟨cores.toNat, by omega⟩
      exact has_fine c ptrs p cap l w hin (by omega) (by omega) (by omega) h3 h4
    · exact has_bad cores ptrs p cap l w (by omega) (by unfold newS; rw [if_neg (by rw [h]; simp)]; rfl)

end Go.Proofs.Ytlkeecghofldeaa
