/-
  Entries and lists of them told twice; a list of the program's entries as one of the document's.
-/
import Derived.Test.YtnpbbkiojoafbaaQuS
import Derived.Deep.RegionHeld3
namespace Go.Proofs.Ytnpbbkiojoafbaa
open Go Go.RowKit

/-- A load of a row that S knows, taken first. -/
theorem yields_load_at {P : Program} {ops : Array Oper} {S : World → Prop} {op : Oper} {a : Act} (hw : Region.wanted op (yielded ops a.tmps) = true) (ty : TypeId) (x : Operand) (ho : op.op = .load ty x)
    (b o : Nat) (hx : a.eval x = .pointer (some ⟨b, o, none⟩)) (cs : Array Value) (d : TypeDesc) (hS : ∀ w', S w' → w'.rangeAt b o cs.toList) (hu : P.underlying ty = some d) (hd : d.isRow = true) (hi : (P.info? ty).map (·.size) = some cs.size) : YieldsIf P ops S op (.agg cs) a := by
  simpa using yieldsIf_load_mid hw ty x ho b o hx cs.toList d hS hu hd (by simpa using hi)

theorem pl_eq (x y : Ep) : decide (x.pl = y.pl) = (decide (x.m = y.m) && (x.st == y.st && decide (x.l = y.l))) := by
  rw [Bool.eq_iff_iff]
  simp only [decide_eq_true_iff, Bool.and_eq_true, beq_iff_eq]
  constructor
  · intro h
    have h1 : x.pl.m = y.pl.m := by rw [h]
    have h2 : x.pl.st = y.pl.st := by rw [h]
    have h3 : x.pl.l = y.pl.l := by rw [h]
    exact ⟨h1, h2, h3⟩
  · rintro ⟨h1, h2, h3⟩
    exact En.ext' h1 h2 h3
theorem e_msg {w : World} {g : Nat} {x : Ep} {T : TypeId} (h : w.heap[g]? = some (.cells (ecells x) T (0, 0))) : w.rangeAt g 0 (mcells x.m).toList := fun j v hv => by
  rw [blk_cell h, Nat.zero_add]
  have hj := (List.getElem?_eq_some_iff.1 hv).1
  simp at hj
  rcases (show j = 0 ∨ j = 1 ∨ j = 2 ∨ j = 3 ∨ j = 4 ∨ j = 5 ∨ j = 6 ∨ j = 7 ∨ j = 8 ∨ j = 9 ∨ j = 10 ∨ j = 11 ∨ j = 12 ∨ j = 13 ∨ j = 14 by omega) with rfl | rfl | rfl | rfl | rfl | rfl | rfl | rfl | rfl | rfl | rfl | rfl | rfl | rfl | rfl
  all_goals exact hv
set_option maxHeartbeats 2000000 in
theorem one_any (x y : Ep) (w : World) (hl : x.l.length ≤ 5000) (h1 : MIn w x.p x.l) (h2 : MIn w y.p y.l) :
    Calls Try.prog 24 #[.agg (ecells x), .agg (ecells y)] w fun e w' => e = .returned (.bool (decide (x.pl = y.pl))) ∧ Below w.heap.size w w' := by
  have K := H2.box w (ecells x) (ecells y) 61 61
  have hcA := K.cellsA
  have hcB := fun o => blk_cell K.b o
  have HA := Lib.hid (e_msg K.a)
  have HB := Lib.hid (e_msg K.b)
  have HK := Lib.hid K.below
  have hq := msg_eql x.m y.m
  have HM := Lib.hid (msame_any x.p y.p x.c y.c x.l y.l _ hl (h1.step K.below) (h2.step K.below))
  clear K h1 h2
  by_cases hm : x.m = y.m
  · have hd : decide (x.m = y.m) = true := by simp [hm]
    rw [hd] at hq
    rcases Bool.eq_false_or_eq_true (x.st == y.st) with hs | hs
    · have HT : Hid (decide (x.pl = y.pl) = decide (x.l = y.l)) := Lib.hid (by rw [pl_eq, hd, hs]; rfl)
      clear hm hd
      go_enter Try.func24, Try.ntmps24
      go_wp2_with (first
        | ((with_reducible refine wpList_load_at (op := ⟨some 6, _, _, _, _, _⟩) rfl 35 (.tmp 5) rfl w.heap.size 0 ?lx (mcells x.m) _ ?lc Try.underlying35 ?ld ?li ?_); (case lx => rfl); (case lc => exact HA.out); (case ld => rfl); (case li => kernel_rfl))
        | ((with_reducible refine wpList_load_at (op := ⟨some 8, _, _, _, _, _⟩) rfl 35 (.tmp 7) rfl (w.heap.size + 1) 0 ?lx (mcells y.m) _ ?lc Try.underlying35 ?ld ?li ?_); (case lx => rfl); (case lc => exact HB.out); (case ld => rfl); (case li => kernel_rfl))
        | (go_at_call 36; refine HM.out.mono ?_; rintro e w1 ⟨rfl, hb1⟩))
      go_ret
      exact ⟨ret_bool HT.out.symm, HK.out.trans (hb1.mono HK.out.size)⟩
    · have HT : Hid (decide (x.pl = y.pl) = false) := Lib.hid (by rw [pl_eq, hd, hs]; rfl)
      clear hm hd
      go_enter Try.func24, Try.ntmps24
      go_wp2_with (first
        | ((with_reducible refine wpList_load_at (op := ⟨some 6, _, _, _, _, _⟩) rfl 35 (.tmp 5) rfl w.heap.size 0 ?lx (mcells x.m) _ ?lc Try.underlying35 ?ld ?li ?_); (case lx => rfl); (case lc => exact HA.out); (case ld => rfl); (case li => kernel_rfl))
        | ((with_reducible refine wpList_load_at (op := ⟨some 8, _, _, _, _, _⟩) rfl 35 (.tmp 7) rfl (w.heap.size + 1) 0 ?lx (mcells y.m) _ ?lc Try.underlying35 ?ld ?li ?_); (case lx => rfl); (case lc => exact HB.out); (case ld => rfl); (case li => kernel_rfl)))
      go_ret
      exact ⟨ret_bool HT.out.symm, HK.out⟩
  · have hd : decide (x.m = y.m) = false := by simp [hm]
    rw [hd] at hq
    have HT : Hid (decide (x.pl = y.pl) = false) := Lib.hid (by rw [pl_eq, hd]; rfl)
    clear hm hd
    go_enter Try.func24, Try.ntmps24
    go_wp2_with (first
      | ((with_reducible refine wpList_load_at (op := ⟨some 6, _, _, _, _, _⟩) rfl 35 (.tmp 5) rfl w.heap.size 0 ?lx (mcells x.m) _ ?lc Try.underlying35 ?ld ?li ?_); (case lx => rfl); (case lc => exact HA.out); (case ld => rfl); (case li => kernel_rfl))
      | ((with_reducible refine wpList_load_at (op := ⟨some 8, _, _, _, _, _⟩) rfl 35 (.tmp 7) rfl (w.heap.size + 1) 0 ?lx (mcells y.m) _ ?lc Try.underlying35 ?ld ?li ?_); (case lx => rfl); (case lc => exact HB.out); (case ld => rfl); (case li => kernel_rfl)))
    go_ret
    exact ⟨ret_bool HT.out.symm, HK.out⟩

/-! own: a list of the document's. -/
set_option maxHeartbeats 4000000 in
theorem own_any (p : Option Addr) (c : Nat) (l : List Ep) (w : World) (hl : l.length ≤ 5000) (h : EIn w p l) :
    Calls Try.prog 17 #[.slice p l.length c] w fun e w' => ∃ q c', e = .returned (.slice q l.length c') ∧ EIn w' q l ∧ (∀ a, q = some a → w.heap.size ≤ a.block) ∧ l.length ≤ c' ∧ Below w.heap.size w w' := by
  obtain ⟨i0, hi0, hz0, hz1, hz2⟩ := info_parts A61
  have H := Lib.hid h
  clear h
  go_enter Try.func17, Try.ntmps17
  go_wp2
  go_loopw [3, 8] (fun out t wr => ∃ k : Nat, k ≤ l.length ∧ t = .int .i64 k ∧ wr.ownsRow w.heap.size 61 17 out (l.take k).length (cellsOf ec (l.take k)) ∧ Below w.heap.size w wr) (fun _ t _ => l.length - (intOf t).toNat)
  case atStart => exact ⟨0, Nat.zero_le _, rfl, World.ownsRow_nil _ _ _ _, Below.refl _ _⟩
  case round =>
    obtain ⟨k, hk, rfl, hown, hb⟩ := hrel
    have HO := Lib.hid hown
    have HB := Lib.hid hb
    have hsz := hb.size
    clear hown hb
    by_cases hlt : k < l.length
    · obtain ⟨x, hx⟩ : ∃ x, l[k]? = some x := ⟨_, List.getElem?_eq_getElem hlt⟩
      obtain ⟨g, o, rfl, hg, hr⟩ := (H.out.step HB.out).1 k x hx
      have HR := Lib.hid hr
      have HX := Lib.hid hx
      have htl : (l.take k).length = k := by rw [List.length_take]; omega
      have HTL := Lib.hid htl
      have HB2 := Lib.hid (below_box wr (.cells zec 57) (ecells x))
      have HG2 : Hid (((wr.alloc (.cells zec 57)).setRow wr.heap.size (ecells x)).heap[wr.heap.size]? = some (.cells (ecells x) 57 (0, 0))) := Lib.hid (setRow_heap _ _ _ _ _ _ (heap_alloc_new wr _))
      clear hx hr htl
      go_wp2_with (first
        | ((with_reducible refine wpList_load_at (op := ⟨some 11, _, _, _, _, _⟩) rfl 57 (.tmp 10) rfl g (o + k * 17) ?lx (ecells x) _ ?lc Try.underlying57 ?ld ?li ?_); (case lx => rfl); (case lc => exact HR.out); (case ld => rfl); (case li => kernel_rfl))
        | ((with_reducible refine wpList_store_row (o := ⟨none, _, _, _, _, _⟩) rfl 57 (.tmp 5) (.tmp 11) rfl wr.heap.size (ecells x) ?sx ?sy 57 ?old ?sg ?si ?so ?s1 ?_); (case sx => rfl); (case sy => rfl); (case old => exact zec); (case sg => exact heap_alloc_new wr _); (case si => kernel_rfl); (case so => rfl); (case s1 => kernel_rfl); generalize (wr.alloc (.cells zec 57)).setRow wr.heap.size (ecells x) = w2 at *; have HOO := Lib.hid ((own_block HO.out fun q hq => HB2.out.block q (HO.out.lt q hq).2).alloc (.cells (ecells x) 61)))
        | ((with_reducible refine wpList_load_row (o := ⟨some 13, _, _, _, _, _⟩) rfl 57 (.tmp 5) rfl wr.heap.size ?lx 57 (ecells x) (0, 0) _ ?lg Try.underlying57 ?ld ?li ?_); (case lx => rfl); (case lg => exact HG2.out); (case ld => rfl); (case li => kernel_rfl))
        | (at_builtin; refine wpList_append_lies _ rfl (.tmp 12) (.tmp 14) 48 rfl w.heap.size 61 i0 (.agg (ecells e0)) 17 152 Try.underlying48 hi0 hz0 hz1 hz2 rfl (by decide) _ (l.take k).length (cellsOf ec (l.take k)) rfl HOO.out ⟨w2.heap.size, 0, none⟩ 1 1 (ec x) rfl rfl ?c1 ?c2 (by decide) ?c3 ?c4 ?c5 _ rfl ?_))
      case c1 => exact World.news_of_block (cs := ecells x) (t := 61) (fr := (0, 0)) (heap_alloc_new w2 _)
      case c2 => exact ec_one x
      case c3 => have := HTL.out; simp only [maxLen]; omega
      case c4 => have := HTL.out; omega
      case c5 => have := HB2.out.size; simp; omega
      intro g' cap' w4 hown hgrow hat hlt2
      have HB4 := Lib.hid (((bstep HB.out HB2.out).alloc (Nat.le_trans hsz HB2.out.size) (.cells (ecells x) 61)).grown hgrow (by have := HB2.out.size; simp; omega) (fun q hq => (HO.out.lt q hq).1))
      have HO4 := Lib.hid hown
      clear hown hgrow hat
      go_wp2
      go_roundw
      case rel =>
        refine ⟨k + 1, by omega, by go_num, ?_, HB4.out⟩
        have e : l.take (k + 1) = l.take k ++ [x] := by rw [List.take_add_one, HX.out]; rfl
        rw [e, cellsOf_append, List.length_append]
        simpa [cellsOf, Nat.min_eq_left (Nat.le_of_lt hlt)] using HO4.out
      case measure => simp [intOf]; omega
    · have hkl : l.take k = l := List.take_of_length_le (by omega)
      rw [hkl] at HO
      obtain ⟨q, c', hv, hin⟩ := own_ins HO.out
      subst hv
      have HE : Hid (EIn wr q l ∧ (∀ a, q = some a → w.heap.size ≤ a.block) ∧ l.length ≤ c') := Lib.hid ⟨⟨fun i x hx => by
        obtain ⟨g, rfl, hg, hr⟩ := hin i x hx
        exact ⟨g, 0, rfl, hg, by rw [Nat.zero_add]; exact hr⟩, (H.out.step HB.out).2⟩, fun a ha => by
          rcases HO.out.2 with ⟨e1, h0⟩ | ⟨g, cap, cur, e1, hb, _⟩
          · injection e1 with e2; subst e2; cases ha
          · injection e1 with e2; subst e2; cases ha; exact hb, by
          rcases HO.out.2 with ⟨e1, h0⟩ | ⟨g, cap, cur, e1, hb, _, h3, _⟩
          · omega
          · injection e1 with _ _ e4; omega⟩
      clear hkl hin
      go_wp2
      go_ret
      exact ⟨q, c', rfl, HE.out.1, HE.out.2.1, HE.out.2.2, HB.out⟩

/-! Same. -/
theorem map_at {l : List Ep} {m : List Ep} (h : l.map Ep.pl = m.map Ep.pl) : l.length = m.length := by have := congrArg List.length h; simpa using this
set_option maxRecDepth 100000 in
set_option maxHeartbeats 4000000 in
theorem same_any (p q : Option Addr) (c c' : Nat) (l m : List Ep) (w : World) (hl : l.length ≤ 5000) (hf : ∀ x ∈ l, x.l.length ≤ 5000) (h1 : EIn w p l) (h2 : EIn w q m) :
    Calls Try.prog 16 #[.slice p l.length c, .slice q m.length c'] w fun e w' => e = .returned (.bool (decide (l.map Ep.pl = m.map Ep.pl))) ∧ Below w.heap.size w w' := by
  have H1 := Lib.hid h1
  have H2 := Lib.hid h2
  have HF := Lib.hid hf
  by_cases hlm : l.length = m.length
  · have hne : ((l.length : Int) != (m.length : Int)) = false := by simp; omega
    have HL := Lib.hid hlm
    clear h1 h2 hlm hf
    go_enter Try.func16, Try.ntmps16
    go_wp2
    go_loopw [5] (fun i wr => ∃ k : Nat, k ≤ l.length ∧ i = .int .i64 k ∧ Hid (∀ j, j < k → (l.map Ep.pl)[j]? = (m.map Ep.pl)[j]?) ∧ Below w.heap.size w wr) (fun i _ => l.length - (intOf i).toNat)
    case atStart => exact ⟨0, Nat.zero_le _, rfl, Lib.hid (fun j hj => by omega), Below.refl _ _⟩
    case round =>
      obtain ⟨k, hk, rfl, HJ, hb⟩ := hrel
      have HB := Lib.hid hb
      clear hb
      by_cases hlt : k < l.length
      · have hkm : k < m.length := by have := HL.out; omega
        obtain ⟨x, hx⟩ : ∃ x, l[k]? = some x := ⟨_, List.getElem?_eq_getElem hlt⟩
        obtain ⟨y, hy⟩ : ∃ y, m[k]? = some y := ⟨_, List.getElem?_eq_getElem hkm⟩
        obtain ⟨⟨g, o, rfl, hg, hr⟩, hmx⟩ := (H1.out.step HB.out).at hx
        obtain ⟨⟨g', o', rfl, hg', hr'⟩, hmy⟩ := (H2.out.step HB.out).at hy
        have HC := Lib.hid (fun (W : World) (hw : Below wr.heap.size wr W) => one_any x y W (HF.out x (List.mem_of_getElem? hx)) (hmx.step hw) (hmy.step hw))
        have HX := Lib.hid (pl_at hx)
        have HY := Lib.hid (pl_at hy)
        have hS : wr.rangeAt g (o + k * 17) (ecells x).toList ∧ wr.rangeAt g' (o' + k * 17) (ecells y).toList := ⟨hr, hr'⟩
        have HS := Lib.hid (fun (W : World) (hw : Below wr.heap.size wr W) => (⟨fun j v hv => (hw.cell (p := ⟨g, o + k * 17 + j, none⟩) hg).trans (hr j v hv), fun j v hv => (hw.cell (p := ⟨g', o' + k * 17 + j, none⟩) hg').trans (hr' j v hv)⟩ : W.rangeAt g (o + k * 17) (ecells x).toList ∧ W.rangeAt g' (o' + k * 17) (ecells y).toList))
        clear hx hy hr hr' hmx hmy
        go_wp2_with fail
        refine wp_region_noPanic ?_
        refine wp_region_held_drew (S := fun w' => w'.rangeAt g (o + k * 17) (ecells x).toList ∧ w'.rangeAt g' (o' + k * 17) (ecells y).toList) (by kernel_rfl) hS (fun hh0 => ?_)
        have HW := Lib.hid ((Below.refl wr.heap.size wr).drew)
        generalize World.drew wr = w2 at *
        refine wpAnyH_take (fuel := 9) (i := 0) (oi := ⟨some 17, _, _, _, _, _⟩) (v := .slice (some ⟨g, o, none⟩) l.length c) rfl (by kernel_rfl) (by kernel_rfl) (by kernel_rfl) (fun _ _ _ h => h) (Or.inl ⟨by rfl, ?_⟩) hh0 ?_
        · intro w' _
          go_simp
        simp only [Act.put, List.setIfInBounds_toArray, List.set_cons_zero, List.set_cons_succ]
        refine wpAnyH_take (fuel := 8) (i := 1) (oi := ⟨some 18, _, _, _, _, _⟩) (v := .int .i64 k) rfl (by kernel_rfl) (by kernel_rfl) (by kernel_rfl) (fun _ _ _ h => h) (Or.inl ⟨by rfl, ?_⟩) hh0 ?_
        · intro w' _
          go_simp
        simp only [Act.put, List.setIfInBounds_toArray, List.set_cons_zero, List.set_cons_succ]
        refine wpAnyH_take (fuel := 7) (i := 2) (oi := ⟨some 19, _, _, _, _, _⟩) (v := .pointer (some ⟨g, o + k * 17, none⟩)) rfl (by kernel_rfl) (by kernel_rfl) (by kernel_rfl) (fun _ _ _ h => h) (Or.inl ⟨by rfl, ?_⟩) hh0 ?_
        · intro w' _
          go_simp
        simp only [Act.put, List.setIfInBounds_toArray, List.set_cons_zero, List.set_cons_succ]
        refine wpAnyH_take (fuel := 6) (i := 3) (oi := ⟨some 20, _, _, _, _, _⟩) (v := .agg (ecells x)) rfl (by kernel_rfl) (by kernel_rfl) (by kernel_rfl) (fun _ _ _ h => h) (yields_load_at (by rfl) 61 (.tmp 19) rfl g (o + k * 17) rfl (ecells x) _ (fun w' h => h.1) Try.underlying61 rfl (by kernel_rfl)) hh0 ?_
        simp only [Act.put, List.setIfInBounds_toArray, List.set_cons_zero, List.set_cons_succ]
        refine wpAnyH_take (fuel := 5) (i := 4) (oi := ⟨some 21, _, _, _, _, _⟩) (v := .slice (some ⟨g', o', none⟩) m.length c') rfl (by kernel_rfl) (by kernel_rfl) (by kernel_rfl) (fun _ _ _ h => h) (Or.inl ⟨by rfl, ?_⟩) hh0 ?_
        · intro w' _
          go_simp
        simp only [Act.put, List.setIfInBounds_toArray, List.set_cons_zero, List.set_cons_succ]
        refine wpAnyH_take (fuel := 4) (i := 5) (oi := ⟨some 22, _, _, _, _, _⟩) (v := .int .i64 k) rfl (by kernel_rfl) (by kernel_rfl) (by kernel_rfl) (fun _ _ _ h => h) (Or.inl ⟨by rfl, ?_⟩) hh0 ?_
        · intro w' _
          go_simp
        simp only [Act.put, List.setIfInBounds_toArray, List.set_cons_zero, List.set_cons_succ]
        refine wpAnyH_take (fuel := 3) (i := 6) (oi := ⟨some 23, _, _, _, _, _⟩) (v := .pointer (some ⟨g', o' + k * 17, none⟩)) rfl (by kernel_rfl) (by kernel_rfl) (by kernel_rfl) (fun _ _ _ h => h) (Or.inl ⟨by rfl, ?_⟩) hh0 ?_
        · intro w' _
          go_simp
        simp only [Act.put, List.setIfInBounds_toArray, List.set_cons_zero, List.set_cons_succ]
        refine wpAnyH_take (fuel := 2) (i := 7) (oi := ⟨some 24, _, _, _, _, _⟩) (v := .agg (ecells y)) rfl (by kernel_rfl) (by kernel_rfl) (by kernel_rfl) (fun _ _ _ h => h) (yields_load_at (by rfl) 61 (.tmp 23) rfl g' (o' + k * 17) rfl (ecells y) _ (fun w' h => h.2) Try.underlying61 rfl (by kernel_rfl)) hh0 ?_
        simp only [Act.put, List.setIfInBounds_toArray, List.set_cons_zero, List.set_cons_succ]
        refine wpAnyH_ready (fuel := 1) (rs := [8]) (by kernel_rfl) (by simp) ?_
        refine AllReadyH.cons (o := ⟨some 25, _, _, _, _, _⟩) rfl (fun P hP => ?_) AllReadyH.nil
        go_simp
        refine (HC.out w2 HW.out).mono ?_
        rintro e w3 ⟨rfl, hb3⟩
        have HB3 := Lib.hid (bstep HW.out hb3)
        clear hb3
        show P _ _
        refine hP.out _ _ (HS.out _ HB3.out) (fun hh1 => ?_)
        clear hP P hh0
        try simp only [Act.put, List.setIfInBounds_toArray, List.set_cons_zero, List.set_cons_succ]
        refine wpAnyH_take (fuel := 0) (i := 9) (oi := ⟨some 26, _, _, _, _, _⟩) (v := .bool (!decide (x.pl = y.pl))) rfl (by kernel_rfl) (by kernel_rfl) (by kernel_rfl) (fun _ _ _ h => h) (Or.inl ⟨by rfl, ?_⟩) hh1 ?_
        · intro w' _
          go_simp
        simp only [Act.put, List.setIfInBounds_toArray, List.set_cons_zero, List.set_cons_succ]
        refine wpAnyH_done (by kernel_rfl) ?_ _
        refine NoPanic.normal ?_
        clear hh1
        have HB4 := Lib.hid (bstep HB.out HB3.out)
        by_cases hxy : x.pl = y.pl
        · have hd : decide (x.pl = y.pl) = true := by simp [hxy]
          rw [hd]
          have HE := Lib.hid hxy
          clear hxy hd hS
          go_wp2
          go_roundw
          case rel => exact ⟨k + 1, by omega, by go_num, Lib.hid (fun j hj => by rcases Nat.lt_or_ge j k with h | h; exact HJ.out j h; (rw [show j = k by omega, HX.out, HY.out, HE.out])), HB4.out⟩
          case measure => simp [intOf]; omega
        · have hd : decide (x.pl = y.pl) = false := by simp [hxy]
          rw [hd]
          have HE : Hid (decide (l.map Ep.pl = m.map Ep.pl) = false) := Lib.hid (by
            rw [decide_eq_false_iff_not]
            intro e
            have := HX.out
            rw [e, HY.out] at this
            exact hxy (Option.some.inj this).symm)
          clear hxy hd hS
          go_wp2
          go_ret
          exact ⟨ret_bool HE.out.symm, HB4.out⟩
      · have HE : Hid (decide (l.map Ep.pl = m.map Ep.pl) = true) := Lib.hid (by
          rw [decide_eq_true_iff]
          exact list_ext' (by simpa using HL.out) fun j hj => HJ.out j (by rw [List.length_map] at hj; omega))
        go_wp2
        go_ret
        exact ⟨ret_bool HE.out.symm, HB.out⟩
  · have hne : ((l.length : Int) != (m.length : Int)) = true := by simp; omega
    have HE : Hid (decide (l.map Ep.pl = m.map Ep.pl) = false) := Lib.hid (by rw [decide_eq_false_iff_not]; exact fun e => hlm (map_at e))
    clear h1 h2 hlm
    go_enter Try.func16, Try.ntmps16
    go_wp2
    go_ret
    exact ⟨ret_bool HE.out.symm, Below.refl _ _⟩

end Go.Proofs.Ytnpbbkiojoafbaa
