import Derived.Test.YtlfhkjjjocmpbaaGreatDoorSx
import Derived.Test.YtlfhkjjjocmpbaaGreatDoorQGdN
import Derived.Test.YtlfhkjjjocmpbaaGreatDoorQGcP
import Derived.Deep.CutBlock
import Derived.Deep.DeepCutAuto

namespace Go.Proofs.YtlfhkjjjocmpbaaGreatDoor.Cc
open Go Go.RowKit
open List (setIfInBounds_toArray set_cons_zero set_cons_succ)

theorem rep_neq (r : Rep) (w : World) : (binOp .neq 40 (.agg (rcells r)) (.agg (rcells r))).run Tryz.prog w = .ok (.bool false) w := by
 have ha := fun d => words_same d r.m.w0 r.m.w1 r.m.w2 r.m.w3 r.m.w4 r.m.w5 r.m.w6 r.m.w7
 simp [go_sem, ha]
set_option maxRecDepth 100000 in
set_option maxHeartbeats 4000000 in
theorem does_long (c : Cfg) (core : Int) (q : Option Addr) (cap : Nat) (l : List Stp) (w : World) (hT : Tb w) (h : 60 < l.length) : Calls Tryz.prog 3 #[cv c, .int .i64 core, .slice q l.length cap] w fun e w' => e = .returned (.bool true) ∧ Below w.heap.size w w' := by
 have HB0 := Lib.hid (b_alloc w (.cells (ccells c) 24))
 have HAw := Lib.hid (awake_any (w.alloc (.cells (ccells c) 24)) (hT.keeps HB0.out))
 have g1 : (60 : Int) < l.length := by omega
 clear hT h
 go_enter Tryz.func3, Tryz.ntmps3
 go_wp2_with fail
 refine HAw.out.mono ?_
 rintro e w1 ⟨rfl, hb1⟩
 have HB1 := Lib.hid (HB0.out.trans (hb1.mono (by simp)))
 clear hb1
 go_wp2
 go_ret
 exact ⟨rfl, HB1.out⟩
set_option maxRecDepth 100000 in
set_option maxHeartbeats 4000000 in
theorem does_large (c : Cfg) (core : Int) (q : Option Addr) (cap : Nat) (l : List Stp) (w : World) (hT : Tb w) (h : l.length ≤ 60) (hl : largeB c = true) : Calls Tryz.prog 3 #[cv c, .int .i64 core, .slice q l.length cap] w fun e w' => e = .returned (.bool true) ∧ Below w.heap.size w w' := by
 have HB0 := Lib.hid (b_alloc w (.cells (ccells c) 24))
 have HAw := Lib.hid (awake_any (w.alloc (.cells (ccells c) 24)) (hT.keeps HB0.out))
 have g1 : ¬ (60 : Int) < l.length := by omega
 have HL := Lib.hid (large_any c)
 rw [hl] at HL
 clear hT h hl
 go_enter Tryz.func3, Tryz.ntmps3
 go_wp2_with fail
 refine HAw.out.mono ?_
 rintro e w1 ⟨rfl, hb1⟩
 have HB1 := Lib.hid (HB0.out.trans (hb1.mono (by simp)))
 have hcc := c_cell ((hb1.block w.heap.size (by simp)).trans (heap_alloc_new w (.cells (ccells c) 24)))
 clear hb1
 go_wp2_with fail
 refine (HL.out _).mono ?_
 rintro e w2 ⟨rfl, hb2⟩
 have HB2 := Lib.hid (b_step HB1.out hb2)
 clear hb2 hcc
 go_wp2
 go_ret
 exact ⟨rfl, HB2.out⟩
set_option maxRecDepth 100000 in
set_option maxHeartbeats 4000000 in
theorem does_none (c : Cfg) (core : Int) (q : Option Addr) (cap : Nat) (l : List Stp) (w : World) (hc : c.fits) (hT : Tb w) (h : l.length ≤ 60) (hl : largeB c = false) (hn : okC c = false ∨ core < 0 ∨ c.co ≤ core) : Calls Tryz.prog 3 #[cv c, .int .i64 core, .slice q l.length cap] w fun e w' => e = .returned (.bool true) ∧ Below w.heap.size w w' := by
 have HB0 := Lib.hid (b_alloc w (.cells (ccells c) 24))
 have HAw := Lib.hid (awake_any (w.alloc (.cells (ccells c) 24)) (hT.keeps HB0.out))
 have g1 : ¬ (60 : Int) < l.length := by omega
 have HL := Lib.hid (large_any c)
 rw [hl] at HL
 have HN : Hid (∀ w, Calls Tryz.prog 10 #[cv c, .int .i64 core] w (NoC w)) := Lib.hid (fun w => by
  rcases Bool.eq_false_or_eq_true (okC c) with ok | ok
  ·exact cnew_core c core w hc ok (hn.resolve_left (by simp [ok]))
  ·exact cnew_bad c core w hc ok)
 have HD : Hid (∀ w, Calls Tryz.prog 11 #[cv c, .int .i64 core] w (NoC w)) := Lib.hid (fun w => dnew_no c core w (by
  rcases Bool.eq_false_or_eq_true (okC c) with ok | ok
  ·exact .inr ⟨ok, by rcases hn with q | q | q; rw [ok] at q; cases q; exact .inl q; by_cases h0 : core < 0; exact .inl h0; exact .inr ⟨by omega, q⟩⟩
  ·exact .inl ok))
 clear hc hT h hl hn
 go_enter Tryz.func3, Tryz.ntmps3
 go_wp2_with fail
 refine HAw.out.mono ?_
 rintro e w1 ⟨rfl, hb1⟩
 have HB1 := Lib.hid (HB0.out.trans (hb1.mono (by simp)))
 have hcc := c_cell ((hb1.block w.heap.size (by simp)).trans (heap_alloc_new w (.cells (ccells c) 24)))
 have HC1 := Lib.hid ((hb1.block w.heap.size (by simp)).trans (heap_alloc_new w (.cells (ccells c) 24)))
 clear hb1
 go_wp2_with fail
 refine (HL.out _).mono ?_
 rintro e w2 ⟨rfl, hb2⟩
 have HB2 := Lib.hid (b_step HB1.out hb2)
 have HC2 := Lib.hid ((hb2.block _ (lt_blk HC1.out)).trans HC1.out)
 have hcc2 := c_cell HC2.out
 clear hb2 hcc
 go_wp2_with fail
 refine (HN.out _).mono ?_
 rintro e w3 ⟨rfl, hb3⟩
 have HB3 := Lib.hid (b_step HB2.out hb3)
 have HC3 := Lib.hid ((hb3.block _ (lt_blk HC2.out)).trans HC2.out)
 have hcc3 := c_cell HC3.out
 clear hb3 hcc2
 go_wp2_with fail
 refine (HD.out _).mono ?_
 rintro e w4 ⟨rfl, hb4⟩
 have HB4 := Lib.hid (b_step HB3.out hb4)
 clear hb4 hcc3
 go_wp2
 go_loopw [11] (fun i wr => i = .int .i64 0 ∧ Below w.heap.size w wr) (fun _ _ => 0)
 case atStart => exact ⟨rfl, HB4.out⟩
 case round =>
  obtain ⟨rfl, hb⟩ := hrel
  have HB5 := Lib.hid hb
  clear hb
  go_wp2
  go_ret
  exact ⟨rfl, HB5.out⟩
set_option maxRecDepth 100000 in
set_option maxHeartbeats 4000000 in
theorem does_walk (c : Cfg) (core : Int) (q : Option Addr) (cap : Nat) (l : List Stp) (w : World) (hc : c.fits) (hT : Tb w) (hs : StpsA w q l) (h : l.length ≤ 60) (hl : largeB c = false) (ok : okC c = true) (h1 : 0 ≤ core) (h2 : core < c.co) : Calls Tryz.prog 3 #[cv c, .int .i64 core, .slice q l.length cap] w fun e w' => e = .returned (.bool true) ∧ Below w.heap.size w w' := by
 have HB0 := Lib.hid (b_alloc w (.cells (ccells c) 24))
 have HAw := Lib.hid (awake_any (w.alloc (.cells (ccells c) 24)) (hT.keeps HB0.out))
 have g1 : ¬ (60 : Int) < l.length := by omega
 have HL := Lib.hid (large_any c)
 rw [hl] at HL
 have HT := Lib.hid hT
 have HN := Lib.hid (fun (w2 w3 : World) (h : Below w2.heap.size w2 w3) (hb : Below w.heap.size w w2) => cnew_ok c core h (hT.keeps hb) hc ok h1 h2)
 have HD := Lib.hid (fun (w2 w3 : World) (h : Below w2.heap.size w2 w3) (tb : Tb w2) => dnew_ok c core h tb hc ok h1 h2)
 have HS := Lib.hid hs
 have HI := Lib.hid (Inv.new ok)
 clear hc hT hl ok h1 h2 hs
 go_enter Tryz.func3, Tryz.ntmps3
 go_wp2_with fail
 refine HAw.out.mono ?_
 rintro e w1 ⟨rfl, hb1⟩
 have HB1 := Lib.hid (HB0.out.trans (hb1.mono (by simp)))
 have hcc := c_cell ((hb1.block w.heap.size (by simp)).trans (heap_alloc_new w (.cells (ccells c) 24)))
 have HC1 := Lib.hid ((hb1.block w.heap.size (by simp)).trans (heap_alloc_new w (.cells (ccells c) 24)))
 clear hb1
 go_wp2_with fail
 refine (HL.out _).mono ?_
 rintro e w2 ⟨rfl, hb2⟩
 have HB2 := Lib.hid (b_step HB1.out hb2)
 have HC2 := Lib.hid ((hb2.block _ (lt_blk HC1.out)).trans HC1.out)
 have hcc2 := c_cell HC2.out
 clear hb2 hcc
 go_wp2_with fail
 refine (HN.out _ _ (Below.refl _ w2) HB2.out).mono ?_
 rintro e w3 ⟨K, rfl, ho, hb3⟩
 have H3 := Lib.hid (ho.rebase (w := w) (bx := [(w.heap.size, .cells (ccells c) 24)]) ⟨fun p hp => by obtain rfl := List.mem_singleton.1 hp; exact ⟨HC2.out, Nat.le_refl _⟩, by simp, HB2.out⟩ HT.out)
 have hcc3 := H3.out.cells mz0
 clear ho hb3 hcc2
 go_wp2_with fail
 refine (HD.out _ _ (Below.refl _ w3) H3.out.tbs).mono ?_
 rintro e w4 ⟨L, rfl, ho, hb4⟩
 obtain ⟨xs0, hxs, hD⟩ := H3.out.beside ho
 obtain ⟨ys0, hys, hP⟩ := hD.turn hxs
 have H4 := Lib.hid hP
 have HY4 := Lib.hid hys
 clear ho hb4 hxs hD hys hP hcc3 H3 HD HN
 go_wp2
 go_loopw [11] (fun i wr => ∃ j : Nat, j ≤ l.length ∧ i = .int .i64 j ∧ ∃ s n ys, OwnP w K c core n s (ys ++ [(w.heap.size, .cells (ccells c) 24)]) wr ∧ Part tyD w L c core n s ys ∧ Inv c s ∧ Mh.Blk s.F ∧ n ≤ 2 * (j : Int)) (fun i _ => l.length - (intOf i).toNat)
 case atStart => exact ⟨0, Nat.zero_le _, rfl, _, _, _, H4.out, HY4.out, HI.out, Mh.Blk.nil, by omega⟩
 case round =>
  obtain ⟨j, hj, rfl, s, n, ys, ho, hp, hi, hbk, hn⟩ := hrel
  have H5 := Lib.hid ho
  have HP5 := Lib.hid hp
  clear H4 HY4
  obtain ⟨w5, rfl⟩ : ∃ w5 : World, w5 = wr := ⟨_, rfl⟩
  by_cases hlt : j < l.length
  ·obtain ⟨x, hx⟩ : ∃ x, l[j]? = some x := ⟨_, List.getElem?_eq_getElem hlt⟩
   obtain ⟨gl, off, rfl, hgl, -⟩ := HS.out j x hx
   have HRw : Hid (∀ W, Below w.heap.size w W → W.rangeAt gl (off + j * 21) (stc x)) := Lib.hid fun W hb => by
    obtain ⟨gl', off', e, _, hr⟩ := HS.out.step hb j x hx
    obtain ⟨rfl, rfl⟩ : gl = gl' ∧ off = off' := by simpa using e
    exact hr
   have hnn : n ≤ 900 := by omega
   have HNn : Hid (n + 2 ≤ 2 * ((j + 1 : Nat) : Int)) := Lib.hid (by omega)
   have HStp := Lib.hid (fun W (h : OwnP w K c core n s (ys ++ [(w.heap.size, .cells (ccells c) 24)]) W) => h.stp hnn x)
   have HDst := Lib.hid (fun W xs (h : OwnD w L c core n s (xs ++ [(w.heap.size, .cells (ccells c) 24)]) W) => h.dstp hnn hi hbk x)
   have HV2 := Lib.hid (hi.stp (core := core) x)
   have HBk2 := Lib.hid (blk_stp (core := core) ho.nums.2.2.2.2.1 hbk x)
   generalize doS c core s x = rs at *
   obtain ⟨r, s2⟩ := rs
   have hqn := rep_neq r
   have hjl : (j : Int) < l.length := by omega
   have hj0 : (0 : Int) ≤ (j : Int) := by omega
   clear ho hp hi hbk hn hx hgl hnn
   go_upto_region 12 with fail
   go_cut [99] (fun s99 wx => s99 = .bool false ∧ ∃ ys2, Part tyD w L c core (n + 2) s2 ys2 ∧ OwnP w K c core (n + 2) s2 (ys2 ++ [(w.heap.size, .cells (ccells c) 24)]) wx)
   case first =>
    as_aux_lemma =>
    refine wp_region_noPanic ?_
    refine wp_region_held_drew (S := (fun w' : World => Below w.heap.size w w')) (by kernel_rfl) H5.out.drew.below (fun hh0 => ?_)
    replace H5 := Lib.hid H5.out.drew
    generalize World.drew w5 = w5 at *
    refine tk 41 0 ⟨some 58, _, _, _, _, _⟩ (ptr K.k) rfl (by kernel_rfl) (by rfl) hh0 ?_ ?_
    ·intro w' _
     go_simp
    simp only [Act.put, setIfInBounds_toArray, set_cons_zero, set_cons_succ]
    refine tk 40 1 ⟨some 59, _, _, _, _, _⟩ (.slice (some ⟨gl, off, none⟩) l.length cap) rfl (by kernel_rfl) (by rfl) hh0 ?_ ?_
    ·intro w' _
     go_simp
    simp only [Act.put, setIfInBounds_toArray, set_cons_zero, set_cons_succ]
    refine tk 39 2 ⟨some 60, _, _, _, _, _⟩ (.int .i64 (j : Int)) rfl (by kernel_rfl) (by rfl) hh0 ?_ ?_
    ·intro w' _
     go_simp
    simp only [Act.put, setIfInBounds_toArray, set_cons_zero, set_cons_succ]
    refine tk 38 3 ⟨some 61, _, _, _, _, _⟩ (.pointer (some ⟨gl, off + j * 21, none⟩)) rfl (by kernel_rfl) (by rfl) hh0 ?_ ?_
    ·intro w' _
     go_simp
    simp only [Act.put, setIfInBounds_toArray, set_cons_zero, set_cons_succ]
    refine wpAnyH_take (fuel := 37) (i := 4) (oi := ⟨some 62, _, _, _, _, _⟩) (v := .agg (scells x)) rfl (by kernel_rfl) (by kernel_rfl) (by kernel_rfl) (fun _ _ _ h => h) (yieldsIf_load_mid (by rfl) 45 (.tmp 61) rfl gl (off + j * 21) rfl (stc x) _ (fun W hS => HRw.out W hS) Tryz.underlying45 rfl (by kernel_rfl)) hh0 ?_
    simp only [Act.put, setIfInBounds_toArray, set_cons_zero, set_cons_succ]
    refine tk 36 6 ⟨some 64, _, _, _, _, _⟩ (ptr L.k) rfl (by kernel_rfl) (by rfl) hh0 ?_ ?_
    ·intro w' _
     go_simp
    simp only [Act.put, setIfInBounds_toArray, set_cons_zero, set_cons_succ]
    refine tk 35 7 ⟨some 65, _, _, _, _, _⟩ (.slice (some ⟨gl, off, none⟩) l.length cap) rfl (by kernel_rfl) (by rfl) hh0 ?_ ?_
    ·intro w' _
     go_simp
    simp only [Act.put, setIfInBounds_toArray, set_cons_zero, set_cons_succ]
    refine tk 34 8 ⟨some 66, _, _, _, _, _⟩ (.int .i64 (j : Int)) rfl (by kernel_rfl) (by rfl) hh0 ?_ ?_
    ·intro w' _
     go_simp
    simp only [Act.put, setIfInBounds_toArray, set_cons_zero, set_cons_succ]
    refine tk 33 9 ⟨some 67, _, _, _, _, _⟩ (.pointer (some ⟨gl, off + j * 21, none⟩)) rfl (by kernel_rfl) (by rfl) hh0 ?_ ?_
    ·intro w' _
     go_simp
    simp only [Act.put, setIfInBounds_toArray, set_cons_zero, set_cons_succ]
    refine wpAnyH_take (fuel := 32) (i := 10) (oi := ⟨some 68, _, _, _, _, _⟩) (v := .agg (scells x)) rfl (by kernel_rfl) (by kernel_rfl) (by kernel_rfl) (fun _ _ _ h => h) (yieldsIf_load_mid (by rfl) 45 (.tmp 67) rfl gl (off + j * 21) rfl (stc x) _ (fun W hS => HRw.out W hS) Tryz.underlying45 rfl (by kernel_rfl)) hh0 ?_
    simp only [Act.put, setIfInBounds_toArray, set_cons_zero, set_cons_succ]
    refine rd 31 5 ⟨some 63, _, _, _, _, _⟩ rfl (by kernel_rfl) (fun P hP => ?_)
    go_simp
    refine (HStp.out _ H5.out).mono ?_
    rintro e w6 ⟨rfl, ho⟩
    obtain ⟨xs, hxs, hD⟩ := ho.turn HP5.out
    have H6 := Lib.hid hD
    have HX6 := Lib.hid hxs
    clear ho hxs hD
    show P _ _
    refine hP.out _ _ (H6.out.below) (fun hh1 => ?_)
    clear hP P hh0
    refine rd 30 11 ⟨some 69, _, _, _, _, _⟩ rfl (by kernel_rfl) (fun P hP => ?_)
    go_simp
    refine (HDst.out _ _ H6.out).mono ?_
    rintro e w7 ⟨rfl, ho⟩
    have H7 := Lib.hid ho
    clear ho H6 H5 HP5 HStp HDst
    show P _ _
    refine hP.out _ _ (H7.out.below) (fun hh2 => ?_)
    clear hP P hh1
    refine tk 29 12 ⟨some 70, _, _, _, _, _⟩ (.bool false) rfl (by kernel_rfl) (by rfl) hh2 ?_ ?_
    ·intro w' _
     go_simp
    simp only [Act.put, setIfInBounds_toArray, set_cons_zero, set_cons_succ]
    refine tk 28 13 ⟨some 71, _, _, _, _, _⟩ (.bool false) rfl (by kernel_rfl) (by rfl) hh2 ?_ ?_
    ·intro w' _
     go_simp
    simp only [Act.put, setIfInBounds_toArray, set_cons_zero, set_cons_succ]
    obtain ⟨g, p2, c2, p3, c3, hvw⟩ := H7.out.views
    have HVw : Hid (∀ W, Below w7.heap.size w7 W → (∀ o, W.cell? ⟨w.heap.size, o, none⟩ = (ccells c)[o]?) ∧ (∀ o, W.cell? ⟨L.k, o, none⟩ = (kcells c core L)[o]?) ∧ W.cell? ⟨L.a, 13, none⟩ = some (.slice (some ⟨g, 0, none⟩) s2.A.length s2.A.length) ∧ W.cell? ⟨L.f, 1, none⟩ = some (.slice p2 s2.F.length c2) ∧ W.cell? ⟨L.b, 1, none⟩ = some (.slice p3 s2.B.length c3)) := Lib.hid fun W hb => ⟨(H7.out.step hb).cells (List.mem_append_right _ mz0), (H7.out.step hb).kc, (hvw W hb).1, (hvw W hb).2.1, (hvw W hb).2.2.1⟩
    have HRows := Lib.hid (fun W hb => (hvw W hb).2.2.2)
    have HSh := Lib.hid H7.out.short
    clear hvw hqn
    refine held_more (S' := (fun w' : World => Below w7.heap.size w7 w')) (fun W hb => b_step H7.out.below hb) _ _ _ _ ?_
    replace hh2 : Below w7.heap.size w7 w7 := Below.refl _ _
    refine tk 27 14 ⟨some 72, _, _, _, _, _⟩ (cv c) rfl (by kernel_rfl) (by rfl) hh2 ?_ ?_
    ·intro w' hS
     obtain ⟨hv, -, -, -, -⟩ := HVw.out w' hS
     go_simp
    simp only [Act.put, setIfInBounds_toArray, set_cons_zero, set_cons_succ]
    refine tk 26 15 ⟨some 73, _, _, _, _, _⟩ (ptr K.k) rfl (by kernel_rfl) (by rfl) hh2 ?_ ?_
    ·intro w' _
     go_simp
    simp only [Act.put, setIfInBounds_toArray, set_cons_zero, set_cons_succ]
    refine tk 25 17 ⟨some 75, _, _, _, _, _⟩ (ptr L.k) rfl (by kernel_rfl) (by rfl) hh2 ?_ ?_
    ·intro w' _
     go_simp
    simp only [Act.put, setIfInBounds_toArray, set_cons_zero, set_cons_succ]
    refine tk 24 18 ⟨some 76, _, _, _, _, _⟩ (ptr L.k) rfl (by kernel_rfl) (by rfl) hh2 ?_ ?_
    ·intro w' _
     go_simp
    simp only [Act.put, setIfInBounds_toArray, set_cons_zero, set_cons_succ]
    refine tk 23 19 ⟨some 77, _, _, _, _, _⟩ (.pointer (some ⟨L.k, 14, none⟩)) rfl (by kernel_rfl) (by rfl) hh2 ?_ ?_
    ·intro w' _
     go_simp
    simp only [Act.put, setIfInBounds_toArray, set_cons_zero, set_cons_succ]
    refine tk 22 20 ⟨some 78, _, _, _, _, _⟩ (ptr L.a) rfl (by kernel_rfl) (by rfl) hh2 ?_ ?_
    ·intro w' hS
     obtain ⟨-, hv, -, -, -⟩ := HVw.out w' hS
     go_simp
    simp only [Act.put, setIfInBounds_toArray, set_cons_zero, set_cons_succ]
    refine tk 21 21 ⟨some 79, _, _, _, _, _⟩ (ptr L.a) rfl (by kernel_rfl) (by rfl) hh2 ?_ ?_
    ·intro w' _
     go_simp
    simp only [Act.put, setIfInBounds_toArray, set_cons_zero, set_cons_succ]
    refine tk 20 22 ⟨some 80, _, _, _, _, _⟩ (.pointer (some ⟨L.a, 13, none⟩)) rfl (by kernel_rfl) (by rfl) hh2 ?_ ?_
    ·intro w' _
     go_simp
    simp only [Act.put, setIfInBounds_toArray, set_cons_zero, set_cons_succ]
    refine tk 19 23 ⟨some 81, _, _, _, _, _⟩ (.slice (some ⟨g, 0, none⟩) s2.A.length s2.A.length) rfl (by kernel_rfl) (by rfl) hh2 ?_ ?_
    ·intro w' hS
     obtain ⟨-, -, hv, -, -⟩ := HVw.out w' hS
     go_simp
    simp only [Act.put, setIfInBounds_toArray, set_cons_zero, set_cons_succ]
    refine tk 18 24 ⟨some 82, _, _, _, _, _⟩ (ptr L.k) rfl (by kernel_rfl) (by rfl) hh2 ?_ ?_
    ·intro w' _
     go_simp
    simp only [Act.put, setIfInBounds_toArray, set_cons_zero, set_cons_succ]
    refine tk 17 25 ⟨some 83, _, _, _, _, _⟩ (ptr L.k) rfl (by kernel_rfl) (by rfl) hh2 ?_ ?_
    ·intro w' _
     go_simp
    simp only [Act.put, setIfInBounds_toArray, set_cons_zero, set_cons_succ]
    refine tk 16 26 ⟨some 84, _, _, _, _, _⟩ (.pointer (some ⟨L.k, 15, none⟩)) rfl (by kernel_rfl) (by rfl) hh2 ?_ ?_
    ·intro w' _
     go_simp
    simp only [Act.put, setIfInBounds_toArray, set_cons_zero, set_cons_succ]
    refine tk 15 27 ⟨some 85, _, _, _, _, _⟩ (ptr L.f) rfl (by kernel_rfl) (by rfl) hh2 ?_ ?_
    ·intro w' hS
     obtain ⟨-, hv, -, -, -⟩ := HVw.out w' hS
     go_simp
    simp only [Act.put, setIfInBounds_toArray, set_cons_zero, set_cons_succ]
    refine tk 14 28 ⟨some 86, _, _, _, _, _⟩ (ptr L.f) rfl (by kernel_rfl) (by rfl) hh2 ?_ ?_
    ·intro w' _
     go_simp
    simp only [Act.put, setIfInBounds_toArray, set_cons_zero, set_cons_succ]
    refine tk 13 29 ⟨some 87, _, _, _, _, _⟩ (.pointer (some ⟨L.f, 1, none⟩)) rfl (by kernel_rfl) (by rfl) hh2 ?_ ?_
    ·intro w' _
     go_simp
    simp only [Act.put, setIfInBounds_toArray, set_cons_zero, set_cons_succ]
    refine tk 12 30 ⟨some 88, _, _, _, _, _⟩ (.slice p2 s2.F.length c2) rfl (by kernel_rfl) (by rfl) hh2 ?_ ?_
    ·intro w' hS
     obtain ⟨-, -, -, hv, -⟩ := HVw.out w' hS
     go_simp
    simp only [Act.put, setIfInBounds_toArray, set_cons_zero, set_cons_succ]
    refine tk 11 31 ⟨some 89, _, _, _, _, _⟩ (ptr L.k) rfl (by kernel_rfl) (by rfl) hh2 ?_ ?_
    ·intro w' _
     go_simp
    simp only [Act.put, setIfInBounds_toArray, set_cons_zero, set_cons_succ]
    refine tk 10 32 ⟨some 90, _, _, _, _, _⟩ (ptr L.k) rfl (by kernel_rfl) (by rfl) hh2 ?_ ?_
    ·intro w' _
     go_simp
    simp only [Act.put, setIfInBounds_toArray, set_cons_zero, set_cons_succ]
    refine tk 9 33 ⟨some 91, _, _, _, _, _⟩ (.pointer (some ⟨L.k, 16, none⟩)) rfl (by kernel_rfl) (by rfl) hh2 ?_ ?_
    ·intro w' _
     go_simp
    simp only [Act.put, setIfInBounds_toArray, set_cons_zero, set_cons_succ]
    refine tk 8 34 ⟨some 92, _, _, _, _, _⟩ (ptr L.b) rfl (by kernel_rfl) (by rfl) hh2 ?_ ?_
    ·intro w' hS
     obtain ⟨-, hv, -, -, -⟩ := HVw.out w' hS
     go_simp
    simp only [Act.put, setIfInBounds_toArray, set_cons_zero, set_cons_succ]
    refine tk 7 35 ⟨some 93, _, _, _, _, _⟩ (ptr L.b) rfl (by kernel_rfl) (by rfl) hh2 ?_ ?_
    ·intro w' _
     go_simp
    simp only [Act.put, setIfInBounds_toArray, set_cons_zero, set_cons_succ]
    refine tk 6 36 ⟨some 94, _, _, _, _, _⟩ (.pointer (some ⟨L.b, 1, none⟩)) rfl (by kernel_rfl) (by rfl) hh2 ?_ ?_
    ·intro w' _
     go_simp
    simp only [Act.put, setIfInBounds_toArray, set_cons_zero, set_cons_succ]
    refine tk 5 37 ⟨some 95, _, _, _, _, _⟩ (.slice p3 s2.B.length c3) rfl (by kernel_rfl) (by rfl) hh2 ?_ ?_
    ·intro w' hS
     obtain ⟨-, -, -, -, hv⟩ := HVw.out w' hS
     go_simp
    simp only [Act.put, setIfInBounds_toArray, set_cons_zero, set_cons_succ]
    refine tk 4 38 ⟨some 96, _, _, _, _, _⟩ (.agg #[.slice (some ⟨g, 0, none⟩) s2.A.length s2.A.length, .slice p2 s2.F.length c2, .slice p3 s2.B.length c3]) rfl (by kernel_rfl) (by rfl) hh2 ?_ ?_
    ·intro w' _
     go_simp
    simp only [Act.put, setIfInBounds_toArray, set_cons_zero, set_cons_succ]
    refine rd 3 16 ⟨some 74, _, _, _, _, _⟩ rfl (by kernel_rfl) (fun P hP => ?_)
    go_simp
    obtain ⟨ys2, hys, hP7⟩ := H7.out.turn HX6.out
    have HP7 := Lib.hid hP7
    have HY7 := Lib.hid hys
    refine HP7.out.drawn.mono ?_
    rintro e w8 hp
    obtain ⟨q1, b1, q2, b2, q3, b3, rfl, r1, r2, r3, hb8⟩ := pic_rows hp
    have HPic := Lib.hid (And.intro r1 (And.intro r2 r3))
    have HB8 := Lib.hid hb8
    clear hP7 hys hp r1 r2 r3 hb8
    show P _ _
    refine hP.out _ _ (HB8.out) (fun hh3 => ?_)
    clear hP P hh2
    refine rd 2 39 ⟨some 97, _, _, _, _, _⟩ rfl (by kernel_rfl) (fun P hP => ?_)
    go_simp
    refine (same_any w8 s2.A s2.F s2.B q1 q2 q3 (some ⟨g, 0, none⟩) p2 p3 b1 b2 b3 s2.A.length c2 c3 HSh.out.1 HSh.out.2.1 HSh.out.2.2.1 HPic.out.1 HPic.out.2.1 HPic.out.2.2 (HRows.out _ HB8.out).1 (HRows.out _ HB8.out).2.1 (HRows.out _ HB8.out).2.2).mono ?_
    rintro e w9 ⟨rfl, hb9⟩
    have HB9 := Lib.hid (b_step HB8.out hb9)
    clear hb9
    show P _ _
    refine hP.out _ _ (HB9.out) (fun hh4 => ?_)
    clear hP P hh3
    refine tk 1 40 ⟨some 98, _, _, _, _, _⟩ (.bool false) rfl (by kernel_rfl) (by rfl) hh4 ?_ ?_
    ·intro w' _
     go_simp
    simp only [Act.put, setIfInBounds_toArray, set_cons_zero, set_cons_succ]
    refine tk 0 41 ⟨some 99, _, _, _, _, _⟩ (.bool false) rfl (by kernel_rfl) (by rfl) hh4 ?_ ?_
    ·intro w' _
     go_simp
    simp only [Act.put, setIfInBounds_toArray, set_cons_zero, set_cons_succ]
    refine wpAnyH_done (by kernel_rfl) ?_ _
    refine NoPanic.normal ?_
    clear hh4
    go_wp2
    go_meet
    case rel => exact ⟨rfl, _, HY7.out, HP7.out.step HB9.out⟩
   case rest =>
    obtain ⟨rfl, ys2, hys, hP⟩ := hcut
    have H10 := Lib.hid hP
    have HY10 := Lib.hid hys
    clear hP hys H5 HP5 HStp HDst hqn
    obtain ⟨w10, rfl⟩ : ∃ w10 : World, w10 = wc := ⟨_, rfl⟩
    have HLk := Lib.hid (fun W bx (h : OwnP w K c core (n + 2) s2 bx W) => h.look x.a)
    have HFd := Lib.hid (fun W bx (h : OwnD w L c core (n + 2) s2 bx W) => h.dfind x.a)
    generalize look c s2 x.a = y at *
    generalize there c s2 x.a = yq at *
    generalize (Ar.fnd c s2.A x.a).2.1 = yi at *
    have hxa := HRw.out _ H10.out.below 1 _ rfl
    go_wp2_with fail
    refine (HLk.out _ _ H10.out).mono ?_
    rintro e w11 ⟨rfl, hb11⟩
    have H11 := Lib.hid ((H10.out.step hb11).add (.cells (Ar.ycells y) 66))
    clear hb11 hxa H10 HLk
    go_upto_region 15 with fail
    obtain ⟨w12, hw12⟩ : ∃ w12, w12 = w11.alloc (.cells (Ar.ycells y) 66) := ⟨_, rfl⟩
    rw [← hw12] at H11
    change Code.wp _ _ _ _ (w11.alloc (.cells (Ar.ycells y) 66))
    rw [← hw12]
    obtain ⟨xs2, hxs2, hD⟩ := H11.out.behind.turn HY10.out
    have H12 := Lib.hid hD
    have HX12 := Lib.hid hxs2
    generalize w11.heap.size = m12 at *
    clear hw12 hD hxs2 H11 HY10
    go_cut [14, 15, 16] (fun s14 s15 s16 wx => ∃ m14, s14 = .pointer (some ⟨m14, 0, none⟩) ∧ s15 = .int .i64 yi ∧ s16 = .bool yq ∧ OwnD w L c core (n + 2) s2 ((m14, .cells (Ar.ycells y) 69) :: (xs2 ++ ((m12, .cells (Ar.ycells y) 66) :: [(w.heap.size, .cells (ccells c) 24)]))) wx)
    case first =>
     as_aux_lemma =>
      refine wp_region_noPanic ?_
      refine wp_region_held_drew (S := (fun w' : World => (∀ o, w'.cell? ⟨L.k, o, none⟩ = (kcells c core L)[o]?) ∧ w'.cell? ⟨gl, off + j * 21 + 1, none⟩ = some (.int .i64 x.a))) (by kernel_rfl) ⟨H12.out.kc, HRw.out _ H12.out.below 1 _ rfl⟩ (fun hh0 => ?_)
      replace H12 := Lib.hid H12.out.drew
      generalize World.drew w12 = w12 at *
      refine tk 17 0 ⟨some 111, _, _, _, _, _⟩ (ptr L.k) rfl (by kernel_rfl) (by rfl) hh0 ?_ ?_
      ·intro w' _
       go_simp
      simp only [Act.put, setIfInBounds_toArray, set_cons_zero, set_cons_succ]
      refine tk 16 1 ⟨some 112, _, _, _, _, _⟩ (ptr L.k) rfl (by kernel_rfl) (by rfl) hh0 ?_ ?_
      ·intro w' _
       go_simp
      simp only [Act.put, setIfInBounds_toArray, set_cons_zero, set_cons_succ]
      refine tk 15 2 ⟨some 113, _, _, _, _, _⟩ (.pointer (some ⟨L.k, 14, none⟩)) rfl (by kernel_rfl) (by rfl) hh0 ?_ ?_
      ·intro w' _
       go_simp
      simp only [Act.put, setIfInBounds_toArray, set_cons_zero, set_cons_succ]
      refine tk 14 3 ⟨some 114, _, _, _, _, _⟩ (.pointer (some ⟨L.a, 0, none⟩)) rfl (by kernel_rfl) (by rfl) hh0 ?_ ?_
      ·rintro w' ⟨c0, -⟩
       go_simp
      simp only [Act.put, setIfInBounds_toArray, set_cons_zero, set_cons_succ]
      refine tk 13 4 ⟨some 115, _, _, _, _, _⟩ (.slice (some ⟨gl, off, none⟩) l.length cap) rfl (by kernel_rfl) (by rfl) hh0 ?_ ?_
      ·intro w' _
       go_simp
      simp only [Act.put, setIfInBounds_toArray, set_cons_zero, set_cons_succ]
      refine tk 12 5 ⟨some 116, _, _, _, _, _⟩ (.int .i64 (j : Int)) rfl (by kernel_rfl) (by rfl) hh0 ?_ ?_
      ·intro w' _
       go_simp
      simp only [Act.put, setIfInBounds_toArray, set_cons_zero, set_cons_succ]
      refine tk 11 6 ⟨some 117, _, _, _, _, _⟩ (.pointer (some ⟨gl, off + j * 21, none⟩)) rfl (by kernel_rfl) (by rfl) hh0 ?_ ?_
      ·intro w' _
       go_simp
      simp only [Act.put, setIfInBounds_toArray, set_cons_zero, set_cons_succ]
      refine tk 10 7 ⟨some 118, _, _, _, _, _⟩ (.pointer (some ⟨gl, off + j * 21 + 1, none⟩)) rfl (by kernel_rfl) (by rfl) hh0 ?_ ?_
      ·intro w' _
       go_simp
      simp only [Act.put, setIfInBounds_toArray, set_cons_zero, set_cons_succ]
      refine tk 9 8 ⟨some 119, _, _, _, _, _⟩ (.int .i64 x.a) rfl (by kernel_rfl) (by rfl) hh0 ?_ ?_
      ·rintro w' ⟨-, c0⟩
       go_simp
      simp only [Act.put, setIfInBounds_toArray, set_cons_zero, set_cons_succ]
      refine wpAnyH_ready (fuel := 8) (rs := [9, 14]) (by kernel_rfl) (by simp) ?_
      refine AllReadyH.cons (o := ⟨some 120, _, _, _, _, _⟩) rfl (fun P hP => ?_) (AllReadyH.cons (o := ⟨some 14, _, _, _, _, _⟩) rfl (fun P hP => ?_) AllReadyH.nil)
      ·go_simp
       refine (HFd.out _ _ H12.out).mono ?_
       rintro e w13 ⟨rfl, hb13⟩
       have H13 := Lib.hid (H12.out.step hb13)
       clear hb13
       show P _ _
       refine hP.out _ _ (⟨H13.out.kc, HRw.out _ H13.out.below 1 _ rfl⟩) (fun hh1 => ?_)
       clear hP P hh0
       refine tk 7 10 ⟨some 110, _, _, _, _, _⟩ (.tuple #[.agg (Ar.ycells y), .int .i64 yi, .bool yq]) rfl (by kernel_rfl) (by rfl) hh1 ?_ ?_
       ·intro w' _
        go_simp
       simp only [Act.put, setIfInBounds_toArray, set_cons_zero, set_cons_succ]
       refine tk 6 11 ⟨some 121, _, _, _, _, _⟩ (.agg (Ar.ycells y)) rfl (by kernel_rfl) (by rfl) hh1 ?_ ?_
       ·intro w' _
        go_simp
       simp only [Act.put, setIfInBounds_toArray, set_cons_zero, set_cons_succ]
       refine tk 5 12 ⟨some 122, _, _, _, _, _⟩ (.int .i64 yi) rfl (by kernel_rfl) (by rfl) hh1 ?_ ?_
       ·intro w' _
        go_simp
       simp only [Act.put, setIfInBounds_toArray, set_cons_zero, set_cons_succ]
       refine tk 4 13 ⟨some 123, _, _, _, _, _⟩ (.bool yq) rfl (by kernel_rfl) (by rfl) hh1 ?_ ?_
       ·intro w' _
        go_simp
       simp only [Act.put, setIfInBounds_toArray, set_cons_zero, set_cons_succ]
       refine rd 3 14 ⟨some 14, _, _, _, _, _⟩ rfl (by kernel_rfl) (fun P hP => ?_)
       go_simp
       have H13a := Lib.hid (H13.out.add (.cells #[.int .i64 0, .int .i64 0, .int .i64 0, .int .i64 0, .int .i64 0, .int .i64 0, .int .i64 0, .int .i64 0, .int .i64 0, .int .i64 0, .bool false] 69))
       show P _ _
       refine hP.out _ _ (⟨H13a.out.kc, HRw.out _ H13a.out.below 1 _ rfl⟩) (fun hh2 => ?_)
       clear hP P hh1
       try simp only [Act.put, setIfInBounds_toArray, set_cons_zero, set_cons_succ]
       refine rd 2 15 ⟨none, _, _, _, _, _⟩ rfl (by kernel_rfl) (fun P hP => ?_)
       rw [if_pos (by rfl)]
       refine wp_store_row 69 (.tmp 14) (.tmp 121) rfl (w13.heap.size) (Ar.ycells y) rfl rfl 69 (#[.int .i64 0, .int .i64 0, .int .i64 0, .int .i64 0, .int .i64 0, .int .i64 0, .int .i64 0, .int .i64 0, .int .i64 0, .int .i64 0, .bool false]) (H13a.out.box mz0) (by kernel_rfl) rfl (by kernel_rfl) ?_
       have H13as := Lib.hid (H13a.out.setRow (cs' := Ar.ycells y))
       refine hP.out _ _ (⟨H13as.out.kc, HRw.out _ H13as.out.below 1 _ rfl⟩) (fun hh3 => ?_)
       clear hP P hh2
       simp only [Act.put]
       refine tk 1 16 ⟨some 15, _, _, _, _, _⟩ (.int .i64 yi) rfl (by kernel_rfl) (by rfl) hh3 ?_ ?_
       ·intro w' _
        go_simp
       simp only [Act.put, setIfInBounds_toArray, set_cons_zero, set_cons_succ]
       refine tk 0 17 ⟨some 16, _, _, _, _, _⟩ (.bool yq) rfl (by kernel_rfl) (by rfl) hh3 ?_ ?_
       ·intro w' _
        go_simp
       simp only [Act.put, setIfInBounds_toArray, set_cons_zero, set_cons_succ]
       refine wpAnyH_done (by kernel_rfl) ?_ _
       refine NoPanic.normal ?_
       clear hh3
       go_wp2
       go_meet
       case rel => exact ⟨_, rfl, rfl, rfl, H13as.out⟩
      ·go_simp
       have H12a := Lib.hid (H12.out.add (.cells #[.int .i64 0, .int .i64 0, .int .i64 0, .int .i64 0, .int .i64 0, .int .i64 0, .int .i64 0, .int .i64 0, .int .i64 0, .int .i64 0, .bool false] 69))
       show P _ _
       refine hP.out _ _ (⟨H12a.out.kc, HRw.out _ H12a.out.below 1 _ rfl⟩) (fun hh1 => ?_)
       clear hP P hh0
       try simp only [Act.put, setIfInBounds_toArray, set_cons_zero, set_cons_succ]
       refine rd 7 9 ⟨some 120, _, _, _, _, _⟩ rfl (by kernel_rfl) (fun P hP => ?_)
       go_simp
       refine (HFd.out _ _ H12a.out).mono ?_
       rintro e w13 ⟨rfl, hb13⟩
       have H13 := Lib.hid (H12a.out.step hb13)
       clear hb13
       show P _ _
       refine hP.out _ _ (⟨H13.out.kc, HRw.out _ H13.out.below 1 _ rfl⟩) (fun hh2 => ?_)
       clear hP P hh1
       refine tk 6 10 ⟨some 110, _, _, _, _, _⟩ (.tuple #[.agg (Ar.ycells y), .int .i64 yi, .bool yq]) rfl (by kernel_rfl) (by rfl) hh2 ?_ ?_
       ·intro w' _
        go_simp
       simp only [Act.put, setIfInBounds_toArray, set_cons_zero, set_cons_succ]
       refine tk 5 11 ⟨some 121, _, _, _, _, _⟩ (.agg (Ar.ycells y)) rfl (by kernel_rfl) (by rfl) hh2 ?_ ?_
       ·intro w' _
        go_simp
       simp only [Act.put, setIfInBounds_toArray, set_cons_zero, set_cons_succ]
       refine tk 4 12 ⟨some 122, _, _, _, _, _⟩ (.int .i64 yi) rfl (by kernel_rfl) (by rfl) hh2 ?_ ?_
       ·intro w' _
        go_simp
       simp only [Act.put, setIfInBounds_toArray, set_cons_zero, set_cons_succ]
       refine tk 3 13 ⟨some 123, _, _, _, _, _⟩ (.bool yq) rfl (by kernel_rfl) (by rfl) hh2 ?_ ?_
       ·intro w' _
        go_simp
       simp only [Act.put, setIfInBounds_toArray, set_cons_zero, set_cons_succ]
       refine rd 2 15 ⟨none, _, _, _, _, _⟩ rfl (by kernel_rfl) (fun P hP => ?_)
       rw [if_pos (by rfl)]
       refine wp_store_row 69 (.tmp 14) (.tmp 121) rfl (w12.heap.size) (Ar.ycells y) rfl rfl 69 (#[.int .i64 0, .int .i64 0, .int .i64 0, .int .i64 0, .int .i64 0, .int .i64 0, .int .i64 0, .int .i64 0, .int .i64 0, .int .i64 0, .bool false]) (H13.out.box mz0) (by kernel_rfl) rfl (by kernel_rfl) ?_
       have H13s := Lib.hid (H13.out.setRow (cs' := Ar.ycells y))
       refine hP.out _ _ (⟨H13s.out.kc, HRw.out _ H13s.out.below 1 _ rfl⟩) (fun hh3 => ?_)
       clear hP P hh2
       simp only [Act.put]
       refine tk 1 16 ⟨some 15, _, _, _, _, _⟩ (.int .i64 yi) rfl (by kernel_rfl) (by rfl) hh3 ?_ ?_
       ·intro w' _
        go_simp
       simp only [Act.put, setIfInBounds_toArray, set_cons_zero, set_cons_succ]
       refine tk 0 17 ⟨some 16, _, _, _, _, _⟩ (.bool yq) rfl (by kernel_rfl) (by rfl) hh3 ?_ ?_
       ·intro w' _
        go_simp
       simp only [Act.put, setIfInBounds_toArray, set_cons_zero, set_cons_succ]
       refine wpAnyH_done (by kernel_rfl) ?_ _
       refine NoPanic.normal ?_
       clear hh3
       go_wp2
       go_meet
       case rel => exact ⟨_, rfl, rfl, rfl, H13s.out⟩
    case rest =>
     obtain ⟨m14, rfl, rfl, rfl, h14⟩ := hcut
     have H14 := Lib.hid h14
     clear h14 H12 HFd
     obtain ⟨w14, rfl⟩ : ∃ w14 : World, w14 = wc := ⟨_, rfl⟩
     have c12 := H14.out.cells (List.mem_cons_of_mem _ (List.mem_append_right _ mz0))
     have c14 := H14.out.cells mz0
     have hqn := row_neq y
     obtain ⟨ysF, hyF, hPF⟩ := H14.out.drop.dropB.turn HX12.out
     have HPF := Lib.hid hPF
     have HYF := Lib.hid hyF
     clear hyF hPF H14 HX12
     go_wp2
     go_roundw
     case rel => exact ⟨j + 1, by omega, by go_num, _, _, _, HPF.out, HYF.out, HV2.out, HBk2.out, HNn.out⟩
     case measure => simp [intOf]; omega
  ·obtain rfl : j = l.length := by omega
   clear ho hp hi hbk hn HS
   go_wp2
   go_ret
   exact ⟨rfl, H5.out.below⟩

theorem cacheDoes_any (c : Cfg) (core : Int) (q : Option Addr) (cap : Nat) (l : List Stp) (w : World) (hc : c.fits) (hT : Tb w) (hs : StpsA w q l) : Calls Tryz.prog 3 #[cv c, .int .i64 core, .slice q l.length cap] w fun e w' => e = .returned (.bool true) ∧ Below w.heap.size w w' := by
 by_cases h : 60 < l.length
 ·exact does_long c core q cap l w hT h
 ·rcases Bool.eq_false_or_eq_true (largeB c) with hl | hl
  ·exact does_large c core q cap l w hT (by omega) hl
  ·by_cases hn : okC c = false ∨ core < 0 ∨ c.co ≤ core
   ·exact does_none c core q cap l w hc hT (by omega) hl hn
   ·have ok : okC c = true := by
     rcases Bool.eq_false_or_eq_true (okC c) with e | e
     ·exact e
     ·exact absurd (.inl e) hn
    exact does_walk c core q cap l w hc hT hs (by omega) hl ok (by omega) (by omega)

end Go.Proofs.YtlfhkjjjocmpbaaGreatDoor.Cc
