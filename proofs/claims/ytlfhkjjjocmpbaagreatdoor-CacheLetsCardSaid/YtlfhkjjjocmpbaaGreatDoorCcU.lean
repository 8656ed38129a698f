/-
  CacheLets is true: the walk.
-/
import Derived.Test.YtlfhkjjjocmpbaaGreatDoorCcT
import Derived.Test.YtlfhkjjjocmpbaaGreatDoorCcP
namespace Go.Proofs.YtlfhkjjjocmpbaaGreatDoor.Cc
open Go Go.RowKit

variable {w w1 w' : World} {bx : Bx} {K : Kb} {c : Cfg} {core n : Int} {s : St}
set_option maxRecDepth 100000 in
set_option maxHeartbeats 4000000 in
theorem lets_long (c : Cfg) (core : Int) (q : Option Addr) (cap : Nat) (l : List Stp) (line who kind : Int) (w : World) (hT : Tb w) (h : 60 < l.length) : Calls Tryz.prog 7 #[cv c, .int .i64 core, .slice q l.length cap, .int .i64 line, .int .i64 who, .int .i64 kind] w fun e w' => e = .returned (.bool true) ∧ Below w.heap.size w w' := by
  have HB0 := Lib.hid (b_alloc w (.cells (ccells c) 24))
  have HAw := Lib.hid (awake_any (w.alloc (.cells (ccells c) 24)) (hT.keeps HB0.out))
  have g1 : (60 : Int) < l.length := by omega
  clear hT h
  go_enter Tryz.func7, Tryz.ntmps7
  go_wp2_with fail
  refine HAw.out.mono ?_
  rintro e w1 ⟨rfl, hb1⟩
  have HB1 := Lib.hid (HB0.out.trans (hb1.mono (by simp)))
  clear hb1
  go_wp2
  go_ret
  exact ⟨rfl, HB1.out⟩
set_option maxRecDepth 100000 in
set_option maxHeartbeats 4000000 in
theorem lets_large (c : Cfg) (core : Int) (q : Option Addr) (cap : Nat) (l : List Stp) (line who kind : Int) (w : World) (hT : Tb w) (h : l.length ≤ 60) (hl : largeB c = true) : Calls Tryz.prog 7 #[cv c, .int .i64 core, .slice q l.length cap, .int .i64 line, .int .i64 who, .int .i64 kind] w fun e w' => e = .returned (.bool true) ∧ Below w.heap.size w w' := by
  have HB0 := Lib.hid (b_alloc w (.cells (ccells c) 24))
  have HAw := Lib.hid (awake_any (w.alloc (.cells (ccells c) 24)) (hT.keeps HB0.out))
  have g1 : ¬ (60 : Int) < l.length := by omega
  have HL := Lib.hid (large_any c)
  rw [hl] at HL
  clear hT h hl
  go_enter Tryz.func7, Tryz.ntmps7
  go_wp2_with fail
  refine HAw.out.mono ?_
  rintro e w1 ⟨rfl, hb1⟩
  have HB1 := Lib.hid (HB0.out.trans (hb1.mono (by simp)))
  have hcc := c_cell ((hb1.block w.heap.size (by simp)).trans (heap_alloc_new w (.cells (ccells c) 24)))
  clear hb1
  go_wp2_with fail
  refine (HL.out _).mono ?_
  rintro e w2 ⟨rfl, hb2⟩
  have HB2 := Lib.hid (b_step HB1.out hb2)
  clear hb2 hcc
  go_wp2
  go_ret
  exact ⟨rfl, HB2.out⟩
set_option maxRecDepth 100000 in
set_option maxHeartbeats 4000000 in
theorem lets_none (c : Cfg) (core : Int) (q : Option Addr) (cap : Nat) (l : List Stp) (line who kind : Int) (w : World) (hc : c.fits) (hT : Tb w) (h : l.length ≤ 60) (hl : largeB c = false) (hn : okC c = false ∨ core < 0 ∨ c.co ≤ core) : Calls Tryz.prog 7 #[cv c, .int .i64 core, .slice q l.length cap, .int .i64 line, .int .i64 who, .int .i64 kind] w fun e w' => e = .returned (.bool true) ∧ Below w.heap.size w w' := by
  have HB0 := Lib.hid (b_alloc w (.cells (ccells c) 24))
  have HAw := Lib.hid (awake_any (w.alloc (.cells (ccells c) 24)) (hT.keeps HB0.out))
  have g1 : ¬ (60 : Int) < l.length := by omega
  have HL := Lib.hid (large_any c)
  rw [hl] at HL
  have HN : Hid (∀ w, Calls Tryz.prog 10 #[cv c, .int .i64 core] w (NoC w)) := Lib.hid (fun w => by
    rcases Bool.eq_false_or_eq_true (okC c) with ok | ok
    · exact cnew_core c core w hc ok (hn.resolve_left (by simp [ok]))
    · exact cnew_bad c core w hc ok)
  clear hc hT h hl hn
  go_enter Tryz.func7, Tryz.ntmps7
  go_wp2_with fail
  refine HAw.out.mono ?_
  rintro e w1 ⟨rfl, hb1⟩
  have HB1 := Lib.hid (HB0.out.trans (hb1.mono (by simp)))
  have hcc := c_cell ((hb1.block w.heap.size (by simp)).trans (heap_alloc_new w (.cells (ccells c) 24)))
  have HC1 := Lib.hid ((hb1.block w.heap.size (by simp)).trans (heap_alloc_new w (.cells (ccells c) 24)))
  clear hb1
  go_wp2_with fail
  refine (HL.out _).mono ?_
  rintro e w2 ⟨rfl, hb2⟩
  have HB2 := Lib.hid (b_step HB1.out hb2)
  have HC2 := Lib.hid ((hb2.block _ (lt_blk HC1.out)).trans HC1.out)
  have hcc2 := c_cell HC2.out
  clear hb2 hcc
  go_wp2_with fail
  refine (HN.out _).mono ?_
  rintro e w3 ⟨rfl, hb3⟩
  have HB3 := Lib.hid (b_step HB2.out hb3)
  clear hb3 hcc2
  go_wp2
  go_ret
  exact ⟨rfl, HB3.out⟩
set_option maxRecDepth 100000 in
set_option maxHeartbeats 4000000 in
theorem lets_kind (c : Cfg) (core : Int) (q : Option Addr) (cap : Nat) (l : List Stp) (line who kind : Int) (w : World) (hc : c.fits) (hT : Tb w) (h : l.length ≤ 60) (hl : largeB c = false) (ok : okC c = true) (h1 : 0 ≤ core) (h2 : core < c.co) (hk : ¬ (4 ≤ kind ∧ kind ≤ 6)) : Calls Tryz.prog 7 #[cv c, .int .i64 core, .slice q l.length cap, .int .i64 line, .int .i64 who, .int .i64 kind] w fun e w' => e = .returned (.bool true) ∧ Below w.heap.size w w' := by
  have HB0 := Lib.hid (b_alloc w (.cells (ccells c) 24))
  have HAw := Lib.hid (awake_any (w.alloc (.cells (ccells c) 24)) (hT.keeps HB0.out))
  have g1 : ¬ (60 : Int) < l.length := by omega
  have HL := Lib.hid (large_any c)
  rw [hl] at HL
  have HT := Lib.hid hT
  have HN := Lib.hid (fun (w2 w3 : World) (h : Below w2.heap.size w2 w3) (hb : Below w.heap.size w w2) => cnew_ok c core h (hT.keeps hb) hc ok h1 h2)
  clear hc hT h hl ok h1 h2
  rcases (show kind < 4 ∨ 4 ≤ kind ∧ 6 < kind by omega) with g | ⟨g, g2⟩
  all_goals
    clear hk
    go_enter Tryz.func7, Tryz.ntmps7
    go_wp2_with fail
    refine HAw.out.mono ?_
    rintro e w1 ⟨rfl, hb1⟩
    have HB1 := Lib.hid (HB0.out.trans (hb1.mono (by simp)))
    have hcc := c_cell ((hb1.block w.heap.size (by simp)).trans (heap_alloc_new w (.cells (ccells c) 24)))
    have HC1 := Lib.hid ((hb1.block w.heap.size (by simp)).trans (heap_alloc_new w (.cells (ccells c) 24)))
    clear hb1
    go_wp2_with fail
    refine (HL.out _).mono ?_
    rintro e w2 ⟨rfl, hb2⟩
    have HB2 := Lib.hid (b_step HB1.out hb2)
    have HC2 := Lib.hid ((hb2.block _ (lt_blk HC1.out)).trans HC1.out)
    have hcc2 := c_cell HC2.out
    clear hb2 hcc
    go_wp2_with fail
    refine (HN.out _ _ (Below.refl _ w2) HB2.out).mono ?_
    rintro e w3 ⟨K, rfl, ho, hb3⟩
    have H3 := Lib.hid (ho.rebase (w := w) (bx := [(w.heap.size, .cells (ccells c) 24)]) ⟨fun p hp => by obtain rfl := List.mem_singleton.1 hp; exact ⟨HC2.out, Nat.le_refl _⟩, by simp, HB2.out⟩ HT.out)
    clear ho hb3 hcc2
    go_wp2
    go_ret
    exact ⟨rfl, H3.out.below⟩
set_option maxRecDepth 100000 in
set_option maxHeartbeats 4000000 in
theorem lets_walk (c : Cfg) (core : Int) (q : Option Addr) (cap : Nat) (l : List Stp) (line who kind : Int) (w : World) (hc : c.fits) (hT : Tb w) (hs : StpsA w q l) (h : l.length ≤ 60) (hl : largeB c = false) (ok : okC c = true) (h1 : 0 ≤ core) (h2 : core < c.co) (hk : 4 ≤ kind ∧ kind ≤ 6) : Calls Tryz.prog 7 #[cv c, .int .i64 core, .slice q l.length cap, .int .i64 line, .int .i64 who, .int .i64 kind] w fun e w' => e = .returned (.bool true) ∧ Below w.heap.size w w' := by
  have HB0 := Lib.hid (b_alloc w (.cells (ccells c) 24))
  have HAw := Lib.hid (awake_any (w.alloc (.cells (ccells c) 24)) (hT.keeps HB0.out))
  have g1 : ¬ (60 : Int) < l.length := by omega
  have HL := Lib.hid (large_any c)
  rw [hl] at HL
  have HT := Lib.hid hT
  have HN := Lib.hid (fun (w2 w3 : World) (h : Below w2.heap.size w2 w3) (hb : Below w.heap.size w w2) => cnew_ok c core h (hT.keeps hb) hc ok h1 h2)
  have HS := Lib.hid hs
  have HI := Lib.hid (Inv.new ok)
  have g2 : ¬ kind < 4 := by omega
  have g3 : ¬ 6 < kind := by omega
  have HK := Lib.hid hk
  have HO := Lib.hid ok
  clear hc hT hl ok h1 h2 hs hk
  go_enter Tryz.func7, Tryz.ntmps7
  go_wp2_with fail
  refine HAw.out.mono ?_
  rintro e w1 ⟨rfl, hb1⟩
  have HB1 := Lib.hid (HB0.out.trans (hb1.mono (by simp)))
  have hcc := c_cell ((hb1.block w.heap.size (by simp)).trans (heap_alloc_new w (.cells (ccells c) 24)))
  have HC1 := Lib.hid ((hb1.block w.heap.size (by simp)).trans (heap_alloc_new w (.cells (ccells c) 24)))
  clear hb1
  go_wp2_with fail
  refine (HL.out _).mono ?_
  rintro e w2 ⟨rfl, hb2⟩
  have HB2 := Lib.hid (b_step HB1.out hb2)
  have HC2 := Lib.hid ((hb2.block _ (lt_blk HC1.out)).trans HC1.out)
  have hcc2 := c_cell HC2.out
  clear hb2 hcc
  go_wp2_with fail
  refine (HN.out _ _ (Below.refl _ w2) HB2.out).mono ?_
  rintro e w3 ⟨K, rfl, ho, hb3⟩
  have H3 := Lib.hid (ho.rebase (w := w) (bx := [(w.heap.size, .cells (ccells c) 24)]) ⟨fun p hp => by obtain rfl := List.mem_singleton.1 hp; exact ⟨HC2.out, Nat.le_refl _⟩, by simp, HB2.out⟩ HT.out)
  clear ho hb3 hcc2
  go_wp2
  go_loopw [56] (fun i wr => ∃ k : Nat, k ≤ l.length ∧ i = .int .i64 k ∧ ∃ s n, OwnP w K c core n s [(w.heap.size, .cells (ccells c) 24)] wr ∧ Inv c s ∧ n ≤ 2 * (k : Int)) (fun i _ => l.length - (intOf i).toNat)
  case atStart => exact ⟨0, Nat.zero_le _, rfl, _, _, H3.out, HI.out, by omega⟩
  case round =>
    obtain ⟨k, hk, rfl, s, n, ho, hi, hn⟩ := hrel
    have H4 := Lib.hid ho
    have HV := Lib.hid hi
    clear ho hi H3
    by_cases hlt : k < l.length
    · obtain ⟨x, hx⟩ : ∃ x, l[k]? = some x := ⟨_, List.getElem?_eq_getElem hlt⟩
      obtain ⟨gl, off, rfl, hgl, hr⟩ := HS.out.step H4.out.below k x hx
      have HR := Lib.hid hr
      have h5 := H4.out.addRow #[.int .i64 0, .int .i64 0, .int .i64 0, .int .i64 0, .int .i64 0, .int .i64 0, .int .i64 0, .int .i64 0, .int .i64 0, .int .i64 0, .int .i64 0, .int .i64 0, .int .i64 0, .int .i64 0, .int .i64 0, .int .i64 0, .int .i64 0, .int .i64 0, .int .i64 0, .int .i64 0, .int .i64 0] (scells x) 45
      have hb5 := h5.box (List.mem_cons_self ..)
      have H5 := Lib.hid h5
      have HB5 := Lib.hid hb5
      have HNn : Hid (n ≤ 900 ∧ n + 2 ≤ 2 * ((k + 1 : Nat) : Int)) := Lib.hid (by omega)
      clear hr hx h5 hn hb5
      go_wp2_with (first
        | ((with_reducible refine wpList_load_mid (op := ⟨some 59, _, _, _, _, _⟩) rfl 45 (.tmp 58) rfl gl (off + k * 21) ?lx (stc x) _ ?lc Tryz.underlying45 ?ld ?li ?_); (case lx => rfl); (case lc => exact HR.out); (case ld => rfl); (case li => kernel_rfl))
        | ((with_reducible refine wpList_store_row (o := ⟨none, _, _, _, _, _⟩) rfl 45 (.tmp 16) (.tmp 59) rfl wr.heap.size (scells x) ?sx ?sy 45 ?old ?sg ?si ?so ?s1 ?_); (case sx => rfl); (case sy => rfl); (case old => exact #[.int .i64 0, .int .i64 0, .int .i64 0, .int .i64 0, .int .i64 0, .int .i64 0, .int .i64 0, .int .i64 0, .int .i64 0, .int .i64 0, .int .i64 0, .int .i64 0, .int .i64 0, .int .i64 0, .int .i64 0, .int .i64 0, .int .i64 0, .int .i64 0, .int .i64 0, .int .i64 0, .int .i64 0]); (case sg => exact heap_alloc_new wr _); (case si => kernel_rfl); (case so => rfl); (case s1 => kernel_rfl))
        | ((with_reducible refine wpList_load_row (o := ⟨some 61, _, _, _, _, _⟩) rfl 45 (.tmp 16) rfl wr.heap.size ?lx 45 (scells x) (0, 0) _ ?lg Tryz.underlying45 ?ld ?li ?_); (case lx => rfl); (case lg => exact HB5.out); (case ld => rfl); (case li => kernel_rfl))
        | (go_at_call 12; refine (H5.out.stp HNn.out.1 x).mono ?_; rintro e w6 ⟨rfl, ho⟩; have H6 := Lib.hid ho.drop; clear ho))
      go_roundw
      case rel => exact ⟨k + 1, by omega, by go_num, _, _, H6.out, HV.out.stp x, HNn.out.2⟩
      case measure => simp [intOf]; omega
    · clear HS
      rcases Bool.eq_false_or_eq_true (lnOk c line) with hl | hl
      · obtain ⟨ha, hL, hm, a0, a1, hj1, hj2⟩ := line_addr hl
        obtain ⟨hok, l0, l1⟩ := ok_of_lnOk hl
        obtain ⟨hh1, hh2⟩ := (ok_pows c hok).2.1.2
        have hne : (c.ho == 0) = false := by simp; omega
        have hr1 : 0 ≤ line % c.ho := Int.emod_nonneg _ (by omega)
        have hD1 : doP c s ⟨1, line * c.wo, 0⟩ = ((doP c s ⟨1, line * c.wo, 0⟩).1, s) := by rw [do_load_at hl]
        obtain ⟨L1, L2, L3⟩ := HV.out.lets (core := core) (who := who) hl HK.out (line % c.ho)
        have hD2 : ∀ s2 : St, doP c s2 ⟨1, line * c.wo, 0⟩ = ((doP c s2 ⟨1, line * c.wo, 0⟩).1, s2) := fun s2 => by rw [do_load_at hl]
        have HNn : Hid (n ≤ 900) := Lib.hid (by omega)
        have HJ := Lib.hid (fun wr (h : OwnP w K c core n s [(w.heap.size, .cells (ccells c) 24)] wr) => split_join h line)
        rw [hj1, hj2] at HJ
        generalize line * c.wo = adr at *
        generalize hR1 : (doP c s ⟨1, adr, 0⟩).1 = r1 at *
        generalize hT0 : takeP c core s (msg kind line (line % c.ho) core who 0 0 d0) = t at *
        have hE2 := hD2 t.2
        generalize hR2 : (doP c t.2 ⟨1, adr, 0⟩).1 = r2 at *
        generalize hR3 : doP c t.2 ⟨3, adr, 0⟩ = r3 at *
        obtain ⟨was, f1⟩ := r1
        obtain ⟨now, f2⟩ := r2
        obtain ⟨⟨mm, is, er⟩, s2⟩ := t
        obtain ⟨⟨nn, f3⟩, s3⟩ := r3
        have HD1 := Lib.hid (fun (wr : World) bx (h : OwnP w K c core n s bx wr) => (by have q := h.doX ⟨1, adr, 0⟩; rw [hD1] at q; exact q : Calls Tryz.prog 20 #[ptr K.k, Pg.ov ⟨1, adr, 0⟩] wr fun e w' => e = .returned (.tuple #[.int .i64 was, .int .i64 f1]) ∧ OwnP w K c core n s bx w'))
        have HTk := Lib.hid (fun (wr : World) bx (h : OwnP w K c core n s bx wr) => (by have q := h.take HNn.out (msg kind line (line % c.ho) core who 0 0 d0); rw [hT0] at q; exact q : Calls Tryz.prog 23 #[ptr K.k, mv (msg kind line (line % c.ho) core who 0 0 d0)] wr (RetT (mm, is, er) (OwnP w K c core (n + 2) s2 bx))))
        have HD2 := Lib.hid (fun (wr : World) bx (h : OwnP w K c core (n + 2) s2 bx wr) => (by have q := h.doX ⟨1, adr, 0⟩; rw [hE2] at q; exact q : Calls Tryz.prog 20 #[ptr K.k, Pg.ov ⟨1, adr, 0⟩] wr fun e w' => e = .returned (.tuple #[.int .i64 now, .int .i64 f2]) ∧ OwnP w K c core (n + 2) s2 bx w'))
        have HD3 := Lib.hid (fun (wr : World) bx (h : OwnP w K c core (n + 2) s2 bx wr) => (by have q := h.doX ⟨3, adr, 0⟩; rw [hR3] at q; exact q : Calls Tryz.prog 20 #[ptr K.k, Pg.ov ⟨3, adr, 0⟩] wr fun e w' => e = .returned (.tuple #[.int .i64 nn, .int .i64 f3]) ∧ OwnP w K c core (n + 2) s3 bx w'))
        have hcc := H4.out.cells (List.mem_cons_self ..)
        have h0l : 0 ≤ line := l0
        have HW : Hid ((er != 0) = true ∧ (was, f1) = (now, f2) ∨ (er != 0) = false ∧ ((kind != 4) = true ∧ f2 = 5 ∨ (kind != 4) = false ∧ (was, f1) = (now, f2) ∧ f3 = 5)) := Lib.hid (by
          by_cases e0 : er = 0
          · refine .inr ⟨by simpa using e0, ?_⟩
            by_cases e4 : kind = 4
            · obtain ⟨q1, q2⟩ := L3 e0 e4
              exact .inr ⟨by simpa using e4, q1.symm, q2⟩
            · exact .inl ⟨by simpa using e4, L2 e0 e4⟩
          · exact .inl ⟨by simpa using e0, (L1 e0).symm⟩)
        clear hl ha hL hm a0 a1 hj1 hj2 hok l1 hD1 L1 L2 L3 hD2 hE2 hT0 hR1 hR2 hR3 hn
        go_wp2_with fail
        refine (HJ.out _ H4.out).mono ?_
        rintro e w5 ⟨rfl, hb5⟩
        have H5 := Lib.hid ((H4.out.step hb5).add (.cells #[.int .i64 1, .int .i64 adr, .int .i64 0] 43))
        have hop := H5.out.cells (List.mem_cons_self ..)
        clear hb5 hcc H4
        go_wp2_with fail
        refine (HD1.out _ _ H5.out).mono ?_
        rintro e w6 ⟨rfl, ho⟩
        have H6 := Lib.hid ho
        have hcc := H6.out.cells (List.mem_cons_of_mem _ (List.mem_cons_self ..))
        clear ho hop H5
        go_wp2_with fail
        refine (HTk.out _ _ H6.out).mono ?_
        rintro e w7 ⟨rfl, ho⟩
        have H7 := Lib.hid (ho.add (.cells (mcells mm) 38))
        have hop := H7.out.cells (List.mem_cons_of_mem _ (List.mem_cons_self ..))
        clear ho hcc H6
        go_wp2_with fail
        refine (HD2.out _ _ H7.out).mono ?_
        rintro e w8 ⟨rfl, ho⟩
        have H8 := Lib.hid ho
        clear ho hop H7
        rcases HW.out with ⟨e1, e2⟩ | ⟨e1, ⟨e4, e5⟩ | ⟨e4, e2, e5⟩⟩
        · obtain ⟨rfl, rfl⟩ := (by simpa using e2 : was = now ∧ f1 = f2)
          clear e2
          go_wp2
          go_ret
          exact ⟨rfl, H8.out.below⟩
        · subst e5
          go_wp2
          go_ret
          exact ⟨rfl, H8.out.below⟩
        · obtain ⟨rfl, rfl⟩ := (by simpa using e2 : was = now ∧ f1 = f2)
          subst e5
          clear e2
          go_wp2_with fail
          refine (HD3.out _ _ H8.out).mono ?_
          rintro e w9 ⟨rfl, ho⟩
          have H9 := Lib.hid ho
          clear ho H8
          go_wp2
          go_ret
          exact ⟨rfl, H9.out.below⟩
      · have HJ := Lib.hid (fun wr (h : OwnP w K c core n s [(w.heap.size, .cells (ccells c) 24)] wr) => split_join h line)
        have hj := joOk_no1 (x := 0) hl
        rw [hj.1, hj.2] at HJ
        have hcc := H4.out.cells (List.mem_cons_self ..)
        clear hl hj hn
        go_wp2_with fail
        refine (HJ.out _ H4.out).mono ?_
        rintro e w5 ⟨rfl, hb5⟩
        have H5 := Lib.hid (H4.out.step hb5)
        clear hb5 hcc H4
        go_wp2
        go_ret
        exact ⟨rfl, H5.out.below⟩

/-- CacheLets. -/
theorem cacheLets_any (c : Cfg) (core : Int) (q : Option Addr) (cap : Nat) (l : List Stp) (line who kind : Int) (w : World) (hc : c.fits) (hT : Tb w) (hs : StpsA w q l) : Calls Tryz.prog 7 #[cv c, .int .i64 core, .slice q l.length cap, .int .i64 line, .int .i64 who, .int .i64 kind] w fun e w' => e = .returned (.bool true) ∧ Below w.heap.size w w' := by
  by_cases h : 60 < l.length
  · exact lets_long c core q cap l line who kind w hT h
  · rcases Bool.eq_false_or_eq_true (largeB c) with hl | hl
    · exact lets_large c core q cap l line who kind w hT (by omega) hl
    · by_cases hn : okC c = false ∨ core < 0 ∨ c.co ≤ core
      · exact lets_none c core q cap l line who kind w hc hT (by omega) hl hn
      · have ok : okC c = true := by
          rcases Bool.eq_false_or_eq_true (okC c) with e | e
          · exact e
          · exact absurd (.inl e) hn
        by_cases hk : 4 ≤ kind ∧ kind ≤ 6
        · exact lets_walk c core q cap l line who kind w hc hT hs (by omega) hl ok (by omega) (by omega) hk
        · exact lets_kind c core q cap l line who kind w hc hT (by omega) hl ok (by omega) (by omega) hk

end Go.Proofs.YtlfhkjjjocmpbaaGreatDoor.Cc
