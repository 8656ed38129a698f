/-
  MemoryLast is true: the walk.
-/
import Derived.Test.YticfdkopephkkaaDoorMeI
import Derived.Test.YticfdkopephkkaaDoorMeN
namespace Go.Proofs.YticfdkopephkkaaDoor
open Go Go.RowKit

/-- The call's first three blocks: sizes, two operations. -/
structure H3 (w : World) (c : Cfg) (x y : Op) (wr : World) : Prop where
  c0 : wr.heap[w.heap.size]? = some (.cells (ccells c) 24 (0, 0))
  c1 : wr.heap[w.heap.size + 1]? = some (.cells (opcells x) 27 (0, 0))
  c2 : wr.heap[w.heap.size + 1 + 1]? = some (.cells (opcells y) 27 (0, 0))
  bl : Below w.heap.size w wr
theorem H3.new (w : World) (c : Cfg) (x y : Op) : H3 w c x y (((w.alloc (.cells (ccells c) 24)).alloc (.cells (opcells x) 27)).alloc (.cells (opcells y) 27)) := by
  have s1 : (w.alloc (.cells (ccells c) 24)).heap.size = w.heap.size + 1 := by simp
  have s2 : ((w.alloc (.cells (ccells c) 24)).alloc (.cells (opcells x) 27)).heap.size = w.heap.size + 1 + 1 := by simp
  have n0 := heap_alloc_new w (.cells (ccells c) 24)
  have n1 := heap_alloc_new (w.alloc (.cells (ccells c) 24)) (.cells (opcells x) 27)
  have n2 := heap_alloc_new ((w.alloc (.cells (ccells c) 24)).alloc (.cells (opcells x) 27)) (.cells (opcells y) 27)
  rw [s1] at n1
  rw [s2] at n2
  refine ⟨?_, ?_, n2, (((Below.refl _ w).alloc (Nat.le_refl _) _).alloc (by omega) _).alloc (by omega) _⟩
  · rw [heap_alloc_old _ _ (by omega), heap_alloc_old _ _ (by omega)]
    exact n0
  · rw [heap_alloc_old _ _ (by omega)]
    exact n1
theorem H3.step {w wr wr' : World} {c : Cfg} {x y : Op} (h : H3 w c x y wr) (hb : Below wr.heap.size wr wr') : H3 w c x y wr' :=
  ⟨(hb.block _ (lt_of_block h.c0)).trans h.c0, (hb.block _ (lt_of_block h.c1)).trans h.c1, (hb.block _ (lt_of_block h.c2)).trans h.c2, bstep h.bl hb⟩

set_option maxRecDepth 100000 in
set_option maxHeartbeats 8000000 in
theorem memoryLast_any (c : Cfg) (p : Option Addr) (cap : Nat) (l : List Stp) (x y : Op) (w : World) (hf : c.fits) (hT : Tb w) (hl : StepsA w p l) (hn : l.length ≤ 9223372036854775807) :
    Calls Tryd.prog 3 #[cv c, .slice p l.length cap, ov x, ov y] w fun e w' => e = .returned (.bool true) ∧ Below w.heap.size w w' := by
  obtain ⟨xk, xa, xv⟩ := x
  obtain ⟨yk, ya, yv⟩ := y
  have HT := Lib.hid hT
  have HL := Lib.hid hl
  have HF := Lib.hid hf
  clear hT hl hf
  have K0 := H3.new w c ⟨xk, xa, xv⟩ ⟨yk, ya, yv⟩
  go_enter Tryd.func3, Tryd.ntmps3
  go_wp2_with fail
  refine (awake12_any _ (HT.out.keeps K0.bl)).mono ?_
  rintro e w1 ⟨rfl, hb⟩
  have K1 := Lib.hid (K0.step hb)
  have TB := Lib.hid (HT.out.keeps K1.out.bl)
  have hcc := blk_cell K1.out.c0
  clear hb K0
  by_cases h60 : 60 < l.length
  · have HB := K1.out.bl
    clear K1 HT HL HF TB
    go_wp2
    go_ret
    exact ⟨rfl, HB⟩
  rcases Bool.eq_false_or_eq_true (okC c) with hok | hok
  · have HN := Lib.hid (newO (L0 := List.replicate (c.wo * c.li).toNat 0) HF.out hok HT.out K1.out.bl rfl)
    clear hok
    go_wp2_with fail
    refine HN.out.mono ?_
    rintro e w2 ⟨b, g, rfl, ho, hb, hg1, hg2⟩
    have k2 := K1.out.step hb
    have HO := Lib.hid ((ho.box k2.c2 (by have := lt_of_block K1.out.c2; omega)).box k2.c1 (by have := lt_of_block K1.out.c1; omega))
    clear ho hcc HN hb hg1 hg2 k2 TB HF
    go_wp2
    go_loopw [33] (fun i wr => ∃ k : Nat, k ≤ l.length ∧ i = .int .i64 k ∧ ∃ L, Own w b g c L [(w.heap.size + 1, .cells (opcells ⟨xk, xa, xv⟩) 27 (0, 0)), (w.heap.size + 1 + 1, .cells (opcells ⟨yk, ya, yv⟩) 27 (0, 0))] wr) (fun i _ => l.length - (intOf i).toNat)
    case atStart => exact ⟨0, Nat.zero_le _, rfl, _, HO.out⟩
    case round =>
      obtain ⟨k, hk, rfl, L, ho⟩ := hrel
      have H1 := Lib.hid ho
      clear ho HO
      by_cases hlt : k < l.length
      · obtain ⟨s, hx⟩ : ∃ x, l[k]? = some x := ⟨_, List.getElem?_eq_getElem hlt⟩
        obtain ⟨gl, off, rfl, hgl, hr⟩ := HL.out.step H1.out.bl k s hx
        have HR := Lib.hid hr
        have h2 := H1.out.newbox #[.int .i64 0, .int .i64 0, .int .i64 0, .int .i64 0, .int .i64 0, .int .i64 0, .int .i64 0, .int .i64 0, .int .i64 0, .int .i64 0, .int .i64 0, .int .i64 0, .int .i64 0] (stcells s) 36
        have hcs := blk_cell (h2.at (List.mem_cons_self ..))
        have H2 := Lib.hid h2
        clear hr hx h2
        rcases Bool.eq_false_or_eq_true (s.d == 0) with hs | hs
        · obtain ⟨n, q, M, hM⟩ : ∃ n q M, doP L s.x = ((n, q), M) := ⟨_, _, _, rfl⟩
          have HM := Lib.hid hM
          clear hM
          go_wp2_with (first
            | ((with_reducible refine wpList_load_mid (op := ⟨some 36, _, _, _, _, _⟩) rfl 36 (.tmp 35) rfl gl (off + k * 13) ?lx (stc s) _ ?lc Tryd.underlying36 ?ld ?li ?_); (case lx => rfl); (case lc => exact HR.out); (case ld => rfl); (case li => kernel_rfl))
            | ((with_reducible refine wpList_store_row (o := ⟨none, _, _, _, _, _⟩) rfl 36 (.tmp 12) (.tmp 36) rfl wr.heap.size (stcells s) ?sx ?sy 36 ?old ?sg ?si ?so ?s1 ?_); (case sx => rfl); (case sy => rfl); (case old => exact #[.int .i64 0, .int .i64 0, .int .i64 0, .int .i64 0, .int .i64 0, .int .i64 0, .int .i64 0, .int .i64 0, .int .i64 0, .int .i64 0, .int .i64 0, .int .i64 0, .int .i64 0]); (case sg => exact heap_alloc_new wr _); (case si => kernel_rfl); (case so => rfl); (case s1 => kernel_rfl); generalize (wr.alloc (.cells #[.int .i64 0, .int .i64 0, .int .i64 0, .int .i64 0, .int .i64 0, .int .i64 0, .int .i64 0, .int .i64 0, .int .i64 0, .int .i64 0, .int .i64 0, .int .i64 0, .int .i64 0] 36)).setRow wr.heap.size (stcells s) = w5 at *; generalize wr.heap.size = k5 at *)
            | (go_at_call 7; refine (H2.out.op s.x HM.out).mono ?_; rintro e w3 ⟨rfl, ho, -⟩; have H3 := Lib.hid ho.drop; clear ho))
          go_roundw
          case rel => exact ⟨k + 1, by omega, by go_num, _, H3.out⟩
          case measure => simp [intOf]; omega
        · obtain ⟨n, M, hM⟩ : ∃ n M, wrP c L s.n s.w = (n, M) := ⟨_, _, rfl⟩
          have HM := Lib.hid hM
          clear hM
          go_wp2_with (first
            | ((with_reducible refine wpList_load_mid (op := ⟨some 36, _, _, _, _, _⟩) rfl 36 (.tmp 35) rfl gl (off + k * 13) ?lx (stc s) _ ?lc Tryd.underlying36 ?ld ?li ?_); (case lx => rfl); (case lc => exact HR.out); (case ld => rfl); (case li => kernel_rfl))
            | ((with_reducible refine wpList_store_row (o := ⟨none, _, _, _, _, _⟩) rfl 36 (.tmp 12) (.tmp 36) rfl wr.heap.size (stcells s) ?sx ?sy 36 ?old ?sg ?si ?so ?s1 ?_); (case sx => rfl); (case sy => rfl); (case old => exact #[.int .i64 0, .int .i64 0, .int .i64 0, .int .i64 0, .int .i64 0, .int .i64 0, .int .i64 0, .int .i64 0, .int .i64 0, .int .i64 0, .int .i64 0, .int .i64 0, .int .i64 0]); (case sg => exact heap_alloc_new wr _); (case si => kernel_rfl); (case so => rfl); (case s1 => kernel_rfl); generalize (wr.alloc (.cells #[.int .i64 0, .int .i64 0, .int .i64 0, .int .i64 0, .int .i64 0, .int .i64 0, .int .i64 0, .int .i64 0, .int .i64 0, .int .i64 0, .int .i64 0, .int .i64 0, .int .i64 0] 36)).setRow wr.heap.size (stcells s) = w5 at *; generalize wr.heap.size = k5 at *)
            | (go_at_call 8; refine (H2.out.write s.n s.w HM.out).mono ?_; rintro e w3 ⟨rfl, ho, -⟩; have H3 := Lib.hid ho.drop; clear ho))
          go_roundw
          case rel => exact ⟨k + 1, by omega, by go_num, _, H3.out⟩
          case measure => simp [intOf]; omega
      · clear HL
        have hx := blk_cell (H1.out.at (k := w.heap.size + 1) (List.mem_cons_self ..))
        have hy := blk_cell (H1.out.at (k := w.heap.size + 1 + 1) (List.mem_cons_of_mem _ (List.mem_cons_self ..)))
        obtain ⟨u, hu⟩ : ∃ u, wrd L xa = u := ⟨_, rfl⟩
        have HU := Lib.hid hu
        by_cases hd : mayB ⟨xk, xa, xv⟩ = true ∧ inR xa L.length = true
        · obtain ⟨lf, hlf⟩ : ∃ lf, lft u ⟨xk, xa, xv⟩ = lf := ⟨_, rfl⟩
          obtain ⟨tl, htl⟩ : ∃ tl, tld u ⟨xk, xa, xv⟩ = tl := ⟨_, rfl⟩
          obtain ⟨L1, hL1⟩ : ∃ L1, L.set xa.toNat lf = L1 := ⟨_, rfl⟩
          have HE1 : Hid (doP L ⟨xk, xa, xv⟩ = ((tl, 0), L1)) := Lib.hid (by
            have := doP_yes (x := ⟨xk, xa, xv⟩) hd
            simp only [hu, hlf, htl, hL1] at this
            exact this)
          have HW1 : Hid (wrd L1 xa = lf) := Lib.hid (by rw [← hL1]; exact wrd_set hd.2 lf)
          obtain ⟨m0, m1, -, -, hkd⟩ := may_iff.1 hd.1
          have HLD : Hid (∀ M : List Int, M.length = L1.length → wrd M xa = lf → doP M ⟨1, xa, 0⟩ = ((lf, 0), M.set xa.toNat lf)) := Lib.hid (fun M hM hw => by
            have := doP_load M xa ⟨m0, m1⟩ (by rw [hM, ← hL1, List.length_set]; exact hd.2)
            rwa [hw] at this)
          clear hu hL1 hd m0 m1
          go_wp2_with fail
          refine (H1.out.word xa HU.out).mono ?_
          rintro e w3 ⟨rfl, rfl⟩
          go_wp2_with fail
          refine (H1.out.op ⟨xk, xa, xv⟩ HE1.out).mono ?_
          rintro e w4 ⟨rfl, ho, -⟩
          have H2 := Lib.hid ho
          clear ho hx hy H1 HU HE1
          have hx := blk_cell (H2.out.at (k := w.heap.size + 1) (List.mem_cons_self ..))
          have hy := blk_cell (H2.out.at (k := w.heap.size + 1 + 1) (List.mem_cons_of_mem _ (List.mem_cons_self ..)))
          have hkd' : xk = 1 ∨ xk = 2 ∨ xk = 3 ∨ xk = 4 := by omega
          clear hkd
          rcases hkd' with rfl | rfl | rfl | rfl
          all_goals
            simp [lft] at hlf
            simp [tld] at htl
            subst hlf htl
            go_wp2_with fail
            refine (H2.out.word xa HW1.out).mono ?_
            rintro e w5 ⟨rfl, rfl⟩
            rcases Bool.eq_false_or_eq_true (ya != xa) with hya | hya
            · obtain ⟨n2, q2, M2, hM2⟩ : ∃ n q M, doP L1 ⟨yk, ya, yv⟩ = ((n, q), M) := ⟨_, _, _, rfl⟩
              have HM2 := Lib.hid hM2
              have HE3 := Lib.hid (HLD.out M2 (by have := doP_len L1 ⟨yk, ya, yv⟩; rwa [hM2] at this) (by
                have := doP_other L1 ⟨yk, ya, yv⟩ xa (by simp at hya; exact fun e => hya e.symm)
                rw [hM2] at this
                exact this.trans HW1.out))
              clear hM2
              go_wp2_with fail
              refine (H2.out.op ⟨yk, ya, yv⟩ HM2.out).mono ?_
              rintro e w6 ⟨rfl, ho, -⟩
              have H3 := Lib.hid ho
              clear ho hx hy H2 HM2 HLD HW1
              have hx := blk_cell (H3.out.at (k := w.heap.size + 1) (List.mem_cons_self ..))
              go_wp2_with fail
              refine (H3.out.op ⟨1, xa, 0⟩ HE3.out).mono ?_
              rintro e w7 ⟨rfl, ho, -⟩
              have HB := ho.bl
              clear ho hx H3 HE3
              go_wp2
              go_ret
              exact ⟨rfl, HB⟩
            · have HE3 := Lib.hid (HLD.out L1 rfl HW1.out)
              go_wp2_with fail
              refine (H2.out.op ⟨1, xa, 0⟩ HE3.out).mono ?_
              rintro e w7 ⟨rfl, ho, -⟩
              have HB := ho.bl
              clear ho hx hy H2 HE3
              go_wp2
              go_ret
              exact ⟨rfl, HB⟩
        · have HE1 := Lib.hid (doP_no (x := ⟨xk, xa, xv⟩) hd)
          clear hu hd
          go_wp2_with fail
          refine (H1.out.word xa HU.out).mono ?_
          rintro e w3 ⟨rfl, rfl⟩
          go_wp2_with fail
          refine (H1.out.op ⟨xk, xa, xv⟩ HE1.out).mono ?_
          rintro e w4 ⟨rfl, ho, -⟩
          have H2 := Lib.hid ho
          clear ho hx hy H1 HE1
          have hx := blk_cell (H2.out.at (k := w.heap.size + 1) (List.mem_cons_self ..))
          go_wp2_with fail
          refine (H2.out.word xa HU.out).mono ?_
          rintro e w5 ⟨rfl, rfl⟩
          have HB := H2.out.bl
          clear hx H2 HU
          go_wp2
          go_ret
          exact ⟨rfl, HB⟩
  · have HN := Lib.hid (fun w => new_no c w HF.out hok)
    clear hok
    go_wp2_with fail
    refine (HN.out _).mono ?_
    rintro e w2 ⟨rfl, hb⟩
    have HB := bstep K1.out.bl hb
    clear K1 HT HL HF TB hb HN hcc
    go_wp2
    go_ret
    exact ⟨rfl, HB⟩

end Go.Proofs.YticfdkopephkkaaDoor
