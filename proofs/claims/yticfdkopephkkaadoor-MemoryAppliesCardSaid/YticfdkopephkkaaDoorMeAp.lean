/-
  MemoryApplies is true: the walk.
-/
import Derived.Test.YticfdkopephkkaaDoorMeI
import Derived.Test.YticfdkopephkkaaDoorMeN
namespace Go.Proofs.YticfdkopephkkaaDoor
open Go Go.RowKit

/-- The call's first two blocks: sizes, an operation. -/
structure H2b (w : World) (c : Cfg) (x : Op) (wr : World) : Prop where
  c0 : wr.heap[w.heap.size]? = some (.cells (ccells c) 24 (0, 0))
  c1 : wr.heap[w.heap.size + 1]? = some (.cells (opcells x) 27 (0, 0))
  bl : Below w.heap.size w wr
theorem H2b.new (w : World) (c : Cfg) (x : Op) : H2b w c x ((w.alloc (.cells (ccells c) 24)).alloc (.cells (opcells x) 27)) := by
  have s1 : (w.alloc (.cells (ccells c) 24)).heap.size = w.heap.size + 1 := by simp
  have n0 := heap_alloc_new w (.cells (ccells c) 24)
  have n1 := heap_alloc_new (w.alloc (.cells (ccells c) 24)) (.cells (opcells x) 27)
  rw [s1] at n1
  refine ⟨?_, n1, ((Below.refl _ w).alloc (Nat.le_refl _) _).alloc (by omega) _⟩
  rw [heap_alloc_old _ _ (by omega)]
  exact n0
theorem H2b.step {w wr wr' : World} {c : Cfg} {x : Op} (h : H2b w c x wr) (hb : Below wr.heap.size wr wr') : H2b w c x wr' :=
  ⟨(hb.block _ (lt_of_block h.c0)).trans h.c0, (hb.block _ (lt_of_block h.c1)).trans h.c1, bstep h.bl hb⟩
theorem twoO {w w1 w2 w3 : World} {b g b2 g2 : Nat} {c : Cfg} {x : Op} {L : List Int} (k : H2b w c x w1) (h : Own w b g c L [] w2) (hb : Below w1.heap.size w1 w2) (hg : w1.heap.size ≤ g) (h2 : Own w b2 g2 c L [] w3) (hb2 : Below w2.heap.size w2 w3) (h2b : w2.heap.size ≤ b2) (h2g : w2.heap.size ≤ g2) :
    Two w b g b2 g2 c L L [(w.heap.size + 1, .cells (opcells x) 27 (0, 0)), (w.heap.size, .cells (ccells c) 24 (0, 0))] w3 := by
  have hgl := h.mm.gl
  have hbl := h.mm.bl
  have k3 := (k.step hb).step hb2
  have l0 := lt_of_block k.c0
  have l1 := lt_of_block k.c1
  have hs := hb.size
  exact ((⟨h.step hb2, h2, by omega, by omega, by omega⟩ : Two w b g b2 g2 c L L [] w3).box k3.c0 (by omega) (by omega)).box k3.c1 (by omega) (by omega)
/-- What the walk needs of an address and its words. -/
theorem app_facts {c : Cfg} {L : List Int} (s : Sized c L) {x : Op} (h : adOk c x.a = true) (hm : mayB x = true) (hk : x.k ≠ 4) :
    ∃ (ln : Int) (m : Nat) (D1 D2 : Wd) (u tl : Int) (L1 : List Int), adL c x.a = ln ∧ adW c x.a = (m : Int) ∧ m < 8 ∧ adE c x.a = 0 ∧ lnP c L ln = (D1, 0) ∧ D1.at m = u ∧ wrd L x.a = u ∧ apP c D1 x = (D2, tl, 0) ∧ wrP c L ln D2 = (0, L1) ∧ doP L x = ((tl, 0), L1) := by
  obtain ⟨A, N, e1, e2, h1, h8, hl, e4, e5, hmod, hsum, hle, hlt, ea, eb⟩ := addr_in s h
  obtain ⟨p1, p2⟩ := line_word s h
  obtain ⟨q1, q2, q3⟩ := applied s h hm hk
  refine ⟨x.a / c.wo, (x.a % c.wo).toNat, _, _, wrd L x.a, _, _, by simp [adL, h], ?_, by omega, by simp [adE, h], p1, p2, rfl, q1, q2, q3⟩
  have : adW c x.a = x.a % c.wo := by simp [adW, h]
  rw [this, eb, Int.toNat_natCast]
theorem app_bad {c : Cfg} {x : Op} (h : ¬ (adOk c x.a = true ∧ mayB x = true ∧ x.k ≠ 4)) : apP c d0 x = (d0, 0, 1) := if_neg h
theorem word_at (d : Wd) (k : Nat) (hk : k < 8) : (dcells d)[k]? = some (.int .i64 (d.at k)) := word_cell d k hk

set_option maxRecDepth 100000 in
set_option maxHeartbeats 8000000 in
theorem memoryApplies_any (c : Cfg) (p : Option Addr) (cap : Nat) (l : List Stp) (x : Op) (w : World) (hf : c.fits) (hT : Tb w) (hl : StepsA w p l) (hn : l.length ≤ 9223372036854775807) :
    Calls Tryd.prog 4 #[cv c, .slice p l.length cap, ov x] w fun e w' => e = .returned (.bool true) ∧ Below w.heap.size w w' := by
  obtain ⟨xk, xa, xv⟩ := x
  have HT := Lib.hid hT
  have HL := Lib.hid hl
  have HF := Lib.hid hf
  clear hT hl hf
  have K0 := H2b.new w c ⟨xk, xa, xv⟩
  go_enter Tryd.func4, Tryd.ntmps4
  go_wp2_with fail
  refine (awake12_any _ (HT.out.keeps K0.bl)).mono ?_
  rintro e w1 ⟨rfl, hb⟩
  have K1 := Lib.hid (K0.step hb)
  have hcc := blk_cell K1.out.c0
  clear hb K0
  by_cases h60 : 60 < l.length
  · have HB := K1.out.bl
    clear K1 HT HL HF
    go_wp2
    go_ret
    exact ⟨rfl, HB⟩
  rcases Bool.eq_false_or_eq_true (okC c) with hok | hok
  · have HN := Lib.hid (fun w1 hb => newO (w := w) (wr := w1) (L0 := List.replicate (c.wo * c.li).toNat 0) HF.out hok HT.out hb rfl)
    clear hok
    go_wp2_with fail
    refine (HN.out _ K1.out.bl).mono ?_
    rintro e w2 ⟨b, g, rfl, ho, hb, -, hg⟩
    have hcc2 := blk_cell (K1.out.step hb).c0
    clear hcc
    have HO1 := Lib.hid ho
    have HB1 := Lib.hid hb
    have HG1 := Lib.hid hg
    clear ho hb hg
    go_wp2_with fail
    refine (HN.out _ HO1.out.bl).mono ?_
    rintro e w3 ⟨b2, g2, rfl, ho, hb, hbb, hg⟩
    have HO := Lib.hid (twoO K1.out HO1.out HB1.out HG1.out ho hb hbb hg)
    clear ho hb hbb hg HO1 HB1 HG1 HN hcc2 K1
    go_wp2
    go_loopw [59] (fun i wr => ∃ k : Nat, k ≤ l.length ∧ i = .int .i64 k ∧ ∃ L, Two w b g b2 g2 c L L [(w.heap.size + 1, .cells (opcells ⟨xk, xa, xv⟩) 27 (0, 0)), (w.heap.size, .cells (ccells c) 24 (0, 0))] wr) (fun i _ => l.length - (intOf i).toNat)
    case atStart => exact ⟨0, Nat.zero_le _, rfl, _, HO.out⟩
    case round =>
      obtain ⟨k, hk, rfl, L, ho⟩ := hrel
      have H1 := Lib.hid ho
      clear ho HO
      by_cases hlt : k < l.length
      · obtain ⟨s, hx⟩ : ∃ x, l[k]? = some x := ⟨_, List.getElem?_eq_getElem hlt⟩
        obtain ⟨gl, off, rfl, hgl, hr⟩ := HL.out.step H1.out.l.bl k s hx
        have HR := Lib.hid hr
        have h2 := H1.out.newbox #[.int .i64 0, .int .i64 0, .int .i64 0, .int .i64 0, .int .i64 0, .int .i64 0, .int .i64 0, .int .i64 0, .int .i64 0, .int .i64 0, .int .i64 0, .int .i64 0, .int .i64 0] (stcells s) 36
        have hcs := blk_cell (h2.l.at (List.mem_cons_self ..))
        have H2 := Lib.hid h2
        clear hr hx h2
        rcases Bool.eq_false_or_eq_true (s.d == 0) with hs | hs
        · obtain ⟨n, q, M, hM⟩ : ∃ n q M, doP L s.x = ((n, q), M) := ⟨_, _, _, rfl⟩
          have HM := Lib.hid hM
          clear hM
          go_wp2_with (first
            | ((with_reducible refine wpList_load_mid (op := ⟨some 62, _, _, _, _, _⟩) rfl 36 (.tmp 61) rfl gl (off + k * 13) ?lx (stc s) _ ?lc Tryd.underlying36 ?ld ?li ?_); (case lx => rfl); (case lc => exact HR.out); (case ld => rfl); (case li => kernel_rfl))
            | ((with_reducible refine wpList_store_row (o := ⟨none, _, _, _, _, _⟩) rfl 36 (.tmp 12) (.tmp 62) rfl wr.heap.size (stcells s) ?sx ?sy 36 ?old ?sg ?si ?so ?s1 ?_); (case sx => rfl); (case sy => rfl); (case old => exact #[.int .i64 0, .int .i64 0, .int .i64 0, .int .i64 0, .int .i64 0, .int .i64 0, .int .i64 0, .int .i64 0, .int .i64 0, .int .i64 0, .int .i64 0, .int .i64 0, .int .i64 0]); (case sg => exact heap_alloc_new wr _); (case si => kernel_rfl); (case so => rfl); (case s1 => kernel_rfl); generalize (wr.alloc (.cells #[.int .i64 0, .int .i64 0, .int .i64 0, .int .i64 0, .int .i64 0, .int .i64 0, .int .i64 0, .int .i64 0, .int .i64 0, .int .i64 0, .int .i64 0, .int .i64 0, .int .i64 0] 36)).setRow wr.heap.size (stcells s) = w5 at *; generalize wr.heap.size = k5 at *))
          refine (H2.out.l.op s.x HM.out).mono ?_
          rintro e w6 ⟨rfl, ho, ht⟩
          have H3 := Lib.hid (H2.out.turnL ho ht)
          clear ho ht hcs H2
          have hcs := blk_cell (H3.out.l.at (List.mem_cons_self ..))
          go_wp2_with fail
          refine (H3.out.r.op s.x HM.out).mono ?_
          rintro e w7 ⟨rfl, ho, ht⟩
          have H4 := Lib.hid (H3.out.turnR ho ht).drop
          clear ho ht hcs H3
          go_wp2
          go_roundw
          case rel => exact ⟨k + 1, by omega, by go_num, _, H4.out⟩
          case measure => simp [intOf]; omega
        · obtain ⟨n, M, hM⟩ : ∃ n M, wrP c L s.n s.w = (n, M) := ⟨_, _, rfl⟩
          have HM := Lib.hid hM
          clear hM
          go_wp2_with (first
            | ((with_reducible refine wpList_load_mid (op := ⟨some 62, _, _, _, _, _⟩) rfl 36 (.tmp 61) rfl gl (off + k * 13) ?lx (stc s) _ ?lc Tryd.underlying36 ?ld ?li ?_); (case lx => rfl); (case lc => exact HR.out); (case ld => rfl); (case li => kernel_rfl))
            | ((with_reducible refine wpList_store_row (o := ⟨none, _, _, _, _, _⟩) rfl 36 (.tmp 12) (.tmp 62) rfl wr.heap.size (stcells s) ?sx ?sy 36 ?old ?sg ?si ?so ?s1 ?_); (case sx => rfl); (case sy => rfl); (case old => exact #[.int .i64 0, .int .i64 0, .int .i64 0, .int .i64 0, .int .i64 0, .int .i64 0, .int .i64 0, .int .i64 0, .int .i64 0, .int .i64 0, .int .i64 0, .int .i64 0, .int .i64 0]); (case sg => exact heap_alloc_new wr _); (case si => kernel_rfl); (case so => rfl); (case s1 => kernel_rfl); generalize (wr.alloc (.cells #[.int .i64 0, .int .i64 0, .int .i64 0, .int .i64 0, .int .i64 0, .int .i64 0, .int .i64 0, .int .i64 0, .int .i64 0, .int .i64 0, .int .i64 0, .int .i64 0, .int .i64 0] 36)).setRow wr.heap.size (stcells s) = w5 at *; generalize wr.heap.size = k5 at *))
          refine (H2.out.l.write s.n s.w HM.out).mono ?_
          rintro e w6 ⟨rfl, ho, ht⟩
          have H3 := Lib.hid (H2.out.turnL ho ht)
          clear ho ht hcs H2
          have hcs := blk_cell (H3.out.l.at (List.mem_cons_self ..))
          go_wp2_with fail
          refine (H3.out.r.write s.n s.w HM.out).mono ?_
          rintro e w7 ⟨rfl, ho, ht⟩
          have H4 := Lib.hid (H3.out.turnR ho ht).drop
          clear ho ht hcs H3
          go_wp2
          go_roundw
          case rel => exact ⟨k + 1, by omega, by go_num, _, H4.out⟩
          case measure => simp [intOf]; omega
      · clear HL
        have hx := blk_cell (H1.out.l.at (k := w.heap.size + 1) (List.mem_cons_self ..))
        have hcc := blk_cell (H1.out.l.at (k := w.heap.size) (List.mem_cons_of_mem _ (List.mem_cons_self ..)))
        have HA := Lib.hid (addr_any c xa wr HF.out H1.out.l.tbr)
        by_cases hgood : adOk c xa = true ∧ mayB ⟨xk, xa, xv⟩ = true ∧ xk ≠ 4
        · obtain ⟨ln, m, D1, D2, u, tl, L1, f1, f2, f3, f4, f5, f6, f7, f8, f9, f10⟩ := app_facts (x := ⟨xk, xa, xv⟩) H1.out.l.mm.sz hgood.1 hgood.2.1 hgood.2.2
          simp only at f1 f2 f4 f7
          rw [f1, f2, f4] at HA
          have F5 := Lib.hid f5
          have F7 := Lib.hid f7
          have F8 := Lib.hid f8
          have F9 := Lib.hid f9
          have F10 := Lib.hid f10
          have FM : Hid ((dcells D1)[m]? = some (.int .i64 u)) := Lib.hid (by rw [← f6]; exact word_at D1 m f3)
          have HM := Lib.hid (fun w => may_any ⟨xk, xa, xv⟩ w)
          rw [hgood.2.1] at HM
          have hk4 : (xk == 4) = false := by simpa using hgood.2.2
          have hm0 : (0 : Int) ≤ (m : Int) := by omega
          have hm8 : (m : Int) < 8 := by omega
          clear f1 f2 f3 f4 f5 f6 f7 f8 f9 f10 hgood
          go_wp2_with fail
          refine HA.out.mono ?_
          rintro e w4 ⟨rfl, hb⟩
          have H2 := Lib.hid (H1.out.step hb)
          clear hb hcc hx H1 HA
          have hx := blk_cell (H2.out.l.at (k := w.heap.size + 1) (List.mem_cons_self ..))
          go_wp2_with fail
          refine (HM.out _).mono ?_
          rintro e w5 ⟨rfl, hb⟩
          have H3 := Lib.hid (H2.out.step hb)
          clear hb hx H2 HM
          have hx := blk_cell (H3.out.l.at (k := w.heap.size + 1) (List.mem_cons_self ..))
          go_wp2_with fail
          refine (H3.out.l.line ln F5.out).mono ?_
          rintro e w6 ⟨rfl, hb⟩
          have h4 := (H3.out.step hb).newbox #[.int .i64 0, .int .i64 0, .int .i64 0, .int .i64 0, .int .i64 0, .int .i64 0, .int .i64 0, .int .i64 0] (dcells D1) 34
          have hk6 : w.heap.size ≤ w6.heap.size := (H3.out.step hb).l.bl.size
          have hkb : b ≠ w6.heap.size ∧ b2 ≠ w6.heap.size ∧ w.heap.size + 1 ≠ w6.heap.size ∧ w.heap.size ≠ w6.heap.size := by
            have q := H3.out.step hb
            have q1 := q.l.mm.bl
            have q2 := q.r.mm.bl
            have q3 := lt_of_block (q.l.at (k := w.heap.size + 1) (List.mem_cons_self ..))
            omega
          have HKB := Lib.hid hkb
          have HK6 := Lib.hid hk6
          have hDm := (blk_cell (h4.l.at (List.mem_cons_self ..)) m).trans FM.out
          have H4 := Lib.hid h4
          clear h4 hb hx H3 hk6 hkb
          have hx := blk_cell (H4.out.l.at (k := w.heap.size + 1) (List.mem_cons_of_mem _ (List.mem_cons_self ..)))
          go_wp2_with ((with_reducible refine wpList_store_row (o := ⟨none, _, _, _, _, _⟩) rfl 34 (.tmp 19) (.tmp 121) rfl w6.heap.size (dcells D1) ?sx ?sy 34 ?old ?sg ?si ?so ?s1 ?_); (case sx => rfl); (case sy => rfl); (case old => exact dcells d0); (case sg => exact heap_alloc_new w6 _); (case si => kernel_rfl); (case so => rfl); (case s1 => kernel_rfl); generalize (w6.alloc (.cells #[.int .i64 0, .int .i64 0, .int .i64 0, .int .i64 0, .int .i64 0, .int .i64 0, .int .i64 0, .int .i64 0] 34)).setRow w6.heap.size (dcells D1) = w6n at *; generalize w6.heap.size = k6 at *)
          have HWQ := Lib.hid (fun n => ((H4.out.l.step (below_drewN (Below.refl _ w6n) n)).word xa F7.out).mono (fun _ _ q => (⟨q.1, q.2.symm⟩ : _ ∧ _)))
          go_quiet ((go_at_call 9; exact Calls.quiet_of_same (HWQ.out _)))
          have H5 := Lib.hid (H4.out.step (below_drewN (Below.refl _ w6n) nq))
          clear hx hDm H4 HWQ F7 FM
          generalize w6n.drewN nq = w7 at *
          have hx := blk_cell (H5.out.l.at (k := w.heap.size + 1) (List.mem_cons_of_mem _ (List.mem_cons_self ..)))
          have hcc := blk_cell (H5.out.l.at (k := w.heap.size) (List.mem_cons_of_mem _ (List.mem_cons_of_mem _ (List.mem_cons_self ..))))
          have hD := blk_cell (H5.out.l.at (k := k6) (List.mem_cons_self ..))
          go_wp2_with fail
          refine (applyO D1 ⟨xk, xa, xv⟩ (c := c) HF.out H5.out.l.tbr F8.out).mono ?_
          rintro e w8 ⟨rfl, hb⟩
          have H6 := Lib.hid (H5.out.step hb)
          clear hb hx hcc hD H5
          have h7 := H6.out.stored (dcells D2) HK6.out HKB.out.1 HKB.out.2.1 (fun p hp => by
            rcases List.mem_cons.1 hp with rfl | hp
            · exact HKB.out.2.2.1
            · rcases List.mem_cons.1 hp with rfl | hp
              · exact HKB.out.2.2.2
              · cases hp)
          have hD := blk_cell (h7.l.at (k := k6) (List.mem_cons_self ..))
          have hkk := H6.out.l.at (k := k6) (List.mem_cons_self ..)
          have H7 := Lib.hid h7
          clear h7 H6
          go_wp2_with ((with_reducible refine wpList_store_row (o := ⟨none, _, _, _, _, _⟩) rfl 34 (.tmp 19) (.tmp 140) rfl k6 (dcells D2) ?sx ?sy 34 ?old ?sg ?si ?so ?s1 ?_); (case sx => rfl); (case sy => rfl); (case old => exact dcells D1); (case sg => exact hkk); (case si => kernel_rfl); (case so => rfl); (case s1 => kernel_rfl); clear hkk; generalize w8.setRow k6 (dcells D2) = w8n at *)
          refine (H7.out.l.write ln D2 F9.out).mono ?_
          rintro e w9 ⟨rfl, ho, ht⟩
          have H8 := Lib.hid (H7.out.turnL ho ht)
          clear ho ht hD H7
          have hx := blk_cell (H8.out.l.at (k := w.heap.size + 1) (List.mem_cons_of_mem _ (List.mem_cons_self ..)))
          go_wp2_with fail
          refine (H8.out.r.op ⟨xk, xa, xv⟩ F10.out).mono ?_
          rintro e w10 ⟨rfl, ho, ht⟩
          have H9 := Lib.hid (H8.out.turnR ho ht)
          clear ho ht hx H8
          obtain ⟨D3, q3, f3⟩ : ∃ d q, lnP c L1 ln = (d, q) := ⟨_, _, rfl⟩
          have F3 := Lib.hid f3
          clear f3
          go_wp2_with fail
          refine (H9.out.l.line ln F3.out).mono ?_
          rintro e w11 ⟨rfl, hb⟩
          have H10 := Lib.hid ((H9.out.step hb).newbox #[.int .i64 0, .int .i64 0, .int .i64 0, .int .i64 0, .int .i64 0, .int .i64 0, .int .i64 0, .int .i64 0] (dcells D3) 34)
          clear hb H9
          go_wp2_with ((with_reducible refine wpList_store_row (o := ⟨none, _, _, _, _, _⟩) rfl 34 (.tmp 26) (.tmp 157) rfl w11.heap.size (dcells D3) ?sx ?sy 34 ?old ?sg ?si ?so ?s1 ?_); (case sx => rfl); (case sy => rfl); (case old => exact dcells d0); (case sg => exact heap_alloc_new w11 _); (case si => kernel_rfl); (case so => rfl); (case s1 => kernel_rfl); generalize (w11.alloc (.cells #[.int .i64 0, .int .i64 0, .int .i64 0, .int .i64 0, .int .i64 0, .int .i64 0, .int .i64 0, .int .i64 0] 34)).setRow w11.heap.size (dcells D3) = w11n at *; generalize w11.heap.size = k11 at *)
          refine (H10.out.r.line ln F3.out).mono ?_
          rintro e w12 ⟨rfl, hb⟩
          have h11 := (H10.out.step hb).newbox #[.int .i64 0, .int .i64 0, .int .i64 0, .int .i64 0, .int .i64 0, .int .i64 0, .int .i64 0, .int .i64 0] (dcells D3) 34
          have hA := blk_cell (h11.l.at (k := k11) (List.mem_cons_of_mem _ (List.mem_cons_self ..)))
          have hB := blk_cell (h11.l.at (List.mem_cons_self ..))
          have hq : ∀ w, (binOp .eql 34 (.agg (dcells D3)) (.agg (dcells D3))).run Tryd.prog w = .ok (.bool true) w := fun w => by rw [words_eql, eqW_self]
          have H11 := Lib.hid h11
          clear hb H10 h11
          go_wp2_with ((with_reducible refine wpList_store_row (o := ⟨none, _, _, _, _, _⟩) rfl 34 (.tmp 28) (.tmp 163) rfl w12.heap.size (dcells D3) ?sx ?sy 34 ?old ?sg ?si ?so ?s1 ?_); (case sx => rfl); (case sy => rfl); (case old => exact dcells d0); (case sg => exact heap_alloc_new w12 _); (case si => kernel_rfl); (case so => rfl); (case s1 => kernel_rfl); generalize (w12.alloc (.cells #[.int .i64 0, .int .i64 0, .int .i64 0, .int .i64 0, .int .i64 0, .int .i64 0, .int .i64 0, .int .i64 0] 34)).setRow w12.heap.size (dcells D3) = w12n at *; generalize w12.heap.size = k12 at *)
          go_ret
          exact ⟨rfl, H11.out.l.bl⟩
        · have E0 := Lib.hid (app_bad (x := ⟨xk, xa, xv⟩) hgood)
          rcases Bool.eq_false_or_eq_true (adOk c xa) with ha | ha
          · have e : adE c xa = 0 := by simp [adE, ha]
            rw [e] at HA
            generalize adL c xa = al at *
            generalize adW c xa = aw at *
            have HM := Lib.hid (fun w => may_any ⟨xk, xa, xv⟩ w)
            rcases Bool.eq_false_or_eq_true (mayB ⟨xk, xa, xv⟩) with hm | hm
            · rw [hm] at HM
              have hk4 : (xk == 4) = true := by
                have : ¬ xk ≠ 4 := fun q => hgood ⟨ha, hm, q⟩
                simpa using this
              clear e ha hgood hm
              go_wp2_with fail
              refine HA.out.mono ?_
              rintro e w4 ⟨rfl, hb⟩
              have H2 := Lib.hid (H1.out.step hb)
              clear hb hcc hx H1 HA
              have hx := blk_cell (H2.out.l.at (k := w.heap.size + 1) (List.mem_cons_self ..))
              have hcc := blk_cell (H2.out.l.at (k := w.heap.size) (List.mem_cons_of_mem _ (List.mem_cons_self ..)))
              go_wp2_with fail
              refine (HM.out _).mono ?_
              rintro e w5 ⟨rfl, hb⟩
              have H3 := Lib.hid (H2.out.step hb)
              clear hb hcc hx H2
              have hx := blk_cell (H3.out.l.at (k := w.heap.size + 1) (List.mem_cons_self ..))
              have hcc := blk_cell (H3.out.l.at (k := w.heap.size) (List.mem_cons_of_mem _ (List.mem_cons_self ..)))
              go_wp2_with fail
              refine (applyO d0 ⟨xk, xa, xv⟩ (c := c) HF.out H3.out.l.tbr E0.out).mono ?_
              rintro e w8 ⟨rfl, hb⟩
              have H9 := Lib.hid ((H3.out.step hb).newbox #[.int .i64 0, .int .i64 0, .int .i64 0, .int .i64 0, .int .i64 0, .int .i64 0, .int .i64 0, .int .i64 0] (dcells d0) 34)
              clear hb hcc hx H3
              go_wp2_with ((with_reducible refine wpList_store_row (o := ⟨none, _, _, _, _, _⟩) rfl 34 (.tmp 16) (.tmp 112) rfl w8.heap.size (dcells d0) ?sx ?sy 34 ?old ?sg ?si ?so ?s1 ?_); (case sx => rfl); (case sy => rfl); (case old => exact dcells d0); (case sg => exact heap_alloc_new w8 _); (case si => kernel_rfl); (case so => rfl); (case s1 => kernel_rfl); generalize (w8.alloc (.cells #[.int .i64 0, .int .i64 0, .int .i64 0, .int .i64 0, .int .i64 0, .int .i64 0, .int .i64 0, .int .i64 0] 34)).setRow w8.heap.size (dcells d0) = w8n at *; generalize w8.heap.size = k8 at *)
              go_ret
              exact ⟨rfl, H9.out.l.bl⟩
            · rw [hm] at HM
              clear e ha hgood hm
              go_wp2_with fail
              refine HA.out.mono ?_
              rintro e w4 ⟨rfl, hb⟩
              have H2 := Lib.hid (H1.out.step hb)
              clear hb hcc hx H1 HA
              have hx := blk_cell (H2.out.l.at (k := w.heap.size + 1) (List.mem_cons_self ..))
              have hcc := blk_cell (H2.out.l.at (k := w.heap.size) (List.mem_cons_of_mem _ (List.mem_cons_self ..)))
              go_wp2_with fail
              refine (HM.out _).mono ?_
              rintro e w5 ⟨rfl, hb⟩
              have H3 := Lib.hid (H2.out.step hb)
              clear hb hcc hx H2
              have hx := blk_cell (H3.out.l.at (k := w.heap.size + 1) (List.mem_cons_self ..))
              have hcc := blk_cell (H3.out.l.at (k := w.heap.size) (List.mem_cons_of_mem _ (List.mem_cons_self ..)))
              go_wp2_with fail
              refine (applyO d0 ⟨xk, xa, xv⟩ (c := c) HF.out H3.out.l.tbr E0.out).mono ?_
              rintro e w8 ⟨rfl, hb⟩
              have H9 := Lib.hid ((H3.out.step hb).newbox #[.int .i64 0, .int .i64 0, .int .i64 0, .int .i64 0, .int .i64 0, .int .i64 0, .int .i64 0, .int .i64 0] (dcells d0) 34)
              clear hb hcc hx H3
              go_wp2_with ((with_reducible refine wpList_store_row (o := ⟨none, _, _, _, _, _⟩) rfl 34 (.tmp 16) (.tmp 112) rfl w8.heap.size (dcells d0) ?sx ?sy 34 ?old ?sg ?si ?so ?s1 ?_); (case sx => rfl); (case sy => rfl); (case old => exact dcells d0); (case sg => exact heap_alloc_new w8 _); (case si => kernel_rfl); (case so => rfl); (case s1 => kernel_rfl); generalize (w8.alloc (.cells #[.int .i64 0, .int .i64 0, .int .i64 0, .int .i64 0, .int .i64 0, .int .i64 0, .int .i64 0, .int .i64 0] 34)).setRow w8.heap.size (dcells d0) = w8n at *; generalize w8.heap.size = k8 at *)
              go_ret
              exact ⟨rfl, H9.out.l.bl⟩
          · have e : adL c xa = 0 ∧ adW c xa = 0 ∧ adE c xa = 1 := by simp [adL, adW, adE, ha]
            rw [e.1, e.2.1, e.2.2] at HA
            clear e ha hgood
            go_wp2_with fail
            refine HA.out.mono ?_
            rintro e w4 ⟨rfl, hb⟩
            have H2 := Lib.hid (H1.out.step hb)
            clear hb hcc hx H1 HA
            have hx := blk_cell (H2.out.l.at (k := w.heap.size + 1) (List.mem_cons_self ..))
            have hcc := blk_cell (H2.out.l.at (k := w.heap.size) (List.mem_cons_of_mem _ (List.mem_cons_self ..)))
            go_wp2_with fail
            refine (applyO d0 ⟨xk, xa, xv⟩ (c := c) HF.out H2.out.l.tbr E0.out).mono ?_
            rintro e w8 ⟨rfl, hb⟩
            have H9 := Lib.hid ((H2.out.step hb).newbox #[.int .i64 0, .int .i64 0, .int .i64 0, .int .i64 0, .int .i64 0, .int .i64 0, .int .i64 0, .int .i64 0] (dcells d0) 34)
            clear hb hcc hx H2
            go_wp2_with ((with_reducible refine wpList_store_row (o := ⟨none, _, _, _, _, _⟩) rfl 34 (.tmp 16) (.tmp 112) rfl w8.heap.size (dcells d0) ?sx ?sy 34 ?old ?sg ?si ?so ?s1 ?_); (case sx => rfl); (case sy => rfl); (case old => exact dcells d0); (case sg => exact heap_alloc_new w8 _); (case si => kernel_rfl); (case so => rfl); (case s1 => kernel_rfl); generalize (w8.alloc (.cells #[.int .i64 0, .int .i64 0, .int .i64 0, .int .i64 0, .int .i64 0, .int .i64 0, .int .i64 0, .int .i64 0] 34)).setRow w8.heap.size (dcells d0) = w8n at *; generalize w8.heap.size = k8 at *)
            go_ret
            exact ⟨rfl, H9.out.l.bl⟩
  · have HN := Lib.hid (fun w => new_no c w HF.out hok)
    clear hok
    go_wp2_with fail
    refine (HN.out _).mono ?_
    rintro e w2 ⟨rfl, hb⟩
    have K2 := Lib.hid (K1.out.step hb)
    clear hb hcc K1
    have hcc := blk_cell K2.out.c0
    go_wp2_with fail
    refine (HN.out _).mono ?_
    rintro e w3 ⟨rfl, hb⟩
    have HB := bstep K2.out.bl hb
    clear K2 HT HL HF hb HN hcc
    go_wp2
    go_ret
    exact ⟨rfl, HB⟩

end Go.Proofs.YticfdkopephkkaaDoor
