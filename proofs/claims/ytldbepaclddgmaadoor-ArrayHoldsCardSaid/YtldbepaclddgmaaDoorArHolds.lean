/-
  ArrayHolds is true: the walk.
-/
import Derived.Test.YtldbepaclddgmaaDoorArN
namespace Go.Proofs.YtldbepaclddgmaaDoor
open Go Go.RowKit Go.Sort

abbrev ccells (c : Cfg) : Array Value := #[.int .i64 c.co, .int .i64 c.ho, .int .i64 c.se, .int .i64 c.wa, .int .i64 c.wo, .int .i64 c.li, .int .i64 c.po, .int .i64 c.ms, .int .i64 c.bu, .int .i64 c.wb, .int .i64 c.r0, .int .i64 c.r1, .int .i64 c.r2]
/-- The call's first three blocks: sizes, words, an operation. -/
structure H3 (w : World) (c : Cfg) (d : Wd) (o : Ao) (wr : World) : Prop where
  c0 : wr.heap[w.heap.size]? = some (.cells (ccells c) 24 (0, 0))
  c1 : wr.heap[w.heap.size + 1]? = some (.cells (dcells d) 35 (0, 0))
  c2 : wr.heap[w.heap.size + 1 + 1]? = some (.cells (ocells o) 37 (0, 0))
  bl : Below w.heap.size w wr
theorem H3.new (w : World) (c : Cfg) (d : Wd) (o : Ao) : H3 w c d o (((w.alloc (.cells (ccells c) 24)).alloc (.cells (dcells d) 35)).alloc (.cells (ocells o) 37)) := by
  refine ⟨?_, ?_, ?_, (((Below.refl _ w).alloc (Nat.le_refl _) _).alloc (by simp) _).alloc (by simp; omega) _⟩
  · rw [heap_alloc_old _ _ (by simp; omega), heap_alloc_old _ _ (by simp)]
    exact heap_alloc_new w _
  · rw [heap_alloc_old _ _ (by simp)]
    have := heap_alloc_new (w.alloc (.cells (ccells c) 24)) (.cells (dcells d) 35)
    rwa [show (w.alloc (.cells (ccells c) 24)).heap.size = w.heap.size + 1 by simp] at this
  · have := heap_alloc_new ((w.alloc (.cells (ccells c) 24)).alloc (.cells (dcells d) 35)) (.cells (ocells o) 37)
    rwa [show ((w.alloc (.cells (ccells c) 24)).alloc (.cells (dcells d) 35)).heap.size = w.heap.size + 1 + 1 by simp] at this
theorem H3.step {w wr wr' : World} {c : Cfg} {d : Wd} {o : Ao} (h : H3 w c d o wr) (hb : Below wr.heap.size wr wr') : H3 w c d o wr' :=
  ⟨(hb.block _ (lt_of_block h.c0)).trans h.c0, (hb.block _ (lt_of_block h.c1)).trans h.c1, (hb.block _ (lt_of_block h.c2)).trans h.c2, bstep h.bl hb⟩

theorem zero_box {w w1 wr : World} {b g : Nat} {c : Cfg} {L : List Wy} {d : Wd} {o : Ao} {k1 k2 : Nat} {o1 o2 : Obj} (hT : Tb w) (K : H3 w c d o w1) (h : Own w1 b g c L wr) (hk1 : w1.heap.size ≤ k1) (hk2 : w1.heap.size ≤ k2) (h1 : wr.heap[k1]? = some o1) (h2 : wr.heap[k2]? = some o2) (cs : Array Value) :
    Own w b g c L (wr.setRow (w.heap.size + 1) cs) ∧ (wr.setRow (w.heap.size + 1) cs).heap[k1]? = some o1 ∧ (wr.setRow (w.heap.size + 1) cs).heap[k2]? = some o2 ∧ (wr.setRow (w.heap.size + 1) cs).heap[w.heap.size + 1]? = some (.cells cs 35 (0, 0)) := by
  have hl := lt_of_block K.c2
  have hb := h.bb
  have hg := h.gb
  have hs : ∀ k, k ≠ w.heap.size + 1 → (wr.setRow (w.heap.size + 1) cs).heap[k]? = wr.heap[k]? := fun k hk => setRow_other wr (w.heap.size + 1) k cs hk
  refine ⟨⟨h.ar.keep (by simp) (hs b (by omega)) (hs g (by omega)), h.gd, by omega, by omega, below_setRow (K.step h.bl).bl (by omega) cs, hT⟩, (hs k1 (by omega)).trans h1, (hs k2 (by omega)).trans h2, setRow_heap _ _ _ _ _ _ (K.step h.bl).c1⟩

set_option maxRecDepth 100000 in
set_option maxHeartbeats 8000000 in
theorem arrayHolds_any (c : Cfg) (p : Option Addr) (cap : Nat) (l : List Ao) (line st : Int) (d : Wd) (o : Ao) (w : World) (hf : c.fits) (hT : Tb w) (hl : OpsA w p l) (hn : l.length ≤ 9223372036854775807) :
    Calls Tryd.prog 5 #[cv c, .slice p l.length cap, .int .i64 line, .int .i64 st, .agg (dcells d), .agg (ocells o)] w fun e w' => e = .returned (.bool true) ∧ Below w.heap.size w w' := by
  have HT := Lib.hid hT
  have HL := Lib.hid hl
  have HF := Lib.hid hf
  clear hT hl hf
  have K0 := H3.new w c d o
  go_enter Tryd.func5, Tryd.ntmps5
  go_wp2_with fail
  refine (awake9_any _ (HT.out.keeps K0.bl)).mono ?_
  rintro e w1 ⟨rfl, hb⟩
  have K1 := Lib.hid (K0.step hb)
  have TB := Lib.hid (HT.out.keeps K1.out.bl)
  have hcc := blk_cells K1.out.c0
  clear hb K0
  by_cases h60 : 60 < l.length
  · have HB := K1.out.bl
    clear K1 HT HL HF TB
    go_wp2
    go_ret
    exact ⟨rfl, HB⟩
  by_cases h64 : 64 < c.li
  · have HB := K1.out.bl
    clear K1 HT HL HF TB
    go_wp2
    go_ret
    exact ⟨rfl, HB⟩
  rcases Bool.eq_false_or_eq_true (okC c) with hok | hok
  · have HN := Lib.hid (newO (L0 := List.replicate (c.se.toNat * c.wa.toNat) y0) HF.out hok TB.out (Below.refl _ w1) rfl)
    clear hok
    go_wp2_with fail
    refine HN.out.mono ?_
    rintro e w2 ⟨b, g, rfl, ho, -⟩
    have HO := Lib.hid ho
    clear ho hcc HN
    go_wp2
    go_loopw [46] (fun i wr => ∃ k : Nat, k ≤ l.length ∧ i = .int .i64 k ∧ ∃ L, Own w1 b g c L wr) (fun i _ => l.length - (intOf i).toNat)
    case atStart => exact ⟨0, Nat.zero_le _, rfl, _, HO.out⟩
    case round =>
      obtain ⟨k, hk, rfl, L, ho⟩ := hrel
      have H1 := Lib.hid ho
      clear ho HO
      by_cases hlt : k < l.length
      · obtain ⟨x, hx⟩ : ∃ x, l[k]? = some x := ⟨_, List.getElem?_eq_getElem hlt⟩
        obtain ⟨gl, off, rfl, hgl, hr⟩ := HL.out.step (K1.out.step H1.out.bl).bl k x hx
        have HR := Lib.hid hr
        obtain ⟨n, M, hM⟩ : ∃ n M, doP c L x = (n, M) := ⟨_, _, rfl⟩
        have HM := Lib.hid hM
        have H2 := Lib.hid (H1.out.step (below_box wr (.cells #[.int .i64 0, .int .i64 0, .int .i64 0, .int .i64 0, .int .i64 0, .int .i64 0, .int .i64 0, .int .i64 0, .int .i64 0, .int .i64 0, .int .i64 0] 37) (ocells x)))
        clear hr hx hM
        go_wp2_with (first
          | ((with_reducible refine wpList_load_mid (op := ⟨some 49, _, _, _, _, _⟩) rfl 37 (.tmp 48) rfl gl (off + k * 11) ?lx (oc x) _ ?lc Tryd.underlying37 ?ld ?li ?_); (case lx => rfl); (case lc => exact HR.out); (case ld => rfl); (case li => kernel_rfl))
          | ((with_reducible refine wpList_store_row (o := ⟨none, _, _, _, _, _⟩) rfl 37 (.tmp 16) (.tmp 49) rfl wr.heap.size (ocells x) ?sx ?sy 37 ?old ?sg ?si ?so ?s1 ?_); (case sx => rfl); (case sy => rfl); (case old => exact ocells ⟨0, 0, 0, d0⟩); (case sg => exact heap_alloc_new wr _); (case si => kernel_rfl); (case so => rfl); (case s1 => kernel_rfl))
          | ((with_reducible refine wpList_load_row (o := ⟨some 51, _, _, _, _, _⟩) rfl 37 (.tmp 16) rfl wr.heap.size ?lx 37 (ocells x) (0, 0) _ ?lg Tryd.underlying37 ?ld ?li ?_); (case lx => rfl); (case lg => exact setRow_heap _ _ _ _ _ _ (heap_alloc_new wr _)); (case ld => rfl); (case li => kernel_rfl))
          | (go_at_call 9; refine (H2.out.op x HM.out).mono ?_; rintro e w3 ⟨rfl, ho, -⟩; have H3 := Lib.hid ho; clear ho))
        go_roundw
        case rel => exact ⟨k + 1, by omega, by go_num, _, H3.out⟩
        case measure => simp [intOf]; omega
      · clear hk
        obtain ⟨x0, k0, q0, hF0⟩ : ∃ x k q, fnd c L line = (x, k, q) := ⟨_, _, _, rfl⟩
        obtain ⟨e5, M, hE⟩ : ∃ e M, setP c L line st d = (e, M) := ⟨_, _, rfl⟩
        have HF0 := Lib.hid hF0
        have HE := Lib.hid hE
        have GS := Lib.hid (show Good c L ∧ Sized c L from ⟨H1.out.gd, H1.out.ar.sz⟩)
        clear hF0 hE
        go_wp2_with fail
        refine (H1.out.find line HF0.out).mono ?_
        rintro e w3 ⟨rfl, hb⟩
        have H2 := Lib.hid (H1.out.step hb)
        clear hb H1
        have ho := H2.out.step (below_box w3 (.cells #[.int .i64 0, .int .i64 0, .int .i64 0, .int .i64 0, .int .i64 0, .int .i64 0, .int .i64 0, .int .i64 0, .int .i64 0, .int .i64 0, .bool false] 43) (ycells x0))
        have hx : ((w3.alloc (.cells #[.int .i64 0, .int .i64 0, .int .i64 0, .int .i64 0, .int .i64 0, .int .i64 0, .int .i64 0, .int .i64 0, .int .i64 0, .int .i64 0, .bool false] 43)).setRow w3.heap.size (ycells x0)).heap[w3.heap.size]? = some (.cells (ycells x0) 43 (0, 0)) := setRow_heap _ _ _ _ _ _ (heap_alloc_new w3 _)
        have hn3 : w3.heap.size ≠ g := by have := H2.out.ar.gl; omega
        have HK := Lib.hid (H2.out.bl.size)
        have H4 := Lib.hid (Aw.mk ho hx hx hn3 hn3)
        clear ho hx hn3 H2
        go_wp2_with (((with_reducible refine wpList_store_row (o := ⟨none, _, _, _, _, _⟩) rfl 43 (.tmp 17) (.tmp 58) rfl w3.heap.size (ycells x0) ?sx ?sy 43 ?old ?sg ?si ?so ?s1 ?_); (case sx => rfl); (case sy => rfl); (case old => exact ycells y0); (case sg => exact heap_alloc_new w3 _); (case si => kernel_rfl); (case so => rfl); (case s1 => kernel_rfl); generalize (w3.alloc (.cells #[.int .i64 0, .int .i64 0, .int .i64 0, .int .i64 0, .int .i64 0, .int .i64 0, .int .i64 0, .int .i64 0, .int .i64 0, .int .i64 0, .bool false] 43)).setRow w3.heap.size (ycells x0) = w4 at *; generalize w3.heap.size = k1 at *; have hc1 := blk_cells (K1.out.step H4.out.own.bl).c1))
        refine (H4.out.own.set line st d HE.out).mono ?_
        rintro e w5 ⟨rfl, ho, ht⟩
        have H5 := Lib.hid (H4.out.turn ho ht)
        clear ho ht hc1 H4
        have hc2 := blk_cells (K1.out.step H5.out.own.bl).c2
        by_cases he : e5 = 0
        · skip
          subst he
          obtain ⟨kk, xx, hfx, hfm⟩ := set_good GS.out.1 GS.out.2 HE.out
          have hxx := hfx.symm.trans HF0.out
          simp only [Prod.mk.injEq] at hxx
          obtain ⟨e1, e2, e3⟩ := hxx
          subst e1 e2 e3
          obtain ⟨s0, l0, d9, lk0⟩ := xx
          simp only at hfm
          clear hfx
          by_cases h0 : st = 0
          · have hs : (st == 0) = true := by simpa using h0
            have hs' : (st != 0) = false := by simpa using h0
            have hw2 : wd2 st d = d0 := by unfold wd2; rw [if_pos h0]
            rw [hs', hw2] at hfm
            cases lk0
            · have HFM := Lib.hid hfm
              clear hfm h0 hw2
              by_cases hol : o.ln = line
              · have hol' : (o.ln != line) = false := by simpa using hol
                have H6 := H5
                clear hol H5
                go_wp2_with fail
                have HF1 := HFM
                refine (H6.out.own.find line HF1.out).mono ?_
                rintro e w7 ⟨rfl, hb⟩
                have H7 := Lib.hid (H6.out.step hb)
                clear hb H6
                have ho := H7.out.own.step (below_box w7 (.cells #[.int .i64 0, .int .i64 0, .int .i64 0, .int .i64 0, .int .i64 0, .int .i64 0, .int .i64 0, .int .i64 0, .int .i64 0, .int .i64 0, .bool false] 43) (ycells y0))
                have h1 := (below_box w7 (.cells #[.int .i64 0, .int .i64 0, .int .i64 0, .int .i64 0, .int .i64 0, .int .i64 0, .int .i64 0, .int .i64 0, .int .i64 0, .int .i64 0, .bool false] 43) (ycells y0)).block k1 (lt_of_block H7.out.h1) |>.trans H7.out.h1
                have h2 : ((w7.alloc (.cells #[.int .i64 0, .int .i64 0, .int .i64 0, .int .i64 0, .int .i64 0, .int .i64 0, .int .i64 0, .int .i64 0, .int .i64 0, .int .i64 0, .bool false] 43)).setRow w7.heap.size (ycells y0)).heap[w7.heap.size]? = some (.cells (ycells y0) 43 (0, 0)) := setRow_heap _ _ _ _ _ _ (heap_alloc_new w7 _)
                have hn : w7.heap.size ≠ g := by have := H7.out.own.ar.gl; omega
                have HK2 := Lib.hid H7.out.own.bl.size
                have H8 := Lib.hid (show Own w1 b g c M _ ∧ _ ∧ _ ∧ k1 ≠ g ∧ w7.heap.size ≠ g from ⟨ho, h1, h2, H7.out.n1, hn⟩)
                clear ho h1 h2 hn H7
                obtain ⟨M2, hMM⟩ : ∃ M2, M2 = M := ⟨_, rfl⟩
                subst hMM
                go_wp2_with (first | ((with_reducible refine wpList_store_row (o := ⟨none, _, _, _, _, _⟩) rfl 43 (.tmp 21) (.tmp 77) rfl w7.heap.size (ycells y0) ?sx ?sy 43 ?old ?sg ?si ?so ?s1 ?_); (case sx => rfl); (case sy => rfl); (case old => exact ycells y0); (case sg => exact heap_alloc_new w7 _); (case si => kernel_rfl); (case so => rfl); (case s1 => kernel_rfl); generalize (w7.alloc (.cells #[.int .i64 0, .int .i64 0, .int .i64 0, .int .i64 0, .int .i64 0, .int .i64 0, .int .i64 0, .int .i64 0, .int .i64 0, .int .i64 0, .bool false] 43)).setRow w7.heap.size (ycells y0) = w8 at *; generalize w7.heap.size = k2 at *; skip) | ((with_reducible refine wpList_store_row (o := ⟨none, _, _, _, _, _⟩) rfl 35 (.tmp 10) (.tmp 99) rfl (w.heap.size + 1) (dcells d0) ?sx ?sy 35 ?old ?sg ?si ?so ?s1 ?_); (case sx => rfl); (case sy => rfl); (case old => exact dcells d); (case sg => exact (K1.out.step H8.out.1.bl).c1); (case si => kernel_rfl); (case so => rfl); (case s1 => kernel_rfl); have H9 := Lib.hid (zero_box HT.out K1.out H8.out.1 HK.out HK2.out H8.out.2.1 H8.out.2.2.1 (dcells d0)); generalize w8.setRow (w.heap.size + 1) (dcells d0) = w9 at *; have hA := blk_cells H9.out.2.1; have hB := blk_cells H9.out.2.2.1; have hC := blk_cells H9.out.2.2.2))
                obtain ⟨n9, M3, hM3⟩ : ∃ n M', lockP c M2 line false = (n, M') := ⟨_, _, rfl⟩
                obtain ⟨yy, ky, qy, hfy⟩ : ∃ x k q, fnd c M3 line = (x, k, q) := ⟨_, _, _, rfl⟩
                have hqy : qy = false := by
                  have := lock_tell (c := c) (L := M2) H9.out.1.gd H9.out.1.ar.sz HF1.out
                  rw [hM3, hfy] at this
                  first
                    | simpa using this
                    | simpa [hs'] using this
                subst hqy
                have HM3 := Lib.hid hM3
                have HFY := Lib.hid hfy
                clear hM3 hfy
                refine (H9.out.1.lock line false HM3.out).mono ?_
                rintro e w10 ⟨rfl, ho, -⟩
                have H10 := Lib.hid ho
                clear ho hA hB hC
                go_wp2_with fail
                refine (H10.out.find line HFY.out).mono ?_
                rintro e w11 ⟨rfl, hb⟩
                have H11 := Lib.hid (H10.out.step hb)
                have H12 := Lib.hid (H11.out.step (below_box w11 (.cells #[.int .i64 0, .int .i64 0, .int .i64 0, .int .i64 0, .int .i64 0, .int .i64 0, .int .i64 0, .int .i64 0, .int .i64 0, .int .i64 0, .bool false] 43) (ycells yy)))
                clear hb H10 H11
                go_wp2_with (((with_reducible refine wpList_store_row (o := ⟨none, _, _, _, _, _⟩) rfl 43 (.tmp 24) (.tmp 133) rfl w11.heap.size (ycells yy) ?sx ?sy 43 ?old ?sg ?si ?so ?s1 ?_); (case sx => rfl); (case sy => rfl); (case old => exact ycells y0); (case sg => exact heap_alloc_new w11 _); (case si => kernel_rfl); (case so => rfl); (case s1 => kernel_rfl)))
                go_ret
                exact ⟨rfl, H12.out.bl⟩
              · have hol' : (o.ln != line) = true := by simpa using hol
                obtain ⟨n6, M2, hM2⟩ : ∃ n M2, doP c M o = (n, M2) := ⟨_, _, rfl⟩
                have HD : Hid (fnd c M2 line = fnd c M line) := Lib.hid (by have := fnd_doP_other (c := c) (L := M) H5.out.own.ar.sz o (line := line) hol; rw [hM2] at this; exact this)
                have HM2 := Lib.hid hM2
                clear hol hM2
                go_wp2_with fail
                refine (H5.out.own.op o HM2.out).mono ?_
                rintro e w6 ⟨rfl, ho, ht⟩
                have H6 := Lib.hid (H5.out.turn ho ht)
                clear ho ht hc2 H5 HM2
                go_wp2_with fail
                have HF1 := Lib.hid (HD.out.trans HFM.out)
                refine (H6.out.own.find line HF1.out).mono ?_
                rintro e w7 ⟨rfl, hb⟩
                have H7 := Lib.hid (H6.out.step hb)
                clear hb H6
                have ho := H7.out.own.step (below_box w7 (.cells #[.int .i64 0, .int .i64 0, .int .i64 0, .int .i64 0, .int .i64 0, .int .i64 0, .int .i64 0, .int .i64 0, .int .i64 0, .int .i64 0, .bool false] 43) (ycells y0))
                have h1 := (below_box w7 (.cells #[.int .i64 0, .int .i64 0, .int .i64 0, .int .i64 0, .int .i64 0, .int .i64 0, .int .i64 0, .int .i64 0, .int .i64 0, .int .i64 0, .bool false] 43) (ycells y0)).block k1 (lt_of_block H7.out.h1) |>.trans H7.out.h1
                have h2 : ((w7.alloc (.cells #[.int .i64 0, .int .i64 0, .int .i64 0, .int .i64 0, .int .i64 0, .int .i64 0, .int .i64 0, .int .i64 0, .int .i64 0, .int .i64 0, .bool false] 43)).setRow w7.heap.size (ycells y0)).heap[w7.heap.size]? = some (.cells (ycells y0) 43 (0, 0)) := setRow_heap _ _ _ _ _ _ (heap_alloc_new w7 _)
                have hn : w7.heap.size ≠ g := by have := H7.out.own.ar.gl; omega
                have HK2 := Lib.hid H7.out.own.bl.size
                have H8 := Lib.hid (show Own w1 b g c M2 _ ∧ _ ∧ _ ∧ k1 ≠ g ∧ w7.heap.size ≠ g from ⟨ho, h1, h2, H7.out.n1, hn⟩)
                clear ho h1 h2 hn H7
                go_wp2_with (first | ((with_reducible refine wpList_store_row (o := ⟨none, _, _, _, _, _⟩) rfl 43 (.tmp 21) (.tmp 77) rfl w7.heap.size (ycells y0) ?sx ?sy 43 ?old ?sg ?si ?so ?s1 ?_); (case sx => rfl); (case sy => rfl); (case old => exact ycells y0); (case sg => exact heap_alloc_new w7 _); (case si => kernel_rfl); (case so => rfl); (case s1 => kernel_rfl); generalize (w7.alloc (.cells #[.int .i64 0, .int .i64 0, .int .i64 0, .int .i64 0, .int .i64 0, .int .i64 0, .int .i64 0, .int .i64 0, .int .i64 0, .int .i64 0, .bool false] 43)).setRow w7.heap.size (ycells y0) = w8 at *; generalize w7.heap.size = k2 at *; skip) | ((with_reducible refine wpList_store_row (o := ⟨none, _, _, _, _, _⟩) rfl 35 (.tmp 10) (.tmp 99) rfl (w.heap.size + 1) (dcells d0) ?sx ?sy 35 ?old ?sg ?si ?so ?s1 ?_); (case sx => rfl); (case sy => rfl); (case old => exact dcells d); (case sg => exact (K1.out.step H8.out.1.bl).c1); (case si => kernel_rfl); (case so => rfl); (case s1 => kernel_rfl); have H9 := Lib.hid (zero_box HT.out K1.out H8.out.1 HK.out HK2.out H8.out.2.1 H8.out.2.2.1 (dcells d0)); generalize w8.setRow (w.heap.size + 1) (dcells d0) = w9 at *; have hA := blk_cells H9.out.2.1; have hB := blk_cells H9.out.2.2.1; have hC := blk_cells H9.out.2.2.2))
                obtain ⟨n9, M3, hM3⟩ : ∃ n M', lockP c M2 line false = (n, M') := ⟨_, _, rfl⟩
                obtain ⟨yy, ky, qy, hfy⟩ : ∃ x k q, fnd c M3 line = (x, k, q) := ⟨_, _, _, rfl⟩
                have hqy : qy = false := by
                  have := lock_tell (c := c) (L := M2) H9.out.1.gd H9.out.1.ar.sz HF1.out
                  rw [hM3, hfy] at this
                  first
                    | simpa using this
                    | simpa [hs'] using this
                subst hqy
                have HM3 := Lib.hid hM3
                have HFY := Lib.hid hfy
                clear hM3 hfy
                refine (H9.out.1.lock line false HM3.out).mono ?_
                rintro e w10 ⟨rfl, ho, -⟩
                have H10 := Lib.hid ho
                clear ho hA hB hC
                go_wp2_with fail
                refine (H10.out.find line HFY.out).mono ?_
                rintro e w11 ⟨rfl, hb⟩
                have H11 := Lib.hid (H10.out.step hb)
                have H12 := Lib.hid (H11.out.step (below_box w11 (.cells #[.int .i64 0, .int .i64 0, .int .i64 0, .int .i64 0, .int .i64 0, .int .i64 0, .int .i64 0, .int .i64 0, .int .i64 0, .int .i64 0, .bool false] 43) (ycells yy)))
                clear hb H10 H11
                go_wp2_with (((with_reducible refine wpList_store_row (o := ⟨none, _, _, _, _, _⟩) rfl 43 (.tmp 24) (.tmp 133) rfl w11.heap.size (ycells yy) ?sx ?sy 43 ?old ?sg ?si ?so ?s1 ?_); (case sx => rfl); (case sy => rfl); (case old => exact ycells y0); (case sg => exact heap_alloc_new w11 _); (case si => kernel_rfl); (case so => rfl); (case s1 => kernel_rfl)))
                go_ret
                exact ⟨rfl, H12.out.bl⟩
            · have HFM := Lib.hid hfm
              clear hfm h0 hw2
              by_cases hol : o.ln = line
              · have hol' : (o.ln != line) = false := by simpa using hol
                have H6 := H5
                clear hol H5
                go_wp2_with fail
                have HF1 := HFM
                have hq := way_neq ⟨st, line, d0, true⟩
                refine (H6.out.own.find line HF1.out).mono ?_
                rintro e w7 ⟨rfl, hb⟩
                have H7 := Lib.hid (H6.out.step hb)
                clear hb H6
                have ho := H7.out.own.step (below_box w7 (.cells #[.int .i64 0, .int .i64 0, .int .i64 0, .int .i64 0, .int .i64 0, .int .i64 0, .int .i64 0, .int .i64 0, .int .i64 0, .int .i64 0, .bool false] 43) (ycells ⟨st, line, d0, true⟩))
                have h1 := (below_box w7 (.cells #[.int .i64 0, .int .i64 0, .int .i64 0, .int .i64 0, .int .i64 0, .int .i64 0, .int .i64 0, .int .i64 0, .int .i64 0, .int .i64 0, .bool false] 43) (ycells ⟨st, line, d0, true⟩)).block k1 (lt_of_block H7.out.h1) |>.trans H7.out.h1
                have h2 : ((w7.alloc (.cells #[.int .i64 0, .int .i64 0, .int .i64 0, .int .i64 0, .int .i64 0, .int .i64 0, .int .i64 0, .int .i64 0, .int .i64 0, .int .i64 0, .bool false] 43)).setRow w7.heap.size (ycells ⟨st, line, d0, true⟩)).heap[w7.heap.size]? = some (.cells (ycells ⟨st, line, d0, true⟩) 43 (0, 0)) := setRow_heap _ _ _ _ _ _ (heap_alloc_new w7 _)
                have hn : w7.heap.size ≠ g := by have := H7.out.own.ar.gl; omega
                have HK2 := Lib.hid H7.out.own.bl.size
                have H8 := Lib.hid (show Own w1 b g c M _ ∧ _ ∧ _ ∧ k1 ≠ g ∧ w7.heap.size ≠ g from ⟨ho, h1, h2, H7.out.n1, hn⟩)
                clear ho h1 h2 hn H7
                obtain ⟨M2, hMM⟩ : ∃ M2, M2 = M := ⟨_, rfl⟩
                subst hMM
                go_wp2_with (first | ((with_reducible refine wpList_store_row (o := ⟨none, _, _, _, _, _⟩) rfl 43 (.tmp 21) (.tmp 77) rfl w7.heap.size (ycells ⟨st, line, d0, true⟩) ?sx ?sy 43 ?old ?sg ?si ?so ?s1 ?_); (case sx => rfl); (case sy => rfl); (case old => exact ycells y0); (case sg => exact heap_alloc_new w7 _); (case si => kernel_rfl); (case so => rfl); (case s1 => kernel_rfl); generalize (w7.alloc (.cells #[.int .i64 0, .int .i64 0, .int .i64 0, .int .i64 0, .int .i64 0, .int .i64 0, .int .i64 0, .int .i64 0, .int .i64 0, .int .i64 0, .bool false] 43)).setRow w7.heap.size (ycells ⟨st, line, d0, true⟩) = w8 at *; generalize w7.heap.size = k2 at *; skip) | ((with_reducible refine wpList_store_row (o := ⟨none, _, _, _, _, _⟩) rfl 35 (.tmp 10) (.tmp 99) rfl (w.heap.size + 1) (dcells d0) ?sx ?sy 35 ?old ?sg ?si ?so ?s1 ?_); (case sx => rfl); (case sy => rfl); (case old => exact dcells d); (case sg => exact (K1.out.step H8.out.1.bl).c1); (case si => kernel_rfl); (case so => rfl); (case s1 => kernel_rfl); have H9 := Lib.hid (zero_box HT.out K1.out H8.out.1 HK.out HK2.out H8.out.2.1 H8.out.2.2.1 (dcells d0)); generalize w8.setRow (w.heap.size + 1) (dcells d0) = w9 at *; have hA := blk_cells H9.out.2.1; have hB := blk_cells H9.out.2.2.1; have hC := blk_cells H9.out.2.2.2))
                obtain ⟨n9, M3, hM3⟩ : ∃ n M', lockP c M2 line false = (n, M') := ⟨_, _, rfl⟩
                obtain ⟨yy, ky, qy, hfy⟩ : ∃ x k q, fnd c M3 line = (x, k, q) := ⟨_, _, _, rfl⟩
                have hqy : qy = false := by
                  have := lock_tell (c := c) (L := M2) H9.out.1.gd H9.out.1.ar.sz HF1.out
                  rw [hM3, hfy] at this
                  first
                    | simpa using this
                    | simpa [hs'] using this
                subst hqy
                have HM3 := Lib.hid hM3
                have HFY := Lib.hid hfy
                clear hM3 hfy
                refine (H9.out.1.lock line false HM3.out).mono ?_
                rintro e w10 ⟨rfl, ho, -⟩
                have H10 := Lib.hid ho
                clear ho hA hB hC
                go_wp2_with fail
                refine (H10.out.find line HFY.out).mono ?_
                rintro e w11 ⟨rfl, hb⟩
                have H11 := Lib.hid (H10.out.step hb)
                have H12 := Lib.hid (H11.out.step (below_box w11 (.cells #[.int .i64 0, .int .i64 0, .int .i64 0, .int .i64 0, .int .i64 0, .int .i64 0, .int .i64 0, .int .i64 0, .int .i64 0, .int .i64 0, .bool false] 43) (ycells yy)))
                clear hb H10 H11
                go_wp2_with (((with_reducible refine wpList_store_row (o := ⟨none, _, _, _, _, _⟩) rfl 43 (.tmp 24) (.tmp 133) rfl w11.heap.size (ycells yy) ?sx ?sy 43 ?old ?sg ?si ?so ?s1 ?_); (case sx => rfl); (case sy => rfl); (case old => exact ycells y0); (case sg => exact heap_alloc_new w11 _); (case si => kernel_rfl); (case so => rfl); (case s1 => kernel_rfl)))
                go_ret
                exact ⟨rfl, H12.out.bl⟩
              · have hol' : (o.ln != line) = true := by simpa using hol
                obtain ⟨n6, M2, hM2⟩ : ∃ n M2, doP c M o = (n, M2) := ⟨_, _, rfl⟩
                have HD : Hid (fnd c M2 line = fnd c M line) := Lib.hid (by have := fnd_doP_other (c := c) (L := M) H5.out.own.ar.sz o (line := line) hol; rw [hM2] at this; exact this)
                have HM2 := Lib.hid hM2
                clear hol hM2
                go_wp2_with fail
                refine (H5.out.own.op o HM2.out).mono ?_
                rintro e w6 ⟨rfl, ho, ht⟩
                have H6 := Lib.hid (H5.out.turn ho ht)
                clear ho ht hc2 H5 HM2
                go_wp2_with fail
                have HF1 := Lib.hid (HD.out.trans HFM.out)
                have hq := way_neq ⟨st, line, d0, true⟩
                refine (H6.out.own.find line HF1.out).mono ?_
                rintro e w7 ⟨rfl, hb⟩
                have H7 := Lib.hid (H6.out.step hb)
                clear hb H6
                have ho := H7.out.own.step (below_box w7 (.cells #[.int .i64 0, .int .i64 0, .int .i64 0, .int .i64 0, .int .i64 0, .int .i64 0, .int .i64 0, .int .i64 0, .int .i64 0, .int .i64 0, .bool false] 43) (ycells ⟨st, line, d0, true⟩))
                have h1 := (below_box w7 (.cells #[.int .i64 0, .int .i64 0, .int .i64 0, .int .i64 0, .int .i64 0, .int .i64 0, .int .i64 0, .int .i64 0, .int .i64 0, .int .i64 0, .bool false] 43) (ycells ⟨st, line, d0, true⟩)).block k1 (lt_of_block H7.out.h1) |>.trans H7.out.h1
                have h2 : ((w7.alloc (.cells #[.int .i64 0, .int .i64 0, .int .i64 0, .int .i64 0, .int .i64 0, .int .i64 0, .int .i64 0, .int .i64 0, .int .i64 0, .int .i64 0, .bool false] 43)).setRow w7.heap.size (ycells ⟨st, line, d0, true⟩)).heap[w7.heap.size]? = some (.cells (ycells ⟨st, line, d0, true⟩) 43 (0, 0)) := setRow_heap _ _ _ _ _ _ (heap_alloc_new w7 _)
                have hn : w7.heap.size ≠ g := by have := H7.out.own.ar.gl; omega
                have HK2 := Lib.hid H7.out.own.bl.size
                have H8 := Lib.hid (show Own w1 b g c M2 _ ∧ _ ∧ _ ∧ k1 ≠ g ∧ w7.heap.size ≠ g from ⟨ho, h1, h2, H7.out.n1, hn⟩)
                clear ho h1 h2 hn H7
                go_wp2_with (first | ((with_reducible refine wpList_store_row (o := ⟨none, _, _, _, _, _⟩) rfl 43 (.tmp 21) (.tmp 77) rfl w7.heap.size (ycells ⟨st, line, d0, true⟩) ?sx ?sy 43 ?old ?sg ?si ?so ?s1 ?_); (case sx => rfl); (case sy => rfl); (case old => exact ycells y0); (case sg => exact heap_alloc_new w7 _); (case si => kernel_rfl); (case so => rfl); (case s1 => kernel_rfl); generalize (w7.alloc (.cells #[.int .i64 0, .int .i64 0, .int .i64 0, .int .i64 0, .int .i64 0, .int .i64 0, .int .i64 0, .int .i64 0, .int .i64 0, .int .i64 0, .bool false] 43)).setRow w7.heap.size (ycells ⟨st, line, d0, true⟩) = w8 at *; generalize w7.heap.size = k2 at *; skip) | ((with_reducible refine wpList_store_row (o := ⟨none, _, _, _, _, _⟩) rfl 35 (.tmp 10) (.tmp 99) rfl (w.heap.size + 1) (dcells d0) ?sx ?sy 35 ?old ?sg ?si ?so ?s1 ?_); (case sx => rfl); (case sy => rfl); (case old => exact dcells d); (case sg => exact (K1.out.step H8.out.1.bl).c1); (case si => kernel_rfl); (case so => rfl); (case s1 => kernel_rfl); have H9 := Lib.hid (zero_box HT.out K1.out H8.out.1 HK.out HK2.out H8.out.2.1 H8.out.2.2.1 (dcells d0)); generalize w8.setRow (w.heap.size + 1) (dcells d0) = w9 at *; have hA := blk_cells H9.out.2.1; have hB := blk_cells H9.out.2.2.1; have hC := blk_cells H9.out.2.2.2))
                obtain ⟨n9, M3, hM3⟩ : ∃ n M', lockP c M2 line false = (n, M') := ⟨_, _, rfl⟩
                obtain ⟨yy, ky, qy, hfy⟩ : ∃ x k q, fnd c M3 line = (x, k, q) := ⟨_, _, _, rfl⟩
                have hqy : qy = false := by
                  have := lock_tell (c := c) (L := M2) H9.out.1.gd H9.out.1.ar.sz HF1.out
                  rw [hM3, hfy] at this
                  first
                    | simpa using this
                    | simpa [hs'] using this
                subst hqy
                have HM3 := Lib.hid hM3
                have HFY := Lib.hid hfy
                clear hM3 hfy
                refine (H9.out.1.lock line false HM3.out).mono ?_
                rintro e w10 ⟨rfl, ho, -⟩
                have H10 := Lib.hid ho
                clear ho hA hB hC
                go_wp2_with fail
                refine (H10.out.find line HFY.out).mono ?_
                rintro e w11 ⟨rfl, hb⟩
                have H11 := Lib.hid (H10.out.step hb)
                have H12 := Lib.hid (H11.out.step (below_box w11 (.cells #[.int .i64 0, .int .i64 0, .int .i64 0, .int .i64 0, .int .i64 0, .int .i64 0, .int .i64 0, .int .i64 0, .int .i64 0, .int .i64 0, .bool false] 43) (ycells yy)))
                clear hb H10 H11
                go_wp2_with (((with_reducible refine wpList_store_row (o := ⟨none, _, _, _, _, _⟩) rfl 43 (.tmp 24) (.tmp 133) rfl w11.heap.size (ycells yy) ?sx ?sy 43 ?old ?sg ?si ?so ?s1 ?_); (case sx => rfl); (case sy => rfl); (case old => exact ycells y0); (case sg => exact heap_alloc_new w11 _); (case si => kernel_rfl); (case so => rfl); (case s1 => kernel_rfl)))
                go_ret
                exact ⟨rfl, H12.out.bl⟩
          · have hs : (st == 0) = false := by simpa using h0
            have hs' : (st != 0) = true := by simpa using h0
            have hw2 : wd2 st d = d := by unfold wd2; rw [if_neg h0]
            rw [hs', hw2] at hfm
            have HFM := Lib.hid hfm
            clear hfm h0 hw2
            cases lk0
            · skip
              by_cases hol : o.ln = line
              · have hol' : (o.ln != line) = false := by simpa using hol
                have H6 := H5
                clear hol H5
                go_wp2_with fail
                have HF1 := HFM
                have hq := way_neq ⟨st, line, d, false⟩
                refine (H6.out.own.find line HF1.out).mono ?_
                rintro e w7 ⟨rfl, hb⟩
                have H7 := Lib.hid (H6.out.step hb)
                clear hb H6
                have ho := H7.out.own.step (below_box w7 (.cells #[.int .i64 0, .int .i64 0, .int .i64 0, .int .i64 0, .int .i64 0, .int .i64 0, .int .i64 0, .int .i64 0, .int .i64 0, .int .i64 0, .bool false] 43) (ycells ⟨st, line, d, false⟩))
                have h1 := (below_box w7 (.cells #[.int .i64 0, .int .i64 0, .int .i64 0, .int .i64 0, .int .i64 0, .int .i64 0, .int .i64 0, .int .i64 0, .int .i64 0, .int .i64 0, .bool false] 43) (ycells ⟨st, line, d, false⟩)).block k1 (lt_of_block H7.out.h1) |>.trans H7.out.h1
                have h2 : ((w7.alloc (.cells #[.int .i64 0, .int .i64 0, .int .i64 0, .int .i64 0, .int .i64 0, .int .i64 0, .int .i64 0, .int .i64 0, .int .i64 0, .int .i64 0, .bool false] 43)).setRow w7.heap.size (ycells ⟨st, line, d, false⟩)).heap[w7.heap.size]? = some (.cells (ycells ⟨st, line, d, false⟩) 43 (0, 0)) := setRow_heap _ _ _ _ _ _ (heap_alloc_new w7 _)
                have hn : w7.heap.size ≠ g := by have := H7.out.own.ar.gl; omega
                have HK2 := Lib.hid H7.out.own.bl.size
                have H8 := Lib.hid (show Own w1 b g c M _ ∧ _ ∧ _ ∧ k1 ≠ g ∧ w7.heap.size ≠ g from ⟨ho, h1, h2, H7.out.n1, hn⟩)
                clear ho h1 h2 hn H7
                obtain ⟨M2, hMM⟩ : ∃ M2, M2 = M := ⟨_, rfl⟩
                subst hMM
                go_wp2_with (((with_reducible refine wpList_store_row (o := ⟨none, _, _, _, _, _⟩) rfl 43 (.tmp 21) (.tmp 77) rfl w7.heap.size (ycells ⟨st, line, d, false⟩) ?sx ?sy 43 ?old ?sg ?si ?so ?s1 ?_); (case sx => rfl); (case sy => rfl); (case old => exact ycells y0); (case sg => exact heap_alloc_new w7 _); (case si => kernel_rfl); (case so => rfl); (case s1 => kernel_rfl); generalize (w7.alloc (.cells #[.int .i64 0, .int .i64 0, .int .i64 0, .int .i64 0, .int .i64 0, .int .i64 0, .int .i64 0, .int .i64 0, .int .i64 0, .int .i64 0, .bool false] 43)).setRow w7.heap.size (ycells ⟨st, line, d, false⟩) = w8 at *; generalize w7.heap.size = k2 at *; have hA := blk_cells H8.out.2.1; have hB := blk_cells H8.out.2.2.1; have hC := blk_cells (K1.out.step H8.out.1.bl).c1))
                obtain ⟨n9, M3, hM3⟩ : ∃ n M', lockP c M2 line false = (n, M') := ⟨_, _, rfl⟩
                obtain ⟨yy, ky, qy, hfy⟩ : ∃ x k q, fnd c M3 line = (x, k, q) := ⟨_, _, _, rfl⟩
                have hqy : qy = true := by
                  have := lock_tell (c := c) (L := M2) H8.out.1.gd H8.out.1.ar.sz HF1.out
                  rw [hM3, hfy] at this
                  first
                    | simpa using this
                    | simpa [hs'] using this
                subst hqy
                have HM3 := Lib.hid hM3
                have HFY := Lib.hid hfy
                clear hM3 hfy
                refine (H8.out.1.lock line false HM3.out).mono ?_
                rintro e w10 ⟨rfl, ho, -⟩
                have H10 := Lib.hid ho
                clear ho hA hB hC
                go_wp2_with fail
                refine (H10.out.find line HFY.out).mono ?_
                rintro e w11 ⟨rfl, hb⟩
                have H11 := Lib.hid (H10.out.step hb)
                have H12 := Lib.hid (H11.out.step (below_box w11 (.cells #[.int .i64 0, .int .i64 0, .int .i64 0, .int .i64 0, .int .i64 0, .int .i64 0, .int .i64 0, .int .i64 0, .int .i64 0, .int .i64 0, .bool false] 43) (ycells yy)))
                clear hb H10 H11
                go_wp2_with (((with_reducible refine wpList_store_row (o := ⟨none, _, _, _, _, _⟩) rfl 43 (.tmp 24) (.tmp 133) rfl w11.heap.size (ycells yy) ?sx ?sy 43 ?old ?sg ?si ?so ?s1 ?_); (case sx => rfl); (case sy => rfl); (case old => exact ycells y0); (case sg => exact heap_alloc_new w11 _); (case si => kernel_rfl); (case so => rfl); (case s1 => kernel_rfl)))
                go_ret
                exact ⟨rfl, (K1.out.step H12.out.bl).bl⟩
              · have hol' : (o.ln != line) = true := by simpa using hol
                obtain ⟨n6, M2, hM2⟩ : ∃ n M2, doP c M o = (n, M2) := ⟨_, _, rfl⟩
                have HD : Hid (fnd c M2 line = fnd c M line) := Lib.hid (by have := fnd_doP_other (c := c) (L := M) H5.out.own.ar.sz o (line := line) hol; rw [hM2] at this; exact this)
                have HM2 := Lib.hid hM2
                clear hol hM2
                go_wp2_with fail
                refine (H5.out.own.op o HM2.out).mono ?_
                rintro e w6 ⟨rfl, ho, ht⟩
                have H6 := Lib.hid (H5.out.turn ho ht)
                clear ho ht hc2 H5 HM2
                go_wp2_with fail
                have HF1 := Lib.hid (HD.out.trans HFM.out)
                have hq := way_neq ⟨st, line, d, false⟩
                refine (H6.out.own.find line HF1.out).mono ?_
                rintro e w7 ⟨rfl, hb⟩
                have H7 := Lib.hid (H6.out.step hb)
                clear hb H6
                have ho := H7.out.own.step (below_box w7 (.cells #[.int .i64 0, .int .i64 0, .int .i64 0, .int .i64 0, .int .i64 0, .int .i64 0, .int .i64 0, .int .i64 0, .int .i64 0, .int .i64 0, .bool false] 43) (ycells ⟨st, line, d, false⟩))
                have h1 := (below_box w7 (.cells #[.int .i64 0, .int .i64 0, .int .i64 0, .int .i64 0, .int .i64 0, .int .i64 0, .int .i64 0, .int .i64 0, .int .i64 0, .int .i64 0, .bool false] 43) (ycells ⟨st, line, d, false⟩)).block k1 (lt_of_block H7.out.h1) |>.trans H7.out.h1
                have h2 : ((w7.alloc (.cells #[.int .i64 0, .int .i64 0, .int .i64 0, .int .i64 0, .int .i64 0, .int .i64 0, .int .i64 0, .int .i64 0, .int .i64 0, .int .i64 0, .bool false] 43)).setRow w7.heap.size (ycells ⟨st, line, d, false⟩)).heap[w7.heap.size]? = some (.cells (ycells ⟨st, line, d, false⟩) 43 (0, 0)) := setRow_heap _ _ _ _ _ _ (heap_alloc_new w7 _)
                have hn : w7.heap.size ≠ g := by have := H7.out.own.ar.gl; omega
                have HK2 := Lib.hid H7.out.own.bl.size
                have H8 := Lib.hid (show Own w1 b g c M2 _ ∧ _ ∧ _ ∧ k1 ≠ g ∧ w7.heap.size ≠ g from ⟨ho, h1, h2, H7.out.n1, hn⟩)
                clear ho h1 h2 hn H7
                go_wp2_with (((with_reducible refine wpList_store_row (o := ⟨none, _, _, _, _, _⟩) rfl 43 (.tmp 21) (.tmp 77) rfl w7.heap.size (ycells ⟨st, line, d, false⟩) ?sx ?sy 43 ?old ?sg ?si ?so ?s1 ?_); (case sx => rfl); (case sy => rfl); (case old => exact ycells y0); (case sg => exact heap_alloc_new w7 _); (case si => kernel_rfl); (case so => rfl); (case s1 => kernel_rfl); generalize (w7.alloc (.cells #[.int .i64 0, .int .i64 0, .int .i64 0, .int .i64 0, .int .i64 0, .int .i64 0, .int .i64 0, .int .i64 0, .int .i64 0, .int .i64 0, .bool false] 43)).setRow w7.heap.size (ycells ⟨st, line, d, false⟩) = w8 at *; generalize w7.heap.size = k2 at *; have hA := blk_cells H8.out.2.1; have hB := blk_cells H8.out.2.2.1; have hC := blk_cells (K1.out.step H8.out.1.bl).c1))
                obtain ⟨n9, M3, hM3⟩ : ∃ n M', lockP c M2 line false = (n, M') := ⟨_, _, rfl⟩
                obtain ⟨yy, ky, qy, hfy⟩ : ∃ x k q, fnd c M3 line = (x, k, q) := ⟨_, _, _, rfl⟩
                have hqy : qy = true := by
                  have := lock_tell (c := c) (L := M2) H8.out.1.gd H8.out.1.ar.sz HF1.out
                  rw [hM3, hfy] at this
                  first
                    | simpa using this
                    | simpa [hs'] using this
                subst hqy
                have HM3 := Lib.hid hM3
                have HFY := Lib.hid hfy
                clear hM3 hfy
                refine (H8.out.1.lock line false HM3.out).mono ?_
                rintro e w10 ⟨rfl, ho, -⟩
                have H10 := Lib.hid ho
                clear ho hA hB hC
                go_wp2_with fail
                refine (H10.out.find line HFY.out).mono ?_
                rintro e w11 ⟨rfl, hb⟩
                have H11 := Lib.hid (H10.out.step hb)
                have H12 := Lib.hid (H11.out.step (below_box w11 (.cells #[.int .i64 0, .int .i64 0, .int .i64 0, .int .i64 0, .int .i64 0, .int .i64 0, .int .i64 0, .int .i64 0, .int .i64 0, .int .i64 0, .bool false] 43) (ycells yy)))
                clear hb H10 H11
                go_wp2_with (((with_reducible refine wpList_store_row (o := ⟨none, _, _, _, _, _⟩) rfl 43 (.tmp 24) (.tmp 133) rfl w11.heap.size (ycells yy) ?sx ?sy 43 ?old ?sg ?si ?so ?s1 ?_); (case sx => rfl); (case sy => rfl); (case old => exact ycells y0); (case sg => exact heap_alloc_new w11 _); (case si => kernel_rfl); (case so => rfl); (case s1 => kernel_rfl)))
                go_ret
                exact ⟨rfl, (K1.out.step H12.out.bl).bl⟩
            · skip
              by_cases hol : o.ln = line
              · have hol' : (o.ln != line) = false := by simpa using hol
                have H6 := H5
                clear hol H5
                go_wp2_with fail
                have HF1 := HFM
                have hq := way_neq ⟨st, line, d, true⟩
                refine (H6.out.own.find line HF1.out).mono ?_
                rintro e w7 ⟨rfl, hb⟩
                have H7 := Lib.hid (H6.out.step hb)
                clear hb H6
                have ho := H7.out.own.step (below_box w7 (.cells #[.int .i64 0, .int .i64 0, .int .i64 0, .int .i64 0, .int .i64 0, .int .i64 0, .int .i64 0, .int .i64 0, .int .i64 0, .int .i64 0, .bool false] 43) (ycells ⟨st, line, d, true⟩))
                have h1 := (below_box w7 (.cells #[.int .i64 0, .int .i64 0, .int .i64 0, .int .i64 0, .int .i64 0, .int .i64 0, .int .i64 0, .int .i64 0, .int .i64 0, .int .i64 0, .bool false] 43) (ycells ⟨st, line, d, true⟩)).block k1 (lt_of_block H7.out.h1) |>.trans H7.out.h1
                have h2 : ((w7.alloc (.cells #[.int .i64 0, .int .i64 0, .int .i64 0, .int .i64 0, .int .i64 0, .int .i64 0, .int .i64 0, .int .i64 0, .int .i64 0, .int .i64 0, .bool false] 43)).setRow w7.heap.size (ycells ⟨st, line, d, true⟩)).heap[w7.heap.size]? = some (.cells (ycells ⟨st, line, d, true⟩) 43 (0, 0)) := setRow_heap _ _ _ _ _ _ (heap_alloc_new w7 _)
                have hn : w7.heap.size ≠ g := by have := H7.out.own.ar.gl; omega
                have HK2 := Lib.hid H7.out.own.bl.size
                have H8 := Lib.hid (show Own w1 b g c M _ ∧ _ ∧ _ ∧ k1 ≠ g ∧ w7.heap.size ≠ g from ⟨ho, h1, h2, H7.out.n1, hn⟩)
                clear ho h1 h2 hn H7
                obtain ⟨M2, hMM⟩ : ∃ M2, M2 = M := ⟨_, rfl⟩
                subst hMM
                go_wp2_with (((with_reducible refine wpList_store_row (o := ⟨none, _, _, _, _, _⟩) rfl 43 (.tmp 21) (.tmp 77) rfl w7.heap.size (ycells ⟨st, line, d, true⟩) ?sx ?sy 43 ?old ?sg ?si ?so ?s1 ?_); (case sx => rfl); (case sy => rfl); (case old => exact ycells y0); (case sg => exact heap_alloc_new w7 _); (case si => kernel_rfl); (case so => rfl); (case s1 => kernel_rfl); generalize (w7.alloc (.cells #[.int .i64 0, .int .i64 0, .int .i64 0, .int .i64 0, .int .i64 0, .int .i64 0, .int .i64 0, .int .i64 0, .int .i64 0, .int .i64 0, .bool false] 43)).setRow w7.heap.size (ycells ⟨st, line, d, true⟩) = w8 at *; generalize w7.heap.size = k2 at *; have hA := blk_cells H8.out.2.1; have hB := blk_cells H8.out.2.2.1; have hC := blk_cells (K1.out.step H8.out.1.bl).c1))
                obtain ⟨n9, M3, hM3⟩ : ∃ n M', lockP c M2 line false = (n, M') := ⟨_, _, rfl⟩
                obtain ⟨yy, ky, qy, hfy⟩ : ∃ x k q, fnd c M3 line = (x, k, q) := ⟨_, _, _, rfl⟩
                have hqy : qy = true := by
                  have := lock_tell (c := c) (L := M2) H8.out.1.gd H8.out.1.ar.sz HF1.out
                  rw [hM3, hfy] at this
                  first
                    | simpa using this
                    | simpa [hs'] using this
                subst hqy
                have HM3 := Lib.hid hM3
                have HFY := Lib.hid hfy
                clear hM3 hfy
                refine (H8.out.1.lock line false HM3.out).mono ?_
                rintro e w10 ⟨rfl, ho, -⟩
                have H10 := Lib.hid ho
                clear ho hA hB hC
                go_wp2_with fail
                refine (H10.out.find line HFY.out).mono ?_
                rintro e w11 ⟨rfl, hb⟩
                have H11 := Lib.hid (H10.out.step hb)
                have H12 := Lib.hid (H11.out.step (below_box w11 (.cells #[.int .i64 0, .int .i64 0, .int .i64 0, .int .i64 0, .int .i64 0, .int .i64 0, .int .i64 0, .int .i64 0, .int .i64 0, .int .i64 0, .bool false] 43) (ycells yy)))
                clear hb H10 H11
                go_wp2_with (((with_reducible refine wpList_store_row (o := ⟨none, _, _, _, _, _⟩) rfl 43 (.tmp 24) (.tmp 133) rfl w11.heap.size (ycells yy) ?sx ?sy 43 ?old ?sg ?si ?so ?s1 ?_); (case sx => rfl); (case sy => rfl); (case old => exact ycells y0); (case sg => exact heap_alloc_new w11 _); (case si => kernel_rfl); (case so => rfl); (case s1 => kernel_rfl)))
                go_ret
                exact ⟨rfl, (K1.out.step H12.out.bl).bl⟩
              · have hol' : (o.ln != line) = true := by simpa using hol
                obtain ⟨n6, M2, hM2⟩ : ∃ n M2, doP c M o = (n, M2) := ⟨_, _, rfl⟩
                have HD : Hid (fnd c M2 line = fnd c M line) := Lib.hid (by have := fnd_doP_other (c := c) (L := M) H5.out.own.ar.sz o (line := line) hol; rw [hM2] at this; exact this)
                have HM2 := Lib.hid hM2
                clear hol hM2
                go_wp2_with fail
                refine (H5.out.own.op o HM2.out).mono ?_
                rintro e w6 ⟨rfl, ho, ht⟩
                have H6 := Lib.hid (H5.out.turn ho ht)
                clear ho ht hc2 H5 HM2
                go_wp2_with fail
                have HF1 := Lib.hid (HD.out.trans HFM.out)
                have hq := way_neq ⟨st, line, d, true⟩
                refine (H6.out.own.find line HF1.out).mono ?_
                rintro e w7 ⟨rfl, hb⟩
                have H7 := Lib.hid (H6.out.step hb)
                clear hb H6
                have ho := H7.out.own.step (below_box w7 (.cells #[.int .i64 0, .int .i64 0, .int .i64 0, .int .i64 0, .int .i64 0, .int .i64 0, .int .i64 0, .int .i64 0, .int .i64 0, .int .i64 0, .bool false] 43) (ycells ⟨st, line, d, true⟩))
                have h1 := (below_box w7 (.cells #[.int .i64 0, .int .i64 0, .int .i64 0, .int .i64 0, .int .i64 0, .int .i64 0, .int .i64 0, .int .i64 0, .int .i64 0, .int .i64 0, .bool false] 43) (ycells ⟨st, line, d, true⟩)).block k1 (lt_of_block H7.out.h1) |>.trans H7.out.h1
                have h2 : ((w7.alloc (.cells #[.int .i64 0, .int .i64 0, .int .i64 0, .int .i64 0, .int .i64 0, .int .i64 0, .int .i64 0, .int .i64 0, .int .i64 0, .int .i64 0, .bool false] 43)).setRow w7.heap.size (ycells ⟨st, line, d, true⟩)).heap[w7.heap.size]? = some (.cells (ycells ⟨st, line, d, true⟩) 43 (0, 0)) := setRow_heap _ _ _ _ _ _ (heap_alloc_new w7 _)
                have hn : w7.heap.size ≠ g := by have := H7.out.own.ar.gl; omega
                have HK2 := Lib.hid H7.out.own.bl.size
                have H8 := Lib.hid (show Own w1 b g c M2 _ ∧ _ ∧ _ ∧ k1 ≠ g ∧ w7.heap.size ≠ g from ⟨ho, h1, h2, H7.out.n1, hn⟩)
                clear ho h1 h2 hn H7
                go_wp2_with (((with_reducible refine wpList_store_row (o := ⟨none, _, _, _, _, _⟩) rfl 43 (.tmp 21) (.tmp 77) rfl w7.heap.size (ycells ⟨st, line, d, true⟩) ?sx ?sy 43 ?old ?sg ?si ?so ?s1 ?_); (case sx => rfl); (case sy => rfl); (case old => exact ycells y0); (case sg => exact heap_alloc_new w7 _); (case si => kernel_rfl); (case so => rfl); (case s1 => kernel_rfl); generalize (w7.alloc (.cells #[.int .i64 0, .int .i64 0, .int .i64 0, .int .i64 0, .int .i64 0, .int .i64 0, .int .i64 0, .int .i64 0, .int .i64 0, .int .i64 0, .bool false] 43)).setRow w7.heap.size (ycells ⟨st, line, d, true⟩) = w8 at *; generalize w7.heap.size = k2 at *; have hA := blk_cells H8.out.2.1; have hB := blk_cells H8.out.2.2.1; have hC := blk_cells (K1.out.step H8.out.1.bl).c1))
                obtain ⟨n9, M3, hM3⟩ : ∃ n M', lockP c M2 line false = (n, M') := ⟨_, _, rfl⟩
                obtain ⟨yy, ky, qy, hfy⟩ : ∃ x k q, fnd c M3 line = (x, k, q) := ⟨_, _, _, rfl⟩
                have hqy : qy = true := by
                  have := lock_tell (c := c) (L := M2) H8.out.1.gd H8.out.1.ar.sz HF1.out
                  rw [hM3, hfy] at this
                  first
                    | simpa using this
                    | simpa [hs'] using this
                subst hqy
                have HM3 := Lib.hid hM3
                have HFY := Lib.hid hfy
                clear hM3 hfy
                refine (H8.out.1.lock line false HM3.out).mono ?_
                rintro e w10 ⟨rfl, ho, -⟩
                have H10 := Lib.hid ho
                clear ho hA hB hC
                go_wp2_with fail
                refine (H10.out.find line HFY.out).mono ?_
                rintro e w11 ⟨rfl, hb⟩
                have H11 := Lib.hid (H10.out.step hb)
                have H12 := Lib.hid (H11.out.step (below_box w11 (.cells #[.int .i64 0, .int .i64 0, .int .i64 0, .int .i64 0, .int .i64 0, .int .i64 0, .int .i64 0, .int .i64 0, .int .i64 0, .int .i64 0, .bool false] 43) (ycells yy)))
                clear hb H10 H11
                go_wp2_with (((with_reducible refine wpList_store_row (o := ⟨none, _, _, _, _, _⟩) rfl 43 (.tmp 24) (.tmp 133) rfl w11.heap.size (ycells yy) ?sx ?sy 43 ?old ?sg ?si ?so ?s1 ?_); (case sx => rfl); (case sy => rfl); (case old => exact ycells y0); (case sg => exact heap_alloc_new w11 _); (case si => kernel_rfl); (case so => rfl); (case s1 => kernel_rfl)))
                go_ret
                exact ⟨rfl, (K1.out.step H12.out.bl).bl⟩
        · skip
          have hMeq := set_bad HE.out he
          have he' : (e5 != 0) = true := by simpa using he
          subst hMeq
          clear he
          by_cases hol : o.ln = line
          · have hol' : (o.ln != line) = false := by simpa using hol
            have H6 := H5
            clear hol H5
            go_wp2_with fail
            have HF1 := HF0
            have hq := way_eql x0
            refine (H6.out.own.find line HF1.out).mono ?_
            rintro e w7 ⟨rfl, hb⟩
            have H7 := Lib.hid (H6.out.step hb)
            clear hb H6
            have ho := H7.out.own.step (below_box w7 (.cells #[.int .i64 0, .int .i64 0, .int .i64 0, .int .i64 0, .int .i64 0, .int .i64 0, .int .i64 0, .int .i64 0, .int .i64 0, .int .i64 0, .bool false] 43) (ycells x0))
            have h1 := (below_box w7 (.cells #[.int .i64 0, .int .i64 0, .int .i64 0, .int .i64 0, .int .i64 0, .int .i64 0, .int .i64 0, .int .i64 0, .int .i64 0, .int .i64 0, .bool false] 43) (ycells x0)).block k1 (lt_of_block H7.out.h1) |>.trans H7.out.h1
            have h2 : ((w7.alloc (.cells #[.int .i64 0, .int .i64 0, .int .i64 0, .int .i64 0, .int .i64 0, .int .i64 0, .int .i64 0, .int .i64 0, .int .i64 0, .int .i64 0, .bool false] 43)).setRow w7.heap.size (ycells x0)).heap[w7.heap.size]? = some (.cells (ycells x0) 43 (0, 0)) := setRow_heap _ _ _ _ _ _ (heap_alloc_new w7 _)
            have hn : w7.heap.size ≠ g := by have := H7.out.own.ar.gl; omega
            have HK2 := Lib.hid H7.out.own.bl.size
            have H8 := Lib.hid (show Own w1 b g c M _ ∧ _ ∧ _ ∧ k1 ≠ g ∧ w7.heap.size ≠ g from ⟨ho, h1, h2, H7.out.n1, hn⟩)
            clear ho h1 h2 hn H7
            cases q0
            all_goals
              go_wp2_with (((with_reducible refine wpList_store_row (o := ⟨none, _, _, _, _, _⟩) rfl 43 (.tmp 21) (.tmp 77) rfl w7.heap.size (ycells x0) ?sx ?sy 43 ?old ?sg ?si ?so ?s1 ?_); (case sx => rfl); (case sy => rfl); (case old => exact ycells y0); (case sg => exact heap_alloc_new w7 _); (case si => kernel_rfl); (case so => rfl); (case s1 => kernel_rfl); generalize (w7.alloc (.cells #[.int .i64 0, .int .i64 0, .int .i64 0, .int .i64 0, .int .i64 0, .int .i64 0, .int .i64 0, .int .i64 0, .int .i64 0, .int .i64 0, .bool false] 43)).setRow w7.heap.size (ycells x0) = w8 at *; generalize w7.heap.size = k2 at *; have hA := blk_cells H8.out.2.1; have hB := blk_cells H8.out.2.2.1))
              go_ret
              exact ⟨rfl, (K1.out.step H8.out.1.bl).bl⟩
          · have hol' : (o.ln != line) = true := by simpa using hol
            obtain ⟨n6, M2, hM2⟩ : ∃ n M2, doP c M o = (n, M2) := ⟨_, _, rfl⟩
            have HD : Hid (fnd c M2 line = fnd c M line) := Lib.hid (by have := fnd_doP_other (c := c) (L := M) H5.out.own.ar.sz o (line := line) hol; rw [hM2] at this; exact this)
            have HM2 := Lib.hid hM2
            clear hol hM2
            go_wp2_with fail
            refine (H5.out.own.op o HM2.out).mono ?_
            rintro e w6 ⟨rfl, ho, ht⟩
            have H6 := Lib.hid (H5.out.turn ho ht)
            clear ho ht hc2 H5 HM2
            go_wp2_with fail
            have HF1 := Lib.hid (HD.out.trans HF0.out)
            have hq := way_eql x0
            refine (H6.out.own.find line HF1.out).mono ?_
            rintro e w7 ⟨rfl, hb⟩
            have H7 := Lib.hid (H6.out.step hb)
            clear hb H6
            have ho := H7.out.own.step (below_box w7 (.cells #[.int .i64 0, .int .i64 0, .int .i64 0, .int .i64 0, .int .i64 0, .int .i64 0, .int .i64 0, .int .i64 0, .int .i64 0, .int .i64 0, .bool false] 43) (ycells x0))
            have h1 := (below_box w7 (.cells #[.int .i64 0, .int .i64 0, .int .i64 0, .int .i64 0, .int .i64 0, .int .i64 0, .int .i64 0, .int .i64 0, .int .i64 0, .int .i64 0, .bool false] 43) (ycells x0)).block k1 (lt_of_block H7.out.h1) |>.trans H7.out.h1
            have h2 : ((w7.alloc (.cells #[.int .i64 0, .int .i64 0, .int .i64 0, .int .i64 0, .int .i64 0, .int .i64 0, .int .i64 0, .int .i64 0, .int .i64 0, .int .i64 0, .bool false] 43)).setRow w7.heap.size (ycells x0)).heap[w7.heap.size]? = some (.cells (ycells x0) 43 (0, 0)) := setRow_heap _ _ _ _ _ _ (heap_alloc_new w7 _)
            have hn : w7.heap.size ≠ g := by have := H7.out.own.ar.gl; omega
            have HK2 := Lib.hid H7.out.own.bl.size
            have H8 := Lib.hid (show Own w1 b g c M2 _ ∧ _ ∧ _ ∧ k1 ≠ g ∧ w7.heap.size ≠ g from ⟨ho, h1, h2, H7.out.n1, hn⟩)
            clear ho h1 h2 hn H7
            cases q0
            all_goals
              go_wp2_with (((with_reducible refine wpList_store_row (o := ⟨none, _, _, _, _, _⟩) rfl 43 (.tmp 21) (.tmp 77) rfl w7.heap.size (ycells x0) ?sx ?sy 43 ?old ?sg ?si ?so ?s1 ?_); (case sx => rfl); (case sy => rfl); (case old => exact ycells y0); (case sg => exact heap_alloc_new w7 _); (case si => kernel_rfl); (case so => rfl); (case s1 => kernel_rfl); generalize (w7.alloc (.cells #[.int .i64 0, .int .i64 0, .int .i64 0, .int .i64 0, .int .i64 0, .int .i64 0, .int .i64 0, .int .i64 0, .int .i64 0, .int .i64 0, .bool false] 43)).setRow w7.heap.size (ycells x0) = w8 at *; generalize w7.heap.size = k2 at *; have hA := blk_cells H8.out.2.1; have hB := blk_cells H8.out.2.2.1))
              go_ret
              exact ⟨rfl, (K1.out.step H8.out.1.bl).bl⟩
  · have HN := Lib.hid (new_no c w1 HF.out hok)
    clear hok
    go_wp2_with fail
    refine HN.out.mono ?_
    rintro e w2 ⟨rfl, hb⟩
    have HB := bstep K1.out.bl hb
    clear K1 HT HL HF HN TB hb hcc
    go_wp2
    go_ret
    exact ⟨rfl, HB⟩

end Go.Proofs.YtldbepaclddgmaaDoor
