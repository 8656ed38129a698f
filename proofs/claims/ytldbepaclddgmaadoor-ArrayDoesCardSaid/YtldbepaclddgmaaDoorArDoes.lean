/-
  ArrayDoes is true: the walk.
-/
import Derived.Test.YtldbepaclddgmaaDoorArY
import Derived.Test.YtldbepaclddgmaaDoorArQ
import Derived.Deep.CutRange
import Derived.Deep.DeepCutAuto
import Derived.Deep.CutBlock
namespace Go.Proofs.YtldbepaclddgmaaDoor
open Go Go.RowKit Go.Sort

theorem at_math {c : Cfg} (ok : okC c = true) {s n : Int} (hs : 0 ≤ s) (hs2 : s < c.se) (hn : 0 ≤ n) (hn2 : n < c.wa) :
    ∃ S N so I : Nat, s = S ∧ n = N ∧ s * c.wa = (so : Int) ∧ wrap64 (so : Int) = so ∧ wrap64 ((so : Int) + n) = I ∧ so ≤ 512 ∧ I = S * c.wa.toNat + N ∧ I < c.se.toNat * c.wa.toNat := by
  obtain ⟨⟨a1, a2⟩, ⟨b1, b2⟩, _, _⟩ := ok_ways ok
  obtain ⟨S, rfl⟩ : ∃ S : Nat, s = S := ⟨s.toNat, by omega⟩
  obtain ⟨N, rfl⟩ : ∃ N : Nat, n = N := ⟨n.toNat, by omega⟩
  have hm := Nat.mul_le_mul_right c.wa.toNat (show S + 1 ≤ c.se.toNat by omega)
  rw [Nat.add_mul, Nat.one_mul] at hm
  have h3 : c.se.toNat * c.wa.toNat ≤ 64 * 8 := Nat.mul_le_mul (by omega) (by omega)
  refine ⟨S, N, S * c.wa.toNat, S * c.wa.toNat + N, rfl, rfl, ?_, ?_, ?_, by omega, rfl, by omega⟩
  · have hwa : ((c.wa.toNat : Nat) : Int) = c.wa := Int.toNat_of_nonneg (by omega)
    rw [Int.natCast_mul, hwa]
  · exact wrap_small _ (by omega) (by omega)
  · rw [wrap_small _ (by omega) (by omega)]
    omega
theorem rway_neq (x : Wy) (w : World) : (binOp .neq 46 (.agg (ycells x)) (.agg (ycells x))).run Tryd.prog w = .ok (.bool false) w := by
  have ha := fun d => words_same d x.wd
  simp [go_sem, ha]
set_option maxRecDepth 100000 in
set_option maxHeartbeats 8000000 in
theorem arrayDoes_any (c : Cfg) (p : Option Addr) (cap : Nat) (l : List Ao) (line : Int) (w : World) (hf : c.fits) (hT : Tb w) (hl : OpsA w p l) (hn : l.length ≤ 9223372036854775807) :
    Calls Tryd.prog 3 #[cv c, .slice p l.length cap, .int .i64 line] w fun e w' => e = .returned (.bool true) ∧ Below w.heap.size w w' := by
  have HT := Lib.hid hT
  have HL := Lib.hid hl
  have HF := Lib.hid hf
  clear hT hl hf
  go_enter Tryd.func3, Tryd.ntmps3
  go_wp2_with fail
  refine (awake9_any _ (HT.out.keeps (balloc w _))).mono ?_
  rintro e w1 ⟨rfl, hb⟩
  have KK := Lib.hid (K1.mk (c := c) (box_at hb) (bbox hb))
  have TB := Lib.hid (HT.out.keeps KK.out.bl)
  have hcc := blk_cells KK.out.c0
  clear hb
  by_cases h60 : 60 < l.length
  · have HB := KK.out.bl
    clear KK HT HL HF TB
    go_wp2
    go_ret
    exact ⟨rfl, HB⟩
  by_cases h64 : 64 < c.li ∧ c.li ≤ 1024
  · have HB := KK.out.bl
    obtain ⟨h64, h1024⟩ := h64
    clear KK HT HL HF TB
    go_wp2
    go_ret
    exact ⟨rfl, HB⟩
  have h64' : (64 < c.li → ¬ c.li ≤ 1024) := fun a b => h64 ⟨a, b⟩
  clear h64
  have hcase : decide (64 < c.li) = false ∨ decide (64 < c.li) = true ∧ decide (c.li ≤ 1024) = false := by
    rcases Decidable.em (64 < c.li) with h | h
    · exact .inr ⟨by simpa using h, by simpa using h64' h⟩
    · exact .inl (by simpa using h)
  clear h64'
  rcases Bool.eq_false_or_eq_true (okC c) with hok | hok
  · have hli : decide (64 < c.li) = false := by
      rcases hcase with h | ⟨h, h2⟩
      · exact h
      · have := (ok_ways hok).2.2.2
        simp at h2
        omega
    clear hcase
    have HN := Lib.hid (newO (L0 := List.replicate (c.se.toNat * c.wa.toNat) y0) HF.out hok TB.out (Below.refl _ w1) rfl)
    have HW := Lib.hid (ok_ways hok)
    have HOK := Lib.hid hok
    clear hok
    go_wp2_with fail
    refine HN.out.mono ?_
    rintro e w2 ⟨b, g, rfl, ho, -⟩
    have HO := Lib.hid ho
    clear ho hcc HN
    have hcc := blk_cells (KK.out.step HO.out.bl).c0
    go_wp2_with fail
    refine (refNewO HF.out HOK.out HO.out rfl).mono ?_
    rintro e w3 ⟨b2, g2, rfl, ho⟩
    have HO2 := Lib.hid ho
    clear ho hcc HO
    generalize List.replicate (c.se.toNat * c.wa.toNat) y0 = L00 at *
    go_wp2
    go_loopw [11] (fun i wr => ∃ k : Nat, k ≤ l.length ∧ i = .int .i64 k ∧ ∃ L, Two w1 b g b2 g2 c L L [] wr) (fun i _ => l.length - (intOf i).toNat)
    case atStart => exact ⟨0, Nat.zero_le _, rfl, _, HO2.out⟩
    case round =>
      obtain ⟨k, hk, rfl, L0, ho⟩ := hrel
      have H1 := Lib.hid ho
      clear ho HO2
      by_cases hlt : k < l.length
      · obtain ⟨x, hx⟩ : ∃ x, l[k]? = some x := ⟨_, List.getElem?_eq_getElem hlt⟩
        obtain ⟨gl, off, rfl, hgl, hr⟩ := HL.out.step (KK.out.step H1.out.own.bl).bl k x hx
        have HR := Lib.hid hr
        obtain ⟨n, L, hM⟩ : ∃ n M, doP c L0 x = (n, M) := ⟨_, _, rfl⟩
        have HM := Lib.hid hM
        have H2 := Lib.hid (H1.out.addRow #[.int .i64 0, .int .i64 0, .int .i64 0, .int .i64 0, .int .i64 0, .int .i64 0, .int .i64 0, .int .i64 0, .int .i64 0, .int .i64 0, .int .i64 0] (ocells x) 37)
        clear hr hx hM
        go_wp2_with (first
          | ((with_reducible refine wpList_load_mid (op := ⟨some 72, _, _, _, _, _⟩) rfl 37 (.tmp 71) rfl gl (off + k * 11) ?lx (oc x) _ ?lc Tryd.underlying37 ?ld ?li ?_); (case lx => rfl); (case lc => exact HR.out); (case ld => rfl); (case li => kernel_rfl))
          | ((with_reducible refine wpList_store_row (o := ⟨none, _, _, _, _, _⟩) rfl 37 (.tmp 12) (.tmp 72) rfl wr.heap.size (ocells x) ?sx ?sy 37 ?old ?sg ?si ?so ?s1 ?_); (case sx => rfl); (case sy => rfl); (case old => exact ocells ⟨0, 0, 0, d0⟩); (case sg => exact heap_alloc_new wr _); (case si => kernel_rfl); (case so => rfl); (case s1 => kernel_rfl))
          | ((with_reducible refine wpList_load_row (o := ⟨some 74, _, _, _, _, _⟩) rfl 37 (.tmp 12) rfl wr.heap.size ?lx 37 (ocells x) (0, 0) _ ?lg Tryd.underlying37 ?ld ?li ?_); (case lx => rfl); (case lg => exact setRow_heap _ _ _ _ _ _ (heap_alloc_new wr _)); (case ld => rfl); (case li => kernel_rfl))
          | fail)
        refine (H2.out.op1 x HM.out).mono ?_
        rintro e w4 ⟨rfl, ho⟩
        have H3 := Lib.hid ho
        clear ho H2 H1 HR
        generalize wr.heap.size = ka at *
        have hca := H3.out.cells (k := ka) (cs := ocells x) (List.mem_cons_self ..)
        go_upto_block 2 with (fail)
        go_cut [14] (fun s14 wx => s14 = .int .i64 n ∧ Two w1 b g b2 g2 c L L [(ka, ocells x, 37)] wx)
        case first =>
          as_aux_lemma =>
          by_cases h0 : x.k = 0
          · have e : layP c L0 x.ln x.n = (n, L) := by rw [← HM.out]; unfold doP; rw [if_pos h0]
            have k0 : (x.k == 0) = true := by simpa using h0
            have HC := Lib.hid (fun wr (h : Two w1 b g b2 g2 c L L0 [(ka, ocells x, 37)] wr) => h.lay2 x.ln x.n e)
            clear h0 e
            go_wp2_with fail
            refine (HC.out _ H3.out).mono ?_
            rintro e w5 ⟨rfl, ho⟩
            have H4 := Lib.hid ho
            clear ho HC hca H3
            go_wp2_with fail
            go_meet
            case rel => exact ⟨rfl, H4.out⟩
          · have k0 : (x.k == 0) = false := by simpa using h0
            by_cases h1 : x.k = 1
            · have e : setP c L0 x.ln x.n x.wd = (n, L) := by rw [← HM.out]; unfold doP; rw [if_neg h0, if_pos h1]
              have k1 : (x.k == 1) = true := by simpa using h1
              have HC := Lib.hid (fun wr (h : Two w1 b g b2 g2 c L L0 [(ka, ocells x, 37)] wr) => h.set2 x.ln x.n x.wd e)
              clear h0 h1 e
              go_wp2_with fail
              refine (HC.out _ H3.out).mono ?_
              rintro e w5 ⟨rfl, ho⟩
              have H4 := Lib.hid ho
              clear ho HC hca H3
              go_wp2_with fail
              go_meet
              case rel => exact ⟨rfl, H4.out⟩
            · have k1 : (x.k == 1) = false := by simpa using h1
              by_cases h2 : x.k = 2
              · have e : lockP c L0 x.ln (x.n != 0) = (n, L) := by rw [← HM.out]; unfold doP; rw [if_neg h0, if_neg h1, if_pos h2]
                have k2 : (x.k == 2) = true := by simpa using h2
                clear h0 h1 h2
                rcases Bool.eq_false_or_eq_true (x.n != 0) with hq | hq
                all_goals
                  rw [hq] at e
                  have HC := Lib.hid (fun wr (h : Two w1 b g b2 g2 c L L0 [(ka, ocells x, 37)] wr) => h.lock2 x.ln _ e)
                  clear e
                  go_wp2_with fail
                  refine (HC.out _ H3.out).mono ?_
                  rintro e w5 ⟨rfl, ho⟩
                  have H4 := Lib.hid ho
                  clear ho HC hca H3
                  go_wp2_with fail
                  go_meet
                  case rel => exact ⟨rfl, H4.out⟩
              · have k2 : (x.k == 2) = false := by simpa using h2
                have e : (0, L0) = (n, L) := by rw [← HM.out]; unfold doP; rw [if_neg h0, if_neg h1, if_neg h2]
                simp only [Prod.mk.injEq] at e
                obtain ⟨e1, e2⟩ := e
                subst e2
                have HN := Lib.hid e1
                clear h0 h1 h2 hca e1
                go_wp2_with fail
                go_meet
                case rel => exact ⟨by rw [HN.out], H3.out⟩
        case rest =>
          as_aux_lemma =>
          obtain ⟨rfl, ho⟩ := hcut
          have H4 := Lib.hid ho
          clear ho hca H3 HM
          generalize hfd : fnd c L line = fd
          obtain ⟨z, kk, q⟩ := fd
          have HFD := Lib.hid hfd
          generalize hfr : fre c L line = r
          have HFR := Lib.hid hfr
          generalize hln : linesP L = ll
          have HLN := Lib.hid hln
          have hll : ll.length ≤ 5000 := by rw [← hln]; exact H4.out.lines_len
          have HLL := Lib.hid hll
          clear hfd hfr hln hll
          go_wp2_with fail
          refine (H4.out.find1 line HFD.out).mono ?_
          rintro e w5 ⟨rfl, hb⟩
          have H5 := Lib.hid ((H4.out.step hb).addRow #[.int .i64 0, .int .i64 0, .int .i64 0, .int .i64 0, .int .i64 0, .int .i64 0, .int .i64 0, .int .i64 0, .int .i64 0, .int .i64 0, .bool false] (ycells z) 43)
          clear hb H4
          go_wp2_with ((with_reducible refine wpList_store_row (o := ⟨none, _, _, _, _, _⟩) rfl 43 (.tmp 15) (.tmp 109) rfl w5.heap.size (ycells z) ?sx ?sy 43 ?old ?sg ?si ?so ?s1 ?_); (case sx => rfl); (case sy => rfl); (case old => exact ycells y0); (case sg => exact heap_alloc_new w5 _); (case si => kernel_rfl); (case so => rfl); (case s1 => kernel_rfl))
          generalize (w5.alloc (.cells #[.int .i64 0, .int .i64 0, .int .i64 0, .int .i64 0, .int .i64 0, .int .i64 0, .int .i64 0, .int .i64 0, .int .i64 0, .int .i64 0, .bool false] 43)).setRow w5.heap.size (ycells z) = w6 at *
          generalize w5.heap.size = kb at *
          refine (H5.out.find2 line HFD.out).mono ?_
          rintro e w7 ⟨rfl, hb⟩
          have H6 := Lib.hid ((H5.out.step hb).addRow #[.int .i64 0, .int .i64 0, .int .i64 0, .int .i64 0, .int .i64 0, .int .i64 0, .int .i64 0, .int .i64 0, .int .i64 0, .int .i64 0, .bool false] (ycells z) 46)
          clear hb H5
          have hA := H6.out.cells (k := w7.heap.size) (cs := ycells z) (List.mem_cons_self ..)
          have hB := H6.out.cells (k := kb) (cs := ycells z) (List.mem_cons_of_mem _ (List.mem_cons_self ..))
          have hq := rway_neq z
          go_wp2_with ((with_reducible refine wpList_store_row (o := ⟨none, _, _, _, _, _⟩) rfl 46 (.tmp 18) (.tmp 116) rfl w7.heap.size (ycells z) ?sx ?sy 46 ?old ?sg ?si ?so ?s1 ?_); (case sx => rfl); (case sy => rfl); (case old => exact ycells y0); (case sg => exact heap_alloc_new w7 _); (case si => kernel_rfl); (case so => rfl); (case s1 => kernel_rfl); generalize (w7.alloc (.cells #[.int .i64 0, .int .i64 0, .int .i64 0, .int .i64 0, .int .i64 0, .int .i64 0, .int .i64 0, .int .i64 0, .int .i64 0, .int .i64 0, .bool false] 46)).setRow w7.heap.size (ycells z) = w8 at *; generalize w7.heap.size = kd at *)
          refine (H6.out.free1 line HFR.out).mono ?_
          rintro e w9 ⟨rfl, hb⟩
          have H7 := Lib.hid (H6.out.step hb)
          clear hb H6 hA hB hq
          go_wp2_with fail
          refine (H7.out.free2 line HFR.out).mono ?_
          rintro e w10 ⟨rfl, hb⟩
          have H8 := Lib.hid (H7.out.step hb)
          clear hb H7
          go_wp2_with fail
          refine (H8.out.lines1 HLN.out).mono ?_
          rintro e w11 ⟨p1, c1, rfl, hin1, hb⟩
          have H9 := Lib.hid (H8.out.step hb)
          have HI1 := Lib.hid hin1
          clear hb H8 hin1
          go_wp2_with fail
          refine (H9.out.lines2 HLN.out).mono ?_
          rintro e w12 ⟨p2, c2, rfl, hin2, hb⟩
          have H10 := Lib.hid (H9.out.step hb)
          have HI3 := Lib.hid (HI1.out.step hb)
          have HI2 := Lib.hid hin2
          clear hb H9 hin2 HI1
          go_wp2_with fail
          refine (same_any p1 p2 c1 c2 ll ll _ HLL.out HI3.out HI2.out).mono ?_
          rintro e w13 ⟨rfl, nn, rfl⟩
          have H11 := Lib.hid (H10.out.drewN nn).drop.drop
          have hll2 : (ll == ll) = true := by simp
          clear H10 HI3 HI2
          generalize w12.drewN nn = w14 at *
          as_aux_lemma =>
          clear HLL HLN HFR HFD hll2
          have HOL := HL
          clear HL
          by_cases hin : (0 ≤ ((k : Int) % 5 - 1) ∧ ((k : Int) % 5 - 1) < c.se) ∧ 0 ≤ x.n ∧ x.n < c.wa
          · obtain ⟨⟨i1, i2⟩, i3, i4⟩ := hin
            obtain ⟨S, N, so, I, hS, hN, e1, e0, e2, hso, hI, hIl⟩ := at_math HOK.out i1 i2 i3 i4
            have hlen := H11.out.ar.sz.len
            obtain ⟨y, hy⟩ : ∃ y, L[I]? = some y := ⟨_, List.getElem?_eq_getElem (by rw [hlen]; exact hIl)⟩
            rw [hI] at hy
            have HAT : Hid (∀ wr, Two w1 b g b2 g2 c L L [(ka, ocells x, 37)] wr → Calls Tryd.prog 20 #[.pointer (some ⟨b, 0, none⟩), .int .i64 ((k : Int) % 5 - 1), .int .i64 x.n] wr (RetA wr y true)) := Lib.hid (fun wr h => by
              rw [hS, hN]
              exact at_yes h.own.ar S N y (by omega) (by omega) hy)
            rw [← hI] at hy
            have hIL : I < L.length := by rw [hlen]; exact hIl
            have HRW : Hid (∀ wr, Ar wr b2 g2 c L → wr.rangeAt g2 (I * 11) (yc y)) := Lib.hid (fun wr h => by
              have := h.ways _ y hy
              rwa [Nat.zero_add] at this)
            clear hS hN hI hIl hlen hy
            have hca := H11.out.cells (k := ka) (cs := ocells x) (List.mem_cons_self ..)
            go_wp2_with fail
            refine (HAT.out _ H11.out).mono ?_
            rintro e w15 ⟨rfl, hb⟩
            have H12 := Lib.hid ((H11.out.step hb).addRow #[.int .i64 0, .int .i64 0, .int .i64 0, .int .i64 0, .int .i64 0, .int .i64 0, .int .i64 0, .int .i64 0, .int .i64 0, .int .i64 0, .bool false] (ycells y) 43)
            clear hb H11 hca HAT
            have hca := H12.out.cells (k := ka) (cs := ocells x) (List.mem_cons_of_mem _ (List.mem_cons_self ..))
            have hcb := H12.out.cells (k := w15.heap.size) (cs := ycells y) (List.mem_cons_self ..)
            have hcc := blk_cells (KK.out.step H12.out.own.bl).c0
            have hr := HRW.out _ H12.out.ar
            have h13 := H12.out.ar.hd 13
            simp at h13
            have q0 := hr 0 _ rfl
            rw [Nat.add_zero] at q0
            have q1 := hr 1 _ rfl
            have q2 := hr 2 _ rfl
            have q3 := hr 3 _ rfl
            have q4 := hr 4 _ rfl
            have q5 := hr 5 _ rfl
            have q6 := hr 6 _ rfl
            have q7 := hr 7 _ rfl
            have q8 := hr 8 _ rfl
            have q9 := hr 9 _ rfl
            have q10 := hr 10 _ rfl
            have hq := rway_neq y
            clear hr HRW
            generalize L.length = LL at *
            go_wp2_with ((with_reducible refine wpList_store_row (o := ⟨none, _, _, _, _, _⟩) rfl 43 (.tmp 21) (.tmp 162) rfl w15.heap.size (ycells y) ?sx ?sy 43 ?old ?sg ?si ?so ?s1 ?_); (case sx => rfl); (case sy => rfl); (case old => exact ycells y0); (case sg => exact heap_alloc_new w15 _); (case si => kernel_rfl); (case so => rfl); (case s1 => kernel_rfl); generalize (w15.alloc (.cells #[.int .i64 0, .int .i64 0, .int .i64 0, .int .i64 0, .int .i64 0, .int .i64 0, .int .i64 0, .int .i64 0, .int .i64 0, .int .i64 0, .bool false] 43)).setRow w15.heap.size (ycells y) = w16 at *; generalize w15.heap.size = ke at *)
            have HB5 := Lib.hid (fun n => (H12.out.drewN n).drop.drop)
            clear H12
            as_aux_lemma =>
            go_quiet (fail)
            clear e1 e0 e2 q0 q1 q2 q3 q4 q5 q6 q7 q8 q9 q10 hca hcb hcc h13 hq
            go_wp2_with fail
            go_roundw
            case rel => exact ⟨k + 1, by omega, by go_num, L, HB5.out _⟩
            case measure => simp [intOf]; omega
          · have hcs : (((k : Int) % 5 - 1 < 0) ∧ decide (0 ≤ ((k : Int) % 5 - 1)) = false) ∨ (0 ≤ ((k : Int) % 5 - 1) ∧ c.se ≤ ((k : Int) % 5 - 1) ∧ decide (((k : Int) % 5 - 1) < c.se) = false) ∨ (0 ≤ ((k : Int) % 5 - 1) ∧ ((k : Int) % 5 - 1) < c.se ∧ x.n < 0 ∧ decide (0 ≤ x.n) = false) ∨ (0 ≤ ((k : Int) % 5 - 1) ∧ ((k : Int) % 5 - 1) < c.se ∧ 0 ≤ x.n ∧ c.wa ≤ x.n ∧ decide (x.n < c.wa) = false) := by
              simp only [decide_eq_false_iff_not]
              omega
            have HAT := Lib.hid (fun wr (h : Two w1 b g b2 g2 c L L [(ka, ocells x, 37)] wr) => at_no h.own.ar ((k : Int) % 5 - 1) x.n (by omega))
            have hq : ∀ w, (binOp .neq 43 (.agg #[.int .i64 0, .int .i64 0, .int .i64 0, .int .i64 0, .int .i64 0, .int .i64 0, .int .i64 0, .int .i64 0, .int .i64 0, .int .i64 0, .bool false]) (.agg #[.int .i64 0, .int .i64 0, .int .i64 0, .int .i64 0, .int .i64 0, .int .i64 0, .int .i64 0, .int .i64 0, .int .i64 0, .int .i64 0, .bool false])).run Tryd.prog w = .ok (.bool false) w := fun w => way_neq y0 w
            clear hin
            rcases hcs with ⟨f1, f2⟩ | ⟨f1, f2, f3⟩ | ⟨f1, f2, f3, f4⟩ | ⟨f1, f2, f3, f4, f5⟩
            all_goals
              as_aux_lemma =>
              have hca := H11.out.cells (k := ka) (cs := ocells x) (List.mem_cons_self ..)
              go_wp2_with fail
              refine (HAT.out _ H11.out).mono ?_
              rintro e w15 ⟨he, hb⟩
              have he' : e = .returned (.tuple #[.agg #[.int .i64 0, .int .i64 0, .int .i64 0, .int .i64 0, .int .i64 0, .int .i64 0, .int .i64 0, .int .i64 0, .int .i64 0, .int .i64 0, .bool false], .bool false]) := he
              subst he'
              have H12 := Lib.hid ((H11.out.step hb).addRow #[.int .i64 0, .int .i64 0, .int .i64 0, .int .i64 0, .int .i64 0, .int .i64 0, .int .i64 0, .int .i64 0, .int .i64 0, .int .i64 0, .bool false] #[.int .i64 0, .int .i64 0, .int .i64 0, .int .i64 0, .int .i64 0, .int .i64 0, .int .i64 0, .int .i64 0, .int .i64 0, .int .i64 0, .bool false] 43)
              clear hb H11 hca HAT he
              have hca := H12.out.cells (k := ka) (cs := ocells x) (List.mem_cons_of_mem _ (List.mem_cons_self ..))
              have hcb := H12.out.cells (k := w15.heap.size) (cs := #[.int .i64 0, .int .i64 0, .int .i64 0, .int .i64 0, .int .i64 0, .int .i64 0, .int .i64 0, .int .i64 0, .int .i64 0, .int .i64 0, .bool false]) (List.mem_cons_self ..)
              have hcc := blk_cells (KK.out.step H12.out.own.bl).c0
              go_wp2_with ((with_reducible refine wpList_store_row (o := ⟨none, _, _, _, _, _⟩) rfl 43 (.tmp 21) (.tmp 162) rfl w15.heap.size #[.int .i64 0, .int .i64 0, .int .i64 0, .int .i64 0, .int .i64 0, .int .i64 0, .int .i64 0, .int .i64 0, .int .i64 0, .int .i64 0, .bool false] ?sx ?sy 43 ?old ?sg ?si ?so ?s1 ?_); (case sx => rfl); (case sy => rfl); (case old => exact ycells y0); (case sg => exact heap_alloc_new w15 _); (case si => kernel_rfl); (case so => rfl); (case s1 => kernel_rfl); generalize (w15.alloc (.cells #[.int .i64 0, .int .i64 0, .int .i64 0, .int .i64 0, .int .i64 0, .int .i64 0, .int .i64 0, .int .i64 0, .int .i64 0, .int .i64 0, .bool false] 43)).setRow w15.heap.size #[.int .i64 0, .int .i64 0, .int .i64 0, .int .i64 0, .int .i64 0, .int .i64 0, .int .i64 0, .int .i64 0, .int .i64 0, .int .i64 0, .bool false] = w16 at *; generalize w15.heap.size = ke at *)
              have HB5 := Lib.hid (fun n => (H12.out.drewN n).drop.drop)
              clear H12
              go_quiet (fail)
              clear hca hcb hcc hq
              go_wp2_with fail
              go_roundw
              case rel => exact ⟨k + 1, by omega, by go_num, L, HB5.out _⟩
              case measure => simp [intOf]; omega
      · have HB := (KK.out.step H1.out.own.bl).bl
        clear KK HT HL HF TB H1
        go_wp2
        go_ret
        exact ⟨rfl, HB⟩
  · have HN := Lib.hid (new_no c w1 HF.out hok)
    have HOK := Lib.hid hok
    clear hok
    rcases hcase with hli | ⟨hli, hli2⟩
    all_goals
      go_wp2_with fail
      refine HN.out.mono ?_
      rintro e w2 ⟨rfl, hb⟩
      have hcc := blk_cells (KK.out.step hb).c0
      have HB := Lib.hid (bstep KK.out.bl hb)
      clear KK HT HL HN TB hb
      go_wp2_with fail
      refine (refNew_no c _ HOK.out).mono ?_
      rintro e w3 ⟨rfl, hb⟩
      have HB3 := Lib.hid (bstep HB.out hb)
      clear HB hb hcc
      go_wp2_with fail
      go_loopw [11] (fun t wr => t = .int .i64 0 ∧ Below w.heap.size w wr) (fun _ _ => 0)
      case atStart => exact ⟨rfl, HB3.out⟩
      case round =>
        obtain ⟨rfl, hb⟩ := hrel
        go_wp2_with fail
        go_ret
        exact ⟨rfl, hb⟩

end Go.Proofs.YtldbepaclddgmaaDoor
