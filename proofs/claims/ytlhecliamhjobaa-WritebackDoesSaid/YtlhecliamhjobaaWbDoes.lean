/-
  WritebackDoes is true: the walk.
-/
import Derived.Test.YtlhecliamhjobaaWbTwo
import Derived.Test.YtlhecliamhjobaaWbS
import Derived.Test.YtlhecliamhjobaaWbT
namespace Go.Proofs.Ytlhecliamhjobaa
open Go Go.RowKit

theorem rentry_neq (x : En) (w : World) : (binOp .neq 47 (.agg (mcells x)) (.agg (mcells x))).run Try.prog w = .ok (.bool false) w := by
  have ha := fun d => words_same d x.wd
  simp [go_sem, ha]
theorem cells_of {w : World} {g i : Nat} {x : En} (h : w.rangeAt g (i * 10) (mc x)) : w.cell? ⟨g, i * 10, none⟩ = some (.int .i64 x.ln) ∧ w.cell? ⟨g, i * 10 + 1, none⟩ = some (.int .i64 x.wd.w0) ∧ w.cell? ⟨g, i * 10 + 2, none⟩ = some (.int .i64 x.wd.w1) ∧ w.cell? ⟨g, i * 10 + 3, none⟩ = some (.int .i64 x.wd.w2) ∧ w.cell? ⟨g, i * 10 + 4, none⟩ = some (.int .i64 x.wd.w3) ∧ w.cell? ⟨g, i * 10 + 5, none⟩ = some (.int .i64 x.wd.w4) ∧ w.cell? ⟨g, i * 10 + 6, none⟩ = some (.int .i64 x.wd.w5) ∧ w.cell? ⟨g, i * 10 + 7, none⟩ = some (.int .i64 x.wd.w6) ∧ w.cell? ⟨g, i * 10 + 8, none⟩ = some (.int .i64 x.wd.w7) ∧ w.cell? ⟨g, i * 10 + 9, none⟩ = some (.bool x.lv) :=
  ⟨h 0 _ rfl, h 1 _ rfl, h 2 _ rfl, h 3 _ rfl, h 4 _ rfl, h 5 _ rfl, h 6 _ rfl, h 7 _ rfl, h 8 _ rfl, h 9 _ rfl⟩
theorem once_both {room : Int} {l m : List En} {x : Wo} {n : Int} {d : Wd} (h : doP room l x = ((d, n), m)) :
    (x.k == 0) = true ∧ d = d0 ∧ putP room l x.ln x.wd = (n, m) ∨ ((x.k == 0) = false ∧ (x.k == 1) = true ∧ (x.k == 2) = false) ∧ ansP id l x.ln = ((d, n), m) ∨ ((x.k == 0) = false ∧ (x.k == 1) = false ∧ (x.k == 2) = true) ∧ ansP gone l x.ln = ((d, n), m) ∨ ((x.k == 0) = false ∧ (x.k == 1) = false ∧ (x.k == 2) = false) ∧ d = d0 ∧ dropP l x.ln = (n, m) := by
  rcases once_do h with ⟨h1, h2⟩ | h1 | h1 | ⟨⟨h1, h2, h3⟩, h4⟩
  · refine .inl ⟨h1, ?_, h2⟩
    unfold doP at h
    rw [if_pos (by simpa using h1)] at h
    exact (Prod.mk.inj (Prod.mk.inj h).1).1.symm
  · exact .inr (.inl h1)
  · exact .inr (.inr (.inl h1))
  · refine .inr (.inr (.inr ⟨⟨h1, h2, h3⟩, ?_, h4⟩))
    unfold doP at h
    rw [if_neg (by simpa using h1), if_neg (by simpa using h2), if_neg (by simpa using h3)] at h
    exact (Prod.mk.inj (Prod.mk.inj h).1).1.symm
theorem get_both {l : List En} {y : Int} {z : En} {q : Bool} (h : getP l y = (z, q)) : (fnd l y = none ∧ z = m0 ∧ q = false) ∨ ∃ i, fnd l y = some i ∧ l[i]? = some z ∧ q = true := by
  rcases hp : fnd l y with _ | i
  · rw [getP_none hp] at h
    obtain ⟨rfl, rfl⟩ := Prod.mk.inj h
    exact .inl ⟨rfl, rfl, rfl⟩
  · obtain ⟨x, hx, _, _⟩ := fnd_some hp
    rw [getP_yes hp hx] at h
    obtain ⟨rfl, rfl⟩ := Prod.mk.inj h
    exact .inr ⟨i, rfl, hx, rfl⟩
variable {w wr wr' : World} {b b2 : Nat} {L R : List En} {bx : List (Nat × Obj)} in
theorem Two.setRow {room : Int} {n : Nat} {cs cs' : Array Value} {T : TypeId} (h : Two w b b2 room L R ((n, .cells cs T (0, 0)) :: bx) wr) : Two w b b2 room L R ((n, .cells cs' T (0, 0)) :: bx) (wr.setRow n cs') := by
  obtain ⟨v, v2, h1, h2, h3, h4, h5, h6, h7⟩ := h.fs
  obtain ⟨g1, g2, g3, g4⟩ := h.bxs (n, .cells cs T (0, 0)) (List.mem_cons_self ..)
  obtain ⟨n1, n2⟩ := h7 (n, .cells cs T (0, 0)) (List.mem_cons_self ..)
  have hnd := List.nodup_cons.1 (show ((n, Obj.cells cs T (0, 0)) :: bx).map Prod.fst |>.Nodup from h.nd)
  simp only at g1 g2 g3 g4 n1 n2
  refine ⟨⟨v, v2, h1.keep (setRow_other _ n b cs' (fun e => g2 e.symm)) (fun q hq => setRow_other _ n q cs' (fun e => n1 (by rw [← e]; exact hq))), h2.keep (setRow_other _ n b2 cs' (fun e => g3 e.symm)) (fun q hq => setRow_other _ n q cs' (fun e => n2 (by rw [← e]; exact hq))), h3, h4, h5, h6, fun p hp => ?_⟩, h.g1, h.g2, below_setRow h.bl g4 cs', fun p hp => ?_, h.nd⟩
  · rcases List.mem_cons.1 hp with rfl | hp
    · exact ⟨n1, n2⟩
    · exact h7 p (List.mem_cons_of_mem _ hp)
  · rcases List.mem_cons.1 hp with rfl | hp
    · exact ⟨setRow_heap _ _ _ _ _ _ g1, g2, g3, g4⟩
    · obtain ⟨q1, q2⟩ := h.bxs p (List.mem_cons_of_mem _ hp)
      exact ⟨(setRow_other _ n p.1 cs' (fun e => hnd.1 (List.mem_map.2 ⟨p, hp, e⟩))).trans q1, q2⟩

set_option maxRecDepth 100000 in
set_option maxHeartbeats 8000000 in
theorem writebackDoes_any (room : Int) (p : Option Addr) (cap : Nat) (l : List Wo) (w : World) (hl : OpsP w p l) (hn : l.length ≤ 9223372036854775807) :
    Calls Try.prog 3 #[.int .i64 room, .slice p l.length cap] w fun e w' => e = .returned (.bool true) ∧ Below w.heap.size w w' := by
  have HL := Lib.hid hl
  clear hl
  go_enter Try.func3, Try.ntmps3
  go_wp2_with fail
  refine (awake_any _).mono ?_
  rintro e w1 ⟨rfl, hb⟩
  have HB := Lib.hid hb
  clear hb
  by_cases h60 : 60 < l.length
  · clear HL
    go_wp2
    go_ret
    exact ⟨rfl, HB.out⟩
  by_cases hr : room < 1 ∨ 8 < room
  · have hro := Lib.hid hr
    clear hr HL
    go_wp2_with fail
    refine (new_no room _ hro.out).mono ?_
    rintro e w2 ⟨rfl, rfl⟩
    go_wp2_with fail
    refine (refNew_no room _ hro.out).mono ?_
    rintro e w2 ⟨rfl, rfl⟩
    go_wp2
    go_loopw [9] (fun i wr => i = .int .i64 0 ∧ w1 = wr) (fun i _ => 0)
    case atStart => exact ⟨rfl, rfl⟩
    case round =>
      obtain ⟨rfl, rfl⟩ := hrel
      go_wp2
      go_ret
      exact ⟨rfl, HB.out⟩
  have HR := Lib.hid hr
  clear hr
  go_wp2_with fail
  refine (newO (w := w1) (room := room) (by have := HR.out; omega) (by have := HR.out; omega) (Below.refl _ w1)).mono ?_
  rintro e w2 ⟨b, rfl, ho, -⟩
  have H0 := Lib.hid ho
  clear ho HR
  go_wp2_with fail
  refine H0.out.two.mono ?_
  rintro e w3 ⟨b2, rfl, ho⟩
  have HT0 := Lib.hid ho
  clear ho H0
  go_wp2
  go_loopw [9] (fun i wr => ∃ (k : Nat) (L : List En), k ≤ l.length ∧ i = .int .i64 k ∧ Two w1 b b2 room L L [] wr) (fun i _ => l.length - (intOf i).toNat)
  case atStart => exact ⟨0, [], by omega, rfl, HT0.out⟩
  case round =>
    obtain ⟨k, L0, hk, rfl, ho⟩ := hrel
    obtain ⟨wo, rfl⟩ : ∃ wo : World, wo = wr := ⟨_, rfl⟩
    have H1 := Lib.hid ho
    clear ho HT0
    by_cases hlt : k < l.length
    · obtain ⟨x, hx⟩ : ∃ x, l[k]? = some x := ⟨_, List.getElem?_eq_getElem hlt⟩
      obtain ⟨gl, off, rfl, hgl, hr⟩ := HL.out.step (bstep HB.out H1.out.bl) k x hx
      have HRO := Lib.hid hr
      obtain ⟨d, nn, M, hD⟩ : ∃ d n M, doP room L0 x = ((d, n), M) := ⟨_, _, _, rfl⟩
      obtain ⟨z, q, hG⟩ : ∃ z q, getP M x.ln = (z, q) := ⟨_, _, rfl⟩
      have HD := Lib.hid hD
      have HCS := Lib.hid (get_both hG)
      have HG := Lib.hid hG
      have H2 := Lib.hid (H1.out.addRow #[.int .i64 0, .int .i64 0, .int .i64 0, .int .i64 0, .int .i64 0, .int .i64 0, .int .i64 0, .int .i64 0, .int .i64 0, .int .i64 0] (ocells x) 34)
      clear hr hgl hx hD hG H1
      go_wp2_with (first
        | ((with_reducible refine wpList_load_at (op := ⟨some 58, _, _, _, _, _⟩) rfl 34 (.tmp 57) rfl gl (off + k * 10) ?lx (ocells x) _ ?lc Try.underlying34 ?ld ?li ?_); (case lx => rfl); (case lc => exact HRO.out); (case ld => rfl); (case li => kernel_rfl))
        | ((with_reducible refine wpList_store_row (o := ⟨none, _, _, _, _, _⟩) rfl 34 (.tmp 10) (.tmp 58) rfl wo.heap.size (ocells x) ?sx ?sy 34 ?old ?sg ?si ?so ?s1 ?_); (case sx => rfl); (case sy => rfl); (case old => exact #[.int .i64 0, .int .i64 0, .int .i64 0, .int .i64 0, .int .i64 0, .int .i64 0, .int .i64 0, .int .i64 0, .int .i64 0, .int .i64 0]); (case sg => exact heap_alloc_new wo _); (case si => kernel_rfl); (case so => rfl); (case s1 => kernel_rfl); generalize (wo.alloc (.cells #[.int .i64 0, .int .i64 0, .int .i64 0, .int .i64 0, .int .i64 0, .int .i64 0, .int .i64 0, .int .i64 0, .int .i64 0, .int .i64 0] 34)).setRow wo.heap.size (ocells x) = w4 at *; generalize wo.heap.size = k10 at *; have h10 := (H2.out.bxs _ (List.mem_cons_self ..)).1)
        | ((with_reducible refine wpList_load_row (o := ⟨some 61, _, _, _, _, _⟩) rfl 34 (.tmp 10) rfl k10 ?lx 34 (ocells x) (0, 0) _ ?lg Try.underlying34 ?ld ?li ?_); (case lx => rfl); (case lg => exact h10); (case ld => rfl); (case li => kernel_rfl)))
      refine (H2.out.op1 x HD.out).mono ?_
      rintro e w5 ⟨rfl, ho⟩
      have H3 := Lib.hid (ho.addRow #[.int .i64 0, .int .i64 0, .int .i64 0, .int .i64 0, .int .i64 0, .int .i64 0, .int .i64 0, .int .i64 0] (dcells d) 32)
      clear ho H2 h10
      rcases once_both HD.out with ⟨hk0, rfl, e⟩ | ⟨⟨hk0, hk1, hk2⟩, e⟩ | ⟨⟨hk0, hk1, hk2⟩, e⟩ | ⟨⟨hk0, hk1, hk2⟩, rfl, e⟩
      · have HE := Lib.hid e
        clear e HD
        as_aux_lemma =>
        go_wp2_with (first
          | ((with_reducible refine wpList_store_row (o := ⟨none, _, _, _, _, _⟩) rfl 32 (.tmp 11) (.tmp 63) rfl w5.heap.size (dcells d0) ?sx ?sy 32 ?old ?sg ?si ?so ?s1 ?_); (case sx => rfl); (case sy => rfl); (case old => exact #[.int .i64 0, .int .i64 0, .int .i64 0, .int .i64 0, .int .i64 0, .int .i64 0, .int .i64 0, .int .i64 0]); (case sg => exact heap_alloc_new w5 _); (case si => kernel_rfl); (case so => rfl); (case s1 => kernel_rfl); generalize (w5.alloc (.cells #[.int .i64 0, .int .i64 0, .int .i64 0, .int .i64 0, .int .i64 0, .int .i64 0, .int .i64 0, .int .i64 0] 32)).setRow w5.heap.size (dcells d0) = w6 at *; generalize w5.heap.size = k11 at *; have H4 := Lib.hid (H3.out.addRow #[.int .i64 0, .int .i64 0, .int .i64 0, .int .i64 0, .int .i64 0, .int .i64 0, .int .i64 0, .int .i64 0] (dcells d0) 32); clear H3)
          | ((with_reducible refine wpList_store_row (o := ⟨none, _, _, _, _, _⟩) rfl 32 (.tmp 13) (.tmp 65) rfl w6.heap.size (dcells d0) ?sx ?sy 32 ?old ?sg ?si ?so ?s1 ?_); (case sx => rfl); (case sy => rfl); (case old => exact #[.int .i64 0, .int .i64 0, .int .i64 0, .int .i64 0, .int .i64 0, .int .i64 0, .int .i64 0, .int .i64 0]); (case sg => exact heap_alloc_new w6 _); (case si => kernel_rfl); (case so => rfl); (case s1 => kernel_rfl); generalize (w6.alloc (.cells #[.int .i64 0, .int .i64 0, .int .i64 0, .int .i64 0, .int .i64 0, .int .i64 0, .int .i64 0, .int .i64 0] 32)).setRow w6.heap.size (dcells d0) = w7 at *; generalize w6.heap.size = k13 at *; have hA := H4.out.cells (List.mem_cons_of_mem _ (List.mem_cons_of_mem _ (List.mem_cons_self ..))))
          | fail)
        refine (H4.out.put2 x.ln x.wd HE.out).mono ?_
        rintro e w8 ⟨rfl, ho⟩
        have H5 := Lib.hid ho
        clear ho H4 hA HE hk0
        go_wp2_with fail
        refine (H5.out.list1).mono ?_
        rintro e w13 ⟨pl, cl, rfl, hin, hb⟩
        have H7 := Lib.hid (H5.out.step hb)
        have HIN := Lib.hid hin
        clear hb H5 hin
        have hA := H7.out.cells (List.mem_cons_of_mem _ (List.mem_cons_self ..))
        have hB := H7.out.cells (List.mem_cons_self ..)
        have hqw := words_neq d0
        obtain ⟨pr, cr, hbr, hinr⟩ := H7.out.ref
        have hc1 := blk_cell hbr 1
        simp at hc1
        have HINR := Lib.hid hinr
        have hL8 := H7.out.g1.short
        have hr1 := H7.out.g1.r1
        have hr2 := H7.out.g1.r2
        have HLF := Lib.hid (fun n => (H7.out.step (below_drewN (Below.refl _ _) n)).left1)
        clear hbr hinr
        as_aux_lemma =>
        go_wp2
        go_quiet ((go_at_call 14; exact Calls.quiet_of (HLF.out _)))
        go_wp2
        clear hA hB hqw HLF
        go_loopw [132] (fun i wr => ∃ j : Nat, j ≤ M.length ∧ i = .int .i64 j ∧ ∃ n, wr = w13.drewN n) (fun i _ => M.length - (intOf i).toNat)
        case atStart => exact ⟨0, by omega, rfl, _, rfl⟩
        case round =>
          obtain ⟨j, hj, rfl, n, rfl⟩ := hrel
          by_cases hjl : j < M.length
          · obtain ⟨m, hm⟩ : ∃ m, M[j]? = some m := ⟨_, List.getElem?_eq_getElem hjl⟩
            obtain ⟨ga, hpa, _, hra⟩ := HIN.out j m hm
            obtain ⟨gb, hpb, _, hrb⟩ := HINR.out j m hm
            subst hpa
            subst hpb
            obtain ⟨a0, a1, a2, a3, a4, a5, a6, a7, a8, a9⟩ := cells_of hra
            obtain ⟨d0, d1, d2, d3, d4, d5, d6, d7, d8, d9⟩ := cells_of hrb
            have hq := rentry_neq m
            clear hm hra hrb
            as_aux_lemma =>
            go_wp2
            go_quiet (fail)
            go_wp2
            go_roundw
            case rel => exact ⟨j + 1, by omega, by go_num, _, rfl⟩
            case measure => simp [intOf]; omega
          · obtain ⟨w14, hw14⟩ : ∃ w14, w14 = w13.drewN n := ⟨_, rfl⟩
            have H8 : Hid (Two w1 b b2 room M M [(k10, .cells (ocells x) 34 (0, 0))] w14) := Lib.hid (by rw [hw14]; exact (H7.out.step (below_drewN (Below.refl _ _) n)).drop.drop)
            rw [← hw14]
            clear H7 hc1 hw14 HINR HIN
            have hA := H8.out.cells (List.mem_cons_self ..)
            as_aux_lemma =>
            go_wp2_with fail
            refine (H8.out.get1 x.ln HG.out).mono ?_
            rintro e w15 ⟨rfl, hb⟩
            have H9 := Lib.hid ((H8.out.step hb).addRow #[.int .i64 0, .int .i64 0, .int .i64 0, .int .i64 0, .int .i64 0, .int .i64 0, .int .i64 0, .int .i64 0, .int .i64 0, .bool false] (mcells z) 48)
            clear hb H8 hA
            go_wp2_with (first
              | ((with_reducible refine wpList_store_row (o := ⟨none, _, _, _, _, _⟩) rfl 48 (.tmp 17) (.tmp 153) rfl w15.heap.size (mcells z) ?sx ?sy 48 ?old ?sg ?si ?so ?s1 ?_); (case sx => rfl); (case sy => rfl); (case old => exact #[.int .i64 0, .int .i64 0, .int .i64 0, .int .i64 0, .int .i64 0, .int .i64 0, .int .i64 0, .int .i64 0, .int .i64 0, .bool false]); (case sg => exact heap_alloc_new w15 _); (case si => kernel_rfl); (case so => rfl); (case s1 => kernel_rfl); generalize (w15.alloc (.cells #[.int .i64 0, .int .i64 0, .int .i64 0, .int .i64 0, .int .i64 0, .int .i64 0, .int .i64 0, .int .i64 0, .int .i64 0, .bool false] 48)).setRow w15.heap.size (mcells z) = w16 at *; generalize w15.heap.size = k17 at *; have hA := H9.out.cells (List.mem_cons_of_mem _ (List.mem_cons_self ..)))
              | fail)
            refine (H9.out.place2 x.ln).mono ?_
            rintro e w17 ⟨rfl, rfl⟩
            obtain ⟨pr, cr, hbr, hinr⟩ := H9.out.ref
            have hc1 := blk_cell hbr 1
            simp at hc1
            clear hbr hA
            rcases HCS.out with ⟨e1, rfl, rfl⟩ | ⟨i, e1, hx, rfl⟩
            · rw [e1]
              simp only [oi]
              have hz : ∀ i, w16.cell? ⟨k17, i, none⟩ = (#[.int .i64 0, .int .i64 0, .int .i64 0, .int .i64 0, .int .i64 0, .int .i64 0, .int .i64 0, .int .i64 0, .int .i64 0, .bool false] : Array Value)[i]? := H9.out.cells (List.mem_cons_self ..)
              have hq : ∀ w, (binOp .neq 48 (.agg #[.int .i64 0, .int .i64 0, .int .i64 0, .int .i64 0, .int .i64 0, .int .i64 0, .int .i64 0, .int .i64 0, .int .i64 0, .bool false]) (.agg #[.int .i64 0, .int .i64 0, .int .i64 0, .int .i64 0, .int .i64 0, .int .i64 0, .int .i64 0, .int .i64 0, .int .i64 0, .bool false])).run Try.prog w = .ok (.bool false) w := fun w => entry_neq m0 w
              have HF := Lib.hid H9.out.drop.drop
              clear H9 hinr hc1 e1 HCS HG
              as_aux_lemma =>
              go_wp2
              go_quiet (fail)
              have HF2 := Lib.hid (HF.out.step (below_drewN (Below.refl _ _) nq))
              clear HF hz hq
              go_wp2
              go_roundw
              case rel => exact ⟨k + 1, M, by omega, by go_num, HF2.out⟩
              case measure => simp [intOf]; omega
            · rw [e1]
              simp only [oi]
              have hz := H9.out.cells (List.mem_cons_self ..)
              have hq := rentry_neq z
              have hil := (List.getElem?_eq_some_iff.1 hx).1
              have hil2 : (i : Int) < (M.length : Int) := by omega
              have hni : (0 : Int) ≤ (i : Int) := by omega
              have hnd : decide ((0 : Int) ≤ (i : Int)) = true := by simp
              obtain ⟨gb, hpb, _, hrb⟩ := hinr i z hx
              subst hpb
              obtain ⟨d0, d1, d2, d3, d4, d5, d6, d7, d8, d9⟩ := cells_of hrb
              have HF := Lib.hid H9.out.drop.drop
              clear H9 hinr hx hrb e1 HCS HG
              as_aux_lemma =>
              go_wp2
              go_quiet (fail)
              have HF2 := Lib.hid (HF.out.step (below_drewN (Below.refl _ _) nq))
              clear HF hz hq d0 d1 d2 d3 d4 d5 d6 d7 d8 d9 hc1
              go_wp2
              go_roundw
              case rel => exact ⟨k + 1, M, by omega, by go_num, HF2.out⟩
              case measure => simp [intOf]; omega
      · have HE := Lib.hid e
        clear e HD
        as_aux_lemma =>
        go_wp2_with (first
          | ((with_reducible refine wpList_store_row (o := ⟨none, _, _, _, _, _⟩) rfl 32 (.tmp 11) (.tmp 63) rfl w5.heap.size (dcells d) ?sx ?sy 32 ?old ?sg ?si ?so ?s1 ?_); (case sx => rfl); (case sy => rfl); (case old => exact #[.int .i64 0, .int .i64 0, .int .i64 0, .int .i64 0, .int .i64 0, .int .i64 0, .int .i64 0, .int .i64 0]); (case sg => exact heap_alloc_new w5 _); (case si => kernel_rfl); (case so => rfl); (case s1 => kernel_rfl); generalize (w5.alloc (.cells #[.int .i64 0, .int .i64 0, .int .i64 0, .int .i64 0, .int .i64 0, .int .i64 0, .int .i64 0, .int .i64 0] 32)).setRow w5.heap.size (dcells d) = w6 at *; generalize w5.heap.size = k11 at *; have H4 := Lib.hid (H3.out.addRow #[.int .i64 0, .int .i64 0, .int .i64 0, .int .i64 0, .int .i64 0, .int .i64 0, .int .i64 0, .int .i64 0] (dcells d0) 32); clear H3)
          | ((with_reducible refine wpList_store_row (o := ⟨none, _, _, _, _, _⟩) rfl 32 (.tmp 13) (.tmp 65) rfl w6.heap.size (dcells d0) ?sx ?sy 32 ?old ?sg ?si ?so ?s1 ?_); (case sx => rfl); (case sy => rfl); (case old => exact #[.int .i64 0, .int .i64 0, .int .i64 0, .int .i64 0, .int .i64 0, .int .i64 0, .int .i64 0, .int .i64 0]); (case sg => exact heap_alloc_new w6 _); (case si => kernel_rfl); (case so => rfl); (case s1 => kernel_rfl); generalize (w6.alloc (.cells #[.int .i64 0, .int .i64 0, .int .i64 0, .int .i64 0, .int .i64 0, .int .i64 0, .int .i64 0, .int .i64 0] 32)).setRow w6.heap.size (dcells d0) = w7 at *; generalize w6.heap.size = k13 at *; have hA := H4.out.cells (List.mem_cons_of_mem _ (List.mem_cons_of_mem _ (List.mem_cons_self ..))))
          | fail)
        refine (H4.out.share2 x.ln HE.out).mono ?_
        rintro e w8 ⟨rfl, ho⟩
        have H5 := Lib.hid ho
        clear ho H4 hA HE hk0 hk1 hk2
        have hbx := (H5.out.bxs _ (List.mem_cons_self ..)).1
        have H6 := Lib.hid (H5.out.setRow (cs' := dcells d))
        clear H5
        go_wp2_with (first
          | ((with_reducible refine wpList_store_row (o := ⟨none, _, _, _, _, _⟩) rfl 32 (.tmp 13) (.tmp 87) rfl k13 (dcells d) ?sx ?sy 32 ?old ?sg ?si ?so ?s1 ?_); (case sx => rfl); (case sy => rfl); (case old => exact #[.int .i64 0, .int .i64 0, .int .i64 0, .int .i64 0, .int .i64 0, .int .i64 0, .int .i64 0, .int .i64 0]); (case sg => exact hbx); (case si => kernel_rfl); (case so => rfl); (case s1 => kernel_rfl); generalize w8.setRow k13 (dcells d) = w9 at *; clear hbx; try skip)
          | fail)
        have H5 := H6
        clear H6
        refine (H5.out.list1).mono ?_
        rintro e w13 ⟨pl, cl, rfl, hin, hb⟩
        have H7 := Lib.hid (H5.out.step hb)
        have HIN := Lib.hid hin
        clear hb H5 hin
        have hA := H7.out.cells (List.mem_cons_of_mem _ (List.mem_cons_self ..))
        have hB := H7.out.cells (List.mem_cons_self ..)
        have hqw := words_neq d
        obtain ⟨pr, cr, hbr, hinr⟩ := H7.out.ref
        have hc1 := blk_cell hbr 1
        simp at hc1
        have HINR := Lib.hid hinr
        have hL8 := H7.out.g1.short
        have hr1 := H7.out.g1.r1
        have hr2 := H7.out.g1.r2
        have HLF := Lib.hid (fun n => (H7.out.step (below_drewN (Below.refl _ _) n)).left1)
        clear hbr hinr
        as_aux_lemma =>
        go_wp2
        go_quiet ((go_at_call 14; exact Calls.quiet_of (HLF.out _)))
        go_wp2
        clear hA hB hqw HLF
        go_loopw [132] (fun i wr => ∃ j : Nat, j ≤ M.length ∧ i = .int .i64 j ∧ ∃ n, wr = w13.drewN n) (fun i _ => M.length - (intOf i).toNat)
        case atStart => exact ⟨0, by omega, rfl, _, rfl⟩
        case round =>
          obtain ⟨j, hj, rfl, n, rfl⟩ := hrel
          by_cases hjl : j < M.length
          · obtain ⟨m, hm⟩ : ∃ m, M[j]? = some m := ⟨_, List.getElem?_eq_getElem hjl⟩
            obtain ⟨ga, hpa, _, hra⟩ := HIN.out j m hm
            obtain ⟨gb, hpb, _, hrb⟩ := HINR.out j m hm
            subst hpa
            subst hpb
            obtain ⟨a0, a1, a2, a3, a4, a5, a6, a7, a8, a9⟩ := cells_of hra
            obtain ⟨d0, d1, d2, d3, d4, d5, d6, d7, d8, d9⟩ := cells_of hrb
            have hq := rentry_neq m
            clear hm hra hrb
            as_aux_lemma =>
            go_wp2
            go_quiet (fail)
            go_wp2
            go_roundw
            case rel => exact ⟨j + 1, by omega, by go_num, _, rfl⟩
            case measure => simp [intOf]; omega
          · obtain ⟨w14, hw14⟩ : ∃ w14, w14 = w13.drewN n := ⟨_, rfl⟩
            have H8 : Hid (Two w1 b b2 room M M [(k10, .cells (ocells x) 34 (0, 0))] w14) := Lib.hid (by rw [hw14]; exact (H7.out.step (below_drewN (Below.refl _ _) n)).drop.drop)
            rw [← hw14]
            clear H7 hc1 hw14 HINR HIN
            have hA := H8.out.cells (List.mem_cons_self ..)
            as_aux_lemma =>
            go_wp2_with fail
            refine (H8.out.get1 x.ln HG.out).mono ?_
            rintro e w15 ⟨rfl, hb⟩
            have H9 := Lib.hid ((H8.out.step hb).addRow #[.int .i64 0, .int .i64 0, .int .i64 0, .int .i64 0, .int .i64 0, .int .i64 0, .int .i64 0, .int .i64 0, .int .i64 0, .bool false] (mcells z) 48)
            clear hb H8 hA
            go_wp2_with (first
              | ((with_reducible refine wpList_store_row (o := ⟨none, _, _, _, _, _⟩) rfl 48 (.tmp 17) (.tmp 153) rfl w15.heap.size (mcells z) ?sx ?sy 48 ?old ?sg ?si ?so ?s1 ?_); (case sx => rfl); (case sy => rfl); (case old => exact #[.int .i64 0, .int .i64 0, .int .i64 0, .int .i64 0, .int .i64 0, .int .i64 0, .int .i64 0, .int .i64 0, .int .i64 0, .bool false]); (case sg => exact heap_alloc_new w15 _); (case si => kernel_rfl); (case so => rfl); (case s1 => kernel_rfl); generalize (w15.alloc (.cells #[.int .i64 0, .int .i64 0, .int .i64 0, .int .i64 0, .int .i64 0, .int .i64 0, .int .i64 0, .int .i64 0, .int .i64 0, .bool false] 48)).setRow w15.heap.size (mcells z) = w16 at *; generalize w15.heap.size = k17 at *; have hA := H9.out.cells (List.mem_cons_of_mem _ (List.mem_cons_self ..)))
              | fail)
            refine (H9.out.place2 x.ln).mono ?_
            rintro e w17 ⟨rfl, rfl⟩
            obtain ⟨pr, cr, hbr, hinr⟩ := H9.out.ref
            have hc1 := blk_cell hbr 1
            simp at hc1
            clear hbr hA
            rcases HCS.out with ⟨e1, rfl, rfl⟩ | ⟨i, e1, hx, rfl⟩
            · rw [e1]
              simp only [oi]
              have hz : ∀ i, w16.cell? ⟨k17, i, none⟩ = (#[.int .i64 0, .int .i64 0, .int .i64 0, .int .i64 0, .int .i64 0, .int .i64 0, .int .i64 0, .int .i64 0, .int .i64 0, .bool false] : Array Value)[i]? := H9.out.cells (List.mem_cons_self ..)
              have hq : ∀ w, (binOp .neq 48 (.agg #[.int .i64 0, .int .i64 0, .int .i64 0, .int .i64 0, .int .i64 0, .int .i64 0, .int .i64 0, .int .i64 0, .int .i64 0, .bool false]) (.agg #[.int .i64 0, .int .i64 0, .int .i64 0, .int .i64 0, .int .i64 0, .int .i64 0, .int .i64 0, .int .i64 0, .int .i64 0, .bool false])).run Try.prog w = .ok (.bool false) w := fun w => entry_neq m0 w
              have HF := Lib.hid H9.out.drop.drop
              clear H9 hinr hc1 e1 HCS HG
              as_aux_lemma =>
              go_wp2
              go_quiet (fail)
              have HF2 := Lib.hid (HF.out.step (below_drewN (Below.refl _ _) nq))
              clear HF hz hq
              go_wp2
              go_roundw
              case rel => exact ⟨k + 1, M, by omega, by go_num, HF2.out⟩
              case measure => simp [intOf]; omega
            · rw [e1]
              simp only [oi]
              have hz := H9.out.cells (List.mem_cons_self ..)
              have hq := rentry_neq z
              have hil := (List.getElem?_eq_some_iff.1 hx).1
              have hil2 : (i : Int) < (M.length : Int) := by omega
              have hni : (0 : Int) ≤ (i : Int) := by omega
              have hnd : decide ((0 : Int) ≤ (i : Int)) = true := by simp
              obtain ⟨gb, hpb, _, hrb⟩ := hinr i z hx
              subst hpb
              obtain ⟨d0, d1, d2, d3, d4, d5, d6, d7, d8, d9⟩ := cells_of hrb
              have HF := Lib.hid H9.out.drop.drop
              clear H9 hinr hx hrb e1 HCS HG
              as_aux_lemma =>
              go_wp2
              go_quiet (fail)
              have HF2 := Lib.hid (HF.out.step (below_drewN (Below.refl _ _) nq))
              clear HF hz hq d0 d1 d2 d3 d4 d5 d6 d7 d8 d9 hc1
              go_wp2
              go_roundw
              case rel => exact ⟨k + 1, M, by omega, by go_num, HF2.out⟩
              case measure => simp [intOf]; omega
      · have HE := Lib.hid e
        clear e HD
        as_aux_lemma =>
        go_wp2_with (first
          | ((with_reducible refine wpList_store_row (o := ⟨none, _, _, _, _, _⟩) rfl 32 (.tmp 11) (.tmp 63) rfl w5.heap.size (dcells d) ?sx ?sy 32 ?old ?sg ?si ?so ?s1 ?_); (case sx => rfl); (case sy => rfl); (case old => exact #[.int .i64 0, .int .i64 0, .int .i64 0, .int .i64 0, .int .i64 0, .int .i64 0, .int .i64 0, .int .i64 0]); (case sg => exact heap_alloc_new w5 _); (case si => kernel_rfl); (case so => rfl); (case s1 => kernel_rfl); generalize (w5.alloc (.cells #[.int .i64 0, .int .i64 0, .int .i64 0, .int .i64 0, .int .i64 0, .int .i64 0, .int .i64 0, .int .i64 0] 32)).setRow w5.heap.size (dcells d) = w6 at *; generalize w5.heap.size = k11 at *; have H4 := Lib.hid (H3.out.addRow #[.int .i64 0, .int .i64 0, .int .i64 0, .int .i64 0, .int .i64 0, .int .i64 0, .int .i64 0, .int .i64 0] (dcells d0) 32); clear H3)
          | ((with_reducible refine wpList_store_row (o := ⟨none, _, _, _, _, _⟩) rfl 32 (.tmp 13) (.tmp 65) rfl w6.heap.size (dcells d0) ?sx ?sy 32 ?old ?sg ?si ?so ?s1 ?_); (case sx => rfl); (case sy => rfl); (case old => exact #[.int .i64 0, .int .i64 0, .int .i64 0, .int .i64 0, .int .i64 0, .int .i64 0, .int .i64 0, .int .i64 0]); (case sg => exact heap_alloc_new w6 _); (case si => kernel_rfl); (case so => rfl); (case s1 => kernel_rfl); generalize (w6.alloc (.cells #[.int .i64 0, .int .i64 0, .int .i64 0, .int .i64 0, .int .i64 0, .int .i64 0, .int .i64 0, .int .i64 0] 32)).setRow w6.heap.size (dcells d0) = w7 at *; generalize w6.heap.size = k13 at *; have hA := H4.out.cells (List.mem_cons_of_mem _ (List.mem_cons_of_mem _ (List.mem_cons_self ..))))
          | fail)
        refine (H4.out.give2 x.ln HE.out).mono ?_
        rintro e w8 ⟨rfl, ho⟩
        have H5 := Lib.hid ho
        clear ho H4 hA HE hk0 hk1 hk2
        have hbx := (H5.out.bxs _ (List.mem_cons_self ..)).1
        have H6 := Lib.hid (H5.out.setRow (cs' := dcells d))
        clear H5
        go_wp2_with (first
          | ((with_reducible refine wpList_store_row (o := ⟨none, _, _, _, _, _⟩) rfl 32 (.tmp 13) (.tmp 96) rfl k13 (dcells d) ?sx ?sy 32 ?old ?sg ?si ?so ?s1 ?_); (case sx => rfl); (case sy => rfl); (case old => exact #[.int .i64 0, .int .i64 0, .int .i64 0, .int .i64 0, .int .i64 0, .int .i64 0, .int .i64 0, .int .i64 0]); (case sg => exact hbx); (case si => kernel_rfl); (case so => rfl); (case s1 => kernel_rfl); generalize w8.setRow k13 (dcells d) = w9 at *; clear hbx; try skip)
          | fail)
        have H5 := H6
        clear H6
        refine (H5.out.list1).mono ?_
        rintro e w13 ⟨pl, cl, rfl, hin, hb⟩
        have H7 := Lib.hid (H5.out.step hb)
        have HIN := Lib.hid hin
        clear hb H5 hin
        have hA := H7.out.cells (List.mem_cons_of_mem _ (List.mem_cons_self ..))
        have hB := H7.out.cells (List.mem_cons_self ..)
        have hqw := words_neq d
        obtain ⟨pr, cr, hbr, hinr⟩ := H7.out.ref
        have hc1 := blk_cell hbr 1
        simp at hc1
        have HINR := Lib.hid hinr
        have hL8 := H7.out.g1.short
        have hr1 := H7.out.g1.r1
        have hr2 := H7.out.g1.r2
        have HLF := Lib.hid (fun n => (H7.out.step (below_drewN (Below.refl _ _) n)).left1)
        clear hbr hinr
        as_aux_lemma =>
        go_wp2
        go_quiet ((go_at_call 14; exact Calls.quiet_of (HLF.out _)))
        go_wp2
        clear hA hB hqw HLF
        go_loopw [132] (fun i wr => ∃ j : Nat, j ≤ M.length ∧ i = .int .i64 j ∧ ∃ n, wr = w13.drewN n) (fun i _ => M.length - (intOf i).toNat)
        case atStart => exact ⟨0, by omega, rfl, _, rfl⟩
        case round =>
          obtain ⟨j, hj, rfl, n, rfl⟩ := hrel
          by_cases hjl : j < M.length
          · obtain ⟨m, hm⟩ : ∃ m, M[j]? = some m := ⟨_, List.getElem?_eq_getElem hjl⟩
            obtain ⟨ga, hpa, _, hra⟩ := HIN.out j m hm
            obtain ⟨gb, hpb, _, hrb⟩ := HINR.out j m hm
            subst hpa
            subst hpb
            obtain ⟨a0, a1, a2, a3, a4, a5, a6, a7, a8, a9⟩ := cells_of hra
            obtain ⟨d0, d1, d2, d3, d4, d5, d6, d7, d8, d9⟩ := cells_of hrb
            have hq := rentry_neq m
            clear hm hra hrb
            as_aux_lemma =>
            go_wp2
            go_quiet (fail)
            go_wp2
            go_roundw
            case rel => exact ⟨j + 1, by omega, by go_num, _, rfl⟩
            case measure => simp [intOf]; omega
          · obtain ⟨w14, hw14⟩ : ∃ w14, w14 = w13.drewN n := ⟨_, rfl⟩
            have H8 : Hid (Two w1 b b2 room M M [(k10, .cells (ocells x) 34 (0, 0))] w14) := Lib.hid (by rw [hw14]; exact (H7.out.step (below_drewN (Below.refl _ _) n)).drop.drop)
            rw [← hw14]
            clear H7 hc1 hw14 HINR HIN
            have hA := H8.out.cells (List.mem_cons_self ..)
            as_aux_lemma =>
            go_wp2_with fail
            refine (H8.out.get1 x.ln HG.out).mono ?_
            rintro e w15 ⟨rfl, hb⟩
            have H9 := Lib.hid ((H8.out.step hb).addRow #[.int .i64 0, .int .i64 0, .int .i64 0, .int .i64 0, .int .i64 0, .int .i64 0, .int .i64 0, .int .i64 0, .int .i64 0, .bool false] (mcells z) 48)
            clear hb H8 hA
            go_wp2_with (first
              | ((with_reducible refine wpList_store_row (o := ⟨none, _, _, _, _, _⟩) rfl 48 (.tmp 17) (.tmp 153) rfl w15.heap.size (mcells z) ?sx ?sy 48 ?old ?sg ?si ?so ?s1 ?_); (case sx => rfl); (case sy => rfl); (case old => exact #[.int .i64 0, .int .i64 0, .int .i64 0, .int .i64 0, .int .i64 0, .int .i64 0, .int .i64 0, .int .i64 0, .int .i64 0, .bool false]); (case sg => exact heap_alloc_new w15 _); (case si => kernel_rfl); (case so => rfl); (case s1 => kernel_rfl); generalize (w15.alloc (.cells #[.int .i64 0, .int .i64 0, .int .i64 0, .int .i64 0, .int .i64 0, .int .i64 0, .int .i64 0, .int .i64 0, .int .i64 0, .bool false] 48)).setRow w15.heap.size (mcells z) = w16 at *; generalize w15.heap.size = k17 at *; have hA := H9.out.cells (List.mem_cons_of_mem _ (List.mem_cons_self ..)))
              | fail)
            refine (H9.out.place2 x.ln).mono ?_
            rintro e w17 ⟨rfl, rfl⟩
            obtain ⟨pr, cr, hbr, hinr⟩ := H9.out.ref
            have hc1 := blk_cell hbr 1
            simp at hc1
            clear hbr hA
            rcases HCS.out with ⟨e1, rfl, rfl⟩ | ⟨i, e1, hx, rfl⟩
            · rw [e1]
              simp only [oi]
              have hz : ∀ i, w16.cell? ⟨k17, i, none⟩ = (#[.int .i64 0, .int .i64 0, .int .i64 0, .int .i64 0, .int .i64 0, .int .i64 0, .int .i64 0, .int .i64 0, .int .i64 0, .bool false] : Array Value)[i]? := H9.out.cells (List.mem_cons_self ..)
              have hq : ∀ w, (binOp .neq 48 (.agg #[.int .i64 0, .int .i64 0, .int .i64 0, .int .i64 0, .int .i64 0, .int .i64 0, .int .i64 0, .int .i64 0, .int .i64 0, .bool false]) (.agg #[.int .i64 0, .int .i64 0, .int .i64 0, .int .i64 0, .int .i64 0, .int .i64 0, .int .i64 0, .int .i64 0, .int .i64 0, .bool false])).run Try.prog w = .ok (.bool false) w := fun w => entry_neq m0 w
              have HF := Lib.hid H9.out.drop.drop
              clear H9 hinr hc1 e1 HCS HG
              as_aux_lemma =>
              go_wp2
              go_quiet (fail)
              have HF2 := Lib.hid (HF.out.step (below_drewN (Below.refl _ _) nq))
              clear HF hz hq
              go_wp2
              go_roundw
              case rel => exact ⟨k + 1, M, by omega, by go_num, HF2.out⟩
              case measure => simp [intOf]; omega
            · rw [e1]
              simp only [oi]
              have hz := H9.out.cells (List.mem_cons_self ..)
              have hq := rentry_neq z
              have hil := (List.getElem?_eq_some_iff.1 hx).1
              have hil2 : (i : Int) < (M.length : Int) := by omega
              have hni : (0 : Int) ≤ (i : Int) := by omega
              have hnd : decide ((0 : Int) ≤ (i : Int)) = true := by simp
              obtain ⟨gb, hpb, _, hrb⟩ := hinr i z hx
              subst hpb
              obtain ⟨d0, d1, d2, d3, d4, d5, d6, d7, d8, d9⟩ := cells_of hrb
              have HF := Lib.hid H9.out.drop.drop
              clear H9 hinr hx hrb e1 HCS HG
              as_aux_lemma =>
              go_wp2
              go_quiet (fail)
              have HF2 := Lib.hid (HF.out.step (below_drewN (Below.refl _ _) nq))
              clear HF hz hq d0 d1 d2 d3 d4 d5 d6 d7 d8 d9 hc1
              go_wp2
              go_roundw
              case rel => exact ⟨k + 1, M, by omega, by go_num, HF2.out⟩
              case measure => simp [intOf]; omega
      · have HE := Lib.hid e
        clear e HD
        as_aux_lemma =>
        go_wp2_with (first
          | ((with_reducible refine wpList_store_row (o := ⟨none, _, _, _, _, _⟩) rfl 32 (.tmp 11) (.tmp 63) rfl w5.heap.size (dcells d0) ?sx ?sy 32 ?old ?sg ?si ?so ?s1 ?_); (case sx => rfl); (case sy => rfl); (case old => exact #[.int .i64 0, .int .i64 0, .int .i64 0, .int .i64 0, .int .i64 0, .int .i64 0, .int .i64 0, .int .i64 0]); (case sg => exact heap_alloc_new w5 _); (case si => kernel_rfl); (case so => rfl); (case s1 => kernel_rfl); generalize (w5.alloc (.cells #[.int .i64 0, .int .i64 0, .int .i64 0, .int .i64 0, .int .i64 0, .int .i64 0, .int .i64 0, .int .i64 0] 32)).setRow w5.heap.size (dcells d0) = w6 at *; generalize w5.heap.size = k11 at *; have H4 := Lib.hid (H3.out.addRow #[.int .i64 0, .int .i64 0, .int .i64 0, .int .i64 0, .int .i64 0, .int .i64 0, .int .i64 0, .int .i64 0] (dcells d0) 32); clear H3)
          | ((with_reducible refine wpList_store_row (o := ⟨none, _, _, _, _, _⟩) rfl 32 (.tmp 13) (.tmp 65) rfl w6.heap.size (dcells d0) ?sx ?sy 32 ?old ?sg ?si ?so ?s1 ?_); (case sx => rfl); (case sy => rfl); (case old => exact #[.int .i64 0, .int .i64 0, .int .i64 0, .int .i64 0, .int .i64 0, .int .i64 0, .int .i64 0, .int .i64 0]); (case sg => exact heap_alloc_new w6 _); (case si => kernel_rfl); (case so => rfl); (case s1 => kernel_rfl); generalize (w6.alloc (.cells #[.int .i64 0, .int .i64 0, .int .i64 0, .int .i64 0, .int .i64 0, .int .i64 0, .int .i64 0, .int .i64 0] 32)).setRow w6.heap.size (dcells d0) = w7 at *; generalize w6.heap.size = k13 at *; have hA := H4.out.cells (List.mem_cons_of_mem _ (List.mem_cons_of_mem _ (List.mem_cons_self ..))))
          | fail)
        refine (H4.out.drop2 x.ln HE.out).mono ?_
        rintro e w8 ⟨rfl, ho⟩
        have H5 := Lib.hid ho
        clear ho H4 hA HE hk0 hk1 hk2
        go_wp2_with fail
        refine (H5.out.list1).mono ?_
        rintro e w13 ⟨pl, cl, rfl, hin, hb⟩
        have H7 := Lib.hid (H5.out.step hb)
        have HIN := Lib.hid hin
        clear hb H5 hin
        have hA := H7.out.cells (List.mem_cons_of_mem _ (List.mem_cons_self ..))
        have hB := H7.out.cells (List.mem_cons_self ..)
        have hqw := words_neq d0
        obtain ⟨pr, cr, hbr, hinr⟩ := H7.out.ref
        have hc1 := blk_cell hbr 1
        simp at hc1
        have HINR := Lib.hid hinr
        have hL8 := H7.out.g1.short
        have hr1 := H7.out.g1.r1
        have hr2 := H7.out.g1.r2
        have HLF := Lib.hid (fun n => (H7.out.step (below_drewN (Below.refl _ _) n)).left1)
        clear hbr hinr
        as_aux_lemma =>
        go_wp2
        go_quiet ((go_at_call 14; exact Calls.quiet_of (HLF.out _)))
        go_wp2
        clear hA hB hqw HLF
        go_loopw [132] (fun i wr => ∃ j : Nat, j ≤ M.length ∧ i = .int .i64 j ∧ ∃ n, wr = w13.drewN n) (fun i _ => M.length - (intOf i).toNat)
        case atStart => exact ⟨0, by omega, rfl, _, rfl⟩
        case round =>
          obtain ⟨j, hj, rfl, n, rfl⟩ := hrel
          by_cases hjl : j < M.length
          · obtain ⟨m, hm⟩ : ∃ m, M[j]? = some m := ⟨_, List.getElem?_eq_getElem hjl⟩
            obtain ⟨ga, hpa, _, hra⟩ := HIN.out j m hm
            obtain ⟨gb, hpb, _, hrb⟩ := HINR.out j m hm
            subst hpa
            subst hpb
            obtain ⟨a0, a1, a2, a3, a4, a5, a6, a7, a8, a9⟩ := cells_of hra
            obtain ⟨d0, d1, d2, d3, d4, d5, d6, d7, d8, d9⟩ := cells_of hrb
            have hq := rentry_neq m
            clear hm hra hrb
            as_aux_lemma =>
            go_wp2
            go_quiet (fail)
            go_wp2
            go_roundw
            case rel => exact ⟨j + 1, by omega, by go_num, _, rfl⟩
            case measure => simp [intOf]; omega
          · obtain ⟨w14, hw14⟩ : ∃ w14, w14 = w13.drewN n := ⟨_, rfl⟩
            have H8 : Hid (Two w1 b b2 room M M [(k10, .cells (ocells x) 34 (0, 0))] w14) := Lib.hid (by rw [hw14]; exact (H7.out.step (below_drewN (Below.refl _ _) n)).drop.drop)
            rw [← hw14]
            clear H7 hc1 hw14 HINR HIN
            have hA := H8.out.cells (List.mem_cons_self ..)
            as_aux_lemma =>
            go_wp2_with fail
            refine (H8.out.get1 x.ln HG.out).mono ?_
            rintro e w15 ⟨rfl, hb⟩
            have H9 := Lib.hid ((H8.out.step hb).addRow #[.int .i64 0, .int .i64 0, .int .i64 0, .int .i64 0, .int .i64 0, .int .i64 0, .int .i64 0, .int .i64 0, .int .i64 0, .bool false] (mcells z) 48)
            clear hb H8 hA
            go_wp2_with (first
              | ((with_reducible refine wpList_store_row (o := ⟨none, _, _, _, _, _⟩) rfl 48 (.tmp 17) (.tmp 153) rfl w15.heap.size (mcells z) ?sx ?sy 48 ?old ?sg ?si ?so ?s1 ?_); (case sx => rfl); (case sy => rfl); (case old => exact #[.int .i64 0, .int .i64 0, .int .i64 0, .int .i64 0, .int .i64 0, .int .i64 0, .int .i64 0, .int .i64 0, .int .i64 0, .bool false]); (case sg => exact heap_alloc_new w15 _); (case si => kernel_rfl); (case so => rfl); (case s1 => kernel_rfl); generalize (w15.alloc (.cells #[.int .i64 0, .int .i64 0, .int .i64 0, .int .i64 0, .int .i64 0, .int .i64 0, .int .i64 0, .int .i64 0, .int .i64 0, .bool false] 48)).setRow w15.heap.size (mcells z) = w16 at *; generalize w15.heap.size = k17 at *; have hA := H9.out.cells (List.mem_cons_of_mem _ (List.mem_cons_self ..)))
              | fail)
            refine (H9.out.place2 x.ln).mono ?_
            rintro e w17 ⟨rfl, rfl⟩
            obtain ⟨pr, cr, hbr, hinr⟩ := H9.out.ref
            have hc1 := blk_cell hbr 1
            simp at hc1
            clear hbr hA
            rcases HCS.out with ⟨e1, rfl, rfl⟩ | ⟨i, e1, hx, rfl⟩
            · rw [e1]
              simp only [oi]
              have hz : ∀ i, w16.cell? ⟨k17, i, none⟩ = (#[.int .i64 0, .int .i64 0, .int .i64 0, .int .i64 0, .int .i64 0, .int .i64 0, .int .i64 0, .int .i64 0, .int .i64 0, .bool false] : Array Value)[i]? := H9.out.cells (List.mem_cons_self ..)
              have hq : ∀ w, (binOp .neq 48 (.agg #[.int .i64 0, .int .i64 0, .int .i64 0, .int .i64 0, .int .i64 0, .int .i64 0, .int .i64 0, .int .i64 0, .int .i64 0, .bool false]) (.agg #[.int .i64 0, .int .i64 0, .int .i64 0, .int .i64 0, .int .i64 0, .int .i64 0, .int .i64 0, .int .i64 0, .int .i64 0, .bool false])).run Try.prog w = .ok (.bool false) w := fun w => entry_neq m0 w
              have HF := Lib.hid H9.out.drop.drop
              clear H9 hinr hc1 e1 HCS HG
              as_aux_lemma =>
              go_wp2
              go_quiet (fail)
              have HF2 := Lib.hid (HF.out.step (below_drewN (Below.refl _ _) nq))
              clear HF hz hq
              go_wp2
              go_roundw
              case rel => exact ⟨k + 1, M, by omega, by go_num, HF2.out⟩
              case measure => simp [intOf]; omega
            · rw [e1]
              simp only [oi]
              have hz := H9.out.cells (List.mem_cons_self ..)
              have hq := rentry_neq z
              have hil := (List.getElem?_eq_some_iff.1 hx).1
              have hil2 : (i : Int) < (M.length : Int) := by omega
              have hni : (0 : Int) ≤ (i : Int) := by omega
              have hnd : decide ((0 : Int) ≤ (i : Int)) = true := by simp
              obtain ⟨gb, hpb, _, hrb⟩ := hinr i z hx
              subst hpb
              obtain ⟨d0, d1, d2, d3, d4, d5, d6, d7, d8, d9⟩ := cells_of hrb
              have HF := Lib.hid H9.out.drop.drop
              clear H9 hinr hx hrb e1 HCS HG
              as_aux_lemma =>
              go_wp2
              go_quiet (fail)
              have HF2 := Lib.hid (HF.out.step (below_drewN (Below.refl _ _) nq))
              clear HF hz hq d0 d1 d2 d3 d4 d5 d6 d7 d8 d9 hc1
              go_wp2
              go_roundw
              case rel => exact ⟨k + 1, M, by omega, by go_num, HF2.out⟩
              case measure => simp [intOf]; omega
    · have HF := Lib.hid (bstep HB.out H1.out.bl)
      clear H1 HL
      go_wp2
      go_ret
      exact ⟨rfl, HF.out⟩

end Go.Proofs.Ytlhecliamhjobaa
