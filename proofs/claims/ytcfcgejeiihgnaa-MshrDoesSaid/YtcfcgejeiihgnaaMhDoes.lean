/-
  MshrDoes is true: the walk.
-/
import Derived.Test.YtcfcgejeiihgnaaMhTwo
import Derived.Test.YtcfcgejeiihgnaaMhT
namespace Go.Proofs.Ytcfcgejeiihgnaa
open Go Go.RowKit

theorem rmiss_neq (x : Ms) (w : World) : (binOp .neq 39 (.agg (mcells x)) (.agg (mcells x))).run Try.prog w = .ok (.bool false) w := by
  have ha := fun d => words_same d x.wd
  simp [go_sem, ha]
theorem cells_of {w : World} {g i : Nat} {x : Ms} (h : w.rangeAt g (i * 15) (mc x)) : w.cell? ⟨g, i * 15, none⟩ = some (.int .i64 x.ln) ∧ w.cell? ⟨g, i * 15 + 1, none⟩ = some (.int .i64 x.kd) ∧ w.cell? ⟨g, i * 15 + 2, none⟩ = some (.int .i64 x.nd) ∧ w.cell? ⟨g, i * 15 + 3, none⟩ = some (.int .i64 x.gt) ∧ w.cell? ⟨g, i * 15 + 4, none⟩ = some (.int .i64 x.ow) ∧ w.cell? ⟨g, i * 15 + 5, none⟩ = some (.int .i64 x.wd.w0) ∧ w.cell? ⟨g, i * 15 + 6, none⟩ = some (.int .i64 x.wd.w1) ∧ w.cell? ⟨g, i * 15 + 7, none⟩ = some (.int .i64 x.wd.w2) ∧ w.cell? ⟨g, i * 15 + 8, none⟩ = some (.int .i64 x.wd.w3) ∧ w.cell? ⟨g, i * 15 + 9, none⟩ = some (.int .i64 x.wd.w4) ∧ w.cell? ⟨g, i * 15 + 10, none⟩ = some (.int .i64 x.wd.w5) ∧ w.cell? ⟨g, i * 15 + 11, none⟩ = some (.int .i64 x.wd.w6) ∧ w.cell? ⟨g, i * 15 + 12, none⟩ = some (.int .i64 x.wd.w7) ∧ w.cell? ⟨g, i * 15 + 13, none⟩ = some (.bool x.gr) ∧ w.cell? ⟨g, i * 15 + 14, none⟩ = some (.bool x.os) :=
  ⟨h 0 _ rfl, h 1 _ rfl, h 2 _ rfl, h 3 _ rfl, h 4 _ rfl, h 5 _ rfl, h 6 _ rfl, h 7 _ rfl, h 8 _ rfl, h 9 _ rfl, h 10 _ rfl, h 11 _ rfl, h 12 _ rfl, h 13 _ rfl, h 14 _ rfl⟩

set_option maxRecDepth 100000 in
set_option maxHeartbeats 8000000 in
theorem mshrDoes_any (room : Int) (p : Option Addr) (cap : Nat) (l : List Mo) (w : World) (hl : OpsM w p l) (hn : l.length ≤ 9223372036854775807) :
    Calls Try.prog 3 #[.int .i64 room, .slice p l.length cap] w fun e w' => e = .returned (.bool true) ∧ Below w.heap.size w w' := by
  have HL := Lib.hid hl
  clear hl
  go_enter Try.func3, Try.ntmps3
  go_wp2_with fail
  refine (awake_any _).mono ?_
  rintro e w1 ⟨rfl, hb⟩
  have HB := Lib.hid hb
  clear hb
  by_cases h60 : 60 < l.length
  · clear HL
    go_wp2
    go_ret
    exact ⟨rfl, HB.out⟩
  by_cases hr : room < 1 ∨ 8 < room
  · have hro := Lib.hid hr
    clear hr HL
    go_wp2_with fail
    refine (new_no room _ hro.out).mono ?_
    rintro e w2 ⟨rfl, rfl⟩
    go_wp2_with fail
    refine (refNew_no room _ hro.out).mono ?_
    rintro e w2 ⟨rfl, rfl⟩
    go_wp2
    go_loopw [9] (fun i wr => i = .int .i64 0 ∧ w1 = wr) (fun i _ => 0)
    case atStart => exact ⟨rfl, rfl⟩
    case round =>
      obtain ⟨rfl, rfl⟩ := hrel
      go_wp2
      go_ret
      exact ⟨rfl, HB.out⟩
  have HR := Lib.hid hr
  clear hr
  go_wp2_with fail
  refine (newO (w := w1) (room := room) (by have := HR.out; omega) (by have := HR.out; omega) (Below.refl _ w1)).mono ?_
  rintro e w2 ⟨b, rfl, ho, -⟩
  have H0 := Lib.hid ho
  clear ho HR
  go_wp2_with fail
  refine H0.out.two.mono ?_
  rintro e w3 ⟨b2, rfl, ho⟩
  have HT0 := Lib.hid ho
  clear ho H0
  go_wp2
  go_loopw [9] (fun i wr => ∃ (k : Nat) (L : List Ms), k ≤ l.length ∧ i = .int .i64 k ∧ Two w1 b b2 room (2 * (k : Int)) L L [] wr) (fun i _ => l.length - (intOf i).toNat)
  case atStart => exact ⟨0, [], by omega, rfl, HT0.out⟩
  case round =>
    obtain ⟨k, L0, hk, rfl, ho⟩ := hrel
    obtain ⟨wo, rfl⟩ : ∃ wo : World, wo = wr := ⟨_, rfl⟩
    have H1 := Lib.hid ho
    clear ho HT0
    by_cases hlt : k < l.length
    · obtain ⟨x, hx⟩ : ∃ x, l[k]? = some x := ⟨_, List.getElem?_eq_getElem hlt⟩
      obtain ⟨gl, off, rfl, hgl, hr⟩ := HL.out k x hx
      have HRO := Lib.hid hr
      have HGL := Lib.hid hgl
      have HCL := Lib.hid (fun (W : World) (hb : Below w.heap.size w W) => (hb.cell (p := ⟨gl, off + k * 12 + 1, none⟩) hgl).trans (hr 1 _ rfl))
      obtain ⟨y, q, nn, L, hD⟩ : ∃ y q n M, doP room L0 x = ((y, q, n), M) := ⟨_, _, _, _, rfl⟩
      obtain ⟨z, qz, hG⟩ : ∃ z q, getP L x.ln = (z, q) := ⟨_, _, rfl⟩
      obtain ⟨nw, qw, hW⟩ : ∃ n q, owingP L = (n, q) := ⟨_, _, rfl⟩
      have HD := Lib.hid hD
      have HG := Lib.hid hG
      have HW := Lib.hid hW
      have HBO := Lib.hid (bstep HB.out H1.out.bl)
      clear hr hgl hx hD hG hW
      go_wp2_with (first
        | ((with_reducible refine wpList_load_at (op := ⟨some 66, _, _, _, _, _⟩) rfl 38 (.tmp 65) rfl gl (off + k * 12) ?lx (ocells x) _ ?lc Try.underlying38 ?ld ?li ?_); (case lx => rfl); (case lc => exact fun j v hv => (HBO.out.cell (p := ⟨gl, off + k * 12 + j, none⟩) HGL.out).trans (HRO.out j v hv)); (case ld => rfl); (case li => kernel_rfl))
        | fail)
      refine (H1.out.op1 (by omega) x HD.out).mono ?_
      rintro e w4 ⟨rfl, ho⟩
      have HBO2 := Lib.hid (bstep HB.out (ho.addRow #[.int .i64 0, .int .i64 0, .int .i64 0, .int .i64 0, .int .i64 0, .int .i64 0, .int .i64 0, .int .i64 0, .int .i64 0, .int .i64 0, .int .i64 0, .int .i64 0, .int .i64 0, .bool false, .bool false] (mcells y) 34).bl)
      have H2 := Lib.hid (ho.addRow #[.int .i64 0, .int .i64 0, .int .i64 0, .int .i64 0, .int .i64 0, .int .i64 0, .int .i64 0, .int .i64 0, .int .i64 0, .int .i64 0, .int .i64 0, .int .i64 0, .int .i64 0, .bool false, .bool false] (mcells y) 34)
      clear ho H1 HBO
      go_wp2_with (first
        | ((with_reducible refine wpList_store_row (o := ⟨none, _, _, _, _, _⟩) rfl 34 (.tmp 10) (.tmp 68) rfl w4.heap.size (mcells y) ?sx ?sy 34 ?old ?sg ?si ?so ?s1 ?_); (case sx => rfl); (case sy => rfl); (case old => exact #[.int .i64 0, .int .i64 0, .int .i64 0, .int .i64 0, .int .i64 0, .int .i64 0, .int .i64 0, .int .i64 0, .int .i64 0, .int .i64 0, .int .i64 0, .int .i64 0, .int .i64 0, .bool false, .bool false]); (case sg => exact heap_alloc_new w4 _); (case si => kernel_rfl); (case so => rfl); (case s1 => kernel_rfl); generalize (w4.alloc (.cells #[.int .i64 0, .int .i64 0, .int .i64 0, .int .i64 0, .int .i64 0, .int .i64 0, .int .i64 0, .int .i64 0, .int .i64 0, .int .i64 0, .int .i64 0, .int .i64 0, .int .i64 0, .bool false, .bool false] 34)).setRow w4.heap.size (mcells y) = w5 at *; generalize w4.heap.size = k10 at *)
        | ((with_reducible refine wpList_load_at (op := ⟨some 76, _, _, _, _, _⟩) rfl 38 (.tmp 75) rfl gl (off + k * 12) ?lx (ocells x) _ ?lc Try.underlying38 ?ld ?li ?_); (case lx => rfl); (case lc => exact fun j v hv => (HBO2.out.cell (p := ⟨gl, off + k * 12 + j, none⟩) HGL.out).trans (HRO.out j v hv)); (case ld => rfl); (case li => kernel_rfl))
        | fail)
      refine (H2.out.op2 (by omega) x HD.out).mono ?_
      rintro e w6 ⟨rfl, ho⟩
      have H3 := Lib.hid (ho.addRow #[.int .i64 0, .int .i64 0, .int .i64 0, .int .i64 0, .int .i64 0, .int .i64 0, .int .i64 0, .int .i64 0, .int .i64 0, .int .i64 0, .int .i64 0, .int .i64 0, .int .i64 0, .bool false, .bool false] (mcells y) 39)
      clear ho H2 HBO2 HD
      have hq := rmiss_neq y
      as_aux_lemma =>
      go_wp2_with (first
        | ((with_reducible refine wpList_store_row (o := ⟨none, _, _, _, _, _⟩) rfl 39 (.tmp 13) (.tmp 78) rfl w6.heap.size (mcells y) ?sx ?sy 39 ?old ?sg ?si ?so ?s1 ?_); (case sx => rfl); (case sy => rfl); (case old => exact #[.int .i64 0, .int .i64 0, .int .i64 0, .int .i64 0, .int .i64 0, .int .i64 0, .int .i64 0, .int .i64 0, .int .i64 0, .int .i64 0, .int .i64 0, .int .i64 0, .int .i64 0, .bool false, .bool false]); (case sg => exact heap_alloc_new w6 _); (case si => kernel_rfl); (case so => rfl); (case s1 => kernel_rfl); generalize (w6.alloc (.cells #[.int .i64 0, .int .i64 0, .int .i64 0, .int .i64 0, .int .i64 0, .int .i64 0, .int .i64 0, .int .i64 0, .int .i64 0, .int .i64 0, .int .i64 0, .int .i64 0, .int .i64 0, .bool false, .bool false] 39)).setRow w6.heap.size (mcells y) = w7 at *; generalize w6.heap.size = k13 at *; have hA := H3.out.cells (List.mem_cons_of_mem _ (List.mem_cons_self ..)); have hB := H3.out.cells (List.mem_cons_self ..))
        | fail)
      refine (H3.out.owing1 HW.out).mono ?_
      rintro e w8 ⟨rfl, hb⟩
      have H4 := Lib.hid (H3.out.step hb).drop.drop
      clear hb H3 hA hB hq
      go_wp2_with fail
      refine (H4.out.owing2 HW.out).mono ?_
      rintro e w9 ⟨rfl, rfl⟩
      have hcl := HCL.out _ (bstep HB.out H4.out.bl)
      go_wp2_with fail
      refine (H4.out.get1 x.ln HG.out).mono ?_
      rintro e w9 ⟨rfl, hb⟩
      have H5 := Lib.hid ((H4.out.step hb).addRow #[.int .i64 0, .int .i64 0, .int .i64 0, .int .i64 0, .int .i64 0, .int .i64 0, .int .i64 0, .int .i64 0, .int .i64 0, .int .i64 0, .int .i64 0, .int .i64 0, .int .i64 0, .bool false, .bool false] (mcells z) 34)
      clear hb H4 hcl
      go_wp2_with (first
        | ((with_reducible refine wpList_store_row (o := ⟨none, _, _, _, _, _⟩) rfl 34 (.tmp 20) (.tmp 112) rfl w9.heap.size (mcells z) ?sx ?sy 34 ?old ?sg ?si ?so ?s1 ?_); (case sx => rfl); (case sy => rfl); (case old => exact #[.int .i64 0, .int .i64 0, .int .i64 0, .int .i64 0, .int .i64 0, .int .i64 0, .int .i64 0, .int .i64 0, .int .i64 0, .int .i64 0, .int .i64 0, .int .i64 0, .int .i64 0, .bool false, .bool false]); (case sg => exact heap_alloc_new w9 _); (case si => kernel_rfl); (case so => rfl); (case s1 => kernel_rfl); generalize (w9.alloc (.cells #[.int .i64 0, .int .i64 0, .int .i64 0, .int .i64 0, .int .i64 0, .int .i64 0, .int .i64 0, .int .i64 0, .int .i64 0, .int .i64 0, .int .i64 0, .int .i64 0, .int .i64 0, .bool false, .bool false] 34)).setRow w9.heap.size (mcells z) = w10 at *; generalize w9.heap.size = k20 at *; have hcl := HCL.out _ (bstep HB.out H5.out.bl))
        | fail)
      refine (H5.out.get2 x.ln HG.out).mono ?_
      rintro e w11 ⟨rfl, hb⟩
      have H6 := Lib.hid ((H5.out.step hb).addRow #[.int .i64 0, .int .i64 0, .int .i64 0, .int .i64 0, .int .i64 0, .int .i64 0, .int .i64 0, .int .i64 0, .int .i64 0, .int .i64 0, .int .i64 0, .int .i64 0, .int .i64 0, .bool false, .bool false] (mcells z) 39)
      clear hb H5 hcl
      go_wp2_with (first
        | ((with_reducible refine wpList_store_row (o := ⟨none, _, _, _, _, _⟩) rfl 39 (.tmp 22) (.tmp 122) rfl w11.heap.size (mcells z) ?sx ?sy 39 ?old ?sg ?si ?so ?s1 ?_); (case sx => rfl); (case sy => rfl); (case old => exact #[.int .i64 0, .int .i64 0, .int .i64 0, .int .i64 0, .int .i64 0, .int .i64 0, .int .i64 0, .int .i64 0, .int .i64 0, .int .i64 0, .int .i64 0, .int .i64 0, .int .i64 0, .bool false, .bool false]); (case sg => exact heap_alloc_new w11 _); (case si => kernel_rfl); (case so => rfl); (case s1 => kernel_rfl); generalize (w11.alloc (.cells #[.int .i64 0, .int .i64 0, .int .i64 0, .int .i64 0, .int .i64 0, .int .i64 0, .int .i64 0, .int .i64 0, .int .i64 0, .int .i64 0, .int .i64 0, .int .i64 0, .int .i64 0, .bool false, .bool false] 39)).setRow w11.heap.size (mcells z) = w12 at *; generalize w11.heap.size = k22 at *)
        | fail)
      refine (H6.out.list1).mono ?_
      rintro e w13 ⟨pl, cl, rfl, hin, hb⟩
      have H7 := Lib.hid (H6.out.step hb)
      have HIN := Lib.hid hin
      clear hb H6 hin
      have hA := H7.out.cells (List.mem_cons_of_mem _ (List.mem_cons_self ..))
      have hB := H7.out.cells (List.mem_cons_self ..)
      have hq := rmiss_neq z
      obtain ⟨pr, cr, hbr, hinr⟩ := H7.out.ref
      have hc1 := blk_cell hbr 1
      simp at hc1
      have HINR := Lib.hid hinr
      have HL8 := Lib.hid H7.out.g1.short
      have hL8 := HL8.out
      have H8 := Lib.hid H7.out.drop.drop
      clear hbr hinr H7
      as_aux_lemma =>
      go_wp2
      clear hA hB hq
      go_loopw [156] (fun i wr => ∃ j : Nat, j ≤ L.length ∧ i = .int .i64 j ∧ ∃ n, wr = w13.drewN n) (fun i _ => L.length - (intOf i).toNat)
      case atStart => exact ⟨0, by omega, rfl, 0, rfl⟩
      case round =>
        obtain ⟨j, hj, rfl, n, rfl⟩ := hrel
        by_cases hjl : j < L.length
        · obtain ⟨m, hm⟩ : ∃ m, L[j]? = some m := ⟨_, List.getElem?_eq_getElem hjl⟩
          obtain ⟨ga, hpa, _, hra⟩ := HIN.out j m hm
          obtain ⟨gb, hpb, _, hrb⟩ := HINR.out j m hm
          subst hpa
          subst hpb
          obtain ⟨a0, a1, a2, a3, a4, a5, a6, a7, a8, a9, a10, a11, a12, a13, a14⟩ := cells_of hra
          obtain ⟨d0, d1, d2, d3, d4, d5, d6, d7, d8, d9, d10, d11, d12, d13, d14⟩ := cells_of hrb
          have hq := rmiss_neq m
          clear hm hra hrb
          as_aux_lemma =>
          go_wp2
          go_quiet (fail)
          go_wp2
          go_roundw
          case rel => exact ⟨j + 1, by omega, by go_num, _, rfl⟩
          case measure => simp [intOf]; omega
        · have H9 := Lib.hid ((H8.out.step (below_drewN (Below.refl _ _) n)).more (k' := 2 * ((k + 1 : Nat) : Int)) (by omega))
          clear H8 hc1
          go_wp2
          go_roundw
          case rel => exact ⟨k + 1, L, by omega, by go_num, H9.out⟩
          case measure => simp [intOf]; omega
    · have HF := Lib.hid (bstep HB.out H1.out.bl)
      clear H1 HL
      go_wp2
      go_ret
      exact ⟨rfl, HF.out⟩

end Go.Proofs.Ytcfcgejeiihgnaa
