/-
  An operation of the law upon a buffer.
-/
import Derived.Test.YtlhecliamhjobaaWbL
namespace Go.Proofs.Ytlhecliamhjobaa
open Go Go.RowKit

theorem do_ret {wr : World} {d : Wd} {n : Int} {P : World → Prop} {a : Act} {g : Nat} (hp : a.tmps.getD 4 undef = .pointer (some ⟨g, 0, none⟩)) (hn : a.tmps.getD 5 undef = .int .i64 n) (hd : a.defers = []) (hg : wr.heap[g]? = some (.cells (dcells d) 32 (0, 0))) (hb : P wr) :
    bodyPost Try.prog Try.f8 (RetW d n P) Exit.ret a wr :=
  bodyPost_ret (v := .tuple #[.agg (dcells d), a.tmps.getD 5 undef]) (results_cell_two Try.results8 _ _ g 32 _ (0, 0) _ hp hg Try.underlying32 rfl (by kernel_rfl)) hd ⟨by rw [hn], hb⟩
variable {w wr wr' : World} {b : Nat} {room : Int} {l : List En} {bx : List (Nat × Obj)}
theorem Own.add2 (h : Own w b room l bx wr) (o1 o2 : Obj) : Own w b room l ((wr.heap.size + 1, o2) :: (wr.heap.size, o1) :: bx) ((wr.alloc o1).alloc o2) := by
  have := (h.add o1).add o2
  rwa [show (wr.alloc o1).heap.size = wr.heap.size + 1 by simp] at this

set_option maxHeartbeats 1000000 in
theorem do_put (h : Own w b room l bx wr) (x : Wo) (k0 : (x.k == 0) = true) {n : Int} {m : List En} (e : putP room l x.ln x.wd = (n, m)) :
    Calls Try.prog 8 #[.pointer (some ⟨b, 0, none⟩), .agg (ocells x)] wr (RetW d0 n (Own w b room m bx)) := by
  have HS := Lib.hid (h.add2 (.cells (ocells x) 34) (.cells #[.int .i64 0, .int .i64 0, .int .i64 0, .int .i64 0, .int .i64 0, .int .i64 0, .int .i64 0, .int .i64 0] 32))
  have hA := HS.out.cells (List.mem_cons_of_mem _ (List.mem_cons_self ..))
  have HE := Lib.hid e
  clear h e
  go_enter Try.func8, Try.ntmps8
  go_wp2_with fail
  refine (HS.out.put x.ln x.wd HE.out).mono ?_
  rintro e w1 ⟨rfl, ho⟩
  have H1 := Lib.hid ho
  have h4 := H1.out.box (List.mem_cons_self ..)
  clear ho hA HS HE
  go_wp2_with ((with_reducible refine wpList_store_row (o := ⟨none, _, _, _, _, _⟩) rfl 32 (.tmp 4) (.tmp 10) rfl (wr.heap.size + 1) (dcells d0) ?sx ?sy 32 ?old ?sg ?si ?so ?s1 ?_); (case sx => rfl); (case sy => rfl); (case old => exact #[.int .i64 0, .int .i64 0, .int .i64 0, .int .i64 0, .int .i64 0, .int .i64 0, .int .i64 0, .int .i64 0]); (case sg => exact h4); (case si => kernel_rfl); (case so => rfl); (case s1 => kernel_rfl))
  exact do_ret rfl rfl rfl (setRow_heap _ _ _ _ _ _ h4) H1.out.setRow.drop.drop

set_option maxHeartbeats 1000000 in
theorem do_share (h : Own w b room l bx wr) (x : Wo) (k0 : (x.k == 0) = false) (k1 : (x.k == 1) = true) {d : Wd} {n : Int} {m : List En} (e : ansP id l x.ln = ((d, n), m)) :
    Calls Try.prog 8 #[.pointer (some ⟨b, 0, none⟩), .agg (ocells x)] wr (RetW d n (Own w b room m bx)) := by
  have HS := Lib.hid (h.add2 (.cells (ocells x) 34) (.cells #[.int .i64 0, .int .i64 0, .int .i64 0, .int .i64 0, .int .i64 0, .int .i64 0, .int .i64 0, .int .i64 0] 32))
  have hA := HS.out.cells (List.mem_cons_of_mem _ (List.mem_cons_self ..))
  have HE := Lib.hid e
  clear h e
  go_enter Try.func8, Try.ntmps8
  go_wp2_with fail
  refine (HS.out.share x.ln HE.out).mono ?_
  rintro e w1 ⟨rfl, ho⟩
  have H1 := Lib.hid ho
  have h4 := H1.out.box (List.mem_cons_self ..)
  clear ho hA HS HE
  go_wp2_with ((with_reducible refine wpList_store_row (o := ⟨none, _, _, _, _, _⟩) rfl 32 (.tmp 4) (.tmp 23) rfl (wr.heap.size + 1) (dcells d) ?sx ?sy 32 ?old ?sg ?si ?so ?s1 ?_); (case sx => rfl); (case sy => rfl); (case old => exact #[.int .i64 0, .int .i64 0, .int .i64 0, .int .i64 0, .int .i64 0, .int .i64 0, .int .i64 0, .int .i64 0]); (case sg => exact h4); (case si => kernel_rfl); (case so => rfl); (case s1 => kernel_rfl))
  exact do_ret rfl rfl rfl (setRow_heap _ _ _ _ _ _ h4) H1.out.setRow.drop.drop

set_option maxHeartbeats 1000000 in
theorem do_give (h : Own w b room l bx wr) (x : Wo) (k0 : (x.k == 0) = false) (k1 : (x.k == 1) = false) (k2 : (x.k == 2) = true) {d : Wd} {n : Int} {m : List En} (e : ansP gone l x.ln = ((d, n), m)) :
    Calls Try.prog 8 #[.pointer (some ⟨b, 0, none⟩), .agg (ocells x)] wr (RetW d n (Own w b room m bx)) := by
  have HS := Lib.hid (h.add2 (.cells (ocells x) 34) (.cells #[.int .i64 0, .int .i64 0, .int .i64 0, .int .i64 0, .int .i64 0, .int .i64 0, .int .i64 0, .int .i64 0] 32))
  have hA := HS.out.cells (List.mem_cons_of_mem _ (List.mem_cons_self ..))
  have HE := Lib.hid e
  clear h e
  go_enter Try.func8, Try.ntmps8
  go_wp2_with fail
  refine (HS.out.give x.ln HE.out).mono ?_
  rintro e w1 ⟨rfl, ho⟩
  have H1 := Lib.hid ho
  have h4 := H1.out.box (List.mem_cons_self ..)
  clear ho hA HS HE
  go_wp2_with ((with_reducible refine wpList_store_row (o := ⟨none, _, _, _, _, _⟩) rfl 32 (.tmp 4) (.tmp 31) rfl (wr.heap.size + 1) (dcells d) ?sx ?sy 32 ?old ?sg ?si ?so ?s1 ?_); (case sx => rfl); (case sy => rfl); (case old => exact #[.int .i64 0, .int .i64 0, .int .i64 0, .int .i64 0, .int .i64 0, .int .i64 0, .int .i64 0, .int .i64 0]); (case sg => exact h4); (case si => kernel_rfl); (case so => rfl); (case s1 => kernel_rfl))
  exact do_ret rfl rfl rfl (setRow_heap _ _ _ _ _ _ h4) H1.out.setRow.drop.drop

set_option maxHeartbeats 1000000 in
theorem do_drop (h : Own w b room l bx wr) (x : Wo) (k0 : (x.k == 0) = false) (k1 : (x.k == 1) = false) (k2 : (x.k == 2) = false) {n : Int} {m : List En} (e : dropP l x.ln = (n, m)) :
    Calls Try.prog 8 #[.pointer (some ⟨b, 0, none⟩), .agg (ocells x)] wr (RetW d0 n (Own w b room m bx)) := by
  have HS := Lib.hid (h.add2 (.cells (ocells x) 34) (.cells #[.int .i64 0, .int .i64 0, .int .i64 0, .int .i64 0, .int .i64 0, .int .i64 0, .int .i64 0, .int .i64 0] 32))
  have hA := HS.out.cells (List.mem_cons_of_mem _ (List.mem_cons_self ..))
  have HE := Lib.hid e
  clear h e
  go_enter Try.func8, Try.ntmps8
  go_wp2_with fail
  refine (HS.out.dropL x.ln HE.out).mono ?_
  rintro e w1 ⟨rfl, ho⟩
  have H1 := Lib.hid ho
  have h4 := H1.out.box (List.mem_cons_self ..)
  clear ho hA HS HE
  go_wp2_with ((with_reducible refine wpList_store_row (o := ⟨none, _, _, _, _, _⟩) rfl 32 (.tmp 4) (.tmp 33) rfl (wr.heap.size + 1) (dcells d0) ?sx ?sy 32 ?old ?sg ?si ?so ?s1 ?_); (case sx => rfl); (case sy => rfl); (case old => exact #[.int .i64 0, .int .i64 0, .int .i64 0, .int .i64 0, .int .i64 0, .int .i64 0, .int .i64 0, .int .i64 0]); (case sg => exact h4); (case si => kernel_rfl); (case so => rfl); (case s1 => kernel_rfl))
  exact do_ret rfl rfl rfl (setRow_heap _ _ _ _ _ _ h4) H1.out.setRow.drop.drop

/-- An operation. -/
theorem Own.op (h : Own w b room l bx wr) (x : Wo) {d : Wd} {n : Int} {m : List En} (e : doP room l x = ((d, n), m)) :
    Calls Try.prog 8 #[.pointer (some ⟨b, 0, none⟩), .agg (ocells x)] wr fun e w' => e = .returned (.tuple #[.agg (dcells d), .int .i64 n]) ∧ Own w b room m bx w' := by
  unfold doP at e
  by_cases k0 : x.k = 0
  · rw [if_pos k0] at e
    obtain ⟨⟨rfl, rfl⟩, rfl⟩ := (by simpa only [Prod.mk.injEq] using e : ((_ ∧ _) ∧ _))
    exact do_put h x (by simpa using k0) rfl
  · rw [if_neg k0] at e
    have b0 : (x.k == 0) = false := by simpa using k0
    by_cases k1 : x.k = 1
    · rw [if_pos k1] at e
      exact do_share h x b0 (by simpa using k1) e
    · rw [if_neg k1] at e
      have b1 : (x.k == 1) = false := by simpa using k1
      by_cases k2 : x.k = 2
      · rw [if_pos k2] at e
        exact do_give h x b0 b1 (by simpa using k2) e
      · rw [if_neg k2] at e
        have b2 : (x.k == 2) = false := by simpa using k2
        obtain ⟨⟨rfl, rfl⟩, rfl⟩ := (by simpa only [Prod.mk.injEq] using e : ((_ ∧ _) ∧ _))
        exact do_drop h x b0 b1 b2 rfl

end Go.Proofs.Ytlhecliamhjobaa
