/-
  An operation of the law upon a file.
-/
import Derived.Test.YtcfcgejeiihgnaaMhL
namespace Go.Proofs.Ytcfcgejeiihgnaa
open Go Go.RowKit

theorem results_cell_three {P : Program} {fn : Func} {p q r : Tmp} {ty : TypeId} (h : fn.results = #[.cell p ty, .tmp q, .tmp r]) (tmps : Array Value) (w : World) (g : Nat) (t : TypeId) (cs : Array Value) (fr : Nat × Nat) (d : TypeDesc)
    (hp : tmps.getD p undef = .pointer (some ⟨g, 0, none⟩)) (hg : w.heap[g]? = some (.cells cs t fr))
    (hu : P.underlying ty = some d) (hd : (match d with | .struct _ | .array _ _ => true | _ => false) = true) (hi : (P.info? ty).map (·.size) = some cs.size) :
    (results fn tmps).run P w = .ok (.tuple #[.agg cs, tmps.getD q undef, tmps.getD r undef]) w := by
  have hp' : tmps[p]?.getD undef = .pointer (some ⟨g, 0, none⟩) := by simpa using hp
  simp [results, h, hp', asAddr, run_loadVar_row w g t ty cs fr d hg hu hd hi]
/-- What an operation gives. -/
def RetD (x : Ms) (q : Bool) (n : Int) (P : World → Prop) (e : Ending) (w' : World) : Prop := e = .returned (.tuple #[.agg (mcells x), .bool q, .int .i64 n]) ∧ P w'
theorem do_ret {wr : World} {x : Ms} {q : Bool} {n : Int} {P : World → Prop} {a : Act} {g : Nat} (hp : a.tmps.getD 4 undef = .pointer (some ⟨g, 0, none⟩)) (hq : a.tmps.getD 5 undef = .bool q) (hn : a.tmps.getD 6 undef = .int .i64 n) (hd : a.defers = []) (hg : wr.heap[g]? = some (.cells (mcells x) 34 (0, 0))) (hb : P wr) :
    bodyPost Try.prog Try.f9 (RetD x q n P) Exit.ret a wr :=
  bodyPost_ret (v := .tuple #[.agg (mcells x), a.tmps.getD 5 undef, a.tmps.getD 6 undef]) (results_cell_three Try.results9 _ _ g 34 _ (0, 0) _ hp hg Try.underlying34 rfl (by kernel_rfl)) hd ⟨by rw [hq, hn], hb⟩
variable {w wr wr' : World} {b : Nat} {room k : Int} {l : List Ms} {bx : List (Nat × Obj)}
theorem Own.add2 (h : Own w b room k l bx wr) (o1 o2 : Obj) : Own w b room k l ((wr.heap.size + 1, o2) :: (wr.heap.size, o1) :: bx) ((wr.alloc o1).alloc o2) := by
  have := (h.add o1).add o2
  rwa [show (wr.alloc o1).heap.size = wr.heap.size + 1 by simp] at this

set_option maxHeartbeats 1000000 in
theorem do_open (h : Own w b room k l bx wr) (x : Mo) (k0 : (x.k == 0) = true) {n : Int} {m : List Ms} (e : openP room l x.ln x.n = (n, m)) :
    Calls Try.prog 9 #[.pointer (some ⟨b, 0, none⟩), .agg (ocells x)] wr (RetD m0 false n (Own w b room (k + 1) m bx)) := by
  have HS := Lib.hid (h.add2 (.cells (ocells x) 38) (.cells #[.int .i64 0, .int .i64 0, .int .i64 0, .int .i64 0, .int .i64 0, .int .i64 0, .int .i64 0, .int .i64 0, .int .i64 0, .int .i64 0, .int .i64 0, .int .i64 0, .int .i64 0, .bool false, .bool false] 34))
  have hA := HS.out.cells (List.mem_cons_of_mem _ (List.mem_cons_self ..))
  have HE := Lib.hid e
  clear h e
  go_enter Try.func9, Try.ntmps9
  go_wp2_with fail
  refine (HS.out.open x.ln x.n HE.out).mono ?_
  rintro e w1 ⟨rfl, ho⟩
  have H1 := Lib.hid ho
  have h4 := H1.out.box (List.mem_cons_self ..)
  clear ho hA HS HE
  go_wp2_with ((with_reducible refine wpList_store_row (o := ⟨none, _, _, _, _, _⟩) rfl 34 (.tmp 4) (.tmp 13) rfl (wr.heap.size + 1) (mcells m0) ?sx ?sy 34 ?old ?sg ?si ?so ?s1 ?_); (case sx => rfl); (case sy => rfl); (case old => exact #[.int .i64 0, .int .i64 0, .int .i64 0, .int .i64 0, .int .i64 0, .int .i64 0, .int .i64 0, .int .i64 0, .int .i64 0, .int .i64 0, .int .i64 0, .int .i64 0, .int .i64 0, .bool false, .bool false]); (case sg => exact h4); (case si => kernel_rfl); (case so => rfl); (case s1 => kernel_rfl))
  exact do_ret rfl rfl rfl rfl (setRow_heap _ _ _ _ _ _ h4) H1.out.setRow.drop.drop

set_option maxHeartbeats 1000000 in
theorem do_data (h : Own w b room k l bx wr) (x : Mo) (k0 : (x.k == 0) = false) (k1 : (x.k == 1) = true) {n : Int} {m : List Ms} (e : chg l x.ln (dataF x.n x.ow x.wd) = (n, m)) :
    Calls Try.prog 9 #[.pointer (some ⟨b, 0, none⟩), .agg (ocells x)] wr (RetD m0 false n (Own w b room (k + 1) m bx)) := by
  have HS := Lib.hid (h.add2 (.cells (ocells x) 38) (.cells #[.int .i64 0, .int .i64 0, .int .i64 0, .int .i64 0, .int .i64 0, .int .i64 0, .int .i64 0, .int .i64 0, .int .i64 0, .int .i64 0, .int .i64 0, .int .i64 0, .int .i64 0, .bool false, .bool false] 34))
  have hA := HS.out.cells (List.mem_cons_of_mem _ (List.mem_cons_self ..))
  have HE := Lib.hid e
  clear h e
  go_enter Try.func9, Try.ntmps9
  go_wp2_with fail
  refine (HS.out.data x.ln x.n x.ow x.wd HE.out).mono ?_
  rintro e w1 ⟨rfl, ho⟩
  have H1 := Lib.hid ho
  have h4 := H1.out.box (List.mem_cons_self ..)
  clear ho hA HS HE
  go_wp2_with ((with_reducible refine wpList_store_row (o := ⟨none, _, _, _, _, _⟩) rfl 34 (.tmp 4) (.tmp 22) rfl (wr.heap.size + 1) (mcells m0) ?sx ?sy 34 ?old ?sg ?si ?so ?s1 ?_); (case sx => rfl); (case sy => rfl); (case old => exact #[.int .i64 0, .int .i64 0, .int .i64 0, .int .i64 0, .int .i64 0, .int .i64 0, .int .i64 0, .int .i64 0, .int .i64 0, .int .i64 0, .int .i64 0, .int .i64 0, .int .i64 0, .bool false, .bool false]); (case sg => exact h4); (case si => kernel_rfl); (case so => rfl); (case s1 => kernel_rfl))
  exact do_ret rfl rfl rfl rfl (setRow_heap _ _ _ _ _ _ h4) H1.out.setRow.drop.drop

set_option maxHeartbeats 1000000 in
theorem do_grant (h : Own w b room k l bx wr) (x : Mo) (k0 : (x.k == 0) = false) (k1 : (x.k == 1) = false) (k2 : (x.k == 2) = true) {n : Int} {m : List Ms} (e : chg l x.ln (grantF x.n) = (n, m)) :
    Calls Try.prog 9 #[.pointer (some ⟨b, 0, none⟩), .agg (ocells x)] wr (RetD m0 false n (Own w b room (k + 1) m bx)) := by
  have HS := Lib.hid (h.add2 (.cells (ocells x) 38) (.cells #[.int .i64 0, .int .i64 0, .int .i64 0, .int .i64 0, .int .i64 0, .int .i64 0, .int .i64 0, .int .i64 0, .int .i64 0, .int .i64 0, .int .i64 0, .int .i64 0, .int .i64 0, .bool false, .bool false] 34))
  have hA := HS.out.cells (List.mem_cons_of_mem _ (List.mem_cons_self ..))
  have HE := Lib.hid e
  clear h e
  go_enter Try.func9, Try.ntmps9
  go_wp2_with fail
  refine (HS.out.grant x.ln x.n HE.out).mono ?_
  rintro e w1 ⟨rfl, ho⟩
  have H1 := Lib.hid ho
  have h4 := H1.out.box (List.mem_cons_self ..)
  clear ho hA HS HE
  go_wp2_with ((with_reducible refine wpList_store_row (o := ⟨none, _, _, _, _, _⟩) rfl 34 (.tmp 4) (.tmp 35) rfl (wr.heap.size + 1) (mcells m0) ?sx ?sy 34 ?old ?sg ?si ?so ?s1 ?_); (case sx => rfl); (case sy => rfl); (case old => exact #[.int .i64 0, .int .i64 0, .int .i64 0, .int .i64 0, .int .i64 0, .int .i64 0, .int .i64 0, .int .i64 0, .int .i64 0, .int .i64 0, .int .i64 0, .int .i64 0, .int .i64 0, .bool false, .bool false]); (case sg => exact h4); (case si => kernel_rfl); (case so => rfl); (case s1 => kernel_rfl))
  exact do_ret rfl rfl rfl rfl (setRow_heap _ _ _ _ _ _ h4) H1.out.setRow.drop.drop

set_option maxHeartbeats 1000000 in
theorem do_ack (h : Own w b room k l bx wr) (x : Mo) (k0 : (x.k == 0) = false) (k1 : (x.k == 1) = false) (k2 : (x.k == 2) = false) (k3 : (x.k == 3) = true) {n : Int} {m : List Ms} (hk9 : k ≤ 1000) (e : chg l x.ln ackF = (n, m)) :
    Calls Try.prog 9 #[.pointer (some ⟨b, 0, none⟩), .agg (ocells x)] wr (RetD m0 false n (Own w b room (k + 1) m bx)) := by
  have HS := Lib.hid (h.add2 (.cells (ocells x) 38) (.cells #[.int .i64 0, .int .i64 0, .int .i64 0, .int .i64 0, .int .i64 0, .int .i64 0, .int .i64 0, .int .i64 0, .int .i64 0, .int .i64 0, .int .i64 0, .int .i64 0, .int .i64 0, .bool false, .bool false] 34))
  have hA := HS.out.cells (List.mem_cons_of_mem _ (List.mem_cons_self ..))
  have HE := Lib.hid e
  clear h e
  go_enter Try.func9, Try.ntmps9
  go_wp2_with fail
  refine (HS.out.ack hk9 x.ln HE.out).mono ?_
  rintro e w1 ⟨rfl, ho⟩
  have H1 := Lib.hid ho
  have h4 := H1.out.box (List.mem_cons_self ..)
  clear ho hA HS HE
  go_wp2_with ((with_reducible refine wpList_store_row (o := ⟨none, _, _, _, _, _⟩) rfl 34 (.tmp 4) (.tmp 44) rfl (wr.heap.size + 1) (mcells m0) ?sx ?sy 34 ?old ?sg ?si ?so ?s1 ?_); (case sx => rfl); (case sy => rfl); (case old => exact #[.int .i64 0, .int .i64 0, .int .i64 0, .int .i64 0, .int .i64 0, .int .i64 0, .int .i64 0, .int .i64 0, .int .i64 0, .int .i64 0, .int .i64 0, .int .i64 0, .int .i64 0, .bool false, .bool false]); (case sg => exact h4); (case si => kernel_rfl); (case so => rfl); (case s1 => kernel_rfl))
  exact do_ret rfl rfl rfl rfl (setRow_heap _ _ _ _ _ _ h4) H1.out.setRow.drop.drop

set_option maxHeartbeats 1000000 in
theorem do_close (h : Own w b room k l bx wr) (x : Mo) (k0 : (x.k == 0) = false) (k1 : (x.k == 1) = false) (k2 : (x.k == 2) = false) (k3 : (x.k == 3) = false) (k4 : (x.k == 4) = false) {n : Int} {m : List Ms} (e : closeP l x.ln = (n, m)) :
    Calls Try.prog 9 #[.pointer (some ⟨b, 0, none⟩), .agg (ocells x)] wr (RetD m0 false n (Own w b room (k + 1) m bx)) := by
  have HS := Lib.hid (h.add2 (.cells (ocells x) 38) (.cells #[.int .i64 0, .int .i64 0, .int .i64 0, .int .i64 0, .int .i64 0, .int .i64 0, .int .i64 0, .int .i64 0, .int .i64 0, .int .i64 0, .int .i64 0, .int .i64 0, .int .i64 0, .bool false, .bool false] 34))
  have hA := HS.out.cells (List.mem_cons_of_mem _ (List.mem_cons_self ..))
  have HE := Lib.hid e
  clear h e
  go_enter Try.func9, Try.ntmps9
  go_wp2_with fail
  refine (HS.out.close x.ln HE.out).mono ?_
  rintro e w1 ⟨rfl, ho⟩
  have H1 := Lib.hid ho
  have h4 := H1.out.box (List.mem_cons_self ..)
  clear ho hA HS HE
  go_wp2_with ((with_reducible refine wpList_store_row (o := ⟨none, _, _, _, _, _⟩) rfl 34 (.tmp 4) (.tmp 60) rfl (wr.heap.size + 1) (mcells m0) ?sx ?sy 34 ?old ?sg ?si ?so ?s1 ?_); (case sx => rfl); (case sy => rfl); (case old => exact #[.int .i64 0, .int .i64 0, .int .i64 0, .int .i64 0, .int .i64 0, .int .i64 0, .int .i64 0, .int .i64 0, .int .i64 0, .int .i64 0, .int .i64 0, .int .i64 0, .int .i64 0, .bool false, .bool false]); (case sg => exact h4); (case si => kernel_rfl); (case so => rfl); (case s1 => kernel_rfl))
  exact do_ret rfl rfl rfl rfl (setRow_heap _ _ _ _ _ _ h4) H1.out.setRow.drop.drop

set_option maxHeartbeats 1000000 in
theorem do_owe (h : Own w b room k l bx wr) (x : Mo) (k0 : (x.k == 0) = false) (k1 : (x.k == 1) = false) (k2 : (x.k == 2) = false) (k3 : (x.k == 3) = false) (k4 : (x.k == 4) = true) {y : Ms} {q : Bool} {m : List Ms} (e : oweP l x.ln = ((y, q), m)) :
    Calls Try.prog 9 #[.pointer (some ⟨b, 0, none⟩), .agg (ocells x)] wr (RetD y q 0 (Own w b room (k + 1) m bx)) := by
  have HS := Lib.hid (h.add2 (.cells (ocells x) 38) (.cells #[.int .i64 0, .int .i64 0, .int .i64 0, .int .i64 0, .int .i64 0, .int .i64 0, .int .i64 0, .int .i64 0, .int .i64 0, .int .i64 0, .int .i64 0, .int .i64 0, .int .i64 0, .bool false, .bool false] 34))
  have hA := HS.out.cells (List.mem_cons_of_mem _ (List.mem_cons_self ..))
  have HE := Lib.hid e
  clear h e
  go_enter Try.func9, Try.ntmps9
  go_wp2_with fail
  refine (HS.out.owe x.ln HE.out).mono ?_
  rintro e w1 ⟨rfl, ho⟩
  have H1 := Lib.hid (ho.addRow #[.int .i64 0, .int .i64 0, .int .i64 0, .int .i64 0, .int .i64 0, .int .i64 0, .int .i64 0, .int .i64 0, .int .i64 0, .int .i64 0, .int .i64 0, .int .i64 0, .int .i64 0, .bool false, .bool false] (mcells y) 34)
  clear ho hA HS HE
  go_wp2_with (first
    | ((with_reducible refine wpList_store_row (o := ⟨none, _, _, _, _, _⟩) rfl 34 (.tmp 7) (.tmp 56) rfl w1.heap.size (mcells y) ?sx ?sy 34 ?old ?sg ?si ?so ?s1 ?_); (case sx => rfl); (case sy => rfl); (case old => exact mcells m0); (case sg => exact heap_alloc_new w1 _); (case si => kernel_rfl); (case so => rfl); (case s1 => kernel_rfl); generalize (w1.alloc (.cells #[.int .i64 0, .int .i64 0, .int .i64 0, .int .i64 0, .int .i64 0, .int .i64 0, .int .i64 0, .int .i64 0, .int .i64 0, .int .i64 0, .int .i64 0, .int .i64 0, .int .i64 0, .bool false, .bool false] 34)).setRow w1.heap.size (mcells y) = w2 at *; generalize w1.heap.size = k7 at *; have h7 := H1.out.box (List.mem_cons_self ..); have h4 := H1.out.box (List.mem_cons_of_mem _ (List.mem_cons_self ..)))
    | ((with_reducible refine wpList_load_row (o := ⟨some 58, _, _, _, _, _⟩) rfl 34 (.tmp 7) rfl k7 ?lx 34 (mcells y) (0, 0) _ ?lg Try.underlying34 ?ld ?li ?_); (case lx => rfl); (case lg => exact h7); (case ld => rfl); (case li => kernel_rfl))
    | ((with_reducible refine wpList_store_row (o := ⟨none, _, _, _, _, _⟩) rfl 34 (.tmp 4) (.tmp 58) rfl (wr.heap.size + 1) (mcells y) ?sx ?sy 34 ?old ?sg ?si ?so ?s1 ?_); (case sx => rfl); (case sy => rfl); (case old => exact #[.int .i64 0, .int .i64 0, .int .i64 0, .int .i64 0, .int .i64 0, .int .i64 0, .int .i64 0, .int .i64 0, .int .i64 0, .int .i64 0, .int .i64 0, .int .i64 0, .int .i64 0, .bool false, .bool false]); (case sg => exact h4); (case si => kernel_rfl); (case so => rfl); (case s1 => kernel_rfl)))
  exact do_ret rfl rfl rfl rfl (setRow_heap _ _ _ _ _ _ h4) H1.out.drop.setRow.drop.drop

/-- An operation. -/
theorem Own.op (h : Own w b room k l bx wr) (hk9 : k ≤ 1000) (x : Mo) {y : Ms} {q : Bool} {n : Int} {m : List Ms} (e : doP room l x = ((y, q, n), m)) :
    Calls Try.prog 9 #[.pointer (some ⟨b, 0, none⟩), .agg (ocells x)] wr fun e w' => e = .returned (.tuple #[.agg (mcells y), .bool q, .int .i64 n]) ∧ Own w b room (k + 1) m bx w' := by
  unfold doP at e
  by_cases k0 : x.k = 0
  · rw [if_pos k0] at e
    obtain ⟨⟨rfl, rfl, rfl⟩, rfl⟩ := (by simpa only [Prod.mk.injEq] using e : ((_ ∧ _ ∧ _) ∧ _))
    exact do_open h x (by simpa using k0) rfl
  · rw [if_neg k0] at e
    have b0 : (x.k == 0) = false := by simpa using k0
    by_cases k1 : x.k = 1
    · rw [if_pos k1] at e
      obtain ⟨⟨rfl, rfl, rfl⟩, rfl⟩ := (by simpa only [Prod.mk.injEq] using e : ((_ ∧ _ ∧ _) ∧ _))
      exact do_data h x b0 (by simpa using k1) rfl
    · rw [if_neg k1] at e
      have b1 : (x.k == 1) = false := by simpa using k1
      by_cases k2 : x.k = 2
      · rw [if_pos k2] at e
        obtain ⟨⟨rfl, rfl, rfl⟩, rfl⟩ := (by simpa only [Prod.mk.injEq] using e : ((_ ∧ _ ∧ _) ∧ _))
        exact do_grant h x b0 b1 (by simpa using k2) rfl
      · rw [if_neg k2] at e
        have b2 : (x.k == 2) = false := by simpa using k2
        by_cases k3 : x.k = 3
        · rw [if_pos k3] at e
          obtain ⟨⟨rfl, rfl, rfl⟩, rfl⟩ := (by simpa only [Prod.mk.injEq] using e : ((_ ∧ _ ∧ _) ∧ _))
          exact do_ack h x b0 b1 b2 (by simpa using k3) hk9 rfl
        · rw [if_neg k3] at e
          have b3 : (x.k == 3) = false := by simpa using k3
          by_cases k4 : x.k = 4
          · rw [if_pos k4] at e
            obtain ⟨⟨rfl, rfl, rfl⟩, rfl⟩ := (by simpa only [Prod.mk.injEq] using e : ((_ ∧ _ ∧ _) ∧ _))
            exact do_owe h x b0 b1 b2 b3 (by simpa using k4) rfl
          · rw [if_neg k4] at e
            obtain ⟨⟨rfl, rfl, rfl⟩, rfl⟩ := (by simpa only [Prod.mk.injEq] using e : ((_ ∧ _ ∧ _) ∧ _))
            exact do_close h x b0 b1 b2 b3 (by simpa using k4) rfl

end Go.Proofs.Ytcfcgejeiihgnaa
