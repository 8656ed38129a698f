/-
  Bags of messages: what New, Left, At, Clone and List do.
-/
import Derived.Test.YtnimaogdjfenpaaBgK
import Derived.Test.YtnimaogdjfenpaaBgE
import Derived.Deep.MidRow
namespace Go.Proofs.Ytnimaogdjfenpaa
open Go Go.RowKit

theorem results_cell_two {P : Program} {fn : Func} {p q : Tmp} {ty : TypeId} (h : fn.results = #[.cell p ty, .tmp q]) (tmps : Array Value) (w : World) (g : Nat) (t : TypeId) (cs : Array Value) (fr : Nat × Nat) (d : TypeDesc)
    (hp : tmps.getD p undef = .pointer (some ⟨g, 0, none⟩)) (hg : w.heap[g]? = some (.cells cs t fr))
    (hu : P.underlying ty = some d) (hd : (match d with | .struct _ | .array _ _ => true | _ => false) = true) (hi : (P.info? ty).map (·.size) = some cs.size) :
    (results fn tmps).run P w = .ok (.tuple #[.agg cs, tmps.getD q undef]) w := by
  have hp' : tmps[p]?.getD undef = .pointer (some ⟨g, 0, none⟩) := by simpa using hp
  simp [results, h, hp', asAddr, run_loadVar_row w g t ty cs fr d hg hu hd hi]

theorem newM_no (room : Int) (w : World) (h : room < 1 ∨ 4096 < room) :
    Calls Try.prog 19 #[.int .i64 room] w fun e w' => e = .returned (.tuple #[.pointer none, .int .i64 1]) ∧ w = w' := by
  rcases h with h | h
  · go_enter Try.func19, Try.ntmps19
    go_wp2
    go_ret2
    exact ⟨rfl, rfl⟩
  · have h1 : ¬ room < 1 := by omega
    go_enter Try.func19, Try.ntmps19
    go_wp2
    go_ret2
    exact ⟨rfl, rfl⟩
theorem newM_yes (room : Int) (w : World) (h : 1 ≤ room) (h2 : room ≤ 4096) :
    Calls Try.prog 19 #[.int .i64 room] w fun e w' => e = .returned (.tuple #[.pointer (some ⟨w.heap.size, 0, none⟩), .int .i64 0]) ∧ w.alloc (.cells #[.int .i64 room, .slice none 0 0] 69) = w' := by
  go_enter Try.func19, Try.ntmps19
  go_wp2
  go_ret2
  exact ⟨rfl, rfl⟩

theorem leftM_any {w : World} {B b : Nat} {room : Int} {l : List Mg} {v : Value} (h : BgM w B b room l v) (h1 : 0 ≤ room) (h2 : room ≤ 4096) (hl : l.length ≤ 5000) :
    Calls Try.prog 23 #[.pointer (some ⟨b, 0, none⟩)] w fun e w' => e = .returned (.int .i64 (room - l.length)) ∧ ∃ n, w' = w.drewN n := by
  obtain ⟨p, cap, rfl, -⟩ := h.form
  have c0 := blk_cell h.blk 0
  have c1 := blk_cell h.blk 1
  simp at c0 c1
  clear h
  go_enter Try.func23, Try.ntmps23
  go_wp2
  go_quiet (fail)
  go_wp2
  go_ret
  exact ⟨rfl, _, rfl⟩

/-- What a call gives that tells a message, and something beside it. -/
def RetM (w : World) (m : Mg) (q : Value) (e : Ending) (w' : World) : Prop := e = .returned (.tuple #[.agg (mga m), q]) ∧ Below w.heap.size w w'
theorem at_ret {w wr : World} {m : Mg} {q : Value} {a : Act} {g : Nat} (hp : a.tmps.getD 4 undef = .pointer (some ⟨g, 0, none⟩)) (hq : a.tmps.getD 5 undef = q) (hd : a.defers = []) (hg : wr.heap[g]? = some (.cells (mga m) 52 (0, 0))) (hb : Below w.heap.size w wr) :
    bodyPost Try.prog Try.f28 (RetM w m q) Exit.ret a wr :=
  bodyPost_ret (v := .tuple #[.agg (mga m), a.tmps.getD 5 undef]) (results_cell_two Try.results28 _ _ g 52 _ (0, 0) _ hp hg Try.underlying52 rfl (by kernel_rfl)) hd ⟨by rw [hq], hb⟩
theorem new_at2 (w : World) (A B : Obj) : ((w.alloc A).alloc B).heap[w.heap.size + 1]? = some B := by
  have h1 := heap_alloc_new (w.alloc A) B
  have e1 : (w.alloc A).heap.size = w.heap.size + 1 := by simp
  rwa [e1] at h1
theorem new_at1 (w : World) (A B : Obj) : ((w.alloc A).alloc B).heap[w.heap.size]? = some A := by
  rw [Below.heap_alloc _ _ _ (by simp)]
  exact heap_alloc_new w A

set_option maxHeartbeats 1000000 in
theorem atM_no {w : World} {B b : Nat} {room : Int} {l : List Mg} {v : Value} (h : BgM w B b room l v) (at_ : Int) (hl : l.length ≤ 5000) (hn : at_ < 0 ∨ (l.length : Int) ≤ at_) :
    Calls Try.prog 28 #[.pointer (some ⟨b, 0, none⟩), .int .i64 at_] w (RetM w m0 (.bool false)) := by
  obtain ⟨p, cap, rfl, -⟩ := h.form
  have c1 := blk_cell h.blk 1
  simp at c1
  have hbw := h.lt
  have ca : ∀ o, (w.alloc o).cell? ⟨b, 1, none⟩ = some (.slice p l.length cap) := fun o => Lib.cell?_alloc_some o c1
  clear h
  rcases hn with hn | hn
  · go_enter Try.func28, Try.ntmps28
    go_wp2_with ((with_reducible refine wpList_store_row (o := ⟨none, _, _, _, _, _⟩) rfl 52 (.tmp 4) (.tmp 18) rfl w.heap.size (mga m0) ?sx ?sy 52 ?old ?sg ?si ?so ?s1 ?_); (case sx => rfl); (case sy => rfl); (case sg => exact new_at1 w _ _); (case si => kernel_rfl); (case so => rfl); (case s1 => kernel_rfl))
    exact at_ret rfl rfl rfl (setRow_heap _ _ _ _ _ _ (new_at1 w _ _)) (below_setRow (((Below.refl _ _).alloc (Nat.le_refl _) _).alloc (by simp) _) (Nat.le_refl _) _)
  · have hn1 : ¬ at_ < 0 := by omega
    go_enter Try.func28, Try.ntmps28
    go_wp2_with ((with_reducible refine wpList_store_row (o := ⟨none, _, _, _, _, _⟩) rfl 52 (.tmp 4) (.tmp 18) rfl w.heap.size (mga m0) ?sx ?sy 52 ?old ?sg ?si ?so ?s1 ?_); (case sx => rfl); (case sy => rfl); (case sg => exact new_at1 w _ _); (case si => kernel_rfl); (case so => rfl); (case s1 => kernel_rfl))
    exact at_ret rfl rfl rfl (setRow_heap _ _ _ _ _ _ (new_at1 w _ _)) (below_setRow (((Below.refl _ _).alloc (Nat.le_refl _) _).alloc (by simp) _) (Nat.le_refl _) _)

theorem mg_range {w : World} {B : Nat} {l : List Mg} {g cap : Nat} (h : w.ownsRow B 52 15 (.slice (some ⟨g, 0, none⟩) l.length cap) l.length (cellsOf mg l)) {i : Nat} {x : Mg} (hx : l[i]? = some x) : w.rangeAt g (i * 15) (mg x) := by
  obtain ⟨hi, rfl⟩ := List.getElem?_eq_some_iff.1 hx
  intro j v hv
  have hj : j < 15 := by
    have := (List.getElem?_eq_some_iff.1 hv).1
    rwa [mg_len] at this
  rw [h.cellAt (i * 15 + j) (by omega), cellsOf_at mg_len l i j hi hj]
  exact hv

set_option maxHeartbeats 1000000 in
theorem atM_yes {w : World} {B b : Nat} {room : Int} {l : List Mg} {v : Value} (h : BgM w B b room l v) (i : Nat) (x : Mg) (hl : l.length ≤ 5000) (hx : l[i]? = some x) :
    Calls Try.prog 28 #[.pointer (some ⟨b, 0, none⟩), .int .i64 i] w (RetM w x (.bool true)) := by
  have hi : i < l.length := (List.getElem?_eq_some_iff.1 hx).1
  obtain ⟨p, cap, rfl, hp⟩ := h.form
  obtain ⟨g, rfl⟩ := hp (by omega)
  have c1 := blk_cell h.blk 1
  simp at c1
  have ca : ∀ o, (w.alloc o).cell? ⟨b, 1, none⟩ = some (.slice (some ⟨g, 0, none⟩) l.length cap) := fun o => Lib.cell?_alloc_some o c1
  have HR := Lib.hid (mg_range h.row hx)
  clear h hp hx
  go_enter Try.func28, Try.ntmps28
  go_wp2_with (first
    | ((with_reducible refine wpList_load_mid (op := ⟨some 25, _, _, _, _, _⟩) rfl 52 (.tmp 24) rfl g (i * 15) ?lx (mg x) _ ?lc Try.underlying52 ?ld ?li ?_); (case lx => rfl); (case lc => exact World.rangeAt_alloc HR.out _); (case ld => rfl); (case li => kernel_rfl))
    | ((with_reducible refine wpList_store_row (o := ⟨none, _, _, _, _, _⟩) rfl 52 (.tmp 4) (.tmp 25) rfl w.heap.size (mga x) ?sx ?sy 52 ?old ?sg ?si ?so ?s1 ?_); (case sx => rfl); (case sy => rfl); (case sg => exact heap_alloc_new w _); (case si => kernel_rfl); (case so => rfl); (case s1 => kernel_rfl)))
  exact at_ret rfl rfl rfl (setRow_heap _ _ _ _ _ _ (heap_alloc_new w _)) (below_setRow ((Below.refl _ _).alloc (Nat.le_refl _) _) (Nat.le_refl _) _)

end Go.Proofs.Ytnimaogdjfenpaa
