/-
  What wayOf, Find, Free and At of an array do, one contract each.
-/
import Derived.Test.YtldbepaclddgmaaDoorArB
import Derived.Laws.CopyOwn
namespace Go.Proofs.YtldbepaclddgmaaDoor
open Go Go.RowKit

theorem nat_neq (k : Nat) : ((k : Int) == -1) = false := by simp
theorem nat_neq2 (k : Nat) : ((k : Int) != -1) = true := by simp

set_option maxHeartbeats 1000000 in
theorem wayOf_yes {w : World} {b g : Nat} {c : Cfg} {L : List Wy} (h : Ar w b g c L) (hT : Tb w) (line : Int) (k : Nat) (hp : plc c L line = some k) :
    Calls Tryd.prog 32 #[.pointer (some ⟨b, 0, none⟩), .int .i64 line] w fun e w' => e = .returned (.tuple #[.pointer (some ⟨g, soN c line * 11 + k * 11, none⟩), .bool true]) ∧ Below w.heap.size w w' := by
  obtain ⟨hl, hk, -⟩ := h.sz.plc_some hp
  have HS := Lib.hid (setOf_yes h hT line hl)
  have HP := Lib.hid (fun w1 (hb : Below w.heap.size w w1) => placeOf_at (h.below hb) line hl)
  rw [hp] at HP
  have hn := nat_neq k
  unfold lset at HS HP
  generalize soN c line = so at *
  generalize c.wa.toNat = W at *
  clear h hT hl hp
  go_enter Tryd.func32, Tryd.ntmps32
  go_wp2_with (first
    | (go_at_call 27; refine HS.out.mono ?_; rintro e w1 ⟨rfl, hb1⟩)
    | (go_at_call 28; refine (HP.out _ hb1).mono ?_; rintro e w2 ⟨rfl, hb2⟩; simp only [oi]))
  go_ret2
  exact ⟨rfl, bstep hb1 hb2⟩
theorem wayOf_no {w : World} {b g : Nat} {c : Cfg} {L : List Wy} (h : Ar w b g c L) (hT : Tb w) (line : Int) (hp : plc c L line = none) :
    Calls Tryd.prog 32 #[.pointer (some ⟨b, 0, none⟩), .int .i64 line] w fun e w' => e = .returned (.tuple #[.pointer none, .bool false]) ∧ Below w.heap.size w w' := by
  rcases Bool.eq_false_or_eq_true (lnOk c line) with hl | hl
  · have HS := Lib.hid (setOf_yes h hT line hl)
    have HP := Lib.hid (fun w1 (hb : Below w.heap.size w w1) => placeOf_at (h.below hb) line hl)
    rw [hp] at HP
    unfold lset at HS HP
    generalize soN c line = so at *
    generalize c.wa.toNat = W at *
    clear h hT hl hp
    go_enter Tryd.func32, Tryd.ntmps32
    go_wp2_with (first
      | (go_at_call 27; refine HS.out.mono ?_; rintro e w1 ⟨rfl, hb1⟩)
      | (go_at_call 28; refine (HP.out _ hb1).mono ?_; rintro e w2 ⟨rfl, hb2⟩; simp only [oi]))
    go_ret2
    exact ⟨rfl, bstep hb1 hb2⟩
  · have HS := Lib.hid (setOf_no h hT line hl)
    clear h hT hl hp
    go_enter Tryd.func32, Tryd.ntmps32
    go_wp2_with (first
      | (go_at_call 27; refine HS.out.mono ?_; rintro e w1 ⟨rfl, hb1⟩)
      | (go_at_call 28; refine (placeOf_nil _ _ _).mono ?_; rintro e w2 ⟨rfl, hb2⟩))
    go_ret2
    exact ⟨rfl, bstep hb1 hb2⟩

theorem results_cell_three {P : Program} {fn : Func} {p q r : Tmp} {ty : TypeId} (h : fn.results = #[.cell p ty, .tmp q, .tmp r]) (tmps : Array Value) (w : World) (g : Nat) (t : TypeId) (cs : Array Value) (fr : Nat × Nat) (d : TypeDesc)
    (hp : tmps.getD p undef = .pointer (some ⟨g, 0, none⟩)) (hg : w.heap[g]? = some (.cells cs t fr))
    (hu : P.underlying ty = some d) (hd : (match d with | .struct _ | .array _ _ => true | _ => false) = true) (hi : (P.info? ty).map (·.size) = some cs.size) :
    (results fn tmps).run P w = .ok (.tuple #[.agg cs, tmps.getD q undef, tmps.getD r undef]) w := by
  have hp' : tmps[p]?.getD undef = .pointer (some ⟨g, 0, none⟩) := by simpa using hp
  simp [results, h, hp', asAddr, run_loadVar_row w g t ty cs fr d hg hu hd hi]
theorem results_cell_two {P : Program} {fn : Func} {p q : Tmp} {ty : TypeId} (h : fn.results = #[.cell p ty, .tmp q]) (tmps : Array Value) (w : World) (g : Nat) (t : TypeId) (cs : Array Value) (fr : Nat × Nat) (d : TypeDesc)
    (hp : tmps.getD p undef = .pointer (some ⟨g, 0, none⟩)) (hg : w.heap[g]? = some (.cells cs t fr))
    (hu : P.underlying ty = some d) (hd : (match d with | .struct _ | .array _ _ => true | _ => false) = true) (hi : (P.info? ty).map (·.size) = some cs.size) :
    (results fn tmps).run P w = .ok (.tuple #[.agg cs, tmps.getD q undef]) w := by
  have hp' : tmps[p]?.getD undef = .pointer (some ⟨g, 0, none⟩) := by simpa using hp
  simp [results, h, hp', asAddr, run_loadVar_row w g t ty cs fr d hg hu hd hi]

/-- What Find gives: a way, its number, and whether it is. -/
def RetF (w : World) (x : Wy) (k : Int) (q : Bool) (e : Ending) (w' : World) : Prop := e = .returned (.tuple #[.agg (ycells x), .int .i64 k, .bool q]) ∧ Below w.heap.size w w'
def RetA (w : World) (x : Wy) (q : Bool) (e : Ending) (w' : World) : Prop := e = .returned (.tuple #[.agg (ycells x), .bool q]) ∧ Below w.heap.size w w'
theorem find_ret {w wr : World} {x : Wy} {k : Int} {q : Bool} {a : Act} {g : Nat} (hp : a.tmps.getD 4 undef = .pointer (some ⟨g, 0, none⟩)) (hk : a.tmps.getD 5 undef = .int .i64 k) (hq : a.tmps.getD 6 undef = .bool q) (hd : a.defers = []) (hg : wr.heap[g]? = some (.cells (ycells x) 43 (0, 0))) (hb : Below w.heap.size w wr) :
    bodyPost Tryd.prog Tryd.f13 (RetF w x k q) Exit.ret a wr :=
  bodyPost_ret (v := .tuple #[.agg (ycells x), a.tmps.getD 5 undef, a.tmps.getD 6 undef]) (results_cell_three Tryd.results13 _ _ g 43 _ (0, 0) _ hp hg Tryd.underlying43 rfl (by kernel_rfl)) hd ⟨by rw [hk, hq], hb⟩
theorem at_ret {w wr : World} {x : Wy} {q : Bool} {a : Act} {g : Nat} (hp : a.tmps.getD 6 undef = .pointer (some ⟨g, 0, none⟩)) (hq : a.tmps.getD 7 undef = .bool q) (hd : a.defers = []) (hg : wr.heap[g]? = some (.cells (ycells x) 43 (0, 0))) (hb : Below w.heap.size w wr) :
    bodyPost Tryd.prog Tryd.f20 (RetA w x q) Exit.ret a wr :=
  bodyPost_ret (v := .tuple #[.agg (ycells x), a.tmps.getD 7 undef]) (results_cell_two Tryd.results20 _ _ g 43 _ (0, 0) _ hp hg Tryd.underlying43 rfl (by kernel_rfl)) hd ⟨by rw [hq], hb⟩
theorem A43 : (Tryd.prog.info? 43).map (fun i => (i.zero, i.size, i.bytes)) = some (some (.agg (ycells y0)), 11, 88) := by kernel_rfl

theorem box_at {w w1 : World} {o : Obj} (h : Below (w.alloc o).heap.size (w.alloc o) w1) : w1.heap[w.heap.size]? = some o := (h.block w.heap.size (by simp)).trans (heap_alloc_new w o)
theorem Ar.way_at {w : World} {b g : Nat} {c : Cfg} {L : List Wy} (h : Ar w b g c L) {line : Int} {k : Nat} {x : Wy} (hx : L[soN c line + k]? = some x) : w.rangeAt g (soN c line * 11 + k * 11) (yc x) := by
  have := h.ways _ x hx
  rwa [Nat.zero_add, Nat.add_mul] at this

set_option maxHeartbeats 2000000 in
theorem find_yes {w : World} {b g : Nat} {c : Cfg} {L : List Wy} (h : Ar w b g c L) (hT : Tb w) (line : Int) (k : Nat) (x : Wy) (hp : plc c L line = some k) (hx : L[soN c line + k]? = some x) :
    Calls Tryd.prog 13 #[.pointer (some ⟨b, 0, none⟩), .int .i64 line] w (RetF w x k true) := by
  obtain ⟨hl, hk, -⟩ := h.sz.plc_some hp
  have hB0 : ∀ o, Below w.heap.size w (w.alloc o) := fun o => (Below.refl _ _).alloc (Nat.le_refl _) _
  have HS := Lib.hid (fun o => setOf_yes (h.below (hB0 o)) (hT.keeps (hB0 o)) line hl)
  have HP := Lib.hid (fun w1 (hb : Below w.heap.size w w1) => placeOf_at (h.below hb) line hl)
  rw [hp] at HP
  have HR := Lib.hid (fun w1 (hb : Below w.heap.size w w1) => (h.below hb).way_at hx)
  have hn := nat_neq k
  unfold lset at HS HP
  generalize soN c line = so at *
  generalize c.wa.toNat = W at *
  clear h hT hl hp hx hB0
  go_enter Tryd.func13, Tryd.ntmps13
  go_wp2_with (first
    | (go_at_call 27; refine (HS.out _).mono ?_; rintro e w1 ⟨rfl, hb1⟩)
    | (go_at_call 28; refine (HP.out _ (bbox hb1)).mono ?_; rintro e w2 ⟨rfl, hb2⟩; simp only [oi])
    | ((with_reducible refine wpList_load_mid (op := ⟨some 21, _, _, _, _, _⟩) rfl 43 (.tmp 20) rfl g (so * 11 + k * 11) ?lx (yc x) _ ?lc Tryd.underlying43 ?ld ?li ?_); (case lx => rfl); (case lc => exact HR.out _ (bstep (bbox hb1) hb2)); (case ld => rfl); (case li => kernel_rfl))
    | ((with_reducible refine wpList_store_row (o := ⟨none, _, _, _, _, _⟩) rfl 43 (.tmp 4) (.tmp 21) rfl w.heap.size (ycells x) ?sx ?sy 43 ?old ?sg ?si ?so ?s1 ?_); (case sx => rfl); (case sy => rfl); (case old => exact ycells y0); (case sg => exact (hb2.block w.heap.size (zbox hb1)).trans (box_at hb1)); (case si => kernel_rfl); (case so => rfl); (case s1 => kernel_rfl)))
  exact find_ret rfl rfl rfl rfl (setRow_heap _ _ _ _ _ _ ((hb2.block w.heap.size (zbox hb1)).trans (box_at hb1))) (below_setRow (bstep (bbox hb1) hb2) (Nat.le_refl _) _)

set_option maxHeartbeats 2000000 in
theorem find_no {w : World} {b g : Nat} {c : Cfg} {L : List Wy} (h : Ar w b g c L) (hT : Tb w) (line : Int) (hp : plc c L line = none) :
    Calls Tryd.prog 13 #[.pointer (some ⟨b, 0, none⟩), .int .i64 line] w (RetF w y0 0 false) := by
  have hB0 : ∀ o, Below w.heap.size w (w.alloc o) := fun o => (Below.refl _ _).alloc (Nat.le_refl _) _
  rcases Bool.eq_false_or_eq_true (lnOk c line) with hl | hl
  · have HS := Lib.hid (fun o => setOf_yes (h.below (hB0 o)) (hT.keeps (hB0 o)) line hl)
    have HP := Lib.hid (fun w1 (hb : Below w.heap.size w w1) => placeOf_at (h.below hb) line hl)
    rw [hp] at HP
    unfold lset at HS HP
    generalize soN c line = so at *
    generalize c.wa.toNat = W at *
    clear h hT hl hp hB0
    go_enter Tryd.func13, Tryd.ntmps13
    go_wp2_with (first
      | (go_at_call 27; refine (HS.out _).mono ?_; rintro e w1 ⟨rfl, hb1⟩)
      | (go_at_call 28; refine (HP.out _ (bbox hb1)).mono ?_; rintro e w2 ⟨rfl, hb2⟩; simp only [oi])
      | ((with_reducible refine wpList_store_row (o := ⟨none, _, _, _, _, _⟩) rfl 43 (.tmp 4) (.tmp 17) rfl w.heap.size (ycells y0) ?sx ?sy 43 ?old ?sg ?si ?so ?s1 ?_); (case sx => rfl); (case sy => rfl); (case old => exact ycells y0); (case sg => exact (hb2.block w.heap.size (zbox hb1)).trans (box_at hb1)); (case si => kernel_rfl); (case so => rfl); (case s1 => kernel_rfl)))
    exact find_ret rfl rfl rfl rfl (setRow_heap _ _ _ _ _ _ ((hb2.block w.heap.size (zbox hb1)).trans (box_at hb1))) (below_setRow (bstep (bbox hb1) hb2) (Nat.le_refl _) _)
  · have HS := Lib.hid (fun o => setOf_no (h.below (hB0 o)) (hT.keeps (hB0 o)) line hl)
    clear h hT hl hp hB0
    go_enter Tryd.func13, Tryd.ntmps13
    go_wp2_with (first
      | (go_at_call 27; refine (HS.out _).mono ?_; rintro e w1 ⟨rfl, hb1⟩)
      | (go_at_call 28; refine (placeOf_nil _ _ _).mono ?_; rintro e w2 ⟨rfl, hb2⟩)
      | ((with_reducible refine wpList_store_row (o := ⟨none, _, _, _, _, _⟩) rfl 43 (.tmp 4) (.tmp 17) rfl w.heap.size (ycells y0) ?sx ?sy 43 ?old ?sg ?si ?so ?s1 ?_); (case sx => rfl); (case sy => rfl); (case old => exact ycells y0); (case sg => exact (hb2.block w.heap.size (zbox hb1)).trans (box_at hb1)); (case si => kernel_rfl); (case so => rfl); (case s1 => kernel_rfl)))
    exact find_ret rfl rfl rfl rfl (setRow_heap _ _ _ _ _ _ ((hb2.block w.heap.size (zbox hb1)).trans (box_at hb1))) (below_setRow (bstep (bbox hb1) hb2) (Nat.le_refl _) _)

/-- At. -/
theorem Ar.way_in {w : World} {b g : Nat} {c : Cfg} {L : List Wy} (h : Ar w b g c L) {s k : Nat} {x : Wy} (hx : L[s * c.wa.toNat + k]? = some x) : w.rangeAt g (s * c.wa.toNat * 11 + k * 11) (yc x) := by
  have := h.ways _ x hx
  rwa [Nat.zero_add, Nat.add_mul] at this
set_option maxHeartbeats 2000000 in
theorem at_yes {w : World} {b g : Nat} {c : Cfg} {L : List Wy} (h : Ar w b g c L) (s k : Nat) (x : Wy) (hs : (s : Int) < c.se) (hk : (k : Int) < c.wa) (hx : L[s * c.wa.toNat + k]? = some x) :
    Calls Tryd.prog 20 #[.pointer (some ⟨b, 0, none⟩), .int .i64 s, .int .i64 k] w (RetA w x true) := by
  have hB0 : ∀ o, Below w.heap.size w (w.alloc o) := fun o => (Below.refl _ _).alloc (Nat.le_refl _) _
  have HS := Lib.hid (fun o => part_yes (h.below (hB0 o)) s hs)
  have HR := Lib.hid (fun w1 (hb : Below w.heap.size w w1) => (h.below hb).way_in hx)
  have hk2 : k < c.wa.toNat := by omega
  unfold sset at HS
  generalize c.wa.toNat = W at *
  clear h hx
  go_enter Tryd.func20, Tryd.ntmps20
  go_wp2_with (first
    | (go_at_call 31; refine (HS.out _).mono ?_; rintro e w1 ⟨rfl, rfl⟩)
    | ((with_reducible refine wpList_load_mid (op := ⟨some 24, _, _, _, _, _⟩) rfl 43 (.tmp 23) rfl g (s * W * 11 + k * 11) ?lx (yc x) _ ?lc Tryd.underlying43 ?ld ?li ?_); (case lx => rfl); (case lc => exact HR.out _ (hB0 _)); (case ld => rfl); (case li => kernel_rfl))
    | ((with_reducible refine wpList_store_row (o := ⟨none, _, _, _, _, _⟩) rfl 43 (.tmp 6) (.tmp 24) rfl w.heap.size (ycells x) ?sx ?sy 43 ?old ?sg ?si ?so ?s1 ?_); (case sx => rfl); (case sy => rfl); (case old => exact ycells y0); (case sg => exact heap_alloc_new w _); (case si => kernel_rfl); (case so => rfl); (case s1 => kernel_rfl)))
  exact at_ret rfl rfl rfl (setRow_heap _ _ _ _ _ _ (heap_alloc_new w _)) (below_setRow (hB0 _) (Nat.le_refl _) _)
set_option maxHeartbeats 2000000 in
theorem at_no {w : World} {b g : Nat} {c : Cfg} {L : List Wy} (h : Ar w b g c L) (s k : Int) (hs : s < 0 ∨ c.se ≤ s ∨ k < 0 ∨ c.wa ≤ k) :
    Calls Tryd.prog 20 #[.pointer (some ⟨b, 0, none⟩), .int .i64 s, .int .i64 k] w (RetA w y0 false) := by
  have hB0 : ∀ o, Below w.heap.size w (w.alloc o) := fun o => (Below.refl _ _).alloc (Nat.le_refl _) _
  have hw := ok_ways h.sz.ok
  by_cases hn : s < 0 ∨ c.se ≤ s
  · have HS := Lib.hid (fun o => part_no (h.below (hB0 o)) s hn)
    clear h hn hs hw
    rcases Int.lt_or_le k 0 with hk | hk
    all_goals
      go_enter Tryd.func20, Tryd.ntmps20
      go_wp2_with (first
        | (go_at_call 31; refine (HS.out _).mono ?_; rintro e w1 ⟨rfl, rfl⟩)
        | ((with_reducible refine wpList_store_row (o := ⟨none, _, _, _, _, _⟩) rfl 43 (.tmp 6) (.tmp 20) rfl w.heap.size (ycells y0) ?sx ?sy 43 ?old ?sg ?si ?so ?s1 ?_); (case sx => rfl); (case sy => rfl); (case old => exact ycells y0); (case sg => exact heap_alloc_new w _); (case si => kernel_rfl); (case so => rfl); (case s1 => kernel_rfl)))
      exact at_ret rfl rfl rfl (setRow_heap _ _ _ _ _ _ (heap_alloc_new w _)) (below_setRow (hB0 _) (Nat.le_refl _) _)
  · obtain ⟨t, rfl⟩ : ∃ t : Nat, s = t := ⟨s.toNat, by omega⟩
    have HS := Lib.hid (fun o => part_yes (h.below (hB0 o)) t (by omega))
    have hk2 : k < 0 ∨ (0 ≤ k ∧ (c.wa.toNat : Int) ≤ k) := by omega
    unfold sset at HS
    generalize c.wa.toNat = W at *
    clear h hn hs hw
    rcases hk2 with hk | ⟨hk0, hk⟩
    all_goals
      go_enter Tryd.func20, Tryd.ntmps20
      go_wp2_with (first
        | (go_at_call 31; refine (HS.out _).mono ?_; rintro e w1 ⟨rfl, rfl⟩)
        | ((with_reducible refine wpList_store_row (o := ⟨none, _, _, _, _, _⟩) rfl 43 (.tmp 6) (.tmp 20) rfl w.heap.size (ycells y0) ?sx ?sy 43 ?old ?sg ?si ?so ?s1 ?_); (case sx => rfl); (case sy => rfl); (case old => exact ycells y0); (case sg => exact heap_alloc_new w _); (case si => kernel_rfl); (case so => rfl); (case s1 => kernel_rfl)))
      exact at_ret rfl rfl rfl (setRow_heap _ _ _ _ _ _ (heap_alloc_new w _)) (below_setRow (hB0 _) (Nat.le_refl _) _)

end Go.Proofs.YtldbepaclddgmaaDoor
