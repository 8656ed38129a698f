/-
  Share and Give: their closures, answer with each, and the calls.
-/
import Derived.Test.YtlhecliamhjobaaWbE
namespace Go.Proofs.Ytlhecliamhjobaa
open Go Go.RowKit

theorem wpList_load_at {P : Program} {ops : Array Oper} {rest : List Oper} {op : Oper} {a : Act} {w : World} {Q : Exit → Act → World → Prop} (hgd : op.guard = none) (ty : TypeId) (x : Operand) (ho : op.op = .load ty x)
    (b o : Nat) (hx : a.eval x = .pointer (some ⟨b, o, none⟩)) (cs : Array Value) (d : TypeDesc) (hc : w.rangeAt b o cs.toList)
    (hu : P.underlying ty = some d) (hd : d.isRow = true) (hi : (P.info? ty).map (·.size) = some cs.size)
    (h : wpList P ops Q rest (a.put op.dst (.agg cs)) w) : wpList P ops Q (op :: rest) a w :=
  wpList_load_mid hgd ty x ho b o hx cs.toList d hc hu hd (by simpa using hi) (by simpa using h)
/-- An entry that may be written. -/
structure At1 (w : World) (g i : Nat) (x : En) : Prop where
  lt : g < w.heap.size
  row : w.rangeAt g (i * 10) (mc x)
  fz : ∀ o, w.frozen? ⟨g, o, none⟩ = false
theorem Bg.at1 {T e : TypeId} {w : World} {B b : Nat} {room : Int} {l : List En} {g cap : Nat} (h : Bg T e 10 mc w B b room l (.slice (some ⟨g, 0, none⟩) l.length cap)) {i : Nat} {x : En} (hx : l[i]? = some x) : At1 w g i x := by
  obtain ⟨g', cap', e0, _, hg, _, hr, hf, _, _⟩ := h.one hx
  obtain ⟨rfl, rfl⟩ : g = g' ∧ cap = cap' := by simpa using e0
  exact ⟨hg, hr, hf⟩
theorem PutGave.after {T e : TypeId} {w w1 w2 : World} {B b : Nat} {room : Int} {l : List En} {v : Value} (h : PutGave T e 10 mc w1 B b room l v w2) (hb : Below w.heap.size w w1) : PutGave T e 10 mc w B b room l v w2 := by
  obtain ⟨v', h1, h2, h3⟩ := h
  exact ⟨v', h1, (Turn.of_below hb).trans h2 (Fresh.refl _ _), fun k hk => (h3 k hk).imp id fun h4 => Nat.le_trans hb.size h4⟩
/-- A box that was made ahead of a change stands behind it, and may be filled. -/
theorem gave_box {T e : TypeId} {w w2 : World} {B b : Nat} {room : Int} {l m : List En} {v : Value} {o : Obj} (h : Bg T e 10 mc w B b room l v) (hp : PutGave T e 10 mc (w.alloc o) B b room m v w2) : w2.heap[w.heap.size]? = some o ∧ ∀ cs, PutGave T e 10 mc w B b room m v (w2.setRow w.heap.size cs) := by
  obtain ⟨v', h1, h2, h3⟩ := hp
  have hbl := h.lt
  have hsz : (w.alloc o).heap.size = w.heap.size + 1 := by simp
  have h2s := h2.size
  refine ⟨(h2.other w.heap.size (by omega) (by omega) (fun e => by have := (h.row.lt _ e).2; omega)).trans (heap_alloc_new w o), fun cs => ⟨v', ?_, ⟨h2.os, h2.tape, h2.output, by simp; omega, fun k hk k1 k2 => ?_⟩, fun k hk => (h3 k hk).imp id fun h4 => by omega⟩⟩
  · refine h1.keep (setRow_other _ _ b cs (by omega)) fun k hk => setRow_other _ _ k cs ?_
    rcases h3 k hk with e | e
    · have := (h.row.lt _ e).2; omega
    · omega
  · exact (setRow_other _ _ k cs (by omega)).trans ((h2.other k (by omega) k1 k2).trans (Below.heap_alloc w o k hk))
theorem words_of {w : World} {g i : Nat} {x : En} (h : w.rangeAt g (i * 10) (mc x)) : w.rangeAt g (i * 10 + 1) (dcells x.wd).toList := fun j u hu => by
  have hj : j < 8 := (List.getElem?_eq_some_iff.1 hu).1
  rw [Nat.add_assoc]
  refine h (1 + j) u ?_
  rw [← hu]
  rcases (show j = 0 ∨ j = 1 ∨ j = 2 ∨ j = 3 ∨ j = 4 ∨ j = 5 ∨ j = 6 ∨ j = 7 by omega) with rfl | rfl | rfl | rfl | rfl | rfl | rfl | rfl
  all_goals rfl
theorem set_at {l : List En} {i : Nat} {x : En} (hx : l[i]? = some x) (y : En) : (l.set i y)[i]? = some y := by
  have := (List.getElem?_eq_some_iff.1 hx).1
  simp [this]

/-- What a call gives that tells words and a number. -/
def RetW (d : Wd) (n : Int) (P : World → Prop) (e : Ending) (w' : World) : Prop := e = .returned (.tuple #[.agg (dcells d), .int .i64 n]) ∧ P w'
/-- The same, of a change. -/
def GaveW (w : World) (B b : Nat) (room : Int) (v : Value) (r : (Wd × Int) × List En) : Ending → World → Prop := RetW r.1.1 r.1.2 (PutGave 57 48 10 mc w B b room r.2 v)
theorem ans_ret {wr : World} {d : Wd} {n : Int} {P : World → Prop} {a : Act} {g : Nat} (hp : a.tmps.getD 6 undef = .pointer (some ⟨g, 0, none⟩)) (hn : a.tmps.getD 7 undef = .int .i64 n) (hd : a.defers = []) (hg : wr.heap[g]? = some (.cells (dcells d) 32 (0, 0))) (hb : P wr) :
    bodyPost Try.prog Try.f23 (RetW d n P) Exit.ret a wr :=
  bodyPost_ret (v := .tuple #[.agg (dcells d), a.tmps.getD 7 undef]) (results_cell_two Try.results23 _ _ g 32 _ (0, 0) _ hp hg Try.underlying32 rfl (by kernel_rfl)) hd ⟨by rw [hn], hb⟩
theorem share_ret {wr : World} {d : Wd} {n : Int} {P : World → Prop} {a : Act} {g : Nat} (hp : a.tmps.getD 4 undef = .pointer (some ⟨g, 0, none⟩)) (hn : a.tmps.getD 5 undef = .int .i64 n) (hd : a.defers = []) (hg : wr.heap[g]? = some (.cells (dcells d) 32 (0, 0))) (hb : P wr) :
    bodyPost Try.prog Try.f18 (RetW d n P) Exit.ret a wr :=
  bodyPost_ret (v := .tuple #[.agg (dcells d), a.tmps.getD 5 undef]) (results_cell_two Try.results18 _ _ g 32 _ (0, 0) _ hp hg Try.underlying32 rfl (by kernel_rfl)) hd ⟨by rw [hn], hb⟩
theorem give_ret {wr : World} {d : Wd} {n : Int} {P : World → Prop} {a : Act} {g : Nat} (hp : a.tmps.getD 4 undef = .pointer (some ⟨g, 0, none⟩)) (hn : a.tmps.getD 5 undef = .int .i64 n) (hd : a.defers = []) (hg : wr.heap[g]? = some (.cells (dcells d) 32 (0, 0))) (hb : P wr) :
    bodyPost Try.prog Try.f19 (RetW d n P) Exit.ret a wr :=
  bodyPost_ret (v := .tuple #[.agg (dcells d), a.tmps.getD 5 undef]) (results_cell_two Try.results19 _ _ g 32 _ (0, 0) _ hp hg Try.underlying32 rfl (by kernel_rfl)) hd ⟨by rw [hn], hb⟩

abbrev shV : Value := .func (.func 24) #[] #[]
abbrev giV : Value := .func (.func 25) #[] #[]
theorem share1 {w : World} {B b : Nat} {room : Int} {l : List En} {g cap : Nat} (h : BgP w B b room l (.slice (some ⟨g, 0, none⟩) l.length cap)) {i : Nat} {x : En} (hx : l[i]? = some x) :
    Calls Try.prog 24 #[.pointer (some ⟨g, i * 10, none⟩)] w fun e w' => (∃ v, e = .returned v) ∧ PutGave 57 48 10 mc w B b room (l.set i (id x)) (.slice (some ⟨g, 0, none⟩) l.length cap) w' ∧ w'.rangeAt g (i * 10 + 1) (dcells x.wd).toList := by
  have R := Lib.hid (gave_same h (Below.refl _ _))
  have HW := Lib.hid (words_of (h.at1 hx).row)
  rw [show l.set i (id x) = l from set_same hx]
  clear h hx
  go_enter Try.func24, Try.ntmps24
  go_wp2
  go_end0
  exact ⟨⟨_, rfl⟩, R.out, HW.out⟩
theorem give1 {w : World} {B b : Nat} {room : Int} {l : List En} {g cap : Nat} (h : BgP w B b room l (.slice (some ⟨g, 0, none⟩) l.length cap)) {i : Nat} {x : En} (hx : l[i]? = some x) :
    Calls Try.prog 25 #[.pointer (some ⟨g, i * 10, none⟩)] w fun e w' => (∃ v, e = .returned v) ∧ PutGave 57 48 10 mc w B b room (l.set i (gone x)) (.slice (some ⟨g, 0, none⟩) l.length cap) w' ∧ w'.rangeAt g (i * 10 + 1) (dcells x.wd).toList := by
  have ho : ∀ m, m < 10 → m < 9 ∨ 9 + 1 ≤ m → (mc (gone x))[m]? = (mc x)[m]? := fun m hm hm2 => by
    rcases (show m = 0 ∨ m = 1 ∨ m = 2 ∨ m = 3 ∨ m = 4 ∨ m = 5 ∨ m = 6 ∨ m = 7 ∨ m = 8 by omega) with rfl | rfl | rfl | rfl | rfl | rfl | rfl | rfl | rfl
    all_goals rfl
  have hn : ∀ m, m < [Value.bool false].length → (mc (gone x))[9 + m]? = [Value.bool false][m]? := fun m hm => by simp at hm; subst hm; rfl
  have R : Hid (PutGave 57 48 10 mc w B b room (l.set i (gone x)) (.slice (some ⟨g, 0, none⟩) l.length cap) (w.setCell ⟨g, i * 10 + 9, none⟩ (.bool false))) := Lib.hid (gave_store h (Below.refl _ _) hx (gone x) 9 [.bool false] (by simp) hn ho)
  have HW : Hid ((w.setCell ⟨g, i * 10 + 9, none⟩ (.bool false)).rangeAt g (i * 10 + 1) (dcells x.wd).toList) := Lib.hid (by
    have hs : BgP (w.setCell ⟨g, i * 10 + 9, none⟩ (.bool false)) B b room (l.set i (gone x)) (.slice (some ⟨g, 0, none⟩) l.length cap) := h.store hx (gone x) 9 [.bool false] (by simp) hn ho
    have hs' : BgP (w.setCell ⟨g, i * 10 + 9, none⟩ (.bool false)) B b room (l.set i (gone x)) (.slice (some ⟨g, 0, none⟩) (l.set i (gone x)).length cap) := by rw [List.length_set]; exact hs
    exact words_of (x := gone x) (hs'.at1 (set_at hx (gone x))).row)
  have ha := h.at1 hx
  have c9 := ha.row 9 _ rfl
  have f9 := ha.fz (i * 10 + 9)
  clear h hx ho hn ha
  go_enter Try.func25, Try.ntmps25
  go_wp2
  go_end0
  exact ⟨⟨_, rfl⟩, R.out, HW.out⟩

set_option maxHeartbeats 2000000 in
theorem ansS_none {w : World} {B b : Nat} {room : Int} {l : List En} {v : Value} (h : BgP w B b room l v) (line : Int) (hl : l.length ≤ 8) (hp : fnd l line = none) :
    Calls Try.prog 23 #[.pointer (some ⟨b, 0, none⟩), .int .i64 line, shV] w (RetW d0 5 (Below w.heap.size w)) := by
  have HP := place_any (h.below (balloc w (.cells (dcells d0) 32))) line (by omega)
  rw [hp] at HP
  have HP := Lib.hid HP
  clear h hp
  go_enter Try.func23, Try.ntmps23
  go_wp2_with fail
  refine HP.out.mono ?_
  rintro e w1 ⟨rfl, hb1⟩
  simp only [oi]
  go_wp2_with ((with_reducible refine wpList_store_row (o := ⟨none, _, _, _, _, _⟩) rfl 32 (.tmp 6) (.tmp 15) rfl w.heap.size (dcells d0) ?sx ?sy 32 ?old ?sg ?si ?so ?s1 ?_); (case sx => rfl); (case sy => rfl); (case old => exact dcells d0); (case sg => exact box_at hb1); (case si => kernel_rfl); (case so => rfl); (case s1 => kernel_rfl))
  exact ans_ret rfl rfl rfl (setRow_heap _ _ _ _ _ _ (box_at hb1)) (below_setRow (bbox hb1) (Nat.le_refl _) _)
set_option maxHeartbeats 2000000 in
theorem ansS_no {w : World} {B b : Nat} {room : Int} {l : List En} {g cap : Nat} (h : BgP w B b room l (.slice (some ⟨g, 0, none⟩) l.length cap)) (line : Int) (hl : l.length ≤ 8) {i : Nat} {x : En} (hp : fnd l line = some i) (hx : l[i]? = some x) (ht : x.lv = false) :
    Calls Try.prog 23 #[.pointer (some ⟨b, 0, none⟩), .int .i64 line, shV] w (RetW d0 7 (Below w.heap.size w)) := by
  have HP := place_any (h.below (balloc w (.cells (dcells d0) 32))) line (by omega)
  rw [hp] at HP
  have HP := Lib.hid HP
  have hni : ¬ (i : Int) < 0 := by omega
  have hi := (List.getElem?_eq_some_iff.1 hx).1
  have HR : Hid (∀ w1, Below w.heap.size w w1 → w1.cell? ⟨b, 1, none⟩ = some (.slice (some ⟨g, 0, none⟩) l.length cap) ∧ w1.cell? ⟨g, i * 10 + 9, none⟩ = some (.bool false)) := Lib.hid (fun w1 hb => by
    refine ⟨blk_cell (h.below hb).blk 1, ?_⟩
    have := ((h.below hb).at1 hx).row 9 _ rfl
    rw [this]
    exact congrArg (fun z => some (Value.bool z)) ht)
  clear h hp hx ht
  go_enter Try.func23, Try.ntmps23
  go_wp2_with fail
  refine HP.out.mono ?_
  rintro e w1 ⟨rfl, hb1⟩
  simp only [oi]
  obtain ⟨c1, c9⟩ := HR.out _ (bbox hb1)
  go_wp2_with ((with_reducible refine wpList_store_row (o := ⟨none, _, _, _, _, _⟩) rfl 32 (.tmp 6) (.tmp 27) rfl w.heap.size (dcells d0) ?sx ?sy 32 ?old ?sg ?si ?so ?s1 ?_); (case sx => rfl); (case sy => rfl); (case old => exact dcells d0); (case sg => exact box_at hb1); (case si => kernel_rfl); (case so => rfl); (case s1 => kernel_rfl))
  exact ans_ret rfl rfl rfl (setRow_heap _ _ _ _ _ _ (box_at hb1)) (below_setRow (bbox hb1) (Nat.le_refl _) _)
set_option maxHeartbeats 2000000 in
theorem ansS_yes {w : World} {B b : Nat} {room : Int} {l : List En} {g cap : Nat} (h : BgP w B b room l (.slice (some ⟨g, 0, none⟩) l.length cap)) (line : Int) (hl : l.length ≤ 8) {i : Nat} {x : En} (hp : fnd l line = some i) (hx : l[i]? = some x) (ht : x.lv = true) :
    Calls Try.prog 23 #[.pointer (some ⟨b, 0, none⟩), .int .i64 line, shV] w (RetW x.wd 0 (PutGave 57 48 10 mc w B b room (l.set i (id x)) (.slice (some ⟨g, 0, none⟩) l.length cap))) := by
  have HP := place_any (h.below (balloc w (.cells (dcells d0) 32))) line (by omega)
  rw [hp] at HP
  have HP := Lib.hid HP
  have hni : ¬ (i : Int) < 0 := by omega
  have hi := (List.getElem?_eq_some_iff.1 hx).1
  have HR : Hid (∀ w1, Below w.heap.size w w1 → w1.cell? ⟨b, 1, none⟩ = some (.slice (some ⟨g, 0, none⟩) l.length cap) ∧ w1.cell? ⟨g, i * 10 + 9, none⟩ = some (.bool true)) := Lib.hid (fun w1 hb => by
    refine ⟨blk_cell (h.below hb).blk 1, ?_⟩
    have := ((h.below hb).at1 hx).row 9 _ rfl
    rw [this]
    exact congrArg (fun z => some (Value.bool z)) ht)
  have HC := Lib.hid (fun w1 (hb : Below w.heap.size w w1) => share1 (h.below hb) hx)
  have HE := Lib.hid (fun w2 (hp : PutGave 57 48 10 mc (w.alloc (.cells (dcells d0) 32)) B b room (l.set i (id x)) (.slice (some ⟨g, 0, none⟩) l.length cap) w2) => gave_box h hp)
  clear h hp hx ht
  go_enter Try.func23, Try.ntmps23
  go_wp2_with fail
  refine HP.out.mono ?_
  rintro e w1 ⟨rfl, hb1⟩
  simp only [oi]
  obtain ⟨c1, c9⟩ := HR.out _ (bbox hb1)
  go_wp2_with fail
  refine (HC.out _ (bbox hb1)).mono ?_
  rintro e w2 ⟨⟨v2, rfl⟩, R, hw⟩
  obtain ⟨h6, R2⟩ := HE.out _ (R.after hb1)
  have HW := Lib.hid hw
  have R2 := Lib.hid R2
  have H6 := Lib.hid h6
  clear R hw c1 c9
  go_wp2_with (first
    | ((with_reducible refine wpList_load_at (op := ⟨some 34, _, _, _, _, _⟩) rfl 32 (.tmp 33) rfl g (i * 10 + 1) ?lx (dcells x.wd) _ ?lc Try.underlying32 ?ld ?li ?_); (case lx => rfl); (case lc => exact HW.out); (case ld => rfl); (case li => kernel_rfl))
    | ((with_reducible refine wpList_store_row (o := ⟨none, _, _, _, _, _⟩) rfl 32 (.tmp 6) (.tmp 34) rfl w.heap.size (dcells x.wd) ?sx ?sy 32 ?old ?sg ?si ?so ?s1 ?_); (case sx => rfl); (case sy => rfl); (case old => exact dcells d0); (case sg => exact H6.out); (case si => kernel_rfl); (case so => rfl); (case s1 => kernel_rfl)))
  exact ans_ret rfl rfl rfl (setRow_heap _ _ _ _ _ _ H6.out) (R2.out _)
theorem ansS_any {w : World} {B b : Nat} {room : Int} {l : List En} {v : Value} (h : BgP w B b room l v) (line : Int) (hl : l.length ≤ 8) :
    Calls Try.prog 23 #[.pointer (some ⟨b, 0, none⟩), .int .i64 line, shV] w (GaveW w B b room v (ansP id l line)) := by
  rcases hp : fnd l line with _ | i
  · rw [ansP_none _ hp]
    exact (ansS_none h line hl hp).mono fun e w' ⟨h1, h2⟩ => ⟨h1, gave_same h h2⟩
  · obtain ⟨x, hx, _, hi⟩ := fnd_some hp
    obtain ⟨g, cap, rfl, _⟩ := h.one hx
    rcases Bool.eq_false_or_eq_true x.lv with ht | ht
    · rw [ansP_yes _ hp hx ht]
      exact (ansS_yes h line hl hp hx ht).mono fun e w' ⟨h1, h2⟩ => ⟨h1, h2⟩
    · rw [ansP_no _ hp hx ht]
      exact (ansS_no h line hl hp hx ht).mono fun e w' ⟨h1, h2⟩ => ⟨h1, gave_same h h2⟩
set_option maxHeartbeats 1000000 in
/-- Share. -/
theorem share_any {w : World} {B b : Nat} {room : Int} {l : List En} {v : Value} (h : BgP w B b room l v) (line : Int) (hl : l.length ≤ 8) :
    Calls Try.prog 18 #[.pointer (some ⟨b, 0, none⟩), .int .i64 line] w (GaveW w B b room v (ansP id l line)) := by
  have HA := Lib.hid (ansS_any (h.below (balloc w (.cells (dcells d0) 32))) line hl)
  have HE := Lib.hid (fun w2 (hp : PutGave 57 48 10 mc (w.alloc (.cells (dcells d0) 32)) B b room (ansP id l line).2 v w2) => gave_box h hp)
  obtain ⟨dd, hd⟩ : ∃ dd, dd = (ansP id l line).1.1 := ⟨_, rfl⟩
  obtain ⟨nn, hn⟩ : ∃ nn, nn = (ansP id l line).1.2 := ⟨_, rfl⟩
  have HT : Hid (GaveW w B b room v (ansP id l line) = RetW dd nn (PutGave 57 48 10 mc w B b room (ansP id l line).2 v)) := Lib.hid (by rw [hd, hn]; rfl)
  have HA : Hid (Calls Try.prog 23 #[.pointer (some ⟨b, 0, none⟩), .int .i64 line, shV] (w.alloc (.cells (dcells d0) 32)) (RetW dd nn (PutGave 57 48 10 mc (w.alloc (.cells (dcells d0) 32)) B b room (ansP id l line).2 v))) := Lib.hid (by rw [hd, hn]; exact HA.out)
  clear h hd hn
  rw [HT.out]
  go_enter Try.func18, Try.ntmps18
  go_wp2_with fail
  refine HA.out.mono ?_
  rintro e w2 ⟨rfl, R⟩
  obtain ⟨h6, R2⟩ := HE.out _ R
  have R2 := Lib.hid R2
  have H6 := Lib.hid h6
  clear R
  go_wp2_with ((with_reducible refine wpList_store_row (o := ⟨none, _, _, _, _, _⟩) rfl 32 (.tmp 4) (.tmp 9) rfl w.heap.size (dcells dd) ?sx ?sy 32 ?old ?sg ?si ?so ?s1 ?_); (case sx => rfl); (case sy => rfl); (case old => exact dcells d0); (case sg => exact H6.out); (case si => kernel_rfl); (case so => rfl); (case s1 => kernel_rfl))
  exact share_ret rfl rfl rfl (setRow_heap _ _ _ _ _ _ H6.out) (R2.out _)

set_option maxHeartbeats 2000000 in
theorem ansG_none {w : World} {B b : Nat} {room : Int} {l : List En} {v : Value} (h : BgP w B b room l v) (line : Int) (hl : l.length ≤ 8) (hp : fnd l line = none) :
    Calls Try.prog 23 #[.pointer (some ⟨b, 0, none⟩), .int .i64 line, giV] w (RetW d0 5 (Below w.heap.size w)) := by
  have HP := place_any (h.below (balloc w (.cells (dcells d0) 32))) line (by omega)
  rw [hp] at HP
  have HP := Lib.hid HP
  clear h hp
  go_enter Try.func23, Try.ntmps23
  go_wp2_with fail
  refine HP.out.mono ?_
  rintro e w1 ⟨rfl, hb1⟩
  simp only [oi]
  go_wp2_with ((with_reducible refine wpList_store_row (o := ⟨none, _, _, _, _, _⟩) rfl 32 (.tmp 6) (.tmp 15) rfl w.heap.size (dcells d0) ?sx ?sy 32 ?old ?sg ?si ?so ?s1 ?_); (case sx => rfl); (case sy => rfl); (case old => exact dcells d0); (case sg => exact box_at hb1); (case si => kernel_rfl); (case so => rfl); (case s1 => kernel_rfl))
  exact ans_ret rfl rfl rfl (setRow_heap _ _ _ _ _ _ (box_at hb1)) (below_setRow (bbox hb1) (Nat.le_refl _) _)
set_option maxHeartbeats 2000000 in
theorem ansG_no {w : World} {B b : Nat} {room : Int} {l : List En} {g cap : Nat} (h : BgP w B b room l (.slice (some ⟨g, 0, none⟩) l.length cap)) (line : Int) (hl : l.length ≤ 8) {i : Nat} {x : En} (hp : fnd l line = some i) (hx : l[i]? = some x) (ht : x.lv = false) :
    Calls Try.prog 23 #[.pointer (some ⟨b, 0, none⟩), .int .i64 line, giV] w (RetW d0 7 (Below w.heap.size w)) := by
  have HP := place_any (h.below (balloc w (.cells (dcells d0) 32))) line (by omega)
  rw [hp] at HP
  have HP := Lib.hid HP
  have hni : ¬ (i : Int) < 0 := by omega
  have hi := (List.getElem?_eq_some_iff.1 hx).1
  have HR : Hid (∀ w1, Below w.heap.size w w1 → w1.cell? ⟨b, 1, none⟩ = some (.slice (some ⟨g, 0, none⟩) l.length cap) ∧ w1.cell? ⟨g, i * 10 + 9, none⟩ = some (.bool false)) := Lib.hid (fun w1 hb => by
    refine ⟨blk_cell (h.below hb).blk 1, ?_⟩
    have := ((h.below hb).at1 hx).row 9 _ rfl
    rw [this]
    exact congrArg (fun z => some (Value.bool z)) ht)
  clear h hp hx ht
  go_enter Try.func23, Try.ntmps23
  go_wp2_with fail
  refine HP.out.mono ?_
  rintro e w1 ⟨rfl, hb1⟩
  simp only [oi]
  obtain ⟨c1, c9⟩ := HR.out _ (bbox hb1)
  go_wp2_with ((with_reducible refine wpList_store_row (o := ⟨none, _, _, _, _, _⟩) rfl 32 (.tmp 6) (.tmp 27) rfl w.heap.size (dcells d0) ?sx ?sy 32 ?old ?sg ?si ?so ?s1 ?_); (case sx => rfl); (case sy => rfl); (case old => exact dcells d0); (case sg => exact box_at hb1); (case si => kernel_rfl); (case so => rfl); (case s1 => kernel_rfl))
  exact ans_ret rfl rfl rfl (setRow_heap _ _ _ _ _ _ (box_at hb1)) (below_setRow (bbox hb1) (Nat.le_refl _) _)
set_option maxHeartbeats 2000000 in
theorem ansG_yes {w : World} {B b : Nat} {room : Int} {l : List En} {g cap : Nat} (h : BgP w B b room l (.slice (some ⟨g, 0, none⟩) l.length cap)) (line : Int) (hl : l.length ≤ 8) {i : Nat} {x : En} (hp : fnd l line = some i) (hx : l[i]? = some x) (ht : x.lv = true) :
    Calls Try.prog 23 #[.pointer (some ⟨b, 0, none⟩), .int .i64 line, giV] w (RetW x.wd 0 (PutGave 57 48 10 mc w B b room (l.set i (gone x)) (.slice (some ⟨g, 0, none⟩) l.length cap))) := by
  have HP := place_any (h.below (balloc w (.cells (dcells d0) 32))) line (by omega)
  rw [hp] at HP
  have HP := Lib.hid HP
  have hni : ¬ (i : Int) < 0 := by omega
  have hi := (List.getElem?_eq_some_iff.1 hx).1
  have HR : Hid (∀ w1, Below w.heap.size w w1 → w1.cell? ⟨b, 1, none⟩ = some (.slice (some ⟨g, 0, none⟩) l.length cap) ∧ w1.cell? ⟨g, i * 10 + 9, none⟩ = some (.bool true)) := Lib.hid (fun w1 hb => by
    refine ⟨blk_cell (h.below hb).blk 1, ?_⟩
    have := ((h.below hb).at1 hx).row 9 _ rfl
    rw [this]
    exact congrArg (fun z => some (Value.bool z)) ht)
  have HC := Lib.hid (fun w1 (hb : Below w.heap.size w w1) => give1 (h.below hb) hx)
  have HE := Lib.hid (fun w2 (hp : PutGave 57 48 10 mc (w.alloc (.cells (dcells d0) 32)) B b room (l.set i (gone x)) (.slice (some ⟨g, 0, none⟩) l.length cap) w2) => gave_box h hp)
  clear h hp hx ht
  go_enter Try.func23, Try.ntmps23
  go_wp2_with fail
  refine HP.out.mono ?_
  rintro e w1 ⟨rfl, hb1⟩
  simp only [oi]
  obtain ⟨c1, c9⟩ := HR.out _ (bbox hb1)
  go_wp2_with fail
  refine (HC.out _ (bbox hb1)).mono ?_
  rintro e w2 ⟨⟨v2, rfl⟩, R, hw⟩
  obtain ⟨h6, R2⟩ := HE.out _ (R.after hb1)
  have HW := Lib.hid hw
  have R2 := Lib.hid R2
  have H6 := Lib.hid h6
  clear R hw c1 c9
  go_wp2_with (first
    | ((with_reducible refine wpList_load_at (op := ⟨some 34, _, _, _, _, _⟩) rfl 32 (.tmp 33) rfl g (i * 10 + 1) ?lx (dcells x.wd) _ ?lc Try.underlying32 ?ld ?li ?_); (case lx => rfl); (case lc => exact HW.out); (case ld => rfl); (case li => kernel_rfl))
    | ((with_reducible refine wpList_store_row (o := ⟨none, _, _, _, _, _⟩) rfl 32 (.tmp 6) (.tmp 34) rfl w.heap.size (dcells x.wd) ?sx ?sy 32 ?old ?sg ?si ?so ?s1 ?_); (case sx => rfl); (case sy => rfl); (case old => exact dcells d0); (case sg => exact H6.out); (case si => kernel_rfl); (case so => rfl); (case s1 => kernel_rfl)))
  exact ans_ret rfl rfl rfl (setRow_heap _ _ _ _ _ _ H6.out) (R2.out _)
theorem ansG_any {w : World} {B b : Nat} {room : Int} {l : List En} {v : Value} (h : BgP w B b room l v) (line : Int) (hl : l.length ≤ 8) :
    Calls Try.prog 23 #[.pointer (some ⟨b, 0, none⟩), .int .i64 line, giV] w (GaveW w B b room v (ansP gone l line)) := by
  rcases hp : fnd l line with _ | i
  · rw [ansP_none _ hp]
    exact (ansG_none h line hl hp).mono fun e w' ⟨h1, h2⟩ => ⟨h1, gave_same h h2⟩
  · obtain ⟨x, hx, _, hi⟩ := fnd_some hp
    obtain ⟨g, cap, rfl, _⟩ := h.one hx
    rcases Bool.eq_false_or_eq_true x.lv with ht | ht
    · rw [ansP_yes _ hp hx ht]
      exact (ansG_yes h line hl hp hx ht).mono fun e w' ⟨h1, h2⟩ => ⟨h1, h2⟩
    · rw [ansP_no _ hp hx ht]
      exact (ansG_no h line hl hp hx ht).mono fun e w' ⟨h1, h2⟩ => ⟨h1, gave_same h h2⟩
set_option maxHeartbeats 1000000 in
/-- Give. -/
theorem give_any {w : World} {B b : Nat} {room : Int} {l : List En} {v : Value} (h : BgP w B b room l v) (line : Int) (hl : l.length ≤ 8) :
    Calls Try.prog 19 #[.pointer (some ⟨b, 0, none⟩), .int .i64 line] w (GaveW w B b room v (ansP gone l line)) := by
  have HA := Lib.hid (ansG_any (h.below (balloc w (.cells (dcells d0) 32))) line hl)
  have HE := Lib.hid (fun w2 (hp : PutGave 57 48 10 mc (w.alloc (.cells (dcells d0) 32)) B b room (ansP gone l line).2 v w2) => gave_box h hp)
  obtain ⟨dd, hd⟩ : ∃ dd, dd = (ansP gone l line).1.1 := ⟨_, rfl⟩
  obtain ⟨nn, hn⟩ : ∃ nn, nn = (ansP gone l line).1.2 := ⟨_, rfl⟩
  have HT : Hid (GaveW w B b room v (ansP gone l line) = RetW dd nn (PutGave 57 48 10 mc w B b room (ansP gone l line).2 v)) := Lib.hid (by rw [hd, hn]; rfl)
  have HA : Hid (Calls Try.prog 23 #[.pointer (some ⟨b, 0, none⟩), .int .i64 line, giV] (w.alloc (.cells (dcells d0) 32)) (RetW dd nn (PutGave 57 48 10 mc (w.alloc (.cells (dcells d0) 32)) B b room (ansP gone l line).2 v))) := Lib.hid (by rw [hd, hn]; exact HA.out)
  clear h hd hn
  rw [HT.out]
  go_enter Try.func19, Try.ntmps19
  go_wp2_with fail
  refine HA.out.mono ?_
  rintro e w2 ⟨rfl, R⟩
  obtain ⟨h6, R2⟩ := HE.out _ R
  have R2 := Lib.hid R2
  have H6 := Lib.hid h6
  clear R
  go_wp2_with ((with_reducible refine wpList_store_row (o := ⟨none, _, _, _, _, _⟩) rfl 32 (.tmp 4) (.tmp 9) rfl w.heap.size (dcells dd) ?sx ?sy 32 ?old ?sg ?si ?so ?s1 ?_); (case sx => rfl); (case sy => rfl); (case old => exact dcells d0); (case sg => exact H6.out); (case si => kernel_rfl); (case so => rfl); (case s1 => kernel_rfl))
  exact give_ret rfl rfl rfl (setRow_heap _ _ _ _ _ _ H6.out) (R2.out _)

end Go.Proofs.Ytlhecliamhjobaa
