/-
  What New, Left, At and Put of a bag of numbers do, one contract each.
-/
import Derived.Test.YtnimaogdjfenpaaBgA
namespace Go.Proofs.Ytnimaogdjfenpaa
open Go Go.RowKit

theorem A3 : (Try.prog.info? 3).map (fun i => (i.zero, i.size, i.bytes)) = some (some (.int .i64 0), 1, 8) := by kernel_rfl

/-- New. -/
theorem newI_no (room : Int) (w : World) (h : room < 1 ∨ 4096 < room) :
    Calls Try.prog 7 #[.int .i64 room] w fun e w' => e = .returned (.tuple #[.pointer none, .int .i64 1]) ∧ w = w' := by
  rcases h with h | h
  · go_enter Try.func7, Try.ntmps7
    go_wp2
    go_ret2
    exact ⟨rfl, rfl⟩
  · have h1 : ¬ room < 1 := by omega
    go_enter Try.func7, Try.ntmps7
    go_wp2
    go_ret2
    exact ⟨rfl, rfl⟩
theorem newI_yes (room : Int) (w : World) (h : 1 ≤ room) (h2 : room ≤ 4096) :
    Calls Try.prog 7 #[.int .i64 room] w fun e w' => e = .returned (.tuple #[.pointer (some ⟨w.heap.size, 0, none⟩), .int .i64 0]) ∧ w.alloc (.cells #[.int .i64 room, .slice none 0 0] 64) = w' := by
  go_enter Try.func7, Try.ntmps7
  go_wp2
  go_ret2
  exact ⟨rfl, rfl⟩

/-- Left. -/
theorem leftI_any {w : World} {B b : Nat} {room : Int} {l : List Int} {v : Value} (h : BgI w B b room l v) (h1 : 0 ≤ room) (h2 : room ≤ 4096) (hl : l.length ≤ 5000) :
    Calls Try.prog 18 #[.pointer (some ⟨b, 0, none⟩)] w fun e w' => e = .returned (.int .i64 (room - l.length)) ∧ ∃ n, w' = w.drewN n := by
  obtain ⟨p, cap, rfl, -⟩ := h.form
  have c0 := blk_cell h.blk 0
  have c1 := blk_cell h.blk 1
  simp at c0 c1
  clear h
  go_enter Try.func18, Try.ntmps18
  go_wp2
  go_quiet (fail)
  go_wp2
  go_ret
  exact ⟨rfl, _, rfl⟩

/-- At. -/
theorem atI_no {w : World} {B b : Nat} {room : Int} {l : List Int} {v : Value} (h : BgI w B b room l v) (at_ : Int) (hl : l.length ≤ 5000) (hn : at_ < 0 ∨ (l.length : Int) ≤ at_) :
    Calls Try.prog 13 #[.pointer (some ⟨b, 0, none⟩), .int .i64 at_] w fun e w' => e = .returned (.tuple #[.int .i64 0, .bool false]) ∧ w = w' := by
  obtain ⟨p, cap, rfl, -⟩ := h.form
  have c1 := blk_cell h.blk 1
  simp at c1
  clear h
  rcases hn with hn | hn
  · go_enter Try.func13, Try.ntmps13
    go_wp2
    go_ret2
    exact ⟨rfl, rfl⟩
  · have hn1 : ¬ at_ < 0 := by omega
    go_enter Try.func13, Try.ntmps13
    go_wp2
    go_ret2
    exact ⟨rfl, rfl⟩
theorem one_at {w : World} {B e : Nat} {l : List Int} {g cap : Nat} (h : w.ownsRow B e 1 (.slice (some ⟨g, 0, none⟩) l.length cap) l.length (cellsOf one l)) {i : Nat} {x : Int} (hx : l[i]? = some x) : w.cell? ⟨g, i, none⟩ = some (.int .i64 x) := by
  obtain ⟨hi, rfl⟩ := List.getElem?_eq_some_iff.1 hx
  rw [h.cellAt i (by omega)]
  have := cellsOf_at one_len l i 0 hi (by omega)
  simp only [Nat.mul_one, Nat.add_zero] at this
  rw [this]
  rfl
theorem atI_yes {w : World} {B b : Nat} {room : Int} {l : List Int} {v : Value} (h : BgI w B b room l v) (i : Nat) (x : Int) (hl : l.length ≤ 5000) (hx : l[i]? = some x) :
    Calls Try.prog 13 #[.pointer (some ⟨b, 0, none⟩), .int .i64 i] w fun e w' => e = .returned (.tuple #[.int .i64 x, .bool true]) ∧ w = w' := by
  have hi : i < l.length := (List.getElem?_eq_some_iff.1 hx).1
  obtain ⟨p, cap, rfl, hp⟩ := h.form
  obtain ⟨g, rfl⟩ := hp (by omega)
  have c1 := blk_cell h.blk 1
  simp at c1
  have cx := one_at h.row hx
  clear h hp hx
  go_enter Try.func13, Try.ntmps13
  go_wp2
  go_ret2
  exact ⟨rfl, rfl⟩

/-- Put, where the bag is full. -/
theorem putI_full {w : World} {B b : Nat} {room : Int} {l : List Int} {v : Value} (h : BgI w B b room l v) (x : Int) (h1 : 0 ≤ room) (h2 : room ≤ 4096) (hl : room = l.length) :
    Calls Try.prog 9 #[.pointer (some ⟨b, 0, none⟩), .int .i64 x] w fun e w' => e = .returned (.int .i64 4) ∧ ∃ n, w' = w.drewN n := by
  have hz : (room - (l.length : Int) == 0) = true := by simp; omega
  have HL := Lib.hid (leftI_any h h1 h2 (by omega))
  clear h hl
  go_enter Try.func9, Try.ntmps9
  go_wp2_with (go_at_call 18; refine HL.out.mono ?_; rintro e w' ⟨rfl, n, rfl⟩)
  go_ret
  exact ⟨rfl, _, rfl⟩

/-- What is behind a Put: the bag has one thing more. -/
def PutGave {α : Type} (T e : TypeId) (sz : Nat) (f : α → List Value) (w : World) (B b : Nat) (room : Int) (l : List α) (v : Value) (w' : World) : Prop := ∃ v', Bg T e sz f w' B b room l v' ∧ Turn b v w w' ∧ Fresh w v v'
theorem put_blk {α : Type} {T e : TypeId} {sz : Nat} {f : α → List Value} {w w1 w2 : World} {B b : Nat} {room : Int} {l : List α} {v : Value} (h : Bg T e sz f w B b room l v) (hw : Below w.heap.size w w1) (hgrow : w1.grownBy w2 v.ownBlock) : w2.heap[b]? = some (.cells #[.int .i64 room, v] T (0, 0)) :=
  (hgrow.block b (Nat.lt_of_lt_of_le h.lt hw.size) (fun e => h.off e.symm)).trans ((hw.block b h.lt).trans h.blk)
theorem put_gave {α : Type} {T e : TypeId} {sz : Nat} {f : α → List Value} {w w1 w2 : World} {B b : Nat} {room : Int} {l : List α} {x : α} {v : Value} {g cap : Nat} (h : Bg T e sz f w B b room l v) (hw : Below w.heap.size w w1)
    (hown : w2.ownsRow B e sz (.slice (some ⟨g, 0, none⟩) (l.length + 1) cap) (l.length + 1) (cellsOf f l ++ f x)) (hgrow : w1.grownBy w2 v.ownBlock) (hat : v.ownBlock = some g ∨ w.heap.size ≤ g) :
    PutGave T e sz f w B b room (l ++ [x]) v (w2.setCell ⟨b, 1, none⟩ (.slice (some ⟨g, 0, none⟩) (l.length + 1) cap)) := by
  have hbl := h.lt
  have hb2 : w2.heap[b]? = some (.cells #[.int .i64 room, v] T (0, 0)) := (hgrow.block b (Nat.lt_of_lt_of_le hbl hw.size) (fun e => h.off e.symm)).trans ((hw.block b hbl).trans h.blk)
  have hgb : g ≠ b := by
    rcases hat with hat | hat
    · exact fun e => h.off (e ▸ hat)
    · omega
  refine ⟨.slice (some ⟨g, 0, none⟩) (l.length + 1) cap, ⟨?_, ?_, ?_, h.big⟩, ?_, ?_⟩
  · rw [heap_setCell_same w2 b 1 _ _ _ hb2]
    rfl
  · have := own_block (w' := w2.setCell ⟨b, 1, none⟩ (.slice (some ⟨g, 0, none⟩) (l.length + 1) cap)) hown fun k hk => by
      simp only [Value.ownBlock, Option.some.injEq] at hk
      exact heap_setCell_other _ _ _ _ (by simp only; omega)
    rw [List.length_append, List.length_singleton, cellsOf_append]
    simpa [cellsOf] using this
  · simpa [Value.ownBlock] using hgb
  · refine ⟨?_, ?_, ?_, ?_, fun k hk h1 h2 => ?_⟩
    · exact hgrow.os.trans hw.os
    · exact hgrow.tape.trans hw.tape
    · exact hgrow.output.trans hw.output
    · have h3 := hw.size; have h4 := hgrow.size; simp [World.setCell]; omega
    · exact (heap_setCell_other _ _ _ _ h1).trans ((hgrow.block k (Nat.lt_of_lt_of_le hk hw.size) (fun e => h2 e.symm)).trans (hw.block k hk))
  · intro k hk
    simp only [Value.ownBlock, Option.some.injEq] at hk
    rcases hat with hat | hat
    · exact .inl (hk ▸ hat)
    · exact .inr (hk ▸ hat)

set_option maxHeartbeats 1000000 in
theorem putI_ok {w : World} {B b : Nat} {room : Int} {l : List Int} {v : Value} (h : BgI w B b room l v) (x : Int) (hB : B ≤ w.heap.size) (h1 : 0 ≤ room) (h2 : room ≤ 4096) (hl : (l.length : Int) < room) :
    Calls Try.prog 9 #[.pointer (some ⟨b, 0, none⟩), .int .i64 x] w fun e w' => e = .returned (.int .i64 0) ∧ PutGave 64 3 1 one w B b room (l ++ [x]) v w' := by
  obtain ⟨i0, hi, hz0, hz1, hz2⟩ := info_parts A3
  have hz : (room - (l.length : Int) == 0) = false := by simp; omega
  have HL := Lib.hid (leftI_any h h1 h2 (by omega))
  have c1 := blk_cell h.blk 1
  have f1 := blk_free h.blk 1
  have hlt := h.lt
  simp at c1
  have H := Lib.hid h
  have hll : l.length ≤ 4096 := by omega
  clear h hl
  go_enter Try.func9, Try.ntmps9
  go_wp2_with (first
    | (go_at_call 18; refine HL.out.mono ?_; rintro e w' ⟨rfl, n, rfl⟩)
    | (at_builtin; go_loud (refine wpList_append_lies _ rfl (.tmp 12) (.tmp 14) 38 rfl B 3 i0 (.int .i64 0) 1 8 Try.underlying38 hi hz0 hz1 hz2 rfl (by decide) v l.length (cellsOf one l) rfl ((own_block (w' := w.drewN n) H.out.row fun k hk => rfl).alloc _) ⟨w.heap.size, 0, none⟩ 1 1 [.int .i64 x] rfl rfl ?c1 ?c2 (by decide) ?c3 ?c4 ?c5 _ rfl ?_)))

  case c1 => intro j u hj; cases j <;> simp at hj; subst hj; exact World.cell?_alloc_mark (w.drewN n) #[.int .i64 x] 3 (0, 0) 0
  case c2 => simp [Value.oneCell']
  case c3 => simp only [maxLen]; omega
  case c4 => omega
  case c5 => simp; have := H.out.big; omega
  intro g cap w2 hown hgrow hat hlt2
  have hb2 := put_blk H.out (below_drewN ((Below.refl _ _).alloc (Nat.le_refl _) _) _) hgrow
  have c2 := blk_cell hb2 1
  have f2 := blk_free hb2 1
  simp at c2
  have HO := Lib.hid hown
  have HG := Lib.hid hgrow
  have HA := Lib.hid hat
  clear hb2 hown hgrow hat c1 f1
  go_wp2
  go_ret
  exact ⟨rfl, put_gave H.out (below_drewN ((Below.refl _ _).alloc (Nat.le_refl _) _) _) HO.out HG.out (HA.out.imp id fun h => by omega)⟩
end Go.Proofs.Ytnimaogdjfenpaa
