/-
  What the document's Put and Take do.
-/
import Derived.Test.YtnimaogdjfenpaaBgF
import Derived.Laws.AppendOwnNone
namespace Go.Proofs.Ytnimaogdjfenpaa
open Go Go.RowKit

/-- No row. -/
abbrev nilV : Value := .slice none 0 0
/-- What is behind a change of the document's bag: its row is new. -/
def RefGave (w : World) (B b : Nat) (room : Int) (l : List Int) (w' : World) : Prop := ∃ v', BgR w' B b room l v' ∧ Turn b nilV w w' ∧ Fresh w nilV v'
theorem ref_gave {w w2 : World} {B b : Nat} {room : Int} {l m : List Int} {v u : Value} {n : Nat} (h : BgR w B b room l v) (hw : Below w.heap.size w w2) (hB : B ≤ w.heap.size) (hm : m.length = n)
    (hown : w2.ownsRow w.heap.size 3 1 u n (cellsOf one m)) : RefGave w B b room m (w2.setCell ⟨b, 1, none⟩ u) := by
  have hbl := h.lt
  have hb2 : w2.heap[b]? = some (.cells #[.int .i64 room, v] 40 (0, 0)) := (hw.block b hbl).trans h.blk
  have hu : ∀ k, u.ownBlock = some k → w.heap.size ≤ k := fun k hk => (hown.lt k hk).1
  subst hm
  refine ⟨u, ⟨?_, ?_, ?_, h.big⟩, ?_, ?_⟩
  · rw [heap_setCell_same w2 b 1 _ _ _ hb2]
    rfl
  · exact own_base (own_block (w' := w2.setCell ⟨b, 1, none⟩ u) hown fun k hk => heap_setCell_other _ _ _ _ (by have := hu k hk; simp only; omega)) fun k hk => by have := hu k hk; omega
  · exact fun e => by have := hu b e; omega
  · refine ⟨hw.os, hw.tape, hw.output, ?_, fun k hk h1 _ => ?_⟩
    · have := hw.size; simp [World.setCell]; omega
    · exact (heap_setCell_other _ _ _ _ h1).trans (hw.block k hk)
  · exact fun k hk => .inr (hu k hk)

theorem heap_cell2 (w : World) (A : Obj) (x : Value) : ((w.alloc A).alloc (.cells #[x] 3)).cell? ⟨w.heap.size + 1, 0, none⟩ = some x := by
  have e : w.heap.size + 1 = (w.alloc A).heap.size := by simp
  rw [e]
  exact World.cell?_alloc_mark (w.alloc A) #[x] 3 (0, 0) 0

theorem putR_full {w : World} {B b : Nat} {room : Int} {l : List Int} {v : Value} (h : BgR w B b room l v) (x : Int) (hl : room = l.length) :
    Calls Try.prog 10 #[.pointer (some ⟨b, 0, none⟩), .int .i64 x] w fun e w' => e = .returned (.int .i64 4) ∧ ∃ n, w' = w.drewN n := by
  obtain ⟨p, cap, rfl, -⟩ := h.form
  have c0 := blk_cell h.blk 0
  have c1 := blk_cell h.blk 1
  simp at c0 c1
  have hd : decide (room ≤ (l.length : Int)) = true := by simp; omega
  clear h hl
  go_enter Try.func10, Try.ntmps10
  go_wp2
  go_quiet (fail)
  go_wp2
  go_ret
  exact ⟨rfl, _, rfl⟩

set_option maxHeartbeats 1000000 in
theorem putR_nil {w : World} {B b : Nat} {room : Int} (h : BgR w B b room [] (.slice none 0 0)) (x : Int) (hB : B ≤ w.heap.size) (h1 : 1 ≤ room) :
    Calls Try.prog 10 #[.pointer (some ⟨b, 0, none⟩), .int .i64 x] w fun e w' => e = .returned (.int .i64 0) ∧ RefGave w B b room [x] w' := by
  obtain ⟨i0, hi, hz0, hz1, hz2⟩ := info_parts A3
  have c0 := blk_cell h.blk 0
  have c1 := blk_cell h.blk 1
  have f1 := blk_free h.blk 1
  have hlt := h.lt
  simp at c0 c1
  have hd : decide (room ≤ (0 : Int)) = false := by simp; omega
  have ca : ∀ o q, ((w.drewN q).alloc o).cell? ⟨b, 1, none⟩ = some (.slice none 0 0) := fun o q => (Lib.cell?_alloc_some (W := w.drewN q) o c1)
  have H := Lib.hid h
  clear h
  go_enter Try.func10, Try.ntmps10
  go_wp2
  go_quiet (fail)
  go_wp2_with (first
    | (at_builtin; refine wpList_append_own_none rfl (.tmp 16) (.tmp 20) 38 rfl w.heap.size 3 i0 1 Try.underlying38 hi _ _ _ rfl (World.ownsRow_made (w.drewN _) #[] 0 (Nat.le_refl _) (Nat.zero_le _) rfl) rfl ?_)
    | (at_builtin; refine wpList_append_lies _ rfl (.tmp 21) (.tmp 23) 38 rfl w.heap.size 3 i0 (.int .i64 0) 1 8 Try.underlying38 hi hz0 hz1 hz2 rfl (by decide) _ _ _ rfl ((World.ownsRow_made (w.drewN _) #[] 0 (Nat.le_refl _) (Nat.zero_le _) rfl).alloc _) ⟨w.heap.size + 1, 0, none⟩ 1 1 [.int .i64 x] rfl rfl ?c1 ?c2 (by decide) ?c3 ?c4 ?c5 _ rfl ?_))
  case c1 => intro j u hj; cases j <;> simp at hj; subst hj; exact heap_cell2 _ _ _
  case c2 => simp [Value.oneCell']
  case c3 => simp only [maxLen]; omega
  case c4 => omega
  case c5 => simp; omega
  intro g' cap' w2 hown hgrow hat hlt2
  have hb2 : Below w.heap.size w w2 := (((below_drewN (Below.refl _ w) _).alloc (Nat.le_refl _) _).alloc (by simp) _).grown hgrow (by simp; omega) (by intro k hk; simp only [Value.ownBlock, Option.some.injEq] at hk; exact Nat.le_of_eq hk)
  have hw2 := (hb2.block b hlt).trans H.out.blk
  have c2 := blk_cell hw2 1
  have f2 := blk_free hw2 1
  simp at c2
  have HO := Lib.hid hown
  have HB := Lib.hid hb2
  clear hw2 hown hgrow hb2 c0 c1 f1 ca hat
  go_wp2
  go_ret
  exact ⟨rfl, ref_gave H.out HB.out hB rfl HO.out⟩

set_option maxHeartbeats 1000000 in
theorem putR_some {w : World} {B b : Nat} {room : Int} {l : List Int} {g cap : Nat} (h : BgR w B b room l (.slice (some ⟨g, 0, none⟩) l.length cap)) (x : Int) (hB : B ≤ w.heap.size) (hl : (l.length : Int) < room) (h2 : room ≤ 4096) :
    Calls Try.prog 10 #[.pointer (some ⟨b, 0, none⟩), .int .i64 x] w fun e w' => e = .returned (.int .i64 0) ∧ RefGave w B b room (l ++ [x]) w' := by
  obtain ⟨i0, hi, hz0, hz1, hz2⟩ := info_parts A3
  have c0 := blk_cell h.blk 0
  have c1 := blk_cell h.blk 1
  have f1 := blk_free h.blk 1
  have hlt := h.lt
  simp at c0 c1
  have hd : decide (room ≤ (l.length : Int)) = false := by simp; omega
  have ca : ∀ o q, ((w.drewN q).alloc o).cell? ⟨b, 1, none⟩ = some (.slice (some ⟨g, 0, none⟩) l.length cap) := fun o q => (Lib.cell?_alloc_some (W := w.drewN q) o c1)
  have HC := Lib.hid (fun o q j u hu => (Lib.cell?_alloc_some (W := w.drewN q) o (h.row.cells (g := g) rfl j u hu)))
  have HL := Lib.hid (cellsOf_len one_len l)
  have H1 : Hid (∀ u ∈ cellsOf one l, u.oneCell' = true) := Lib.hid (fun u hu => by rw [cellsOf_one] at hu; obtain ⟨x, _, rfl⟩ := List.mem_map.1 hu; rfl)
  have H := Lib.hid h
  have hll : l.length ≤ 4096 := by omega
  clear h hl
  go_enter Try.func10, Try.ntmps10
  go_wp2
  go_quiet (fail)
  go_wp2_with (at_builtin; refine wpList_append_own _ rfl (.tmp 16) (.tmp 20) 38 rfl w.heap.size 3 i0 (.int .i64 0) 1 8 Try.underlying38 hi hz0 hz1 hz2 rfl (by decide) _ _ _ rfl (World.ownsRow_made (w.drewN _) #[] 0 (Nat.le_refl _) (Nat.zero_le _) rfl) ⟨g, 0, none⟩ l.length cap (cellsOf one l) rfl HL.out ?c1 H1.out ?c3 ?c4 ?c5 ?_)
  case c1 => exact HC.out _ _
  case c3 => simp only [maxLen]; omega
  case c4 => omega
  case c5 => simp
  intro v1 w1 hown1 hgrow1 hnil1
  have hb1 : Below w.heap.size w w1 := ((below_drewN (Below.refl _ w) _).alloc (Nat.le_refl _) _).grown hgrow1 (by simp) (by intro k hk; simp only [Value.ownBlock, Option.some.injEq] at hk; exact Nat.le_of_eq hk)
  have hz1' : w.heap.size < w1.heap.size := by have := hgrow1.size; simp at this; omega
  have HO1 := Lib.hid hown1
  have HB1 := Lib.hid hb1
  have HN1 := Lib.hid (fun k hk => (hown1.lt k hk).1)
  clear hown1 hgrow1 hb1 hnil1 c0 c1 f1 ca
  go_wp2_with (at_builtin; refine wpList_append_lies _ rfl (.tmp 21) (.tmp 23) 38 rfl w.heap.size 3 i0 (.int .i64 0) 1 8 Try.underlying38 hi hz0 hz1 hz2 rfl (by decide) v1 l.length (cellsOf one l) rfl (HO1.out.alloc _) ⟨w1.heap.size, 0, none⟩ 1 1 [.int .i64 x] rfl rfl ?c1 ?c2 (by decide) ?c3 ?c4 ?c5 _ rfl ?_)
  case c1 => intro j u hj; cases j <;> simp at hj; subst hj; exact World.cell?_alloc_mark w1 #[.int .i64 x] 3 (0, 0) 0
  case c2 => simp [Value.oneCell']
  case c3 => simp only [maxLen]; omega
  case c4 => omega
  case c5 => simp; omega
  intro g' cap' w2 hown hgrow hat hlt2
  have hb2 : Below w.heap.size w w2 := (HB1.out.alloc (by omega) _).grown hgrow (by simp; omega) HN1.out
  have hw2 := (hb2.block b hlt).trans H.out.blk
  have c2 := blk_cell hw2 1
  have f2 := blk_free hw2 1
  simp at c2
  have HO := Lib.hid hown
  have HB := Lib.hid hb2
  clear hw2 hown hgrow hb2 hat
  go_wp2
  go_ret
  exact ⟨rfl, ref_gave (n := l.length + 1) H.out HB.out hB (by simp) (by rw [cellsOf_append]; exact HO.out)⟩

theorem putR_ok {w : World} {B b : Nat} {room : Int} {l : List Int} {v : Value} (h : BgR w B b room l v) (x : Int) (hB : B ≤ w.heap.size) (hl : (l.length : Int) < room) (h2 : room ≤ 4096) :
    Calls Try.prog 10 #[.pointer (some ⟨b, 0, none⟩), .int .i64 x] w fun e w' => e = .returned (.int .i64 0) ∧ RefGave w B b room (l ++ [x]) w' := by
  rcases h.row.2 with ⟨rfl, h0⟩ | ⟨g, cap, cur, rfl, _⟩
  · have e : l = [] := List.eq_nil_of_length_eq_zero h0
    subst e
    exact putR_nil h x hB (by simp at hl; omega)
  · exact putR_some h x hB hl h2

theorem takeR_no {w : World} {B b : Nat} {room : Int} {l : List Int} {v : Value} (h : BgR w B b room l v) (at_ : Int) (hl : l.length ≤ 5000) (hn : at_ < 0 ∨ (l.length : Int) ≤ at_) :
    Calls Try.prog 12 #[.pointer (some ⟨b, 0, none⟩), .int .i64 at_] w fun e w' => e = .returned (.tuple #[.int .i64 0, .int .i64 5]) ∧ w = w' := by
  obtain ⟨p, cap, rfl, -⟩ := h.form
  have c1 := blk_cell h.blk 1
  simp at c1
  clear h
  rcases hn with hn | hn
  · go_enter Try.func12, Try.ntmps12
    go_wp2
    go_ret2
    exact ⟨rfl, rfl⟩
  · have hn1 : ¬ at_ < 0 := by omega
    go_enter Try.func12, Try.ntmps12
    go_wp2
    go_ret2
    exact ⟨rfl, rfl⟩

end Go.Proofs.Ytnimaogdjfenpaa
