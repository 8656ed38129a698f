/-
  The document's Open.
-/
import Derived.Test.YtcfcgejeiihgnaaMhR
import Derived.Laws.AppendOwnNone
namespace Go.Proofs.Ytcfcgejeiihgnaa
open Go Go.RowKit

/-- What a change of the document's file gives. -/
structure GaveD (w : World) (B b : Nat) (room : Int) (v : Value) (r : Int × List Ms) (e : Ending) (w' : World) : Prop where
  res : e = .returned (.int .i64 r.1)
  put : PutGave 52 39 15 mc w B b room r.2 v w'
theorem gave_new {T e : TypeId} {w w2 : World} {B b : Nat} {room : Int} {l m : List Ms} {v u : Value} {n : Nat} (h : Bg T e 15 mc w B b room l v) (hw : Below w.heap.size w w2) (hB : B ≤ w.heap.size) (hm : m.length = n)
    (hown : w2.ownsRow w.heap.size e 15 u n (cellsOf mc m)) : PutGave T e 15 mc w B b room m v (w2.setCell ⟨b, 1, none⟩ u) := by
  have hbl := h.lt
  have hb2 : w2.heap[b]? = some (.cells #[.int .i64 room, v] T (0, 0)) := (hw.block b hbl).trans h.blk
  have hu : ∀ k, u.ownBlock = some k → w.heap.size ≤ k := fun k hk => (hown.lt k hk).1
  subst hm
  refine ⟨u, ⟨?_, ?_, ?_, h.big⟩, ?_, ?_⟩
  · rw [heap_setCell_same w2 b 1 _ _ _ hb2]
    rfl
  · exact own_base (own_block (w' := w2.setCell ⟨b, 1, none⟩ u) hown fun k hk => heap_setCell_other _ _ _ _ (by have := hu k hk; simp only; omega)) fun k hk => by have := hu k hk; omega
  · exact fun e => by have := hu b e; omega
  · refine ⟨hw.os, hw.tape, hw.output, ?_, fun k hk h1 _ => ?_⟩
    · have := hw.size; simp [World.setCell]; omega
    · exact (heap_setCell_other _ _ _ _ h1).trans (hw.block k hk)
  · exact fun k hk => .inr (hu k hk)
theorem heap_row2 (w : World) (A : Obj) (cs : Array Value) (t : TypeId) : ((w.alloc A).alloc (.cells cs t)).heap[w.heap.size + 1]? = some (.cells cs t (0, 0)) := by
  have e : w.heap.size + 1 = (w.alloc A).heap.size := by simp
  rw [e]
  exact heap_alloc_new _ _
theorem kind_no' {kind : Int} (h : (kind != 1 && kind != 2) = true) : (kind != 1) = true ∧ (kind != 2) = true := by simpa using h
theorem kind_yes {kind : Int} (hk : (kind != 1 && kind != 2) = false) : (kind != 1) = false ∨ (kind != 1) = true ∧ (kind != 2) = false := by
  rcases Bool.eq_false_or_eq_true (kind != 1) with h1 | h1
  · exact .inr ⟨h1, by simpa [h1] using hk⟩
  · exact .inl h1

set_option maxHeartbeats 1000000 in
theorem refOpen_nil {w : World} {B b : Nat} {room : Int} (h : BgD w B b room [] (.slice none 0 0)) (line kind : Int) (hB : B ≤ w.heap.size) (h1 : 1 ≤ room) (hk : (kind != 1 && kind != 2) = false) :
    Calls Try.prog 22 #[.pointer (some ⟨b, 0, none⟩), .int .i64 line, .int .i64 kind] w fun e w' => e = .returned (.int .i64 0) ∧ PutGave 52 39 15 mc w B b room [newM line kind] (.slice none 0 0) w' := by
  obtain ⟨i0, hi, hz0, hz1, hz2⟩ := info_parts A39
  have HP := refPlace_any h line (by simp)
  rw [show fnd [] line = none from rfl] at HP
  have HP := Lib.hid HP
  have c0 := blk_cell h.blk 0
  have c1 := blk_cell h.blk 1
  have f1 := blk_free h.blk 1
  have hlt := h.lt
  simp at c0 c1
  have hd : decide (room ≤ (0 : Int)) = false := by simp; omega
  have ca : ∀ o q, ((w.drewN q).alloc o).cell? ⟨b, 1, none⟩ = some (.slice none 0 0) := fun o q => (Lib.cell?_alloc_some (W := w.drewN q) o c1)
  have H := Lib.hid h
  have hks := kind_yes hk
  clear h hk
  rcases hks with k1 | ⟨k1, k2⟩
  all_goals
    go_enter Try.func22, Try.ntmps22
    go_wp2_with fail
    refine HP.out.mono ?_
    rintro e w1 ⟨rfl, rfl⟩
    simp only [oi]
    go_wp2
    go_quiet (fail)
    go_wp2_with (first
      | (at_builtin; refine wpList_append_own_none rfl (.tmp 28) (.tmp 32) 50 rfl w.heap.size 39 i0 15 Try.underlying50 hi _ _ _ rfl (World.ownsRow_made (w.drewN _) #[] 0 (Nat.le_refl _) (Nat.zero_le _) rfl) rfl ?_)
      | (at_builtin; refine wpList_append_lies _ rfl (.tmp 33) (.tmp 37) 50 rfl w.heap.size 39 i0 (.agg (mcells m0)) 15 112 Try.underlying50 hi hz0 hz1 hz2 rfl (by decide) _ _ _ rfl ((World.ownsRow_made (w.drewN _) #[] 0 (Nat.le_refl _) (Nat.zero_le _) rfl).alloc _) ⟨w.heap.size + 1, 0, none⟩ 1 1 (mc (newM line kind)) rfl rfl ?c1 ?c2 (by decide) ?c3 ?c4 ?c5 _ rfl ?_))
    case c1 => exact World.news_of_block (cs := mcells (newM line kind)) (t := 39) (fr := (0, 0)) (heap_row2 _ _ _ _)
    case c2 => exact mc_one _
    case c3 => simp only [maxLen]; omega
    case c4 => omega
    case c5 => simp; omega
    intro g' cap' w2 hown hgrow hat hlt2
    have hb2 : Below w.heap.size w w2 := (((below_drewN (Below.refl _ w) _).alloc (Nat.le_refl _) _).alloc (by simp) _).grown hgrow (by simp; omega) (by intro k hk; simp only [Value.ownBlock, Option.some.injEq] at hk; exact Nat.le_of_eq hk)
    have hw2 := (hb2.block b hlt).trans H.out.blk
    have c2 := blk_cell hw2 1
    have f2 := blk_free hw2 1
    simp at c2
    have HO := Lib.hid hown
    have HB := Lib.hid hb2
    clear hw2 hown hgrow hb2 c0 c1 f1 ca hat
    go_wp2
    go_ret
    exact ⟨rfl, gave_new (m := [newM line kind]) H.out HB.out hB rfl HO.out⟩

set_option maxHeartbeats 1000000 in
theorem refOpen_some {w : World} {B b : Nat} {room : Int} {l : List Ms} {g cap : Nat} (h : BgD w B b room l (.slice (some ⟨g, 0, none⟩) l.length cap)) (line kind : Int) (hB : B ≤ w.heap.size) (hl : (l.length : Int) < room) (h2 : room ≤ 8) (hk : (kind != 1 && kind != 2) = false) (hp : fnd l line = none) :
    Calls Try.prog 22 #[.pointer (some ⟨b, 0, none⟩), .int .i64 line, .int .i64 kind] w fun e w' => e = .returned (.int .i64 0) ∧ PutGave 52 39 15 mc w B b room (l ++ [newM line kind]) (.slice (some ⟨g, 0, none⟩) l.length cap) w' := by
  obtain ⟨i0, hi, hz0, hz1, hz2⟩ := info_parts A39
  have HP := refPlace_any h line (by omega)
  rw [hp] at HP
  have HP := Lib.hid HP
  have c0 := blk_cell h.blk 0
  have c1 := blk_cell h.blk 1
  have f1 := blk_free h.blk 1
  have hlt := h.lt
  simp at c0 c1
  have hd : decide (room ≤ (l.length : Int)) = false := by simp; omega
  have ca : ∀ o q, ((w.drewN q).alloc o).cell? ⟨b, 1, none⟩ = some (.slice (some ⟨g, 0, none⟩) l.length cap) := fun o q => (Lib.cell?_alloc_some (W := w.drewN q) o c1)
  have HC := Lib.hid (fun o q j u hu => (Lib.cell?_alloc_some (W := w.drewN q) o (h.row.cells (g := g) rfl j u hu)))
  have HL := Lib.hid (cellsOf_len mc_len l)
  have H1 : Hid (∀ u ∈ cellsOf mc l, u.oneCell' = true) := Lib.hid (mcs_one l)
  have H := Lib.hid h
  have hll : l.length ≤ 8 := by omega
  have hks := kind_yes hk
  clear h hl hk hp
  rcases hks with k1 | ⟨k1, k2⟩
  all_goals
    go_enter Try.func22, Try.ntmps22
    go_wp2_with fail
    refine HP.out.mono ?_
    rintro e w1 ⟨rfl, rfl⟩
    simp only [oi]
    go_wp2
    go_quiet (fail)
    go_wp2_with (at_builtin; refine wpList_append_own _ rfl (.tmp 28) (.tmp 32) 50 rfl w.heap.size 39 i0 (.agg (mcells m0)) 15 112 Try.underlying50 hi hz0 hz1 hz2 rfl (by decide) _ _ _ rfl (World.ownsRow_made (w.drewN _) #[] 0 (Nat.le_refl _) (Nat.zero_le _) rfl) ⟨g, 0, none⟩ l.length cap (cellsOf mc l) rfl HL.out ?c1 H1.out ?c3 ?c4 ?c5 ?_)
    case c1 => exact HC.out _ _
    case c3 => simp only [maxLen]; omega
    case c4 => omega
    case c5 => simp
    intro v1 w1 hown1 hgrow1 hnil1
    have hb1 : Below w.heap.size w w1 := ((below_drewN (Below.refl _ w) _).alloc (Nat.le_refl _) _).grown hgrow1 (by simp) (by intro k hk; simp only [Value.ownBlock, Option.some.injEq] at hk; exact Nat.le_of_eq hk)
    have hz1' : w.heap.size < w1.heap.size := by have := hgrow1.size; simp at this; omega
    have HO1 := Lib.hid hown1
    have HB1 := Lib.hid hb1
    have HN1 := Lib.hid (fun k hk => (hown1.lt k hk).1)
    clear hown1 hgrow1 hb1 hnil1 c0 c1 f1 ca
    go_wp2_with (at_builtin; refine wpList_append_lies _ rfl (.tmp 33) (.tmp 37) 50 rfl w.heap.size 39 i0 (.agg (mcells m0)) 15 112 Try.underlying50 hi hz0 hz1 hz2 rfl (by decide) v1 l.length (cellsOf mc l) rfl ((by simpa using HO1.out : w1.ownsRow w.heap.size 39 15 v1 l.length (cellsOf mc l)).alloc _) ⟨w1.heap.size, 0, none⟩ 1 1 (mc (newM line kind)) rfl rfl ?c1 ?c2 (by decide) ?c3 ?c4 ?c5 _ rfl ?_)
    case c1 => exact World.news_of_block (cs := mcells (newM line kind)) (t := 39) (fr := (0, 0)) (heap_alloc_new w1 _)
    case c2 => exact mc_one _
    case c3 => simp only [maxLen]; omega
    case c4 => omega
    case c5 => simp; omega
    intro g' cap' w2 hown hgrow hat hlt2
    have hb2 : Below w.heap.size w w2 := (HB1.out.alloc (by omega) _).grown hgrow (by simp; omega) HN1.out
    have hw2 := (hb2.block b hlt).trans H.out.blk
    have c2 := blk_cell hw2 1
    have f2 := blk_free hw2 1
    simp at c2
    have HO := Lib.hid hown
    have HB := Lib.hid hb2
    clear hw2 hown hgrow hb2 hat
    go_wp2
    go_ret
    exact ⟨rfl, gave_new (m := l ++ [newM line kind]) (n := l.length + 1) H.out HB.out hB (by simp) (by rw [cellsOf_append]; simpa [cellsOf] using HO.out)⟩

set_option maxHeartbeats 1000000 in
theorem refOpen_any {w : World} {B b : Nat} {room : Int} {l : List Ms} {v : Value} (h : BgD w B b room l v) (hB : B ≤ w.heap.size) (line kind : Int) (h1 : 1 ≤ room) (hr : room ≤ 8) (hl : (l.length : Int) ≤ room) :
    Calls Try.prog 22 #[.pointer (some ⟨b, 0, none⟩), .int .i64 line, .int .i64 kind] w (GaveD w B b room v (openP room l line kind)) := by
  have HEl : ∀ n, openP room l line kind = (n, l) → Hid (∀ w', Below w.heap.size w w' → GaveD w B b room v (openP room l line kind) (.returned (.int .i64 n)) w') := fun n e => Lib.hid (fun w' hb => by
    rw [e]
    exact ⟨rfl, gave_same h hb⟩)
  rcases Bool.eq_false_or_eq_true (kind != 1 && kind != 2) with hk | hk
  · have HE := HEl 1 (openP_kind hk)
    obtain ⟨k1, k2⟩ := kind_no' hk
    clear h HEl hk
    go_enter Try.func22, Try.ntmps22
    go_wp2
    go_ret
    exact HE.out _ (Below.refl _ _)
  · rcases hp : fnd l line with _ | i
    · by_cases hf : (l.length : Int) = room
      · have HE := HEl 4 (openP_full hk hp hf)
        have HP := refPlace_any h line (by omega)
        rw [hp] at HP
        have HP := Lib.hid HP
        have hks := kind_yes hk
        have hd : decide (room ≤ (l.length : Int)) = true := by simp; omega
        obtain ⟨q, cap, rfl, hq⟩ := h.form
        have c0 := blk_cell h.blk 0
        have c1 := blk_cell h.blk 1
        simp at c0 c1
        clear h HEl hk hp hf hq
        rcases hks with k1 | ⟨k1, k2⟩
        all_goals
          go_enter Try.func22, Try.ntmps22
          go_wp2_with fail
          refine HP.out.mono ?_
          rintro e w1 ⟨rfl, rfl⟩
          simp only [oi]
          go_wp2
          go_quiet (fail)
          go_wp2
          go_ret
          exact HE.out _ (below_drewN (Below.refl _ _) _)
      · rw [openP_yes hk hp hf]
        rcases h.row.2 with ⟨rfl, h0⟩ | ⟨g, cap, cur, rfl, _⟩
        · have e : l = [] := List.eq_nil_of_length_eq_zero h0
          subst e
          exact (refOpen_nil h line kind hB h1 hk).mono fun _ _ ⟨e, g⟩ => ⟨e, g⟩
        · exact (refOpen_some h line kind hB (by omega) hr hk hp).mono fun _ _ ⟨e, g⟩ => ⟨e, g⟩
    · have HE := HEl 6 (openP_twice hk hp)
      have HP := refPlace_any h line (by omega)
      rw [hp] at HP
      have HP := Lib.hid HP
      have hks := kind_yes hk
      have hn : (0 : Int) ≤ (i : Int) := by omega
      clear h HEl hk hp
      rcases hks with k1 | ⟨k1, k2⟩
      all_goals
        go_enter Try.func22, Try.ntmps22
        go_wp2_with fail
        refine HP.out.mono ?_
        rintro e w1 ⟨rfl, rfl⟩
        simp only [oi]
        go_wp2
        go_ret
        exact HE.out _ (Below.refl _ _)

end Go.Proofs.Ytcfcgejeiihgnaa
