/-
  Bags of messages: what Take does.
-/
import Derived.Test.YtnimaogdjfenpaaBgM
import Derived.Test.YtnimaogdjfenpaaBgD
namespace Go.Proofs.Ytnimaogdjfenpaa
open Go Go.RowKit

/-- What is behind a Take whose answer has a block of its own. -/
theorem take_row {α : Type} {T e : TypeId} {sz : Nat} {f : α → List Value} {w w1 w2 : World} {B b : Nat} {room : Int} {l m : List α} {g n cap : Nat} (h : Bg T e sz f w B b room l (.slice (some ⟨g, 0, none⟩) n cap)) (hw : Below w.heap.size w w1) (hg : g < w.heap.size)
    (hown : w2.ownsRow B e sz (.slice (some ⟨g, 0, none⟩) (n - 1) cap) m.length (cellsOf f m)) (ho : Only g w1 w2) (cs : Array Value) :
    PutGave T e sz f w B b room m (.slice (some ⟨g, 0, none⟩) n cap) ((w2.setCell ⟨b, 1, none⟩ (.slice (some ⟨g, 0, none⟩) (n - 1) cap)).setRow w.heap.size cs) := by
  have hbl := h.lt
  have hgb : b ≠ g := fun e => h.off (by rw [e]; rfl)
  have hb2 : w2.heap[b]? = some (.cells #[.int .i64 room, .slice (some ⟨g, 0, none⟩) n cap] T (0, 0)) := (ho.other b hgb).trans ((hw.block b hbl).trans h.blk)
  have hs : ∀ k, k ≠ w.heap.size → ((w2.setCell ⟨b, 1, none⟩ (.slice (some ⟨g, 0, none⟩) (n - 1) cap)).setRow w.heap.size cs).heap[k]? = (w2.setCell ⟨b, 1, none⟩ (.slice (some ⟨g, 0, none⟩) (n - 1) cap)).heap[k]? := fun k hk => setRow_other _ _ _ _ hk
  refine ⟨.slice (some ⟨g, 0, none⟩) (n - 1) cap, ⟨?_, ?_, ?_, h.big⟩, ?_, fun k hk => .inl hk⟩
  · rw [hs b (by omega), heap_setCell_same w2 b 1 _ _ _ hb2]
    rfl
  · refine own_block hown fun k hk => ?_
    simp only [Value.ownBlock, Option.some.injEq] at hk
    subst hk
    exact (hs _ (by omega)).trans (heap_setCell_other _ _ _ _ (by simp only; omega))
  · simpa [Value.ownBlock] using Ne.symm hgb
  · refine ⟨ho.os.trans hw.os, ho.tape.trans hw.tape, ho.output.trans hw.output, ?_, fun k hk h1 h2 => ?_⟩
    · have h3 := hw.size; have h4 := ho.size; simp [World.setCell]; omega
    · exact (hs k (by omega)).trans ((heap_setCell_other _ _ _ _ h1).trans ((ho.other k (fun e => h2 (by rw [e]; rfl))).trans (hw.block k hk)))

/-- What Take of a message gives. -/
def TakM (m : Mg) (n : Int) (P : World → Prop) (e : Ending) (w' : World) : Prop := e = .returned (.tuple #[.agg (mga m), .int .i64 n]) ∧ P w'
theorem tak_ret {wr : World} {m : Mg} {n : Int} {P : World → Prop} {a : Act} {g : Nat} (hp : a.tmps.getD 4 undef = .pointer (some ⟨g, 0, none⟩)) (hq : a.tmps.getD 5 undef = .int .i64 n) (hd : a.defers = []) (hg : wr.heap[g]? = some (.cells (mga m) 52 (0, 0))) (hb : P wr) :
    bodyPost Try.prog Try.f21 (TakM m n P) Exit.ret a wr :=
  bodyPost_ret (v := .tuple #[.agg (mga m), a.tmps.getD 5 undef]) (results_cell_two Try.results21 _ _ g 52 _ (0, 0) _ hp hg Try.underlying52 rfl (by kernel_rfl)) hd ⟨by rw [hq], hb⟩

set_option maxRecDepth 100000 in
set_option maxHeartbeats 1000000 in
theorem takeM_no {w : World} {B b : Nat} {room : Int} {l : List Mg} {v : Value} (h : BgM w B b room l v) (at_ : Int) (hl : l.length ≤ 5000) (hn : at_ < 0 ∨ (l.length : Int) ≤ at_) :
    Calls Try.prog 21 #[.pointer (some ⟨b, 0, none⟩), .int .i64 at_] w (TakM m0 5 (Below w.heap.size w)) := by
  have hal : Below w.heap.size w (w.alloc (.cells (mga m0) 52)) := (Below.refl _ w).alloc (Nat.le_refl _) _
  have HA := Lib.hid (atM_no (h.below hal) at_ hl hn)
  have HAL := Lib.hid hal
  clear h hn hal
  go_enter Try.func21, Try.ntmps21
  go_wp2_with fail
  refine HA.out.mono ?_
  rintro e w1 ⟨rfl, hb1⟩
  have h1 := (hb1.block w.heap.size (by simp)).trans (heap_alloc_new w _)
  have hbb := bstep HAL.out hb1
  have hz1 : w.heap.size < w1.heap.size := lt_of_block h1
  clear hb1
  go_wp2_with ((with_reducible refine wpList_store_row (o := ⟨none, _, _, _, _, _⟩) rfl 52 (.tmp 4) (.tmp 16) rfl w.heap.size (mga m0) ?sx ?sy 52 (mga m0) ?sg ?si ?so ?s1 ?_); (case sx => rfl); (case sy => rfl); (case sg => exact (Below.heap_alloc _ _ _ hz1).trans h1); (case si => kernel_rfl); (case so => rfl); (case s1 => kernel_rfl))
  exact tak_ret rfl rfl rfl (setRow_heap _ _ _ _ _ _ ((Below.heap_alloc _ _ _ hz1).trans h1)) (below_setRow (hbb.alloc (Nat.le_of_lt hz1) _) (Nat.le_refl _) _)

set_option maxRecDepth 100000 in
set_option maxHeartbeats 2000000 in
theorem takeM_yes {w : World} {B b : Nat} {room : Int} {l : List Mg} {v : Value} (h : BgM w B b room l v) (i : Nat) (x : Mg) (hl : l.length ≤ 5000) (hx : l[i]? = some x) :
    Calls Try.prog 21 #[.pointer (some ⟨b, 0, none⟩), .int .i64 i] w (TakM x 0 (PutGave 69 52 15 mg w B b room (l.eraseIdx i) v)) := by
  have hal : Below w.heap.size w (w.alloc (.cells (mga m0) 52)) := (Below.refl _ w).alloc (Nat.le_refl _) _
  have HA := Lib.hid (atM_yes (h.below hal) i x hl hx)
  have HAL := Lib.hid hal
  have hi : i < l.length := (List.getElem?_eq_some_iff.1 hx).1
  obtain ⟨p, cap, rfl, hp⟩ := h.form
  obtain ⟨g, rfl⟩ := hp (by omega)
  have hgb : b ≠ g := fun e => h.off (by rw [e]; rfl)
  have hbl := h.lt
  have hgl := (h.row.lt g rfl).2
  have H := Lib.hid h
  clear h hp hx hal
  go_enter Try.func21, Try.ntmps21
  go_wp2_with fail
  refine HA.out.mono ?_
  rintro e w1 ⟨rfl, hb1⟩
  have h1 := (hb1.block w.heap.size (by simp)).trans (heap_alloc_new w _)
  have hbb := bstep HAL.out hb1
  have hz1 : w.heap.size < w1.heap.size := lt_of_block h1
  have hbx := hbb.alloc (Nat.le_of_lt hz1) (.cells (mga x) 52)
  have c1 := blk_cell ((hbx.block b hbl).trans H.out.blk) 1
  simp at c1
  have HB1 := Lib.hid hb1
  clear hb1
  go_wp2_with fail
  have HD := Lib.hid (fun (W : World) (hw : W.ownsRow B 52 15 (.slice (some ⟨g, 0, none⟩) l.length cap) l.length (cellsOf mg l)) => delM_at hw i (i + 1) rfl hi)
  refine (HD.out _ (own_block H.out.row fun k hk => hbx.block k (H.out.row.lt k hk).2)).mono ?_
  rintro e w2 ⟨rfl, hown, ho⟩
  have hb2 := (ho.other b hgb).trans ((hbx.block b hbl).trans H.out.blk)
  have c2 := blk_cell hb2 1
  have f2 := blk_free hb2 1
  simp at c2
  have h6 := (ho.other w1.heap.size (by omega)).trans (heap_alloc_new w1 _)
  have h4 := (ho.other w.heap.size (by omega)).trans ((Below.heap_alloc w1 (.cells (mga x) 52) w.heap.size hz1).trans h1)
  have HO := Lib.hid hown
  have HG := Lib.hid ho
  have HX := Lib.hid hbx
  have h6' := fun u => (heap_setCell_other w2 ⟨b, 1, none⟩ w1.heap.size u (by simp only; omega)).trans h6
  have h4' := fun u => (heap_setCell_other w2 ⟨b, 1, none⟩ w.heap.size u (by simp only; omega)).trans h4
  clear hb2 hown ho c1 hbx h6 h4 h1
  go_wp2_with (first
    | ((with_reducible refine wpList_load_row (o := ⟨some 28, _, _, _, _, _⟩) rfl 52 (.tmp 6) rfl w1.heap.size ?lx 52 (mga x) (0, 0) _ ?lg Try.underlying52 ?ld ?li ?_); (case lx => rfl); (case lg => exact h6' _); (case ld => rfl); (case li => kernel_rfl))
    | ((with_reducible refine wpList_store_row (o := ⟨none, _, _, _, _, _⟩) rfl 52 (.tmp 4) (.tmp 28) rfl w.heap.size (mga x) ?sx ?sy 52 (mga m0) ?sg ?si ?so ?s1 ?_); (case sx => rfl); (case sy => rfl); (case sg => exact h4' _); (case si => kernel_rfl); (case so => rfl); (case s1 => kernel_rfl)))
  exact tak_ret rfl rfl rfl (setRow_heap _ _ _ _ _ _ (h4' _)) (take_row H.out HX.out hgl HO.out HG.out _)

end Go.Proofs.Ytnimaogdjfenpaa
