/-
  What Take of a bag of numbers does.
-/
import Derived.Test.YtnimaogdjfenpaaBgC
namespace Go.Proofs.Ytnimaogdjfenpaa
open Go Go.RowKit

/-- What is behind a Take: the bag has one thing less. -/
theorem take_gave {α : Type} {T e : TypeId} {sz : Nat} {f : α → List Value} {w w1 w2 : World} {B b : Nat} {room : Int} {l m : List α} {v : Value} {g n cap : Nat} (h : Bg T e sz f w B b room l v) (hw : Below w.heap.size w w1) (hv : v = .slice (some ⟨g, 0, none⟩) n cap)
    (hown : w2.ownsRow B e sz (.slice (some ⟨g, 0, none⟩) (n - 1) cap) m.length (cellsOf f m)) (ho : Only g w1 w2) :
    PutGave T e sz f w B b room m v (w2.setCell ⟨b, 1, none⟩ (.slice (some ⟨g, 0, none⟩) (n - 1) cap)) := by
  have hbl := h.lt
  have hgb : b ≠ g := fun e => h.off (by rw [hv, e]; rfl)
  have hb2 : w2.heap[b]? = some (.cells #[.int .i64 room, v] T (0, 0)) := (ho.other b hgb).trans ((hw.block b hbl).trans h.blk)
  refine ⟨.slice (some ⟨g, 0, none⟩) (n - 1) cap, ⟨?_, ?_, ?_, h.big⟩, ?_, ?_⟩
  · rw [heap_setCell_same w2 b 1 _ _ _ hb2]
    rfl
  · exact own_block (w' := w2.setCell ⟨b, 1, none⟩ (.slice (some ⟨g, 0, none⟩) (n - 1) cap)) hown fun k hk => by
      simp only [Value.ownBlock, Option.some.injEq] at hk
      exact heap_setCell_other _ _ _ _ (by simp only; omega)
  · simpa [Value.ownBlock] using Ne.symm hgb
  · refine ⟨ho.os.trans hw.os, ho.tape.trans hw.tape, ho.output.trans hw.output, ?_, fun k hk h1 h2 => ?_⟩
    · have h3 := hw.size; have h4 := ho.size; simp [World.setCell]; omega
    · exact (heap_setCell_other _ _ _ _ h1).trans ((ho.other k (fun e => h2 (by rw [hv, e]; rfl))).trans (hw.block k hk))
  · intro k hk
    rw [hv]
    exact .inl hk

theorem takeI_no {w : World} {B b : Nat} {room : Int} {l : List Int} {v : Value} (h : BgI w B b room l v) (at_ : Int) (hl : l.length ≤ 5000) (hn : at_ < 0 ∨ (l.length : Int) ≤ at_) :
    Calls Try.prog 11 #[.pointer (some ⟨b, 0, none⟩), .int .i64 at_] w fun e w' => e = .returned (.tuple #[.int .i64 0, .int .i64 5]) ∧ w = w' := by
  have HA := Lib.hid (atI_no h at_ hl hn)
  clear h hn
  go_enter Try.func11, Try.ntmps11
  go_wp2_with (go_at_call 13; refine HA.out.mono ?_; rintro e w' ⟨rfl, rfl⟩)
  go_ret2
  exact ⟨rfl, rfl⟩

set_option maxHeartbeats 1000000 in
theorem takeI_yes {w : World} {B b : Nat} {room : Int} {l : List Int} {v : Value} (h : BgI w B b room l v) (i : Nat) (x : Int) (hl : l.length ≤ 5000) (hx : l[i]? = some x) :
    Calls Try.prog 11 #[.pointer (some ⟨b, 0, none⟩), .int .i64 i] w fun e w' => e = .returned (.tuple #[.int .i64 x, .int .i64 0]) ∧ PutGave 64 3 1 one w B b room (l.eraseIdx i) v w' := by
  have HA := Lib.hid (atI_yes h i x hl hx)
  have hi : i < l.length := (List.getElem?_eq_some_iff.1 hx).1
  obtain ⟨p, cap, rfl, hp⟩ := h.form
  obtain ⟨g, rfl⟩ := hp (by omega)
  have c1 := blk_cell h.blk 1
  have f1 := blk_free h.blk 1
  simp at c1
  have HD := Lib.hid (delI_at h.row i (i + 1) rfl hi)
  have hgb : b ≠ g := fun e => h.off (by rw [e]; rfl)
  have H := Lib.hid h
  clear h hp hx
  go_enter Try.func11, Try.ntmps11
  go_wp2_with (go_at_call 13; refine HA.out.mono ?_; rintro e w' ⟨rfl, rfl⟩)
  refine HD.out.mono ?_
  rintro e w2 ⟨rfl, hown, ho⟩
  have hb2 := (ho.other b hgb).trans H.out.blk
  have c2 := blk_cell hb2 1
  have f2 := blk_free hb2 1
  simp at c2
  have HO := Lib.hid hown
  have HG := Lib.hid ho
  clear hb2 hown ho c1 f1
  go_wp2
  go_ret2
  exact ⟨rfl, take_gave H.out (Below.refl _ _) rfl HO.out HG.out⟩

end Go.Proofs.Ytnimaogdjfenpaa
