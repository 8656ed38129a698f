/-
  Put.
-/
import Derived.Test.YtlhecliamhjobaaWbC
namespace Go.Proofs.Ytlhecliamhjobaa
open Go Go.RowKit

/-- What a change of a buffer gives: an answer, and its entries. -/
structure GaveP (w : World) (B b : Nat) (room : Int) (v : Value) (r : Int × List En) (e : Ending) (w' : World) : Prop where
  res : e = .returned (.int .i64 r.1)
  put : PutGave 57 48 10 mc w B b room r.2 v w'

set_option maxHeartbeats 1000000 in
theorem put_twice {w : World} {B b : Nat} {room : Int} {l : List En} {v : Value} (h : BgP w B b room l v) (line : Int) (d : Wd) (hl : l.length ≤ 8) {i : Nat} (hp : fnd l line = some i) :
    Calls Try.prog 17 #[.pointer (some ⟨b, 0, none⟩), .int .i64 line, .agg (dcells d)] w fun e w' => e = .returned (.int .i64 6) ∧ Below w.heap.size w w' := by
  have HP := place_any (h.below (balloc w (.cells (dcells d) 32))) line (by omega)
  rw [hp] at HP
  have HP := Lib.hid HP
  have hni : (0 : Int) ≤ (i : Int) := by omega
  clear h hp
  go_enter Try.func17, Try.ntmps17
  go_wp2_with fail
  refine HP.out.mono ?_
  rintro e w1 ⟨rfl, hb1⟩
  simp only [oi]
  go_wp2
  go_ret
  exact ⟨rfl, bbox hb1⟩
set_option maxHeartbeats 1000000 in
theorem put_full {w : World} {B b : Nat} {room : Int} {l : List En} {v : Value} (h : BgP w B b room l v) (line : Int) (d : Wd) (h1 : 1 ≤ room) (h2 : room ≤ 8) (hl : l.length ≤ 8) (hp : fnd l line = none) (hf : (l.length : Int) = room) :
    Calls Try.prog 17 #[.pointer (some ⟨b, 0, none⟩), .int .i64 line, .agg (dcells d)] w fun e w' => e = .returned (.int .i64 4) ∧ Below w.heap.size w w' := by
  have HP := place_any (h.below (balloc w (.cells (dcells d) 32))) line (by omega)
  rw [hp] at HP
  have HP := Lib.hid HP
  have HL := Lib.hid (fun w1 (hb : Below w.heap.size w w1) => left_any (h.below hb) h1 h2 hl)
  have hz : (room - (l.length : Int) == 0) = true := by simp; omega
  clear h hp hf
  go_enter Try.func17, Try.ntmps17
  go_wp2_with fail
  refine HP.out.mono ?_
  rintro e w1 ⟨rfl, hb1⟩
  simp only [oi]
  have hb2 := bbox hb1
  clear hb1
  go_wp2_with fail
  refine (HL.out _ hb2).mono ?_
  rintro e w2 ⟨rfl, n, rfl⟩
  go_wp2
  go_ret
  exact ⟨rfl, below_drewN hb2 _⟩
set_option maxRecDepth 100000 in
set_option maxHeartbeats 2000000 in
theorem put_yes {w : World} {B b : Nat} {room : Int} {l : List En} {v : Value} (h : BgP w B b room l v) (hB : B ≤ w.heap.size) (line : Int) (d : Wd) (h1 : 1 ≤ room) (h2 : room ≤ 8) (hl : l.length ≤ 8) (hp : fnd l line = none) (hf : ¬ (l.length : Int) = room) :
    Calls Try.prog 17 #[.pointer (some ⟨b, 0, none⟩), .int .i64 line, .agg (dcells d)] w fun e w' => e = .returned (.int .i64 0) ∧ PutGave 57 48 10 mc w B b room (l ++ [newE line d]) v w' := by
  obtain ⟨i0, hi, hz0, hz1, hz2⟩ := info_parts A34
  have HP := place_any (h.below (balloc w (.cells (dcells d) 32))) line (by omega)
  rw [hp] at HP
  have HP := Lib.hid HP
  have HL := Lib.hid (fun w1 (hb : Below w.heap.size w w1) => left_any (h.below hb) h1 h2 hl)
  have hz : (room - (l.length : Int) == 0) = false := by simp; omega
  have hlt := h.lt
  have H := Lib.hid h
  clear h hp hf
  go_enter Try.func17, Try.ntmps17
  go_wp2_with fail
  refine HP.out.mono ?_
  rintro e w1 ⟨rfl, hb1⟩
  simp only [oi]
  have hx0 := box_at hb1
  have hb2 := bbox hb1
  clear hb1
  go_wp2_with fail
  refine (HL.out _ hb2).mono ?_
  rintro e w2 ⟨rfl, n, rfl⟩
  go_wp2_with fail
  obtain ⟨w3, hw3⟩ : ∃ w3, w3 = w1.drewN n := ⟨_, rfl⟩
  have hb3 : Below w.heap.size w w3 := by rw [hw3]; exact below_drewN hb2 n
  have hx1 : w3.heap[w.heap.size]? = some (.cells (dcells d) 32 (0, 0)) := by rw [hw3]; exact hx0
  rw [← hw3]
  clear hw3 HL hb2 hx0 HP
  have H1 := Lib.hid (H.out.below hb3)
  have c1 := blk_cell H1.out.blk 1
  have f1 := blk_free H1.out.blk 1
  have hlt1 := H1.out.lt
  have cx := fun o => blk_cell hx1 o
  have hsz := hb3.size
  have HB1 := Lib.hid hb3
  simp at c1
  clear hb3 hx1
  go_region_law
    ((refine step_append_lies _ (by rfl) _ _ _ (by rfl) B 48 i0 _ 10 80 Try.underlying40 hi hz0 hz1 hz2 rfl (by omega) v l.length (cellsOf mc l) (by rfl) ((H1.out.row.alloc _).drew)
        ⟨w3.heap.size, 0, none⟩ 1 1 (mc (newE line d)) (by rfl) (by rfl) (World.news_of_block (cs := mcells (newE line d)) (t := 48) (fr := (0, 0)) (heap_alloc_new w3 _)) (mc_one _)
        (by omega) (by unfold maxLen; omega) (by omega) (by simp; omega) (w3.heap.size + 1) (by simp) ?_; intro gg cap w4 hown hgrow hat hlt2; have hb4 := put_blk H1.out (((Below.refl _ w3).alloc (Nat.le_refl _) _).drew) hgrow; have c2 := blk_cell hb4 1; have f2 := blk_free hb4 1; simp at c2; clear hb4))
  all_goals
    have R := put_gave H.out ((HB1.out.alloc hsz (.cells (mcells (newE line d)) 48)).drew) hown hgrow (hat.imp id fun h => by omega)
    clear hown hgrow hat hlt2
    go_wp2
    go_ret
    exact ⟨rfl, R⟩
/-- Put. -/
theorem put_any {w : World} {B b : Nat} {room : Int} {l : List En} {v : Value} (h : BgP w B b room l v) (gd : Good room l) (hB : B ≤ w.heap.size) (line : Int) (d : Wd) :
    Calls Try.prog 17 #[.pointer (some ⟨b, 0, none⟩), .int .i64 line, .agg (dcells d)] w (GaveP w B b room v (putP room l line d)) := by
  have hl := gd.short
  rcases hp : fnd l line with _ | i
  · by_cases hf : (l.length : Int) = room
    · rw [putP_full d hp hf]
      exact (put_full h line d gd.r1 gd.r2 hl hp hf).mono fun e w' ⟨h1, h2⟩ => ⟨h1, gave_same h h2⟩
    · rw [putP_yes d hp hf]
      exact (put_yes h hB line d gd.r1 gd.r2 hl hp hf).mono fun e w' ⟨h1, h2⟩ => ⟨h1, h2⟩
  · rw [putP_twice d hp]
    exact (put_twice h line d hl hp).mono fun e w' ⟨h1, h2⟩ => ⟨h1, gave_same h h2⟩

end Go.Proofs.Ytlhecliamhjobaa
