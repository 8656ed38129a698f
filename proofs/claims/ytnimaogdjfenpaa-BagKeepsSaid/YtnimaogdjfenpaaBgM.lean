/-
  Bags of messages: what Clone, List and Put do.
-/
import Derived.Test.YtnimaogdjfenpaaBgL
import Derived.Deep.RegionLaw
import Derived.Lib.SliceRun
namespace Go.Proofs.Ytnimaogdjfenpaa
open Go Go.RowKit

/-- Clone. -/
theorem cloneM_any {w : World} {B : Nat} {v : Value} {l : List Mg} (h : w.ownsRow B 52 15 v l.length (cellsOf mg l)) (hl : l.length ≤ 5000) :
    Calls Try.prog 30 #[v] w (RowGave 52 15 mg l w) := by
  obtain ⟨i0, hi0, hz0, hz1, hz2⟩ := info_parts A52
  have hq := fun (w : World) (a : Option Addr) (n c n' c' : Nat) => Lib.run_eql_slice_nil (P := Try.prog) w 57 52 a n c n' c' Try.underlying57
  rcases h.2 with ⟨rfl, h0⟩ | ⟨g, cap, cur, rfl, hb, hg, rest⟩
  · have e : l = [] := List.eq_nil_of_length_eq_zero h0
    subst e
    clear h h0 hl
    go_enter Try.func30, Try.ntmps30
    go_wp2
    go_ret
    exact ⟨_, rfl, World.ownsRow_nil _ _ _ _, Below.refl _ _⟩
  · have hcell := h.cells (g := g) rfl
    have HC := Lib.hid hcell
    have HL := Lib.hid (cellsOf_len mg_len l)
    have H1 : Hid (∀ u ∈ cellsOf mg l, u.oneCell' = true) := Lib.hid (mg_cells l)
    clear h hcell hg rest
    go_enter Try.func30, Try.ntmps30
    go_wp2_with (at_builtin; refine wpList_append_own _ rfl (.tmp 5) (.tmp 6) 57 rfl w.heap.size 52 i0 (.agg (mga m0)) 15 120 Try.underlying57 hi0 hz0 hz1 hz2 rfl (by decide) _ _ _ rfl (World.ownsRow_made w #[] 0 (Nat.le_refl _) (Nat.zero_le _) rfl) ⟨g, 0, none⟩ l.length cap (cellsOf mg l) rfl HL.out ?c1 H1.out ?c3 ?c4 ?c5 ?_)
    case c1 => exact fun j u hj => (Lib.cell?_alloc_some _ (HC.out j u hj))
    case c3 => simp only [maxLen]; omega
    case c4 => omega
    case c5 => simp
    intro v' w1 hown hgrow hnil
    go_wp2
    go_ret
    exact ⟨v', rfl, by simpa using hown, ((Below.refl _ w).alloc (Nat.le_refl _) _).grown hgrow (by simp) (by intro k hk; simp [Value.ownBlock] at hk; omega)⟩

/-- List. -/
theorem listM_any {w : World} {B b : Nat} {room : Int} {l : List Mg} {v : Value} (h : BgM w B b room l v) (hl : l.length ≤ 5000) :
    Calls Try.prog 22 #[.pointer (some ⟨b, 0, none⟩)] w (RowGave 52 15 mg l w) := by
  have HC := Lib.hid (cloneM_any h.row hl)
  have c1 := blk_cell h.blk 1
  simp at c1
  clear h
  go_enter Try.func22, Try.ntmps22
  go_wp2_with (go_at_call 30; refine HC.out.mono ?_; rintro e w1 ⟨v', rfl, hown, hb⟩)
  go_ret
  exact ⟨v', rfl, hown, hb⟩

/-- Put, where the bag is full. -/
theorem putM_full {w : World} {B b : Nat} {room : Int} {l : List Mg} {v : Value} (h : BgM w B b room l v) (x : Mg) (h1 : 0 ≤ room) (h2 : room ≤ 4096) (hl : room = l.length) :
    Calls Try.prog 20 #[.pointer (some ⟨b, 0, none⟩), .agg (mga x)] w fun e w' => e = .returned (.int .i64 4) ∧ Below w.heap.size w w' := by
  have hz : (room - (l.length : Int) == 0) = true := by simp; omega
  have HL := Lib.hid (leftM_any (h.below ((Below.refl _ w).alloc (Nat.le_refl _) (.cells (mga x) 52))) h1 h2 (by omega))
  clear h hl
  go_enter Try.func20, Try.ntmps20
  go_wp2_with (go_at_call 23; refine HL.out.mono ?_; rintro e w' ⟨rfl, n, rfl⟩)
  go_ret
  exact ⟨rfl, below_drewN ((Below.refl _ w).alloc (Nat.le_refl _) _) _⟩

set_option maxRecDepth 100000 in
set_option maxHeartbeats 2000000 in
theorem putM_ok {w : World} {B b : Nat} {room : Int} {l : List Mg} {v : Value} (h : BgM w B b room l v) (x : Mg) (hB : B ≤ w.heap.size) (h1 : 0 ≤ room) (h2 : room ≤ 4096) (hl : (l.length : Int) < room) :
    Calls Try.prog 20 #[.pointer (some ⟨b, 0, none⟩), .agg (mga x)] w fun e w' => e = .returned (.int .i64 0) ∧ PutGave 69 52 15 mg w B b room (l ++ [x]) v w' := by
  obtain ⟨i0, hi, hz0, hz1, hz2⟩ := info_parts A52
  have hz : (room - (l.length : Int) == 0) = false := by simp; omega
  have hal : Below w.heap.size w (w.alloc (.cells (mga x) 52)) := (Below.refl _ w).alloc (Nat.le_refl _) _
  have HL := Lib.hid (leftM_any (h.below hal) h1 h2 (by omega))
  have hlt := h.lt
  have H := Lib.hid h
  have hll : l.length ≤ 4096 := by omega
  have HAL := Lib.hid hal
  clear h hl hal
  go_enter Try.func20, Try.ntmps20
  go_wp2_with (go_at_call 23; refine HL.out.mono ?_; rintro e w' ⟨rfl, n, rfl⟩)
  obtain ⟨w1, hw1⟩ : ∃ w1, w1 = (w.alloc (.cells (mga x) 52)).drewN n := ⟨_, rfl⟩
  have hb1 : Below w.heap.size w w1 := by rw [hw1]; exact below_drewN HAL.out n
  have hx1 : w1.heap[w.heap.size]? = some (.cells (mga x) 52 (0, 0)) := by rw [hw1]; exact heap_alloc_new w _
  rw [← hw1]
  clear hw1 HL
  have H1 := Lib.hid (H.out.below hb1)
  have c1 := blk_cell H1.out.blk 1
  have f1 := blk_free H1.out.blk 1
  have hlt1 := H1.out.lt
  have cx := fun o => blk_cell hx1 o
  have hsz := hb1.size
  have HB1 := Lib.hid hb1
  simp at c1
  clear hb1 hx1
  go_region_law
    ((refine step_append_lies _ (by rfl) _ _ _ (by rfl) B 52 i0 _ 15 120 Try.underlying57 hi hz0 hz1 hz2 rfl (by omega) v l.length (cellsOf mg l) (by rfl) ((H1.out.row.alloc _).drew)
        ⟨w1.heap.size, 0, none⟩ 1 1 (mg x) (by rfl) (by rfl) (World.news_of_block (cs := mga x) (t := 52) (fr := (0, 0)) (heap_alloc_new w1 _)) (by intro u hu; exact mg_cells [x] u (by simpa [cellsOf] using hu))
        (by omega) (by unfold maxLen; omega) (by omega) (by simp; omega) (w1.heap.size + 1) (by simp) ?_; intro gg cap w2 hown hgrow hat hlt2; have hb2 := put_blk H1.out (((Below.refl _ w1).alloc (Nat.le_refl _) _).drew) hgrow; have c2 := blk_cell hb2 1; have f2 := blk_free hb2 1; simp at c2; clear hb2))
  all_goals
    have R := put_gave H.out ((HB1.out.alloc hsz (.cells (mga x) 52)).drew) hown hgrow (hat.imp id fun h => by omega)
    clear hown hgrow hat hlt2
    go_wp2
    go_ret
    exact ⟨rfl, R⟩

end Go.Proofs.Ytnimaogdjfenpaa
