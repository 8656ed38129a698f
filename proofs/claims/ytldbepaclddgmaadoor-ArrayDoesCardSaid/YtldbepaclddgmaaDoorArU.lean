/-
  The document's array, further: Find.
-/
import Derived.Test.YtldbepaclddgmaaDoorArT
namespace Go.Proofs.YtldbepaclddgmaaDoor
open Go Go.RowKit Go.Sort

theorem rfind_ret {w wr : World} {x : Wy} {k : Int} {q : Bool} {a : Act} {g : Nat} (hp : a.tmps.getD 4 undef = .pointer (some ⟨g, 0, none⟩)) (hk : a.tmps.getD 5 undef = .int .i64 k) (hq : a.tmps.getD 6 undef = .bool q) (hd : a.defers = []) (hg : wr.heap[g]? = some (.cells (ycells x) 46 (0, 0))) (hb : Below w.heap.size w wr) :
    bodyPost Tryd.prog Tryd.f14 (RetF w x k q) Exit.ret a wr :=
  bodyPost_ret (v := .tuple #[.agg (ycells x), a.tmps.getD 5 undef, a.tmps.getD 6 undef]) (results_cell_three Tryd.results14 _ _ g 46 _ (0, 0) _ hp hg Tryd.underlying46 rfl (by kernel_rfl)) hd ⟨by rw [hk, hq], hb⟩

theorem heap_setCell_at {w : World} {g : Nat} {cs : Array Value} {t : TypeId} {fr : Nat × Nat} (o : Nat) (v : Value) (hg : w.heap[g]? = some (.cells cs t fr)) : (w.setCell ⟨g, o, none⟩ v).heap[g]? = some (.cells (cs.setIfInBounds o v) t fr) := by
  have hlt : g < w.heap.size := (Array.getElem?_eq_some_iff.1 hg).1
  have hv : w.heap[g] = .cells cs t fr := (Array.getElem?_eq_some_iff.1 hg).2
  unfold World.setCell
  rw [Array.getElem?_eq_getElem (by simpa using hlt), Array.getElem_modify]
  simp [hv]
/-- A whole block is set, cell by cell. -/
theorem heap_setCells_all (g : Nat) (t : TypeId) (fr : Nat × Nat) : ∀ (vs pre old : List Value) (w : World), old.length = vs.length → w.heap[g]? = some (.cells (pre ++ old).toArray t fr) → (w.setCells g pre.length vs).heap[g]? = some (.cells (pre ++ vs).toArray t fr)
  | [], pre, old, w, hl, hg => by
    rw [List.eq_nil_of_length_eq_zero hl] at hg
    exact hg
  | v :: r, pre, [], w, hl, hg => by cases hl
  | v :: r, pre, u :: old, w, hl, hg => by
    have h1 := heap_setCell_at pre.length v hg
    have e : (pre ++ u :: old).toArray.setIfInBounds pre.length v = ((pre ++ [v]) ++ old).toArray := by
      simp
    rw [e] at h1
    have h2 := heap_setCells_all g t fr r (pre ++ [v]) old (w.setCell ⟨g, pre.length, none⟩ v) (by simpa using hl) h1
    rw [List.length_append] at h2
    rw [World.setCells]
    simpa using h2
theorem heap_way {w : World} {g : Nat} {t : TypeId} {fr : Nat × Nat} (x y : Wy) (hg : w.heap[g]? = some (.cells (ycells x) t fr)) : (w.setCells g 0 (yc y)).heap[g]? = some (.cells (ycells y) t fr) :=
  heap_setCells_all g t fr (yc y) [] (yc x) w rfl hg
theorem heap_drew (w : World) : w.drew.heap = w.heap := rfl
theorem refFind_no {w : World} {b g : Nat} {c : Cfg} {L : List Wy} (h : Ar w b g c L) (gd : Good c L) (line : Int) (hp : plc c L line = none) :
    Calls Tryd.prog 14 #[.pointer (some ⟨b, 0, none⟩), .int .i64 line] w (RetF w y0 0 false) := by
  have hB0 : ∀ o, Below w.heap.size w (w.alloc o) := fun o => (Below.refl _ _).alloc (Nat.le_refl _) _
  have HP := Lib.hid (fun o => place_no (h.below (hB0 o)) gd line hp)
  clear h gd hp
  go_enter Tryd.func14, Tryd.ntmps14
  go_wp2_with (first
    | (go_at_call 26; refine (HP.out _).mono ?_; rintro e w1 ⟨rfl, rfl⟩)
    | ((with_reducible refine wpList_store_row (o := ⟨none, _, _, _, _, _⟩) rfl 46 (.tmp 4) (.tmp 13) rfl w.heap.size (ycells y0) ?sx ?sy 46 ?old ?sg ?si ?so ?s1 ?_); (case sx => rfl); (case sy => rfl); (case old => exact ycells y0); (case sg => exact heap_alloc_new w _); (case si => kernel_rfl); (case so => rfl); (case s1 => kernel_rfl)))
  exact rfind_ret rfl rfl rfl rfl (setRow_heap _ _ _ _ _ _ (heap_alloc_new w _)) (below_setRow (hB0 _) (Nat.le_refl _) _)

set_option maxHeartbeats 2000000 in
theorem refFind_yes {w : World} {b g : Nat} {c : Cfg} {L : List Wy} (h : Ar w b g c L) (gd : Good c L) (line : Int) (k : Nat) (x : Wy) (hp : plc c L line = some k) (hx : L[soN c line + k]? = some x) :
    Calls Tryd.prog 14 #[.pointer (some ⟨b, 0, none⟩), .int .i64 line] w (RetF w x k true) := by
  obtain ⟨hl, hk, -⟩ := h.sz.plc_some hp
  have hw := ok_ways h.sz.ok
  have hB0 : ∀ o, Below w.heap.size w (w.alloc o) := fun o => (Below.refl _ _).alloc (Nat.le_refl _) _
  have HP := Lib.hid (fun o => place_yes (h.below (hB0 o)) gd line hp)
  have hi := (List.getElem?_eq_some_iff.1 hx).1
  have hm : ((soN c line + k : Nat) : Int) % c.wa = k := by
    unfold soN
    rw [Int.natCast_add, Int.natCast_mul, Int.toNat_of_nonneg (show 0 ≤ c.wa by omega), Int.add_comm, Int.add_mul_emod_self_right]
    exact Int.emod_eq_of_lt (by omega) (by omega)
  have h3 := h.hd 3
  have h13 := h.hd 13
  simp at h3 h13
  have hr := h.ways _ x hx
  have h3' : ∀ o, (w.alloc o).cell? ⟨b, 3, none⟩ = some (.int .i64 c.wa) := fun o => Lib.cell?_alloc_some o h3
  have h13' : ∀ o, (w.alloc o).cell? ⟨b, 13, none⟩ = some (.slice (some ⟨g, 0, none⟩) L.length L.length) := fun o => Lib.cell?_alloc_some o h13
  have hr' : ∀ o, (w.alloc o).rangeAt g ((soN c line + k) * 11) (yc x) := fun o => by
    have := (h.below (hB0 o)).ways _ x hx
    rwa [Nat.zero_add] at this
  have hgl := h.gl
  have hbl := h.bl
  have hne1 : ¬ b = w.heap.size := by omega
  have hne2 : ¬ g = w.heap.size := by omega
  have hwa : 1 ≤ c.wa ∧ c.wa ≤ 8 := hw.1
  have hne : (c.wa == 0) = false := by simp; omega
  have hn512 : L.length ≤ 512 := by
    have := Nat.mul_le_mul (show c.se.toNat ≤ 64 by omega) (show c.wa.toNat ≤ 8 by omega)
    rw [h.sz.len]
    omega
  generalize soN c line + k = i at *
  generalize L.length = n at *
  have hi2 : i ≤ 512 := by omega
  have HB : ∀ o, w.heap.size < (w.alloc o).heap.size := fun o => by simp
  have hnew : ∀ o, (w.alloc o).heap[w.heap.size]? = some o := fun o => heap_alloc_new w o
  clear h gd hp hl hk hx h3 h13 hr hw hgl hbl
  have HM := Lib.hid hm
  clear hm
  go_enter Tryd.func14, Tryd.ntmps14
  go_wp2_with (go_at_call 26; refine (HP.out _).mono ?_; rintro e w1 ⟨rfl, rfl⟩)
  have h3 := h3' (.cells #[.int .i64 0, .int .i64 0, .int .i64 0, .int .i64 0, .int .i64 0, .int .i64 0, .int .i64 0, .int .i64 0, .int .i64 0, .int .i64 0, .bool false] 46)
  have h13 := h13' (.cells #[.int .i64 0, .int .i64 0, .int .i64 0, .int .i64 0, .int .i64 0, .int .i64 0, .int .i64 0, .int .i64 0, .int .i64 0, .int .i64 0, .bool false] 46)
  have hr := hr' (.cells #[.int .i64 0, .int .i64 0, .int .i64 0, .int .i64 0, .int .i64 0, .int .i64 0, .int .i64 0, .int .i64 0, .int .i64 0, .int .i64 0, .bool false] 46)
  have hN := hnew (.cells #[.int .i64 0, .int .i64 0, .int .i64 0, .int .i64 0, .int .i64 0, .int .i64 0, .int .i64 0, .int .i64 0, .int .i64 0, .int .i64 0, .bool false] 46)
  have hB := hB0 (.cells #[.int .i64 0, .int .i64 0, .int .i64 0, .int .i64 0, .int .i64 0, .int .i64 0, .int .i64 0, .int .i64 0, .int .i64 0, .int .i64 0, .bool false] 46)
  generalize w.alloc (.cells #[.int .i64 0, .int .i64 0, .int .i64 0, .int .i64 0, .int .i64 0, .int .i64 0, .int .i64 0, .int .i64 0, .int .i64 0, .int .i64 0, .bool false] 46) = w1 at *
  clear h3' h13' hr' hnew hB0 HP HB
  have q0 := hr 0 _ rfl
  have q1 := hr 1 _ rfl
  have q2 := hr 2 _ rfl
  have q3 := hr 3 _ rfl
  have q4 := hr 4 _ rfl
  have q5 := hr 5 _ rfl
  have q6 := hr 6 _ rfl
  have q7 := hr 7 _ rfl
  have q8 := hr 8 _ rfl
  have q9 := hr 9 _ rfl
  have q10 := hr 10 _ rfl
  rw [Nat.add_zero] at q0
  have hcb := blk_cells hN
  have hfz : ∀ o, w1.frozen? ⟨w.heap.size, o, none⟩ = false := fun o => by simp [World.frozen?, hN]
  have HN := Lib.hid hN
  have HB := Lib.hid hB
  have HBS := Lib.hid hB.size
  clear hN hB hr
  have HE : Hid ((w1.setCells w.heap.size 0 (yc x)).drew.heap[w.heap.size]? = some (.cells (ycells x) 46 (0, 0))) := Lib.hid (by rw [heap_drew]; exact heap_way (w := w1) (g := w.heap.size) y0 x HN.out)
  have HE2 : Hid (Below w.heap.size w (w1.setCells w.heap.size 0 (yc x)).drew) := Lib.hid (HB.out.trans ((turn_setCells w.heap.size 0 (yc x) w1).drew.below (Nat.le_refl _) HBS.out))
  clear HN HB HBS
  go_region
  all_goals
    go_wp2
    rw [HM.out]
    exact rfind_ret rfl rfl rfl rfl HE.out HE2.out

end Go.Proofs.YtldbepaclddgmaaDoor
