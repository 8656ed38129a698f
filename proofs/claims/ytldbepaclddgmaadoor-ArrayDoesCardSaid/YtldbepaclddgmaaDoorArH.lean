/-
  What New of an array does, the document's too (its New is the same but for names).
-/
import Derived.Test.YtldbepaclddgmaaDoorArF
namespace Go.Proofs.YtldbepaclddgmaaDoor
open Go Go.RowKit

theorem cells_key (M : List Wy) (o : Nat) : (cellsOf yc M)[o]? = (M[o / 11]?).bind fun x => (yc x)[o % 11]? := by
  by_cases h : o / 11 < M.length
  · have := cellsOf_at yc_len M (o / 11) (o % 11) h (by omega)
    rw [show o / 11 * 11 + o % 11 = o by omega] at this
    rw [this, List.getElem?_eq_getElem h]
    rfl
  · rw [List.getElem?_eq_none (by rw [cellsOf_len yc_len]; omega), List.getElem?_eq_none (by omega)]
    rfl
theorem made_ways (n o : Nat) : (madeCells (ycells y0) (n * 11))[o]? = (cellsOf yc (List.replicate n y0))[o]? := by
  rw [cells_key]
  unfold madeCells
  by_cases h : o < n * 11
  · rw [List.getElem?_eq_getElem (by rw [List.length_replicate]; omega), List.getElem_replicate]
    rw [Array.getElem?_map, Array.getElem?_range, if_pos h]
    show some ((ycells y0)[o % 11]!) = (yc y0)[o % 11]?
    have : o % 11 < 11 := by omega
    generalize o % 11 = m at this
    rcases (show m = 0 ∨ m = 1 ∨ m = 2 ∨ m = 3 ∨ m = 4 ∨ m = 5 ∨ m = 6 ∨ m = 7 ∨ m = 8 ∨ m = 9 ∨ m = 10 by omega) with rfl | rfl | rfl | rfl | rfl | rfl | rfl | rfl | rfl | rfl | rfl
    all_goals rfl
  · rw [List.getElem?_eq_none (by rw [List.length_replicate]; omega), Array.getElem?_eq_none (by simp; omega)]
    rfl

/-- What New gives. -/
def NewA (w : World) (c : Cfg) (e : Ending) (w' : World) : Prop := ∃ b g, e = .returned (.tuple #[.pointer (some ⟨b, 0, none⟩), .int .i64 0]) ∧ Ar w' b g c (List.replicate (c.se.toNat * c.wa.toNat) y0) ∧ w.heap.size ≤ b ∧ w.heap.size ≤ g ∧ Below w.heap.size w w'
theorem newA_of {w w1 : World} {c : Cfg} (ok : okC c = true) (hc : c.fits) (t1 t2 : TypeId) {n : Nat} (hn : n = c.se.toNat * c.wa.toNat) (hb : Below w.heap.size w w1) :
    NewA w c (.returned (.tuple #[.pointer (some ⟨w1.heap.size + 1, 0, none⟩), .int .i64 0])) ((w1.alloc (.cells (madeCells (ycells y0) (n * 11)) t1)).alloc (.cells (acells c w1.heap.size n) t2)).drew := by
  subst hn
  have h1 : ((w1.alloc (.cells (madeCells (ycells y0) (c.se.toNat * c.wa.toNat * 11)) t1)).alloc (.cells (acells c w1.heap.size (c.se.toNat * c.wa.toNat)) t2)).drew.heap[w1.heap.size]? = some (.cells (madeCells (ycells y0) (c.se.toNat * c.wa.toNat * 11)) t1 (0, 0)) := by
    show ((w1.alloc _).alloc _).heap[w1.heap.size]? = _
    rw [heap_alloc_old _ _ (by simp)]
    exact heap_alloc_new w1 _
  have h2 : ((w1.alloc (.cells (madeCells (ycells y0) (c.se.toNat * c.wa.toNat * 11)) t1)).alloc (.cells (acells c w1.heap.size (c.se.toNat * c.wa.toNat)) t2)).drew.heap[w1.heap.size + 1]? = some (.cells (acells c w1.heap.size (c.se.toNat * c.wa.toNat)) t2 (0, 0)) := by
    have := heap_alloc_new (w1.alloc (.cells (madeCells (ycells y0) (c.se.toNat * c.wa.toNat * 11)) t1)) (.cells (acells c w1.heap.size (c.se.toNat * c.wa.toNat)) t2)
    rw [show (w1.alloc (.cells (madeCells (ycells y0) (c.se.toNat * c.wa.toNat * 11)) t1)).heap.size = w1.heap.size + 1 by simp] at this
    exact this
  refine ⟨w1.heap.size + 1, w1.heap.size, rfl, ⟨fun o => ?_, ?_, fun o => ?_, fun o => ?_, ?_, by omega, ⟨ok, by simp⟩, hc⟩, by have := hb.size; omega, hb.size, ?_⟩
  · rw [blk_cells h2, List.length_replicate]
  · simp [World.drew]
  · rw [blk_cells h1, made_ways]
  · simp [World.frozen?, h1]
  · simp [World.drew]
    omega
  · exact Below.drew ((hb.alloc hb.size _).alloc (by have := hb.size; simp; omega) _)

theorem new_no (c : Cfg) (w : World) (hc : c.fits) (hok : okC c = false) :
    Calls Tryd.prog 7 #[cv c] w fun e w' => e = .returned (.tuple #[.pointer none, .int .i64 1]) ∧ Below w.heap.size w w' := by
  have HC := Lib.hid (fun w => check_any c w hc)
  have h0 : chk c = 1 := by simp [chk, hok]
  rw [h0] at HC
  clear hc hok
  go_enter Tryd.func7, Tryd.ntmps7
  go_wp2_with (go_at_call 24; refine (HC.out _).mono ?_; rintro e w1 ⟨rfl, hb1⟩)
  go_ret2
  exact ⟨rfl, bbox hb1⟩
theorem size_math {c : Cfg} (ok : okC c = true) : ∃ n : Nat, n = c.se.toNat * c.wa.toNat ∧ c.se * c.wa = (n : Int) ∧ wrap64 (n : Int) = n ∧ n ≤ 512 := by
  have hw := ok_ways ok
  have h1 : c.se = (c.se.toNat : Int) := by omega
  have h2 : c.wa = (c.wa.toNat : Int) := by omega
  have h3 := Nat.mul_le_mul (show c.se.toNat ≤ 64 by omega) (show c.wa.toNat ≤ 8 by omega)
  have h4 : c.se * c.wa = ((c.se.toNat * c.wa.toNat : Nat) : Int) := by
    rw [Int.natCast_mul, ← h1, ← h2]
  generalize c.se.toNat * c.wa.toNat = n at *
  exact ⟨n, rfl, h4, wrap_small _ (by omega) (by omega), by omega⟩
set_option maxHeartbeats 1000000 in
theorem new_yes (c : Cfg) (w : World) (hc : c.fits) (hok : okC c = true) :
    Calls Tryd.prog 7 #[cv c] w (NewA w c) := by
  have HC := Lib.hid (fun w => check_any c w hc)
  have h0 : chk c = 0 := by simp [chk, hok]
  rw [h0] at HC
  obtain ⟨n, hn, e1, e2, h512⟩ := size_math hok
  have hmk : ∀ w : World, (Instr.makeSlice 63 (.int .i64 (n : Int)) (.int .i64 (n : Int))).run Tryd.prog w = .ok (.slice (some ⟨w.heap.size, 0, none⟩) n n) (w.alloc (.cells (madeCells (ycells y0) (n * 11)) 43)) := by
    intro w
    have hi : ∃ i : TypeInfo, Tryd.prog.info? 43 = some i ∧ i.zero = some (.agg (ycells y0)) ∧ i.size = 11 ∧ i.bytes = 88 := by
      have := A43
      cases hi : Tryd.prog.info? 43 with
      | none => rw [hi] at this; cases this
      | some i =>
        rw [hi] at this
        simp only [Option.map_some, Option.some.injEq, Prod.mk.injEq] at this
        exact ⟨i, rfl, this.1, this.2.1, this.2.2⟩
    obtain ⟨i, hi, hz, hs, hbt⟩ := hi
    have := run_make (P := Tryd.prog) w 63 43 i (.agg (ycells y0)) Tryd.underlying63 hi hz .i64 .i64 n n (by omega) (by omega) (by rw [hbt]; omega) (by omega)
    rw [hs] at this
    simpa [Value.cells] using this
  have HE : Hid (∀ w1, Below w.heap.size w w1 → NewA w c (.returned (.tuple #[.pointer (some ⟨w1.heap.size + 1, 0, none⟩), .int .i64 0])) ((w1.alloc (.cells (madeCells (ycells y0) (n * 11)) 43)).alloc (.cells (acells c w1.heap.size n) 65)).drew) := Lib.hid (fun w1 hb => newA_of hok hc _ _ hn hb)
  clear hc hok h0 hn
  go_enter Tryd.func7, Tryd.ntmps7
  go_wp2_with (go_at_call 24; refine (HC.out _).mono ?_; rintro e w1 ⟨rfl, hb1⟩)
  have hcc := blk_cells (box_at hb1)
  have hlt := zbox hb1
  have hcc2 : ∀ ob o, (w1.alloc ob).cell? ⟨w.heap.size, o, none⟩ = w1.cell? ⟨w.heap.size, o, none⟩ := fun ob o => World.cell?_alloc_lt w1 ob ⟨w.heap.size, o, none⟩ hlt
  have hE := HE.out _ (bbox hb1)
  clear HE HC
  go_region
  all_goals
    go_wp2
    go_ret2
    exact hE

end Go.Proofs.YtldbepaclddgmaaDoor
