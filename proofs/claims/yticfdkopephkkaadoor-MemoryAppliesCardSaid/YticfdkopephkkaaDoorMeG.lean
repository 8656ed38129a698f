/-
  What New of a memory does.
-/
import Derived.Test.YticfdkopephkkaaDoorMeE
import Derived.Laws.MakeOwn
namespace Go.Proofs.YticfdkopephkkaaDoor
open Go Go.RowKit

theorem made_words (n : Nat) : madeCells #[Value.int .i64 0] (n * 1) = (icells (List.replicate n 0)).toArray := by
  apply Array.ext
  · simp [madeCells, icells]
  · intro i h1 h2
    simp [madeCells, icells, Nat.mod_one]

/-- What New gives. -/
def NewM (w : World) (c : Cfg) (e : Ending) (w' : World) : Prop := ∃ b g, e = .returned (.tuple #[.pointer (some ⟨b, 0, none⟩), .int .i64 0]) ∧ Mm w' b g c (List.replicate (c.wo * c.li).toNat 0) ∧ w.heap.size ≤ b ∧ w.heap.size ≤ g ∧ Below w.heap.size w w'
theorem newM_of {w w1 w2 : World} {c : Cfg} (ok : okC c = true) (hc : c.fits) {n : Nat} (hn : c.wo * c.li = (n : Int)) (hb : Below w.heap.size w w1) (h : w2.heap = ((w1.alloc (.cells (icells (List.replicate n 0)).toArray 3)).alloc (.cells (mcells c w1.heap.size n) 54)).heap) (h3 : w2.os = w1.os ∧ w2.tape = w1.tape ∧ w2.output = w1.output) :
    NewM w c (.returned (.tuple #[.pointer (some ⟨w1.heap.size + 1, 0, none⟩), .int .i64 0])) w2 := by
  have s1 : (w1.alloc (.cells (icells (List.replicate n 0)).toArray 3)).heap.size = w1.heap.size + 1 := by simp
  have h1 : w2.heap[w1.heap.size]? = some (.cells (icells (List.replicate n 0)).toArray 3 (0, 0)) := by
    rw [h, heap_alloc_old _ _ (by omega)]
    exact heap_alloc_new w1 _
  have h2 : w2.heap[w1.heap.size + 1]? = some (.cells (mcells c w1.heap.size n) 54 (0, 0)) := by
    rw [h, ← s1]
    exact heap_alloc_new _ _
  have hs : w2.heap.size = w1.heap.size + 2 := by rw [h]; simp
  have hbs := hb.size
  refine ⟨w1.heap.size + 1, w1.heap.size, rfl, ⟨?_, ?_, by omega, ⟨ok, ?_⟩, hc⟩, by omega, hbs, ⟨h3.1.trans hb.os, h3.2.1.trans hb.tape, h3.2.2.trans hb.output, by omega, fun k hk => ?_⟩⟩
  · rw [hn, Int.toNat_natCast, List.length_replicate]
    exact h2
  · rw [hn, Int.toNat_natCast]
    exact h1
  · rw [List.length_replicate, hn, Int.toNat_natCast]
  · rw [h, heap_alloc_old _ _ (by omega), heap_alloc_old _ _ (by omega)]
    exact hb.block k hk

theorem new_no (c : Cfg) (w : World) (hc : c.fits) (hok : okC c = false) :
    Calls Tryd.prog 6 #[cv c] w fun e w' => e = .returned (.tuple #[.pointer none, .int .i64 1]) ∧ Below w.heap.size w w' := by
  have HC := Lib.hid (fun w => check_any c w hc)
  have h0 : chk c = 1 := by simp [chk, hok]
  rw [h0] at HC
  clear hc hok
  go_enter Tryd.func6, Tryd.ntmps6
  go_wp2_with (go_at_call 14; refine (HC.out _).mono ?_; rintro e w1 ⟨rfl, hb1⟩)
  go_ret2
  exact ⟨rfl, bbox hb1⟩

/-- The sizes in their box. -/
structure Cq (w : World) (c : Cfg) (w' : World) : Prop where
  bx : w'.heap[w.heap.size]? = some (.cells #[.int .i64 c.co, .int .i64 c.ho, .int .i64 c.se, .int .i64 c.wa, .int .i64 c.wo, .int .i64 c.li, .int .i64 c.po, .int .i64 c.ms, .int .i64 c.bu, .int .i64 c.wb, .int .i64 c.r0, .int .i64 c.r1, .int .i64 c.r2] 24 (0, 0))
  bl : Below w.heap.size w w'
theorem Cq.step {w w' w'' : World} {c : Cfg} (h : Cq w c w') (hb : Below w'.heap.size w' w'') : Cq w c w'' := ⟨(hb.block _ (lt_of_block h.bx)).trans h.bx, bstep h.bl hb⟩
theorem Cq.drew {w w' : World} {c : Cfg} (h : Cq w c w') : Cq w c w'.drew := ⟨h.bx, h.bl.drew⟩
theorem Cq.cells {w w' : World} {c : Cfg} (h : Cq w c w') (o : Nat) : w'.cell? ⟨w.heap.size, o, none⟩ = (#[.int .i64 c.co, .int .i64 c.ho, .int .i64 c.se, .int .i64 c.wa, .int .i64 c.wo, .int .i64 c.li, .int .i64 c.po, .int .i64 c.ms, .int .i64 c.bu, .int .i64 c.wb, .int .i64 c.r0, .int .i64 c.r1, .int .i64 c.r2] : Array Value)[o]? := blk_cell h.bx o

set_option maxRecDepth 100000 in
set_option maxHeartbeats 4000000 in
theorem new_yes (c : Cfg) (w : World) (hc : c.fits) (hok : okC c = true) :
    Calls Tryd.prog 6 #[cv c] w (NewM w c) := by
  have HC := Lib.hid (fun w => check_any c w hc)
  have h0 : chk c = 0 := by simp [chk, hok]
  rw [h0] at HC
  have hb := sz_bound c hok
  have hm := mul_bound _ _ hb.1 hb.2
  obtain ⟨n, hn⟩ : ∃ n : Nat, c.wo * c.li = (n : Int) := ⟨(c.wo * c.li).toNat, by omega⟩
  have hs : sz c = (n : Int) := by unfold sz; rw [if_pos hok, hn]
  have HZ := Lib.hid (fun w => size_any c w hc)
  rw [hs] at HZ
  have hn2 : n ≤ 8192 := by omega
  have hmk : ∀ w : World, (Instr.makeSlice 51 (.int .i64 (n : Int)) (.int .i64 (n : Int))).run Tryd.prog w = .ok (.slice (some ⟨w.heap.size, 0, none⟩) n n) (w.alloc (.cells (icells (List.replicate n 0)).toArray 3)) := by
    intro w
    obtain ⟨i, hi, hz, hs, hbt⟩ := info_parts A3
    have := run_make (P := Tryd.prog) w 51 3 i (.int .i64 0) Tryd.underlying51 hi hz .i64 .i64 n n (by omega) (by omega) (by rw [hbt]; omega) (by omega)
    rw [hs] at this
    rw [← made_words]
    simpa [Value.cells] using this
  have HE := Lib.hid (fun w1 w2 => newM_of (w := w) (w1 := w1) (w2 := w2) hok hc hn)
  clear hc hok h0 hb hm hn hs hn2
  go_enter Tryd.func6, Tryd.ntmps6
  go_wp2_with (go_at_call 14; refine (HC.out _).mono ?_; rintro e w1 ⟨rfl, hb1⟩; have L0 := Lib.hid (Cq.mk (box_at hb1) (bbox hb1)))
  have hcc := L0.out.cells
  go_region_held3 (fun w' => ∀ o, w'.cell? ⟨w.heap.size, o, none⟩ = (#[.int .i64 c.co, .int .i64 c.ho, .int .i64 c.se, .int .i64 c.wa, .int .i64 c.wo, .int .i64 c.li, .int .i64 c.po, .int .i64 c.ms, .int .i64 c.bu, .int .i64 c.wb, .int .i64 c.r0, .int .i64 c.r1, .int .i64 c.r2] : Array Value)[o]?)
    (first | exact L1.out.cells | exact (L1.out.step (balloc _ _)).cells | exact ((L1.out.step (balloc _ _)).step (balloc _ _)).cells | exact (L1.out.drew.step (balloc _ _)).cells | exact ((L1.out.drew.step (balloc _ _)).step (balloc _ _)).cells | exact hcc | go_keep)
    (first
      | (go_at_call 15; refine (HZ.out _).mono ?_; rintro e w3 ⟨rfl, hb3⟩; have L1 := (by first | exact Lib.hid (L0.out.step hb3) | exact Lib.hid (L0.out.drew.step hb3)); clear hb3))
  all_goals
    go_wp2
    go_ret2
    exact HE.out _ _ L1.out.bl rfl ⟨rfl, rfl, rfl⟩

end Go.Proofs.YticfdkopephkkaaDoor
