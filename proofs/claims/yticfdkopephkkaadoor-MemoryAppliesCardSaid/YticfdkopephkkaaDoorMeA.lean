/-
  A memory in a world: its block and the block of its words; what a call on one may change; and the smallest functions, one contract each: has, done, Word.
-/
import Derived.Test.YticfdkopephkkaaDoorMeM
import Derived.Deep.MidRow
import Derived.Deep.QuietTactic
import Derived.BigQuiet
import Derived.StillTailTactics
namespace Go.Proofs.YticfdkopephkkaaDoor
open Go Go.RowKit

theorem balloc (w : World) (o : Obj) : Below w.heap.size w (w.alloc o) := (Below.refl _ _).alloc (Nat.le_refl _) _
theorem box_at {w w1 : World} {o : Obj} (h : Below (w.alloc o).heap.size (w.alloc o) w1) : w1.heap[w.heap.size]? = some o := (h.block w.heap.size (by simp)).trans (heap_alloc_new w o)
theorem blk_cell {w : World} {b : Nat} {L : Array Value} {t : TypeId} (h : w.heap[b]? = some (.cells L t (0, 0))) (i : Nat) : w.cell? ⟨b, i, none⟩ = L[i]? := by simp [World.cell?, h]
theorem blk_free {w : World} {b : Nat} {L : Array Value} {t : TypeId} (h : w.heap[b]? = some (.cells L t (0, 0))) (i : Nat) : w.frozen? ⟨b, i, none⟩ = false := by simp [World.frozen?, h]
theorem lt_of_block {w : World} {b : Nat} {o : Obj} (h : w.heap[b]? = some o) : b < w.heap.size := (Array.getElem?_eq_some_iff.1 h).1

/-- Numbers as cells. -/
def icells (L : List Int) : List Value := L.map (Value.int .i64)
theorem icells_len (L : List Int) : (icells L).length = L.length := by simp [icells]
theorem icells_at (L : List Int) (i : Nat) (h : i < L.length) : (icells L).toArray[i]? = some (.int .i64 (L.getD i 0)) := by
  rw [List.getElem?_toArray, icells, List.getElem?_map, List.getD_eq_getElem?_getD, List.getElem?_eq_getElem h]
  rfl
theorem icells_one (L : List Int) : ∀ v ∈ icells L, v.oneCell' = true := by
  intro v hv
  obtain ⟨n, -, rfl⟩ := List.mem_map.1 hv
  rfl
/-- A memory's own block: the sizes, and the slice of its words. -/
abbrev mcells (c : Cfg) (g n : Nat) : Array Value := #[.int .i64 c.co, .int .i64 c.ho, .int .i64 c.se, .int .i64 c.wa, .int .i64 c.wo, .int .i64 c.li, .int .i64 c.po, .int .i64 c.ms, .int .i64 c.bu, .int .i64 c.wb, .int .i64 c.r0, .int .i64 c.r1, .int .i64 c.r2, .slice (some ⟨g, 0, none⟩) n n]
/-- A memory. -/
structure Mm (w : World) (b g : Nat) (c : Cfg) (L : List Int) : Prop where
  hb : w.heap[b]? = some (.cells (mcells c g L.length) 54 (0, 0))
  hg : w.heap[g]? = some (.cells (icells L).toArray 3 (0, 0))
  ne : b ≠ g
  sz : Sized c L
  fits : c.fits
theorem Mm.bl {w : World} {b g : Nat} {c : Cfg} {L : List Int} (h : Mm w b g c L) : b < w.heap.size := lt_of_block h.hb
theorem Mm.gl {w : World} {b g : Nat} {c : Cfg} {L : List Int} (h : Mm w b g c L) : g < w.heap.size := lt_of_block h.hg
theorem Mm.keep {w w' : World} {b g : Nat} {c : Cfg} {L : List Int} (h : Mm w b g c L) (h1 : w'.heap[b]? = w.heap[b]?) (h2 : w'.heap[g]? = w.heap[g]?) : Mm w' b g c L :=
  ⟨h1.trans h.hb, h2.trans h.hg, h.ne, h.sz, h.fits⟩
theorem Mm.below {w w' : World} {b g : Nat} {c : Cfg} {L : List Int} (h : Mm w b g c L) (hb : Below w.heap.size w w') : Mm w' b g c L := h.keep (hb.block b h.bl) (hb.block g h.gl)
/-- Nothing that was there has changed but one block. -/
structure TurnG (g : Nat) (w w' : World) : Prop where
  os : w'.os = w.os
  tape : w'.tape = w.tape
  output : w'.output = w.output
  size : w.heap.size ≤ w'.heap.size
  other : ∀ k, k < w.heap.size → k ≠ g → w'.heap[k]? = w.heap[k]?
theorem TurnG.of_below {g : Nat} {w w' : World} (h : Below w.heap.size w w') : TurnG g w w' := ⟨h.os, h.tape, h.output, h.size, fun k hk _ => h.block k hk⟩
theorem TurnG.trans {g : Nat} {w w1 w2 : World} (h : TurnG g w w1) (k : TurnG g w1 w2) : TurnG g w w2 :=
  ⟨k.os.trans h.os, k.tape.trans h.tape, k.output.trans h.output, Nat.le_trans h.size k.size, fun i hi h1 => (k.other i (Nat.lt_of_lt_of_le hi h.size) h1).trans (h.other i hi h1)⟩
theorem TurnG.below {g B : Nat} {w w' : World} (h : TurnG g w w') (hg : B ≤ g) (hB : B ≤ w.heap.size) : Below B w w' := ⟨h.os, h.tape, h.output, h.size, fun k hk => h.other k (by omega) (by omega)⟩
/-- What a change gives: an answer, and the words. -/
structure GaveM (w : World) (b g : Nat) (c : Cfg) (r : Value) (M : List Int) (e : Ending) (w' : World) : Prop where
  res : e = .returned r
  mm : Mm w' b g c M
  turn : TurnG g w w'
/-- The words' row is another one. -/
theorem Mm.set {w w' : World} {b g : Nat} {c : Cfg} {L M : List Int} (h : Mm w b g c L) (hM : M.length = L.length) (h1 : w'.heap[b]? = w.heap[b]?) (h2 : w'.heap[g]? = some (.cells (icells M).toArray 3 (0, 0))) : Mm w' b g c M :=
  ⟨by rw [hM]; exact h1.trans h.hb, h2, h.ne, h.sz.of_len hM, h.fits⟩

theorem has_any {w : World} {b g : Nat} {c : Cfg} {L : List Int} (h : Mm w b g c L) (a : Int) :
    Calls Tryd.prog 16 #[.pointer (some ⟨b, 0, none⟩), .int .i64 a] w fun e w' => e = .returned (.bool (inR a L.length)) ∧ w = w' := by
  have c13 := blk_cell h.hb 13
  simp at c13
  clear h
  go_enter Tryd.func16, Tryd.ntmps16
  go_wp2
  · have h : 0 ≤ a := by assumption
    go_ret
    exact ⟨ret_bool (by simp [inR, h]), rfl⟩
  · have h : a < 0 := by assumption
    go_ret
    exact ⟨ret_bool (by simp [inR]; omega), rfl⟩

theorem done_any (v : Int) (x : Op) (w : World) :
    Calls Tryd.prog 17 #[.int .i64 v, ov x] w fun e w' => e = .returned (.tuple #[.int .i64 (lft v x), .int .i64 (tld v x)]) ∧ Below w.heap.size w w' := by
  obtain ⟨k, a, u⟩ := x
  have hb := balloc w (.cells #[.int .i64 k, .int .i64 a, .int .i64 u] 27)
  go_enter Tryd.func17, Tryd.ntmps17
  go_wp2
  all_goals
    go_ret2
    refine ⟨ret2 ?_ ?_, hb⟩ <;> simp_all [lft, tld]

theorem word_any {w : World} {b g : Nat} {c : Cfg} {L : List Int} (h : Mm w b g c L) (a : Int) :
    Calls Tryd.prog 9 #[.pointer (some ⟨b, 0, none⟩), .int .i64 a] w fun e w' => e = .returned (.int .i64 (wrd L a)) ∧ w = w' := by
  have HA := Lib.hid (has_any h a)
  rcases Bool.eq_false_or_eq_true (inR a L.length) with hr | hr
  · have h' := inR_of hr
    obtain ⟨A, rfl⟩ : ∃ A : Nat, a = A := ⟨a.toNat, by omega⟩
    have hA : A < L.length := by omega
    have hv : wrd L A = L.getD A 0 := by unfold wrd; rw [if_pos hr, Int.toNat_natCast]
    rw [hr] at HA
    rw [hv]
    have c13 := blk_cell h.hb 13
    simp at c13
    have hc := (blk_cell h.hg A).trans (icells_at L A hA)
    generalize L.getD A 0 = v at *
    clear h h' hr hv
    go_enter Tryd.func9, Tryd.ntmps9
    go_wp2_with (go_at_call 16; refine HA.out.mono ?_; rintro e w1 ⟨rfl, rfl⟩)
    go_ret
    exact ⟨rfl, rfl⟩
  · have hv : wrd L a = 0 := by unfold wrd; rw [hr]; rfl
    rw [hr] at HA
    rw [hv]
    clear h
    go_enter Tryd.func9, Tryd.ntmps9
    go_wp2_with (go_at_call 16; refine HA.out.mono ?_; rintro e w1 ⟨rfl, rfl⟩)
    go_ret
    exact ⟨rfl, rfl⟩

end Go.Proofs.YticfdkopephkkaaDoor
