/-
  What Check and Size do, the program's and the document's: one contract each, over a machine's sizes as thirteen numbers.
-/
import Derived.Test.YticfdkopephkkaaDoorShapeA
import Derived.Laws.CopyOwn
namespace Go.Proofs.YticfdkopephkkaaDoor
open Go Go.RowKit

/-- A machine's sizes: ten numbers, and three rooms. -/
structure Cfg where
  co : Int
  ho : Int
  se : Int
  wa : Int
  wo : Int
  li : Int
  po : Int
  ms : Int
  bu : Int
  wb : Int
  r0 : Int
  r1 : Int
  r2 : Int

/-- Each number is an int's. -/
def Cfg.fits (c : Cfg) : Prop := c.co ≤ 9223372036854775807 ∧ c.ho ≤ 9223372036854775807 ∧ c.se ≤ 9223372036854775807 ∧ c.wa ≤ 9223372036854775807 ∧ c.wo ≤ 9223372036854775807 ∧ c.li ≤ 9223372036854775807 ∧ c.po ≤ 9223372036854775807 ∧ c.ms ≤ 9223372036854775807 ∧ c.bu ≤ 9223372036854775807 ∧ c.wb ≤ 9223372036854775807 ∧ c.r0 ≤ 9223372036854775807 ∧ c.r1 ≤ 9223372036854775807 ∧ c.r2 ≤ 9223372036854775807

abbrev cval (co ho se wa wo li po ms bu wb r0 r1 r2 : Int) : Value := .agg #[.int .i64 co, .int .i64 ho, .int .i64 se, .int .i64 wa, .int .i64 wo, .int .i64 li, .int .i64 po, .int .i64 ms, .int .i64 bu, .int .i64 wb, .int .i64 r0, .int .i64 r1, .int .i64 r2]

def bcells (co ho se wa wo li po ms bu wb r0 r1 r2 : Int) : Array Value := #[
  .int .i64 co, .int .i64 1, .int .i64 64, .bool false, .int .i64 ho, .int .i64 1, .int .i64 16, .bool true, .int .i64 se, .int .i64 1, .int .i64 64, .bool true,
  .int .i64 wa, .int .i64 1, .int .i64 8, .bool false, .int .i64 wo, .int .i64 1, .int .i64 8, .bool true, .int .i64 li, .int .i64 1, .int .i64 1024, .bool true,
  .int .i64 po, .int .i64 0, .int .i64 8, .bool false, .int .i64 ms, .int .i64 1, .int .i64 8, .bool false, .int .i64 bu, .int .i64 1, .int .i64 16, .bool false,
  .int .i64 wb, .int .i64 1, .int .i64 8, .bool false, .int .i64 r0, .int .i64 1, .int .i64 64, .bool false, .int .i64 r1, .int .i64 1, .int .i64 64, .bool false, .int .i64 r2, .int .i64 1, .int .i64 64, .bool false]

theorem built40 (co ho se wa wo li po ms bu wb r0 r1 r2 : Int) : Tryd.prog.built 66 [
    (0, .agg #[.int .i64 co, .int .i64 1, .int .i64 64, .bool false]), (1, .agg #[.int .i64 ho, .int .i64 1, .int .i64 16, .bool true]), (2, .agg #[.int .i64 se, .int .i64 1, .int .i64 64, .bool true]),
    (3, .agg #[.int .i64 wa, .int .i64 1, .int .i64 8, .bool false]), (4, .agg #[.int .i64 wo, .int .i64 1, .int .i64 8, .bool true]), (5, .agg #[.int .i64 li, .int .i64 1, .int .i64 1024, .bool true]),
    (6, .agg #[.int .i64 po, .int .i64 0, .int .i64 8, .bool false]), (7, .agg #[.int .i64 ms, .int .i64 1, .int .i64 8, .bool false]), (8, .agg #[.int .i64 bu, .int .i64 1, .int .i64 16, .bool false]),
    (9, .agg #[.int .i64 wb, .int .i64 1, .int .i64 8, .bool false]), (10, .agg #[.int .i64 r0, .int .i64 1, .int .i64 64, .bool false]), (11, .agg #[.int .i64 r1, .int .i64 1, .int .i64 64, .bool false]), (12, .agg #[.int .i64 r2, .int .i64 1, .int .i64 64, .bool false])]
    = some (bcells co ho se wa wo li po ms bu wb r0 r1 r2) := by kernel_rfl

theorem wpList_built {P : Program} {ops : Array Oper} {rest : List Oper} {o : Oper} {a : Act} {w : World} {Q : Exit → Act → World → Prop} (hg : o.guard = none) (t : TypeId) (parts : Array (Nat × Operand)) (ho : o.op = .build t parts)
    (vs : Array Value) (hv : P.built t (parts.map fun (i, x) => (i, a.eval x)).toList = some vs)
    (h : wpList P ops Q rest (a.put o.dst (.agg vs)) w) : wpList P ops Q (o :: rest) a w :=
  wpList_build hg t parts ho (by rw [hv]; rfl) (by rw [hv]; exact h)

set_option maxRecDepth 100000 in
set_option maxHeartbeats 1000000 in
theorem bounds_any (co ho se wa wo li po ms bu wb r0 r1 r2 : Int) (w : World) :
    Calls Tryd.prog 22 #[cval co ho se wa wo li po ms bu wb r0 r1 r2] w fun e w' => e = .returned (.agg (bcells co ho se wa wo li po ms bu wb r0 r1 r2)) ∧ Below w.heap.size w w' := by
  go_enter Tryd.func22, Tryd.ntmps22
  go_wp2_with (first
    | ((with_reducible refine wpList_built (o := ⟨some 45, _, _, _, _, _⟩) rfl 66 _ rfl (bcells co ho se wa wo li po ms bu wb r0 r1 r2) ?bv ?_); (case bv => kernel_rfl))
    | ((with_reducible refine wpList_store_row (o := ⟨none, _, _, _, _, _⟩) rfl 66 (.tmp 2) (.tmp 45) rfl (w.heap.size + 1) (bcells co ho se wa wo li po ms bu wb r0 r1 r2) ?sx ?sy 66 ?old ?sg ?si ?so ?s1 ?_); (case sx => rfl); (case sy => rfl); (case sg => exact heap_alloc2_new _ _ _); (case si => kernel_rfl); (case so => rfl); (case s1 => kernel_rfl)))
  refine bodyPost_ret (v := .agg (bcells co ho se wa wo li po ms bu wb r0 r1 r2)) ?_ rfl ⟨rfl, ?_⟩
  · exact results_cell_row Tryd.results22 _ _ (w.heap.size + 1) 66 _ (0, 0) _ rfl (setRow_heap _ _ _ _ _ _ (heap_alloc2_new _ _ _)) Tryd.underlying66 rfl (by kernel_rfl)
  · exact below_setRow (((Below.refl _ _).alloc (Nat.le_refl _) _).alloc (by simp) _) (by omega) _

end Go.Proofs.YticfdkopephkkaaDoor
