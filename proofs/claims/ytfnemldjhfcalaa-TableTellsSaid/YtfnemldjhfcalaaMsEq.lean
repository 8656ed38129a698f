/-
  A message is the same as itself.
-/
import Derived.Test.YtfnemldjhfcalaaMsZ
import Derived.WalkKit
import Derived.WalkSpells
import Derived.Laws.StructEq
import Derived.ChangeKeysEq
namespace Go.Proofs.Ytfnemldjhfcalaa
open Go Go.RowKit

theorem infoInt : (Try.prog.info? 3).map (fun i => (i.zero, i.size, i.bytes)) = some (some (.int .i64 0), 1, 8) := by kernel_rfl
/-- Words are the same as themselves. -/
theorem words_same (d : Nat) (a0 a1 a2 a3 a4 a5 a6 a7 : Int) (w : World) : (Op.equalIn (d + 2) 28 (.agg #[.int .i64 a0, .int .i64 a1, .int .i64 a2, .int .i64 a3, .int .i64 a4, .int .i64 a5, .int .i64 a6, .int .i64 a7]) (.agg #[.int .i64 a0, .int .i64 a1, .int .i64 a2, .int .i64 a3, .int .i64 a4, .int .i64 a5, .int .i64 a6, .int .i64 a7])).run Try.prog w = .ok true w := by
  obtain ⟨i0, hi0, hz0, hz1, hz2⟩ := info_parts infoInt
  rw [run_equalIn_array w (d + 1) _ _ Try.underlying28 hi0]
  have hc3 : Try.prog.cellsOf 3 = 1 := by kernel_rfl
  rw [hc3]
  have hu := Try.underlying3
  simp [Op.eqItems, List.range, List.range.loop, go_sem]
theorem msg_eql (m : Msg) (w : World) : (binOp .eql 30 (mv m) (mv m)).run Try.prog w = .ok (.bool true) w := by
  have ha := fun d => words_same d m.w0 m.w1 m.w2 m.w3 m.w4 m.w5 m.w6 m.w7
  simp [go_sem, ha]
theorem msg_neq (m : Msg) (w : World) : (binOp .neq 30 (mv m) (mv m)).run Try.prog w = .ok (.bool false) w := by
  have ha := fun d => words_same d m.w0 m.w1 m.w2 m.w3 m.w4 m.w5 m.w6 m.w7
  simp [go_sem, ha]

end Go.Proofs.Ytfnemldjhfcalaa
