/-
  Which network a rule has, and whether it goes to a home: for seats in which Net, or Home, is called.
-/
import Derived.Test.YtpknfbgnclgpmaaGreatDoorLayMs
namespace Go.Proofs.YtpknfbgnclgpmaaGreatDoor
open Go Go.RowKit Go.Sort

theorem request_network (w : World) : Calls Tryz.prog 172 #[.agg #[]] w fun e w' => e = .returned (.int .i64 0) ∧ Below w.heap.size w w' := by
  go_enter Tryz.func172, Tryz.ntmps172
  go_wp2
  go_ret
  exact ⟨rfl, (Below.refl _ _).alloc (Nat.le_refl _) _⟩

theorem forward_network (b : Bool) (w : World) : Calls Tryz.prog 179 #[.agg #[.bool b]] w fun e w' => e = .returned (.int .i64 1) ∧ Below w.heap.size w w' := by
  go_enter Tryz.func179, Tryz.ntmps179
  go_wp2
  go_ret
  exact ⟨rfl, (Below.refl _ _).alloc (Nat.le_refl _) _⟩

theorem data_network (w : World) : Calls Tryz.prog 185 #[.agg #[]] w fun e w' => e = .returned (.int .i64 2) ∧ Below w.heap.size w w' := by
  go_enter Tryz.func185, Tryz.ntmps185
  go_wp2
  go_ret
  exact ⟨rfl, (Below.refl _ _).alloc (Nat.le_refl _) _⟩

theorem answer_network (b : Bool) (w : World) : Calls Tryz.prog 192 #[.agg #[.bool b]] w fun e w' => e = .returned (.int .i64 2) ∧ Below w.heap.size w w' := by
  go_enter Tryz.func192, Tryz.ntmps192
  go_wp2
  go_ret
  exact ⟨rfl, (Below.refl _ _).alloc (Nat.le_refl _) _⟩

theorem ack_network (w : World) : Calls Tryz.prog 195 #[.agg #[]] w fun e w' => e = .returned (.int .i64 2) ∧ Below w.heap.size w w' := by
  go_enter Tryz.func195, Tryz.ntmps195
  go_wp2
  go_ret
  exact ⟨rfl, (Below.refl _ _).alloc (Nat.le_refl _) _⟩

theorem done_network (w : World) : Calls Tryz.prog 198 #[.agg #[]] w fun e w' => e = .returned (.int .i64 2) ∧ Below w.heap.size w w' := by
  go_enter Tryz.func198, Tryz.ntmps198
  go_wp2
  go_ret
  exact ⟨rfl, (Below.refl _ _).alloc (Nat.le_refl _) _⟩

theorem m_request_network (w : World) : (method 348 192 (.agg #[]) "mesne/message.network").run Tryz.prog w = .ok (172, .agg #[]) w := by kernel_rfl
theorem m_request_toHome (w : World) : (method 348 192 (.agg #[]) "mesne/message.toHome").run Tryz.prog w = .ok (173, .agg #[]) w := by kernel_rfl
theorem m_forward_network (b : Bool) (w : World) : (method 348 196 (.agg #[.bool b]) "mesne/message.network").run Tryz.prog w = .ok (179, .agg #[.bool b]) w := by kernel_rfl
theorem m_forward_toHome (b : Bool) (w : World) : (method 348 196 (.agg #[.bool b]) "mesne/message.toHome").run Tryz.prog w = .ok (180, .agg #[.bool b]) w := by kernel_rfl
theorem m_data_network (w : World) : (method 348 197 (.agg #[]) "mesne/message.network").run Tryz.prog w = .ok (185, .agg #[]) w := by kernel_rfl
theorem m_data_toHome (w : World) : (method 348 197 (.agg #[]) "mesne/message.toHome").run Tryz.prog w = .ok (186, .agg #[]) w := by kernel_rfl
theorem m_answer_network (b : Bool) (w : World) : (method 348 198 (.agg #[.bool b]) "mesne/message.network").run Tryz.prog w = .ok (192, .agg #[.bool b]) w := by kernel_rfl
theorem m_answer_toHome (b : Bool) (w : World) : (method 348 198 (.agg #[.bool b]) "mesne/message.toHome").run Tryz.prog w = .ok (193, .agg #[.bool b]) w := by kernel_rfl
theorem m_ack_network (w : World) : (method 348 199 (.agg #[]) "mesne/message.network").run Tryz.prog w = .ok (195, .agg #[]) w := by kernel_rfl
theorem m_ack_toHome (w : World) : (method 348 199 (.agg #[]) "mesne/message.toHome").run Tryz.prog w = .ok (196, .agg #[]) w := by kernel_rfl
theorem m_done_network (w : World) : (method 348 200 (.agg #[]) "mesne/message.network").run Tryz.prog w = .ok (198, .agg #[]) w := by kernel_rfl
theorem m_done_toHome (w : World) : (method 348 200 (.agg #[]) "mesne/message.toHome").run Tryz.prog w = .ok (199, .agg #[]) w := by kernel_rfl
theorem m_put_network (w : World) : (method 348 194 (.agg #[]) "mesne/message.network").run Tryz.prog w = .ok (172, .agg #[]) w := by kernel_rfl
theorem m_put_toHome (w : World) : (method 348 194 (.agg #[]) "mesne/message.toHome").run Tryz.prog w = .ok (173, .agg #[]) w := by kernel_rfl

end Go.Proofs.YtpknfbgnclgpmaaGreatDoor
