/-
  Which rule a kind has; the methods of the rules, one contract each.
-/
import Derived.Test.YtdggjbaapnkcgaaMsB
namespace Go.Proofs.Ytdggjbaapnkcgaa
open Go Go.RowKit Go.Sort

/-- A kind's rule, as an interface value. -/
def ruleV (k : Int) : Value :=
  if k = 1 ∨ k = 2 then .iface 92 (.agg #[]) else if k = 3 then .iface 94 (.agg #[]) else if k = 4 ∨ k = 6 then .iface 96 (.agg #[.bool false])
  else if k = 5 then .iface 96 (.agg #[.bool true]) else if k = 7 then .iface 97 (.agg #[]) else if k = 8 then .iface 98 (.agg #[.bool true])
  else if k = 10 then .iface 98 (.agg #[.bool false]) else if k = 9 then .iface 99 (.agg #[]) else if k = 11 then .iface 100 (.agg #[]) else .nilIface

theorem ret_rule {a a' : Value} {b b' : Bool} (h : a = a') (h' : b = b') : Ending.returned (.tuple #[a, .bool b]) = .returned (.tuple #[a', .bool b']) := by rw [h, h']

set_option maxHeartbeats 1000000 in
theorem ruleOf_any (k : Int) (w : World) :
    Calls Try.prog 43 #[.int .i64 k] w fun e w' => e = .returned (.tuple #[ruleV k, .bool (isKind k)]) ∧ w = w' := by
  go_enter Try.func43, Try.ntmps43
  go_wp2
  all_goals go_ret2
  all_goals refine ⟨ret_rule (by simp_all [ruleV]) ?_, rfl⟩
  all_goals unfold isKind
  all_goals simp_all
  all_goals omega

theorem request_network (w : World) : Calls Try.prog 67 #[.agg #[]] w fun e w' => e = .returned (.int .i64 0) ∧ Below w.heap.size w w' := by
  go_enter Try.func67, Try.ntmps67
  go_wp2
  go_ret
  exact ⟨rfl, (Below.refl _ _).alloc (Nat.le_refl _) _⟩

theorem forward_network (b : Bool) (w : World) : Calls Try.prog 74 #[.agg #[.bool b]] w fun e w' => e = .returned (.int .i64 1) ∧ Below w.heap.size w w' := by
  go_enter Try.func74, Try.ntmps74
  go_wp2
  go_ret
  exact ⟨rfl, (Below.refl _ _).alloc (Nat.le_refl _) _⟩

theorem data_network (w : World) : Calls Try.prog 80 #[.agg #[]] w fun e w' => e = .returned (.int .i64 2) ∧ Below w.heap.size w w' := by
  go_enter Try.func80, Try.ntmps80
  go_wp2
  go_ret
  exact ⟨rfl, (Below.refl _ _).alloc (Nat.le_refl _) _⟩

theorem answer_network (b : Bool) (w : World) : Calls Try.prog 87 #[.agg #[.bool b]] w fun e w' => e = .returned (.int .i64 2) ∧ Below w.heap.size w w' := by
  go_enter Try.func87, Try.ntmps87
  go_wp2
  go_ret
  exact ⟨rfl, (Below.refl _ _).alloc (Nat.le_refl _) _⟩

theorem ack_network (w : World) : Calls Try.prog 90 #[.agg #[]] w fun e w' => e = .returned (.int .i64 2) ∧ Below w.heap.size w w' := by
  go_enter Try.func90, Try.ntmps90
  go_wp2
  go_ret
  exact ⟨rfl, (Below.refl _ _).alloc (Nat.le_refl _) _⟩

theorem done_network (w : World) : Calls Try.prog 93 #[.agg #[]] w fun e w' => e = .returned (.int .i64 2) ∧ Below w.heap.size w w' := by
  go_enter Try.func93, Try.ntmps93
  go_wp2
  go_ret
  exact ⟨rfl, (Below.refl _ _).alloc (Nat.le_refl _) _⟩

/-! Where a method is found. -/
theorem m_request_network (w : World) : (method 224 92 (.agg #[]) "mesne/message.network").run Try.prog w = .ok (67, .agg #[]) w := by kernel_rfl
theorem m_request_toHome (w : World) : (method 224 92 (.agg #[]) "mesne/message.toHome").run Try.prog w = .ok (68, .agg #[]) w := by kernel_rfl
theorem m_request_holds (w : World) : (method 224 92 (.agg #[]) "mesne/message.holds").run Try.prog w = .ok (66, .agg #[]) w := by kernel_rfl
theorem m_forward_network (b : Bool) (w : World) : (method 224 96 (.agg #[.bool b]) "mesne/message.network").run Try.prog w = .ok (74, .agg #[.bool b]) w := by kernel_rfl
theorem m_forward_toHome (b : Bool) (w : World) : (method 224 96 (.agg #[.bool b]) "mesne/message.toHome").run Try.prog w = .ok (75, .agg #[.bool b]) w := by kernel_rfl
theorem m_forward_holds (b : Bool) (w : World) : (method 224 96 (.agg #[.bool b]) "mesne/message.holds").run Try.prog w = .ok (73, .agg #[.bool b]) w := by kernel_rfl
theorem m_data_network (w : World) : (method 224 97 (.agg #[]) "mesne/message.network").run Try.prog w = .ok (80, .agg #[]) w := by kernel_rfl
theorem m_data_toHome (w : World) : (method 224 97 (.agg #[]) "mesne/message.toHome").run Try.prog w = .ok (81, .agg #[]) w := by kernel_rfl
theorem m_data_holds (w : World) : (method 224 97 (.agg #[]) "mesne/message.holds").run Try.prog w = .ok (79, .agg #[]) w := by kernel_rfl
theorem m_answer_network (b : Bool) (w : World) : (method 224 98 (.agg #[.bool b]) "mesne/message.network").run Try.prog w = .ok (87, .agg #[.bool b]) w := by kernel_rfl
theorem m_answer_toHome (b : Bool) (w : World) : (method 224 98 (.agg #[.bool b]) "mesne/message.toHome").run Try.prog w = .ok (88, .agg #[.bool b]) w := by kernel_rfl
theorem m_answer_holds (b : Bool) (w : World) : (method 224 98 (.agg #[.bool b]) "mesne/message.holds").run Try.prog w = .ok (86, .agg #[.bool b]) w := by kernel_rfl
theorem m_ack_network (w : World) : (method 224 99 (.agg #[]) "mesne/message.network").run Try.prog w = .ok (90, .agg #[]) w := by kernel_rfl
theorem m_ack_toHome (w : World) : (method 224 99 (.agg #[]) "mesne/message.toHome").run Try.prog w = .ok (91, .agg #[]) w := by kernel_rfl
theorem m_ack_holds (w : World) : (method 224 99 (.agg #[]) "mesne/message.holds").run Try.prog w = .ok (89, .agg #[]) w := by kernel_rfl
theorem m_done_network (w : World) : (method 224 100 (.agg #[]) "mesne/message.network").run Try.prog w = .ok (93, .agg #[]) w := by kernel_rfl
theorem m_done_toHome (w : World) : (method 224 100 (.agg #[]) "mesne/message.toHome").run Try.prog w = .ok (94, .agg #[]) w := by kernel_rfl
theorem m_done_holds (w : World) : (method 224 100 (.agg #[]) "mesne/message.holds").run Try.prog w = .ok (92, .agg #[]) w := by kernel_rfl
theorem m_put_network (w : World) : (method 224 94 (.agg #[]) "mesne/message.network").run Try.prog w = .ok (67, .agg #[]) w := by kernel_rfl
theorem m_put_toHome (w : World) : (method 224 94 (.agg #[]) "mesne/message.toHome").run Try.prog w = .ok (68, .agg #[]) w := by kernel_rfl
theorem m_put_holds (w : World) : (method 224 94 (.agg #[]) "mesne/message.holds").run Try.prog w = .ok (66, .agg #[]) w := by kernel_rfl
theorem m_put_words (w : World) : (method 224 94 (.agg #[]) "mesne/message.words").run Try.prog w = .ok (72, .agg #[]) w := by kernel_rfl
theorem m_data_words (w : World) : (method 224 97 (.agg #[]) "mesne/message.words").run Try.prog w = .ok (82, .agg #[]) w := by kernel_rfl

end Go.Proofs.Ytdggjbaapnkcgaa
