/-
  Which rule a kind has; the methods of the rules, one contract each.
-/
import Derived.Test.YtjbodkmjhnlhiaaMsB
namespace Go.Proofs.Ytjbodkmjhnlhiaa
open Go Go.RowKit Go.Sort

/-- A kind's rule, as an interface value. -/
def ruleV (k : Int) : Value :=
  if k = 1 ∨ k = 2 then .iface 63 (.agg #[]) else if k = 3 then .iface 65 (.agg #[]) else if k = 4 ∨ k = 6 then .iface 67 (.agg #[.bool false])
  else if k = 5 then .iface 67 (.agg #[.bool true]) else if k = 7 then .iface 68 (.agg #[]) else if k = 8 then .iface 69 (.agg #[.bool true])
  else if k = 10 then .iface 69 (.agg #[.bool false]) else if k = 9 then .iface 70 (.agg #[]) else if k = 11 then .iface 71 (.agg #[]) else .nilIface

theorem ret_rule {a a' : Value} {b b' : Bool} (h : a = a') (h' : b = b') : Ending.returned (.tuple #[a, .bool b]) = .returned (.tuple #[a', .bool b']) := by rw [h, h']

set_option maxHeartbeats 1000000 in
theorem ruleOf_any (k : Int) (w : World) :
    Calls Try.prog 20 #[.int .i64 k] w fun e w' => e = .returned (.tuple #[ruleV k, .bool (isKind k)]) ∧ w = w' := by
  go_enter Try.func20, Try.ntmps20
  go_wp2
  all_goals go_ret2
  all_goals refine ⟨ret_rule (by simp_all [ruleV]) ?_, rfl⟩
  all_goals unfold isKind
  all_goals simp_all
  all_goals omega

theorem request_network (w : World) : Calls Try.prog 51 #[.agg #[]] w fun e w' => e = .returned (.int .i64 0) ∧ Below w.heap.size w w' := by
  go_enter Try.func51, Try.ntmps51
  go_wp2
  go_ret
  exact ⟨rfl, (Below.refl _ _).alloc (Nat.le_refl _) _⟩

theorem request_toHome (w : World) : Calls Try.prog 52 #[.agg #[]] w fun e w' => e = .returned (.bool true) ∧ Below w.heap.size w w' := by
  go_enter Try.func52, Try.ntmps52
  go_wp2
  go_ret
  exact ⟨rfl, (Below.refl _ _).alloc (Nat.le_refl _) _⟩

theorem forward_network (b : Bool) (w : World) : Calls Try.prog 58 #[.agg #[.bool b]] w fun e w' => e = .returned (.int .i64 1) ∧ Below w.heap.size w w' := by
  go_enter Try.func58, Try.ntmps58
  go_wp2
  go_ret
  exact ⟨rfl, (Below.refl _ _).alloc (Nat.le_refl _) _⟩

theorem forward_toHome (b : Bool) (w : World) : Calls Try.prog 59 #[.agg #[.bool b]] w fun e w' => e = .returned (.bool false) ∧ Below w.heap.size w w' := by
  go_enter Try.func59, Try.ntmps59
  go_wp2
  go_ret
  exact ⟨rfl, (Below.refl _ _).alloc (Nat.le_refl _) _⟩

theorem data_network (w : World) : Calls Try.prog 64 #[.agg #[]] w fun e w' => e = .returned (.int .i64 2) ∧ Below w.heap.size w w' := by
  go_enter Try.func64, Try.ntmps64
  go_wp2
  go_ret
  exact ⟨rfl, (Below.refl _ _).alloc (Nat.le_refl _) _⟩

theorem data_toHome (w : World) : Calls Try.prog 65 #[.agg #[]] w fun e w' => e = .returned (.bool false) ∧ Below w.heap.size w w' := by
  go_enter Try.func65, Try.ntmps65
  go_wp2
  go_ret
  exact ⟨rfl, (Below.refl _ _).alloc (Nat.le_refl _) _⟩

theorem answer_network (b : Bool) (w : World) : Calls Try.prog 71 #[.agg #[.bool b]] w fun e w' => e = .returned (.int .i64 2) ∧ Below w.heap.size w w' := by
  go_enter Try.func71, Try.ntmps71
  go_wp2
  go_ret
  exact ⟨rfl, (Below.refl _ _).alloc (Nat.le_refl _) _⟩

theorem answer_toHome (b : Bool) (w : World) : Calls Try.prog 72 #[.agg #[.bool b]] w fun e w' => e = .returned (.bool false) ∧ Below w.heap.size w w' := by
  go_enter Try.func72, Try.ntmps72
  go_wp2
  go_ret
  exact ⟨rfl, (Below.refl _ _).alloc (Nat.le_refl _) _⟩

theorem ack_network (w : World) : Calls Try.prog 74 #[.agg #[]] w fun e w' => e = .returned (.int .i64 2) ∧ Below w.heap.size w w' := by
  go_enter Try.func74, Try.ntmps74
  go_wp2
  go_ret
  exact ⟨rfl, (Below.refl _ _).alloc (Nat.le_refl _) _⟩

theorem ack_toHome (w : World) : Calls Try.prog 75 #[.agg #[]] w fun e w' => e = .returned (.bool false) ∧ Below w.heap.size w w' := by
  go_enter Try.func75, Try.ntmps75
  go_wp2
  go_ret
  exact ⟨rfl, (Below.refl _ _).alloc (Nat.le_refl _) _⟩

theorem done_network (w : World) : Calls Try.prog 77 #[.agg #[]] w fun e w' => e = .returned (.int .i64 2) ∧ Below w.heap.size w w' := by
  go_enter Try.func77, Try.ntmps77
  go_wp2
  go_ret
  exact ⟨rfl, (Below.refl _ _).alloc (Nat.le_refl _) _⟩

theorem done_toHome (w : World) : Calls Try.prog 78 #[.agg #[]] w fun e w' => e = .returned (.bool true) ∧ Below w.heap.size w w' := by
  go_enter Try.func78, Try.ntmps78
  go_wp2
  go_ret
  exact ⟨rfl, (Below.refl _ _).alloc (Nat.le_refl _) _⟩

/-! Where a method is found. -/
theorem m_request_network (w : World) : (method 199 63 (.agg #[]) "mesne/message.network").run Try.prog w = .ok (51, .agg #[]) w := by kernel_rfl
theorem m_request_toHome (w : World) : (method 199 63 (.agg #[]) "mesne/message.toHome").run Try.prog w = .ok (52, .agg #[]) w := by kernel_rfl
theorem m_request_holds (w : World) : (method 199 63 (.agg #[]) "mesne/message.holds").run Try.prog w = .ok (50, .agg #[]) w := by kernel_rfl
theorem m_forward_network (b : Bool) (w : World) : (method 199 67 (.agg #[.bool b]) "mesne/message.network").run Try.prog w = .ok (58, .agg #[.bool b]) w := by kernel_rfl
theorem m_forward_toHome (b : Bool) (w : World) : (method 199 67 (.agg #[.bool b]) "mesne/message.toHome").run Try.prog w = .ok (59, .agg #[.bool b]) w := by kernel_rfl
theorem m_forward_holds (b : Bool) (w : World) : (method 199 67 (.agg #[.bool b]) "mesne/message.holds").run Try.prog w = .ok (57, .agg #[.bool b]) w := by kernel_rfl
theorem m_data_network (w : World) : (method 199 68 (.agg #[]) "mesne/message.network").run Try.prog w = .ok (64, .agg #[]) w := by kernel_rfl
theorem m_data_toHome (w : World) : (method 199 68 (.agg #[]) "mesne/message.toHome").run Try.prog w = .ok (65, .agg #[]) w := by kernel_rfl
theorem m_data_holds (w : World) : (method 199 68 (.agg #[]) "mesne/message.holds").run Try.prog w = .ok (63, .agg #[]) w := by kernel_rfl
theorem m_answer_network (b : Bool) (w : World) : (method 199 69 (.agg #[.bool b]) "mesne/message.network").run Try.prog w = .ok (71, .agg #[.bool b]) w := by kernel_rfl
theorem m_answer_toHome (b : Bool) (w : World) : (method 199 69 (.agg #[.bool b]) "mesne/message.toHome").run Try.prog w = .ok (72, .agg #[.bool b]) w := by kernel_rfl
theorem m_answer_holds (b : Bool) (w : World) : (method 199 69 (.agg #[.bool b]) "mesne/message.holds").run Try.prog w = .ok (70, .agg #[.bool b]) w := by kernel_rfl
theorem m_ack_network (w : World) : (method 199 70 (.agg #[]) "mesne/message.network").run Try.prog w = .ok (74, .agg #[]) w := by kernel_rfl
theorem m_ack_toHome (w : World) : (method 199 70 (.agg #[]) "mesne/message.toHome").run Try.prog w = .ok (75, .agg #[]) w := by kernel_rfl
theorem m_ack_holds (w : World) : (method 199 70 (.agg #[]) "mesne/message.holds").run Try.prog w = .ok (73, .agg #[]) w := by kernel_rfl
theorem m_done_network (w : World) : (method 199 71 (.agg #[]) "mesne/message.network").run Try.prog w = .ok (77, .agg #[]) w := by kernel_rfl
theorem m_done_toHome (w : World) : (method 199 71 (.agg #[]) "mesne/message.toHome").run Try.prog w = .ok (78, .agg #[]) w := by kernel_rfl
theorem m_done_holds (w : World) : (method 199 71 (.agg #[]) "mesne/message.holds").run Try.prog w = .ok (76, .agg #[]) w := by kernel_rfl
theorem m_put_network (w : World) : (method 199 65 (.agg #[]) "mesne/message.network").run Try.prog w = .ok (51, .agg #[]) w := by kernel_rfl
theorem m_put_toHome (w : World) : (method 199 65 (.agg #[]) "mesne/message.toHome").run Try.prog w = .ok (52, .agg #[]) w := by kernel_rfl
theorem m_put_holds (w : World) : (method 199 65 (.agg #[]) "mesne/message.holds").run Try.prog w = .ok (50, .agg #[]) w := by kernel_rfl
theorem m_put_words (w : World) : (method 199 65 (.agg #[]) "mesne/message.words").run Try.prog w = .ok (56, .agg #[]) w := by kernel_rfl
theorem m_data_words (w : World) : (method 199 68 (.agg #[]) "mesne/message.words").run Try.prog w = .ok (66, .agg #[]) w := by kernel_rfl

end Go.Proofs.Ytjbodkmjhnlhiaa
