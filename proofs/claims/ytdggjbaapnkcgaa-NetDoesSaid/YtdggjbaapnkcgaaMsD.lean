/-
  What Net does, and how many words a rule brings.
-/
import Derived.Test.YtdggjbaapnkcgaaMsC
import Derived.Stop.Asserts
namespace Go.Proofs.Ytdggjbaapnkcgaa
open Go Go.RowKit Go.Sort

theorem rule_cases {k : Int} (h : isKind k = true) :
    ((k = 1 ∨ k = 2) ∧ ruleV k = .iface 92 (.agg #[])) ∨ (k = 3 ∧ ruleV k = .iface 94 (.agg #[])) ∨ ((k = 4 ∨ k = 5 ∨ k = 6) ∧ ruleV k = .iface 96 (.agg #[.bool (k == 5)]))
    ∨ (k = 7 ∧ ruleV k = .iface 97 (.agg #[])) ∨ ((k = 8 ∨ k = 10) ∧ ruleV k = .iface 98 (.agg #[.bool (k == 8)])) ∨ (k = 9 ∧ ruleV k = .iface 99 (.agg #[])) ∨ (k = 11 ∧ ruleV k = .iface 100 (.agg #[])) := by
  rcases kinds h with rfl | rfl | rfl | rfl | rfl | rfl | rfl | rfl | rfl | rfl | rfl <;> simp [ruleV]

theorem net_of {k n : Int} {T K : Nat} {v : Value} (w : World) (e1 : ruleV k = .iface T v) (e2 : isKind k = true) (hm : ∀ w, (method 224 T v "mesne/message.network").run Try.prog w = .ok (K, v) w) (he : ∀ args w, (callFunc K args).run Try.prog w = .ok (.enter K args) w)
    (hc : ∀ w, Calls Try.prog K #[v] w fun e w' => e = .returned (.int .i64 n) ∧ Below w.heap.size w w') :
    Calls Try.prog 31 #[.int .i64 k] w fun e w' => e = .returned (.int .i64 n) ∧ Below w.heap.size w w' := by
  go_enter Try.func31, Try.ntmps31
  go_wp2_with (go_at_call 43; refine (ruleOf_any _ _).mono ?_; rintro e w1 ⟨rfl, rfl⟩; rw [e1, e2])
  refine (hc _).mono ?_
  rintro e w1 ⟨rfl, hb1⟩
  go_wp2
  go_ret
  exact ⟨rfl, hb1⟩
theorem net_any (k : Int) (w : World) :
    Calls Try.prog 31 #[.int .i64 k] w fun e w' => e = .returned (.int .i64 (net k)) ∧ Below w.heap.size w w' := by
  rcases Bool.eq_false_or_eq_true (isKind k) with h | h
  · rcases rule_cases h with ⟨hk, e⟩ | ⟨hk, e⟩ | ⟨hk, e⟩ | ⟨hk, e⟩ | ⟨hk, e⟩ | ⟨hk, e⟩ | ⟨hk, e⟩
    · rw [show net k = 0 by unfold net; rw [if_pos h, if_pos (by omega)]]
      exact net_of w e h m_request_network (fun _ _ => by kernel_rfl) request_network
    · rw [show net k = 0 by unfold net; rw [if_pos h, if_pos (by omega)]]
      exact net_of w e h m_put_network (fun _ _ => by kernel_rfl) request_network
    · rw [show net k = 1 by unfold net; rw [if_pos h, if_neg (by omega), if_pos (by omega)]]
      exact net_of w e h (m_forward_network _) (fun _ _ => by kernel_rfl) (forward_network _)
    · rw [show net k = 2 by unfold net; rw [if_pos h, if_neg (by omega), if_neg (by omega)]]
      exact net_of w e h m_data_network (fun _ _ => by kernel_rfl) data_network
    · rw [show net k = 2 by unfold net; rw [if_pos h, if_neg (by omega), if_neg (by omega)]]
      exact net_of w e h (m_answer_network _) (fun _ _ => by kernel_rfl) (answer_network _)
    · rw [show net k = 2 by unfold net; rw [if_pos h, if_neg (by omega), if_neg (by omega)]]
      exact net_of w e h m_ack_network (fun _ _ => by kernel_rfl) ack_network
    · rw [show net k = 2 by unfold net; rw [if_pos h, if_neg (by omega), if_neg (by omega)]]
      exact net_of w e h m_done_network (fun _ _ => by kernel_rfl) done_network
  · have HN : Hid (net k = -1) := Lib.hid (by unfold net; rw [h]; rfl)
    go_enter Try.func31, Try.ntmps31
    go_wp2_with (go_at_call 43; refine (ruleOf_any _ _).mono ?_; rintro e w1 ⟨rfl, rfl⟩; rw [h])
    go_ret
    exact ⟨ret_int HN.out.symm, Below.refl _ _⟩

/-! How many words. -/
theorem put_words (c : Cfg) (w : World) : Calls Try.prog 72 #[.agg #[], cv c] w fun e w' => e = .returned (.int .i64 c.wo) ∧ Below w.heap.size w w' := by
  go_enter Try.func72, Try.ntmps72
  go_wp2
  go_ret
  exact ⟨rfl, ((Below.refl _ _).alloc (Nat.le_refl _) _).alloc (by simp) _⟩
theorem data_words (c : Cfg) (w : World) : Calls Try.prog 82 #[.agg #[], cv c] w fun e w' => e = .returned (.int .i64 c.wo) ∧ Below w.heap.size w w' := by
  go_enter Try.func82, Try.ntmps82
  go_wp2
  go_ret
  exact ⟨rfl, ((Below.refl _ _).alloc (Nat.le_refl _) _).alloc (by simp) _⟩

theorem a_request (v : Value) (w : World) : (Instr.typeAssert (.iface 92 v) 81 102 true).run Try.prog w = .ok (.tuple #[.nilIface, .bool false]) w := run_typeAssert_lacksB Try.underlying102 (by kernel_rfl) (by kernel_rfl) v _ w
theorem a_forward (v : Value) (w : World) : (Instr.typeAssert (.iface 96 v) 81 102 true).run Try.prog w = .ok (.tuple #[.nilIface, .bool false]) w := run_typeAssert_lacksB Try.underlying102 (by kernel_rfl) (by kernel_rfl) v _ w
theorem a_answer (v : Value) (w : World) : (Instr.typeAssert (.iface 98 v) 81 102 true).run Try.prog w = .ok (.tuple #[.nilIface, .bool false]) w := run_typeAssert_lacksB Try.underlying102 (by kernel_rfl) (by kernel_rfl) v _ w
theorem a_ack (v : Value) (w : World) : (Instr.typeAssert (.iface 99 v) 81 102 true).run Try.prog w = .ok (.tuple #[.nilIface, .bool false]) w := run_typeAssert_lacksB Try.underlying102 (by kernel_rfl) (by kernel_rfl) v _ w
theorem a_done (v : Value) (w : World) : (Instr.typeAssert (.iface 100 v) 81 102 true).run Try.prog w = .ok (.tuple #[.nilIface, .bool false]) w := run_typeAssert_lacksB Try.underlying102 (by kernel_rfl) (by kernel_rfl) v _ w
theorem a_put (v : Value) (w : World) : (Instr.typeAssert (.iface 94 v) 81 102 true).run Try.prog w = .ok (.tuple #[.iface 94 v, .bool true]) w := run_typeAssert_hasB Try.underlying102 (by kernel_rfl) v _ w
theorem a_data (v : Value) (w : World) : (Instr.typeAssert (.iface 97 v) 81 102 true).run Try.prog w = .ok (.tuple #[.iface 97 v, .bool true]) w := run_typeAssert_hasB Try.underlying102 (by kernel_rfl) v _ w

theorem wordsOf_no {T : Nat} {v : Value} (c : Cfg) (w : World) (ha : ∀ w, (Instr.typeAssert (.iface T v) 81 102 true).run Try.prog w = .ok (.tuple #[.nilIface, .bool false]) w) :
    Calls Try.prog 45 #[.iface T v, cv c] w fun e w' => e = .returned (.int .i64 0) ∧ Below w.heap.size w w' := by
  go_enter Try.func45, Try.ntmps45
  go_wp2
  go_ret
  exact ⟨rfl, (Below.refl _ _).alloc (Nat.le_refl _) _⟩
theorem wordsOf_yes {T K : Nat} {v : Value} (c : Cfg) (w : World) (ha : ∀ w, (Instr.typeAssert (.iface T v) 81 102 true).run Try.prog w = .ok (.tuple #[.iface T v, .bool true]) w) (hm : ∀ w, (method 224 T v "mesne/message.words").run Try.prog w = .ok (K, v) w) (he : ∀ args w, (callFunc K args).run Try.prog w = .ok (.enter K args) w)
    (hc : ∀ w, Calls Try.prog K #[v, cv c] w fun e w' => e = .returned (.int .i64 c.wo) ∧ Below w.heap.size w w') :
    Calls Try.prog 45 #[.iface T v, cv c] w fun e w' => e = .returned (.int .i64 c.wo) ∧ Below w.heap.size w w' := by
  go_enter Try.func45, Try.ntmps45
  go_wp2_with (fail)
  refine (hc _).mono ?_
  rintro e w1 ⟨rfl, hb1⟩
  go_wp2
  go_ret
  exact ⟨rfl, bbox hb1⟩
/-- wordsOf, of a kind's rule. -/
theorem wordsOf_any (k : Int) (c : Cfg) (w : World) (h : isKind k = true) :
    Calls Try.prog 45 #[ruleV k, cv c] w fun e w' => e = .returned (.int .i64 (nw c k)) ∧ Below w.heap.size w w' := by
  rcases rule_cases h with ⟨hk, e⟩ | ⟨hk, e⟩ | ⟨hk, e⟩ | ⟨hk, e⟩ | ⟨hk, e⟩ | ⟨hk, e⟩ | ⟨hk, e⟩
  · rw [e, show nw c k = 0 by unfold nw; rw [if_neg (by omega)]]
    exact wordsOf_no c w (a_request _)
  · rw [e, show nw c k = c.wo by unfold nw; rw [if_pos (by omega)]]
    exact wordsOf_yes c w (a_put _) m_put_words (fun _ _ => by kernel_rfl) (put_words c)
  · rw [e, show nw c k = 0 by unfold nw; rw [if_neg (by omega)]]
    exact wordsOf_no c w (a_forward _)
  · rw [e, show nw c k = c.wo by unfold nw; rw [if_pos (by omega)]]
    exact wordsOf_yes c w (a_data _) m_data_words (fun _ _ => by kernel_rfl) (data_words c)
  · rw [e, show nw c k = 0 by unfold nw; rw [if_neg (by omega)]]
    exact wordsOf_no c w (a_answer _)
  · rw [e, show nw c k = 0 by unfold nw; rw [if_neg (by omega)]]
    exact wordsOf_no c w (a_ack _)
  · rw [e, show nw c k = 0 by unfold nw; rw [if_neg (by omega)]]
    exact wordsOf_no c w (a_done _)

end Go.Proofs.Ytdggjbaapnkcgaa
