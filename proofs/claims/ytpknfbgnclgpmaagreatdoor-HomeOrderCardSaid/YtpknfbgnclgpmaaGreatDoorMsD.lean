/-
  What Net does.
-/
import Derived.Test.YtpknfbgnclgpmaaGreatDoorLayMs
import Derived.Test.YtpknfbgnclgpmaaGreatDoorMsCn
namespace Go.Proofs.YtpknfbgnclgpmaaGreatDoor
open Go Go.RowKit Go.Sort

theorem net_of {k n : Int} {T K : Nat} {v : Value} (w : World) (e1 : ruleV k = .iface T v) (e2 : isKind k = true) (hm : ∀ w, (method 348 T v "mesne/message.network").run Tryz.prog w = .ok (K, v) w) (he : ∀ args w, (callFunc K args).run Tryz.prog w = .ok (.enter K args) w)
    (hc : ∀ w, Calls Tryz.prog K #[v] w fun e w' => e = .returned (.int .i64 n) ∧ Below w.heap.size w w') :
    Calls Tryz.prog 58 #[.int .i64 k] w fun e w' => e = .returned (.int .i64 n) ∧ Below w.heap.size w w' := by
  go_enter Tryz.func58, Tryz.ntmps58
  go_wp2_with (go_at_call 93; refine (ruleOf_any _ _).mono ?_; rintro e w1 ⟨rfl, rfl⟩; rw [e1, e2])
  refine (hc _).mono ?_
  rintro e w1 ⟨rfl, hb1⟩
  go_wp2
  go_ret
  exact ⟨rfl, hb1⟩
theorem net_any (k : Int) (w : World) :
    Calls Tryz.prog 58 #[.int .i64 k] w fun e w' => e = .returned (.int .i64 (net k)) ∧ Below w.heap.size w w' := by
  rcases Bool.eq_false_or_eq_true (isKind k) with h | h
  · rcases rule_cases h with ⟨hk, e⟩ | ⟨hk, e⟩ | ⟨hk, e⟩ | ⟨hk, e⟩ | ⟨hk, e⟩ | ⟨hk, e⟩ | ⟨hk, e⟩
    · rw [show net k = 0 by unfold net; rw [if_pos h, if_pos (by omega)]]
      exact net_of w e h m_request_network (fun _ _ => by kernel_rfl) request_network
    · rw [show net k = 0 by unfold net; rw [if_pos h, if_pos (by omega)]]
      exact net_of w e h m_put_network (fun _ _ => by kernel_rfl) request_network
    · rw [show net k = 1 by unfold net; rw [if_pos h, if_neg (by omega), if_pos (by omega)]]
      exact net_of w e h (m_forward_network _) (fun _ _ => by kernel_rfl) (forward_network _)
    · rw [show net k = 2 by unfold net; rw [if_pos h, if_neg (by omega), if_neg (by omega)]]
      exact net_of w e h m_data_network (fun _ _ => by kernel_rfl) data_network
    · rw [show net k = 2 by unfold net; rw [if_pos h, if_neg (by omega), if_neg (by omega)]]
      exact net_of w e h (m_answer_network _) (fun _ _ => by kernel_rfl) (answer_network _)
    · rw [show net k = 2 by unfold net; rw [if_pos h, if_neg (by omega), if_neg (by omega)]]
      exact net_of w e h m_ack_network (fun _ _ => by kernel_rfl) ack_network
    · rw [show net k = 2 by unfold net; rw [if_pos h, if_neg (by omega), if_neg (by omega)]]
      exact net_of w e h m_done_network (fun _ _ => by kernel_rfl) done_network
  · have HN : Hid (net k = -1) := Lib.hid (by unfold net; rw [h]; rfl)
    go_enter Tryz.func58, Tryz.ntmps58
    go_wp2_with (go_at_call 93; refine (ruleOf_any _ _).mono ?_; rintro e w1 ⟨rfl, rfl⟩; rw [h])
    go_ret
    exact ⟨ret_int HN.out.symm, Below.refl _ _⟩

end Go.Proofs.YtpknfbgnclgpmaaGreatDoor
