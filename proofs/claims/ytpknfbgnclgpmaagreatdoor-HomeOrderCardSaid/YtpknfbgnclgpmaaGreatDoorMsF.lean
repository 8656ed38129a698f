/-
  What May does, the program's.
-/
import Derived.Test.YtpknfbgnclgpmaaGreatDoorMsE
import Derived.Test.YtpknfbgnclgpmaaGreatDoorLayMs
namespace Go.Proofs.YtpknfbgnclgpmaaGreatDoor
open Go Go.RowKit Go.Sort

theorem may_no1 {c : Cfg} {m : Msg} (h : okC c = false) : mayM c m = false := by simp [mayM, h]
theorem may_no2 {c : Cfg} {m : Msg} (h : isin m.ln c.li = false) : mayM c m = false := by simp [mayM, h]
theorem may_no3 {c : Cfg} {m : Msg} (h : isKind m.kd = false) : mayM c m = false := by simp [mayM, h]
theorem may_no4 {c : Cfg} {m : Msg} (h : holdsB c m = false) : mayM c m = false := by simp [mayM, h]

theorem areWords_is {m : Msg} {n : Int} {b : Bool} (h : wordsB m n = b) (w : World) :
    Calls Tryz.prog 124 #[.agg #[.int .i64 m.w0, .int .i64 m.w1, .int .i64 m.w2, .int .i64 m.w3, .int .i64 m.w4, .int .i64 m.w5, .int .i64 m.w6, .int .i64 m.w7], .int .i64 n] w fun e w' => e = .returned (.bool b) ∧ Below w.heap.size w w' := by
  subst h
  exact areWords_any m n w

set_option maxRecDepth 100000 in
set_option maxHeartbeats 2000000 in
theorem may_of {T K : Nat} {v : Value} (c : Cfg) (m : Msg) (w : World) (hcf : c.fits) (hok : okC c = true) (hln : isin m.ln c.li = true) (e1 : ruleV m.kd = .iface T v) (e2 : isKind m.kd = true)
    (hm : ∀ w, (method 348 T v "mesne/message.holds").run Tryz.prog w = .ok (K, v) w) (he : ∀ args w, (callFunc K args).run Tryz.prog w = .ok (.enter K args) w)
    (hc : ∀ w, Calls Tryz.prog K #[v, cv c, mv m] w fun e w' => e = .returned (.bool (holdsB c m)) ∧ Below w.heap.size w w') :
    Calls Tryz.prog 92 #[cv c, mv m] w fun e w' => e = .returned (.bool (mayM c m)) ∧ Below w.heap.size w w' := by
  have HC := Lib.hid hcf
  have HO := Lib.hid hok
  have HL := Lib.hid hln
  have hw : ∀ w, Calls Tryz.prog 125 #[.iface T v, cv c] w fun e w' => e = .returned (.int .i64 (nw c m.kd)) ∧ Below w.heap.size w w' := fun w => e1 ▸ wordsOf_any m.kd c w e2
  have HW := Lib.hid hw
  have HH := Lib.hid hc
  clear hw hc
  have h0 := chk_ok c hok
  have KK := K2.box w (ccells c) (mcells m) 24 38
  clear hcf hok
  go_enter Tryz.func92, Tryz.ntmps92
  go_wp2_with (fail)
  refine (check_any c _ HC.out).mono ?_
  rintro e w1 ⟨rfl, hb1⟩
  have K1 := KK.step hb1
  have ha := K1.a; have hb := K1.b
  clear hb1 KK
  go_wp2_with (fail)
  refine (isOneOf_any _ _ _).mono ?_
  rintro e w2 ⟨rfl, rfl⟩
  rw [hln]
  clear hln
  go_wp2_with (fail)
  refine (ruleOf_any _ _).mono ?_
  rintro e w2 ⟨rfl, rfl⟩
  rw [e1, e2]
  go_wp2
  obtain ⟨hA, hB⟩ := K1.grown
  have HB := Lib.hid K1.below
  clear ha hb K1
  rcases Bool.eq_false_or_eq_true (holdsB c m) with h | h
  · have HH1 : Hid (∀ w, Calls Tryz.prog K #[v, cv c, mv m] w fun e w' => e = .returned (.bool true) ∧ Below w.heap.size w w') := Lib.hid (h ▸ HH.out)
    have HM : Hid (wordsB m (nw c m.kd) = mayM c m) := Lib.hid (by simp [mayM, HO.out, HL.out, e2, h])
    clear HH h
    refine wp_region_quiet_below (by kernel_rfl) (by kernel_rfl) ?_
    repeat (go_big_quiet_step (first
      | (go_at_call 125; exact Calls.regrown_of (HW.out _))
      | (go_at_call 124; exact Calls.regrown_of (areWords_is HM.out _))
      | exact Calls.regrown_of (HH1.out _)))
    refine wpQuiet_nil ?_
    rintro w2 ⟨pp, rfl⟩
    go_wp2
    go_ret
    exact ⟨rfl, bstep HB.out (below_regrown _ _ _)⟩
  · have HH1 : Hid (∀ w, Calls Tryz.prog K #[v, cv c, mv m] w fun e w' => e = .returned (.bool false) ∧ Below w.heap.size w w') := Lib.hid (h ▸ HH.out)
    have HM : Hid (mayM c m = false) := Lib.hid (may_no4 h)
    clear HH h
    refine wp_region_quiet_below (by kernel_rfl) (by kernel_rfl) ?_
    repeat (go_big_quiet_step (first
      | (go_at_call 125; exact Calls.regrown_of (HW.out _))
      | exact Calls.regrown_of (HH1.out _)))
    refine wpQuiet_nil ?_
    rintro w2 ⟨pp, rfl⟩
    go_wp2
    go_ret
    exact ⟨ret_bool HM.out.symm, bstep HB.out (below_regrown _ _ _)⟩

set_option maxRecDepth 100000 in
set_option maxHeartbeats 2000000 in
/-- May, the program's. -/
theorem may_any (c : Cfg) (m : Msg) (w : World) (hcf : c.fits) :
    Calls Tryz.prog 92 #[cv c, mv m] w fun e w' => e = .returned (.bool (mayM c m)) ∧ Below w.heap.size w w' := by
  have HC := Lib.hid hcf
  clear hcf
  rcases Bool.eq_false_or_eq_true (okC c) with hok | hok
  · rcases Bool.eq_false_or_eq_true (isin m.ln c.li) with hl | hl
    · rcases Bool.eq_false_or_eq_true (isKind m.kd) with hk | hk
      · have hs := ok_sizes hok
        have hm : Hm c m := ⟨(isin_of hl).1, hs.2.1.1, hs.2.1.2⟩
        rcases rule_cases hk with ⟨h, e⟩ | ⟨h, e⟩ | ⟨h, e⟩ | ⟨h, e⟩ | ⟨h, e⟩ | ⟨h, e⟩ | ⟨h, e⟩
        · exact may_of c m w HC.out hok hl e hk m_request_holds (fun _ _ => by kernel_rfl) (fun w => by unfold holdsB; rw [if_pos (by omega)]; exact request_holds c m w hm)
        · exact may_of c m w HC.out hok hl e hk m_put_holds (fun _ _ => by kernel_rfl) (fun w => by unfold holdsB; rw [if_pos (by omega)]; exact request_holds c m w hm)
        · exact may_of c m w HC.out hok hl e hk (m_forward_holds _) (fun _ _ => by kernel_rfl) (fun w => by unfold holdsB; rw [if_neg (by omega), if_neg (by omega), if_neg (by omega), if_pos (by omega)]; exact forward_holds _ c m w hm)
        · exact may_of c m w HC.out hok hl e hk m_data_holds (fun _ _ => by kernel_rfl) (fun w => by unfold holdsB; rw [if_neg (by omega), if_neg (by omega), if_pos (by omega)]; exact data_holds c m w hm)
        · exact may_of c m w HC.out hok hl e hk (m_answer_holds _) (fun _ _ => by kernel_rfl) (fun w => by unfold holdsB; rw [if_neg (by omega), if_neg (by omega), if_neg (by omega), if_neg (by omega)]; exact answer_holds _ c m w hm)
        · exact may_of c m w HC.out hok hl e hk m_ack_holds (fun _ _ => by kernel_rfl) (fun w => by unfold holdsB; rw [if_neg (by omega), if_pos (by omega)]; exact ack_holds c m w hm)
        · exact may_of c m w HC.out hok hl e hk m_done_holds (fun _ _ => by kernel_rfl) (fun w => by unfold holdsB; rw [if_pos (by omega)]; exact done_holds c m w hm)
      · have HM := Lib.hid (may_no3 (c := c) hk)
        have h0 := chk_ok c hok
        have KK := K2.box w (ccells c) (mcells m) 24 38
        clear hok
        go_enter Tryz.func92, Tryz.ntmps92
        go_wp2_with (fail)
        refine (check_any c _ HC.out).mono ?_
        rintro e w1 ⟨rfl, hb1⟩
        have K1 := KK.step hb1
        have ha := K1.a; have hb := K1.b
        clear hb1 KK
        go_wp2_with (fail)
        refine (isOneOf_any _ _ _).mono ?_
        rintro e w2 ⟨rfl, rfl⟩
        rw [hl]
        clear hl
        go_wp2_with (fail)
        refine (ruleOf_any _ _).mono ?_
        rintro e w2 ⟨rfl, rfl⟩
        rw [hk]
        go_wp2
        have HB := Lib.hid K1.below
        clear ha hb K1
        refine wp_region_quiet_below (by kernel_rfl) (by kernel_rfl) ?_
        repeat (go_big_quiet_step (fail))
        refine wpQuiet_nil ?_
        rintro w2 ⟨pp, rfl⟩
        go_wp2
        go_ret
        exact ⟨ret_bool HM.out.symm, bstep HB.out (below_regrown _ _ _)⟩
    · have HM := Lib.hid (may_no2 (c := c) hl)
      have h0 := chk_ok c hok
      have KK := K2.box w (ccells c) (mcells m) 24 38
      clear hok
      go_enter Tryz.func92, Tryz.ntmps92
      go_wp2_with (fail)
      refine (check_any c _ HC.out).mono ?_
      rintro e w1 ⟨rfl, hb1⟩
      have K1 := KK.step hb1
      have ha := K1.a; have hb := K1.b
      clear hb1 KK
      go_wp2_with (fail)
      refine (isOneOf_any _ _ _).mono ?_
      rintro e w2 ⟨rfl, rfl⟩
      rw [hl]
      clear hl
      go_wp2
      go_ret
      exact ⟨ret_bool HM.out.symm, K1.below⟩
  · have HM := Lib.hid (may_no1 (m := m) hok)
    have h0 := chk_no c hok
    have KK := K2.box w (ccells c) (mcells m) 24 38
    clear hok
    go_enter Tryz.func92, Tryz.ntmps92
    go_wp2_with (fail)
    refine (check_any c _ HC.out).mono ?_
    rintro e w1 ⟨rfl, hb1⟩
    have K1 := KK.step hb1
    clear hb1 KK
    go_wp2
    go_ret
    exact ⟨ret_bool HM.out.symm, K1.below⟩

end Go.Proofs.YtpknfbgnclgpmaaGreatDoor
