/-
  The calls of a home upon its parts, by what they answer; and upon message, memory and table.
-/
import Derived.Test.YtpknfbgnclgpmaaGreatDoorHoA
import Derived.Test.YtpknfbgnclgpmaaGreatDoorMsF
import Derived.Test.YtpknfbgnclgpmaaGreatDoorLayMe
import Derived.Deep.CutBlock
import Derived.Deep.DeepCutAuto
import Derived.Lib.QuietBelow
namespace Go.Proofs.YtpknfbgnclgpmaaGreatDoor.Ho
open Go Go.RowKit

/-! What is in a queue behind each call. -/
theorem add_mem {r : Int} {l : List Qu.En} {m : Msg} {x : Qu.En} (h : x ∈ (Qu.addP r l m).2) : x ∈ l ∨ x = ⟨m, false, []⟩ := by
  unfold Qu.addP at h
  split at h
  · exact .inl h
  · split at h
    · exact .inl h
    · simpa using h
theorem start_mem {l : List Qu.En} {a : Int} {s : List Msg} {x : Qu.En} (h : x ∈ (Qu.startP l a s).2) : x ∈ l ∨ ∃ (i : Nat) (y : Qu.En), a = i ∧ l[i]? = some y ∧ x = ⟨y.m, true, s⟩ := by
  rcases Qu.inn_cases l a with ho | ⟨i, y, rfl, hy⟩
  · rw [Qu.startP_out ho] at h; exact .inl h
  · by_cases hr : Qu.rdy l i = false ∨ s = []
    · rw [Qu.startP_no hy hr] at h; exact .inl h
    · simp only [not_or, Bool.not_eq_false] at hr
      rw [Qu.startP_yes hy hr.1 hr.2] at h
      rcases List.mem_or_eq_of_mem_set h with h | h
      · exact .inl h
      · exact .inr ⟨i, y, rfl, hy, h⟩
theorem sent_mem {l : List Qu.En} {a : Int} {x : Qu.En} (h : x ∈ (Qu.sentP l a).2) : x ∈ l ∨ ∃ (y : Qu.En) (m : Msg) (r : List Msg), y ∈ l ∧ y.l = m :: r ∧ x = ⟨y.m, y.st, r⟩ := by
  rcases Qu.inn_cases l a with ho | ⟨i, y, rfl, hy⟩
  · rw [Qu.sentP_out ho] at h; exact .inl h
  · rcases hs : y.l with _ | ⟨m, r⟩
    · rw [Qu.sentP_no hy hs] at h; exact .inl h
    · by_cases hk : r = [] ∧ y.m.kd = 3
      · obtain ⟨rfl, hk⟩ := hk
        rw [Qu.sentP_gone hy hs hk] at h
        exact .inl (List.mem_of_mem_eraseIdx h)
      · rw [Qu.sentP_yes hy hs hk] at h
        rcases List.mem_or_eq_of_mem_set h with h | h
        · exact .inl h
        · exact .inr ⟨y, m, r, List.mem_of_getElem? hy, hs, h⟩
theorem fin_mem {l : List Qu.En} {ln fr : Int} {x : Qu.En} (h : x ∈ (Qu.finP l ln fr).2) : x ∈ l := by
  unfold Qu.finP at h
  split at h
  · exact h
  · exact List.mem_of_mem_eraseIdx h
/-- A request that is let go, as if it had been started and all had been sent. -/
theorem dropQ_erase {l : List Qu.En} {i : Nat} {x : Qu.En} (hx : l[i]? = some x) (hr : Qu.rdy l i = true) (hk : x.m.kd ≠ 3) : dropQ l i x.m = l.eraseIdx i := by
  have hi := (List.getElem?_eq_some_iff.1 hx).1
  have h1 : Qu.startP l i [x.m] = (0, l.set i ⟨x.m, true, [x.m]⟩) := Qu.startP_yes hx hr (by simp)
  have h2 : (l.set i ⟨x.m, true, [x.m]⟩)[i]? = some ⟨x.m, true, [x.m]⟩ := by rw [List.getElem?_set_self (by simpa using hi)]
  have h3 : Qu.sentP (l.set i ⟨x.m, true, [x.m]⟩) i = (0, l.set i ⟨x.m, true, []⟩) := by
    rw [Qu.sentP_yes h2 rfl (by simp [hk]), List.set_set]
  rw [Qu.rdy_at hx] at hr
  simp only [Bool.and_eq_true, beq_iff_eq] at hr
  have hf := hr.2
  rw [List.findIdx?_eq_some_iff_getElem] at hf
  obtain ⟨_, _, hf⟩ := hf
  have h4 : (l.set i ⟨x.m, true, []⟩).findIdx? (Qu.isF x.m.ln x.m.fr) = some i := by
    refine Qu.find_some (x := ⟨x.m, true, []⟩) (by rw [List.getElem?_set_self (by simpa using hi)]) (by simp [Qu.isF, Qu.sentAll, hk]) fun j y hj hy => ?_
    rw [List.getElem?_set_ne (by omega)] at hy
    obtain ⟨hl, rfl⟩ := List.getElem?_eq_some_iff.1 hy
    have := hf j hj
    simp only [Qu.isL, Bool.not_eq_true] at this
    simp [Qu.isF, this]
  unfold dropQ
  rw [h1, h3, Qu.finP_some h4, List.eraseIdx_set_eq]

variable {w0 w w' : World} {K : Kb} {c : Cfg} {n : Int} {s : Hs} {X : Nat → Obj → Prop} {bx : Bx}
theorem Own.addR (h : Own w0 K c n s X bx w) (m : Msg) (hr : Rq c n m) :
    Calls Tryz.prog 59 #[ptr K.q, mv m] w fun e w' => e = .returned (.int .i64 (Qu.addP c.bu s.Q m).1) ∧ Own w0 K c n { s with Q := (Qu.addP c.bu s.Q m).2 } X bx w' := by
  obtain ⟨ys, hq, hf⟩ := h.qu
  refine (hq.addQ m (n := (Qu.addP c.bu s.Q m).1) (l' := (Qu.addP c.bu s.Q m).2) rfl).mono fun _ _ ⟨he, ho⟩ => ⟨he, hf _ _ ho (fun x hx => ?_) fun x hx => ?_⟩
  · rcases add_mem hx with hx | rfl
    · exact h.gd.rq x hx
    · exact hr
  · rcases add_mem hx with hx | rfl
    · exact h.gd.sd x hx
    · exact fun m hm => by cases hm
theorem Own.startR (h : Own w0 K c n s X bx w) (i : Nat) (x : Qu.En) (hx : s.Q[i]? = some x) (p : Option Addr) (cp : Nat) (l : List Msg) (hs : Qu.MIn w p l) (hl : l.length ≤ 500) (hd : ∀ m ∈ l, Sd n x.m.ln m) :
    Calls Tryz.prog 100 #[ptr K.q, .int .i64 i, .slice p l.length cp] w fun e w' => e = .returned (.int .i64 (Qu.startP s.Q i l).1) ∧ Own w0 K c n { s with Q := (Qu.startP s.Q i l).2 } X bx w' := by
  obtain ⟨ys, hq, hf⟩ := h.qu
  refine (hq.startQ i p cp l hs hl (n := (Qu.startP s.Q i l).1) (l' := (Qu.startP s.Q i l).2) rfl).mono fun _ _ ⟨he, ho⟩ => ⟨he, hf _ _ ho (fun y hy => ?_) fun y hy => ?_⟩
  · rcases start_mem hy with hy | ⟨j, z, e, hz, rfl⟩
    · exact h.gd.rq y hy
    · exact h.gd.rq z (List.mem_of_getElem? hz)
  · rcases start_mem hy with hy | ⟨j, z, e, hz, rfl⟩
    · exact h.gd.sd y hy
    · obtain rfl : i = j := by omega
      rw [hx] at hz
      cases hz
      exact hd
theorem Own.sentR (h : Own w0 K c n s X bx w) (a : Int) :
    Calls Tryz.prog 63 #[ptr K.q, .int .i64 a] w fun e w' => e = .returned (.int .i64 (Qu.sentP s.Q a).1) ∧ Own w0 K c n { s with Q := (Qu.sentP s.Q a).2 } X bx w' := by
  obtain ⟨ys, hq, hf⟩ := h.qu
  refine (hq.sentQ a (n := (Qu.sentP s.Q a).1) (l' := (Qu.sentP s.Q a).2) rfl).mono fun _ _ ⟨he, ho⟩ => ⟨he, hf _ _ ho (fun y hy => ?_) fun y hy => ?_⟩
  · rcases sent_mem hy with hy | ⟨z, m, r, hz, hs, rfl⟩
    · exact h.gd.rq y hy
    · exact h.gd.rq z hz
  · rcases sent_mem hy with hy | ⟨z, m, r, hz, hs, rfl⟩
    · exact h.gd.sd y hy
    · exact fun m' hm' => h.gd.sd z hz m' (by rw [hs]; exact List.mem_cons_of_mem _ hm')
theorem Own.finR (h : Own w0 K c n s X bx w) (ln fr : Int) :
    Calls Tryz.prog 64 #[ptr K.q, .int .i64 ln, .int .i64 fr] w fun e w' => e = .returned (.int .i64 (Qu.finP s.Q ln fr).1) ∧ Own w0 K c n { s with Q := (Qu.finP s.Q ln fr).2 } X bx w' := by
  obtain ⟨ys, hq, hf⟩ := h.qu
  exact (hq.finQ ln fr (n := (Qu.finP s.Q ln fr).1) (l' := (Qu.finP s.Q ln fr).2) rfl).mono fun _ _ ⟨he, ho⟩ => ⟨he, hf _ _ ho (fun y hy => h.gd.rq y (fin_mem hy)) fun y hy => h.gd.sd y (fin_mem hy)⟩
theorem Own.nextR (h : Own w0 K c n s X bx w) (a : Int) {m : Msg} {q : Bool} (e : Qu.nextP s.Q a = (m, q)) :
    Calls Tryz.prog 62 #[ptr K.q, .int .i64 a] w fun e w' => e = .returned (.tuple #[mv m, .bool q]) ∧ Below w.heap.size w w' := by
  obtain ⟨ys, hq, hf⟩ := h.qu
  exact hq.nextQ a e
theorem Own.readyR (h : Own w0 K c n s X bx w) (a : Int) {q : Bool} (e : Qu.rdy s.Q a = q) :
    Calls Tryz.prog 60 #[ptr K.q, .int .i64 a] w fun e w' => e = .returned (.bool q) ∧ Below w.heap.size w w' := by
  obtain ⟨ys, hq, hf⟩ := h.qu
  exact hq.readyQ a e
theorem Own.getR (h : Own w0 K c n s X bx w) (a : Int) {x : Qu.En} {q : Bool} (e : Qu.getP s.Q a = (x, q)) :
    Calls Tryz.prog 98 #[ptr K.q, .int .i64 a] w (Qu.GetG x q w) := by
  obtain ⟨ys, hq, hf⟩ := h.qu
  exact hq.getQ a e
theorem Own.listR (h : Own w0 K c n s X bx w) :
    Calls Tryz.prog 47 #[ptr K.q] w (Qu.ListG s.Q w) := by
  obtain ⟨ys, hq, hf⟩ := h.qu
  exact hq.listQ
theorem Own.may (h : Own w0 K c n s X bx w) (m : Msg) :
    Calls Tryz.prog 92 #[cv c, mv m] w fun e w' => e = .returned (.bool (mayM c m)) ∧ Below w.heap.size w w' := may_any c m w h.fits
theorem Own.line (h : Own w0 K c n s X bx w) (y : Int) {d : Me.Wd} {k : Int} (e : Me.lnP c s.L y = (d, k)) :
    Calls Tryz.prog 49 #[ptr K.b, .int .i64 y] w fun e w' => e = .returned (.tuple #[.agg (Me.dcells d), .int .i64 k]) ∧ Below w.heap.size w w' := by
  have := Me.line_any2 h.mm h.tbs y
  rw [e] at this
  exact this
theorem Own.write (h : Own w0 K c n s X bx w) (y : Int) (d : Me.Wd) :
    Calls Tryz.prog 101 #[ptr K.b, .int .i64 y, .agg (Me.dcells d)] w fun e w' => e = .returned (.int .i64 (Me.wrP c s.L y d).1) ∧ Own w0 K c n { s with L := (Me.wrP c s.L y d).2 } X bx w' :=
  (Me.write_any h.mm h.tbs y d).mono fun _ _ hg => ⟨hg.res, h.written hg⟩

/-! isMeant, Odd, Queue. -/
set_option maxRecDepth 100000 in
set_option maxHeartbeats 2000000 in
theorem Own.meant (h : Own w0 K c n s X bx w) (m : Msg) :
    Calls Tryz.prog 57 #[ptr K.h, mv m] w fun e w' => e = .returned (.bool (meantB c n m)) ∧ Below w.heap.size w w' := by
  have H0 := Lib.hid (h.add (.cells (mcells m) 38))
  have HB := Lib.hid (Qu.balloc w (.cells (mcells m) 38))
  have HMy := Lib.hid (fun w1 => may_any c m w1 h.fits)
  have hq : mayM c m = true ∧ meantB c n m = (m.to == n) ∨ mayM c m = false ∧ meantB c n m = false := by
    unfold meantB
    rcases Bool.eq_false_or_eq_true (mayM c m) with h1 | h1 <;> simp [h1]
  clear h
  go_enter Tryz.func57, Tryz.ntmps57
  go_upto_region 1 with fail
  obtain ⟨w1, hw1⟩ : ∃ w1, w1 = w.alloc (.cells (mcells m) 38) := ⟨_, rfl⟩
  rw [← hw1] at H0 HB
  have H1 := H0
  change Code.wp _ _ _ _ (w.alloc (.cells (mcells m) 38))
  rw [← hw1]
  clear hw1 H0
  generalize mayM c m = qm at *
  have HR := Lib.hid (fun d os => H1.out.step (below_regrown w1 d os))
  have hck := fun o d os => (HR.out d os).hc o
  have hcm := fun o d os => (HR.out d os).cells (List.mem_cons_self ..) o
  rcases hq with ⟨rfl, hq⟩ | ⟨rfl, hq⟩
  all_goals
    have HQ := Lib.hid hq
    clear hq
    refine wp_region_quiet_below (by kernel_rfl) (by kernel_rfl) ?_
    repeat (go_big_quiet_step (first | (go_at_call 92; exact Calls.regrown_of (HMy.out _))))
    refine wpQuiet_nil ?_
    rintro w2 ⟨pp, rfl⟩
    go_wp2
    go_ret
    exact ⟨Qu.ret_bool HQ.out.symm, bstep HB.out (below_regrown _ _ _)⟩
theorem Own.oddF (h : Own w0 K c n s X bx w) :
    Calls Tryz.prog 14 #[ptr K.h] w fun e w' => e = .returned (.int .i64 s.od) ∧ w = w' := by
  have hk := h.hc
  clear h
  go_enter Tryz.func14, Tryz.ntmps14
  go_wp2
  go_ret
  exact ⟨rfl, rfl⟩
theorem Own.queueF (h : Own w0 K c n s X bx w) :
    Calls Tryz.prog 17 #[ptr K.h] w (Qu.ListG s.Q w) := by
  have HL := Lib.hid h.listR
  have hk := h.hc
  clear h
  go_enter Tryz.func17, Tryz.ntmps17
  go_wp2_with (go_at_call 47; refine HL.out.mono ?_; rintro e w1 ⟨p, cap, M, rfl, h1, h2, h3, h4⟩)
  go_ret
  exact ⟨p, cap, M, rfl, h1, h2, h3, h4⟩

end Go.Proofs.YtpknfbgnclgpmaaGreatDoor.Ho
