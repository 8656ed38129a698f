/-
  Next and New, put together.
-/
import Derived.Test.YtpknfbgnclgpmaaGreatDoorTbG
namespace Go.Proofs.YtpknfbgnclgpmaaGreatDoor.Sh
open Go Go.RowKit Go.Sort

theorem next_anyF (e : En) (p : Option Addr) (cap : Nat) (m : Msg) (v : W8) (w : World) (hl : e.s.l.length ≤ 5000) (hn : NumsIn w p e.s.l) :
    Calls Tryz.prog 23 #[ev e p cap, mv m, .agg (wcells v)] w (GaveTF w (nextT e m v).1 (nextT e m v).2) := by
  rcases Bool.eq_false_or_eq_true (goodQ e m) with hg | hg
  rotate_left
  · have e1 : nextT e m v = (zT, 1) := by unfold nextT; rw [if_pos hg]
    rw [e1]
    exact next_bad e p cap m v w hl hn hg
  have hq := (good_all hg).2.1
  simp only [isReq, Bool.or_eq_true, beq_iff_eq] at hq
  have hX1 : ∀ w, NumsIn w p e.s.l → Calls Tryz.prog 82 #[qv e p cap m v] w (GaveX w (readM e m v)) := fun w h => readable_any e p cap m v w hl h
  have hX2 : ∀ w, NumsIn w p e.s.l → Calls Tryz.prog 83 #[qv e p cap m v] w (GaveX w (fwdS e m)) := fun w _ => forwardS_any e p cap m v w
  have hX3 : ∀ w, NumsIn w p e.s.l → Calls Tryz.prog 85 #[qv e p cap m v] w (GaveX w (wrtM e m v)) := fun w h => writable_any e p cap m v w hl h
  have hX4 : ∀ w, NumsIn w p e.s.l → Calls Tryz.prog 86 #[qv e p cap m v] w (GaveX w (fwdM e m)) := fun w h => forwardM_any e p cap m v w hl h
  have hX5 : ∀ w, NumsIn w p e.s.l → Calls Tryz.prog 87 #[qv e p cap m v] w (GaveX w (grtM e m)) := fun w h => grant_any e p cap m v w hl h
  have hX6 : ∀ w, NumsIn w p e.s.l → Calls Tryz.prog 89 #[qv e p cap m v] w (GaveX w (ackM m)) := fun w _ => putAck_any e p cap m v w
  rcases hq with hk | hk | hk
  · have hR : ruleT m.kd = #[fv 82, fv 83, .nilFunc, fv 84] := by rw [hk]; rfl
    have hT : ∀ w B b t p' cap' v', Tu w B b t p' cap' v' → B ≤ w.heap.size → t.sent.length ≤ 100 → NumsIn w p e.s.l → Calls Tryz.prog 84 #[qv e p cap m v, .pointer (some ⟨b, 0, none⟩)] w (TuGave w B b v' (shareT e m t)) :=
      fun w B b t p' cap' v' h _ _ hn => share_any h e p cap m v hl hn
    by_cases h1 : e.ow = -1
    · have e1 : nextT e m v = (shareT e m ((baseT e).send m (readM e m v)), 0) := by unfold nextT; rw [if_neg (by rw [hg]; simp), if_pos hk, if_pos h1]
      rw [e1]
      exact next_way e p cap m v w hl hn hg hR (by kernel_rfl) rfl (by unfold firstF; rw [if_pos h1]; rfl) (fun _ _ => by kernel_rfl) (fun _ _ => by kernel_rfl) _ _ hX1 hT
    by_cases h2 : e.ow = m.fr
    · have e1 : nextT e m v = (zT, 7) := by unfold nextT; rw [if_neg (by rw [hg]; simp), if_pos hk, if_neg h1, if_pos h2]
      rw [e1]
      exact next_none e p cap m v w hl hn hg hR (by kernel_rfl) (by unfold firstF; rw [if_neg h1, if_pos h2]; rfl)
    · have e1 : nextT e m v = (shareT e m ((baseT e).send m (fwdS e m)), 0) := by unfold nextT; rw [if_neg (by rw [hg]; simp), if_pos hk, if_neg h1, if_neg h2]
      rw [e1]
      exact next_way e p cap m v w hl hn hg hR (by kernel_rfl) rfl (by unfold firstF; rw [if_neg h1, if_neg h2]; rfl) (fun _ _ => by kernel_rfl) (fun _ _ => by kernel_rfl) _ _ hX2 hT
  · have hR : ruleT m.kd = #[fv 85, fv 86, fv 87, fv 88] := by rw [hk]; rfl
    have hk1 : ¬ m.kd = 1 := by omega
    have hT : ∀ w B b t p' cap' v', Tu w B b t p' cap' v' → B ≤ w.heap.size → t.sent.length ≤ 100 → NumsIn w p e.s.l → Calls Tryz.prog 88 #[qv e p cap m v, .pointer (some ⟨b, 0, none⟩)] w (TuGave w B b v' (takeT e m t)) :=
      fun w B b t p' cap' v' h hB hs hn => take_any h e p cap m v hB hs hl hn
    by_cases h1 : e.ow = -1
    · have e1 : nextT e m v = (takeT e m ((baseT e).send m (wrtM e m v)), 0) := by unfold nextT; rw [if_neg (by rw [hg]; simp), if_neg hk1, if_pos hk, if_pos h1]
      rw [e1]
      exact next_way e p cap m v w hl hn hg hR (by kernel_rfl) rfl (by unfold firstF; rw [if_pos h1]; rfl) (fun _ _ => by kernel_rfl) (fun _ _ => by kernel_rfl) _ _ hX3 hT
    by_cases h2 : e.ow = m.fr
    · have e1 : nextT e m v = (takeT e m ((baseT e).send m (grtM e m)), 0) := by unfold nextT; rw [if_neg (by rw [hg]; simp), if_neg hk1, if_pos hk, if_neg h1, if_pos h2]
      rw [e1]
      exact next_way e p cap m v w hl hn hg hR (by kernel_rfl) rfl (by unfold firstF; rw [if_neg h1, if_pos h2]; rfl) (fun _ _ => by kernel_rfl) (fun _ _ => by kernel_rfl) _ _ hX5 hT
    · have e1 : nextT e m v = (takeT e m ((baseT e).send m (fwdM e m)), 0) := by unfold nextT; rw [if_neg (by rw [hg]; simp), if_neg hk1, if_pos hk, if_neg h1, if_neg h2]
      rw [e1]
      exact next_way e p cap m v w hl hn hg hR (by kernel_rfl) rfl (by unfold firstF; rw [if_neg h1, if_neg h2]; rfl) (fun _ _ => by kernel_rfl) (fun _ _ => by kernel_rfl) _ _ hX4 hT
  · have hR : ruleT m.kd = #[fv 89, fv 89, fv 89, fv 90] := by rw [hk]; rfl
    have hT : ∀ w B b t p' cap' v', Tu w B b t p' cap' v' → B ≤ w.heap.size → t.sent.length ≤ 100 → NumsIn w p e.s.l → Calls Tryz.prog 90 #[qv e p cap m v, .pointer (some ⟨b, 0, none⟩)] w (TuGave w B b v' (leaveT e m t)) :=
      fun w B b t p' cap' v' h _ _ _ => leave_any h e p cap m v
    have e1 : nextT e m v = (leaveT e m ((baseT e).send m (ackM m)), 0) := by unfold nextT; rw [if_neg (by rw [hg]; simp), if_neg (by omega), if_neg (by omega)]
    rw [e1]
    have hF : firstF #[fv 89, fv 89, fv 89, fv 90] e m = fv 89 := by
      unfold firstF
      split
      · rfl
      · split <;> rfl
    exact next_way e p cap m v w hl hn hg hR (by kernel_rfl) rfl hF (fun _ _ => by kernel_rfl) (fun _ _ => by kernel_rfl) _ _ hX6 hT

theorem next_any (e : En) (p : Option Addr) (cap : Nat) (m : Msg) (v : W8) (w : World) (hl : e.s.l.length ≤ 5000) (hn : NumsIn w p e.s.l) :
    Calls Tryz.prog 23 #[ev e p cap, mv m, .agg (wcells v)] w (GaveT w (nextT e m v).1 (nextT e m v).2) := (next_anyF e p cap m v w hl hn).mono fun _ _ h => h.plain

/-- What New gives. -/
def GaveN (w : World) (e : En) (err : Int) (r : Ending) (w' : World) : Prop := ∃ q c, r = .returned (.tuple #[ev e q c, .int .i64 err]) ∧ NumsIn w' q e.s.l ∧ Below w.heap.size w w'
theorem ent_ret {w wr : World} {e : En} {err : Int} {a : Act} {fn : Func} {g : Nat} {p : Option Addr} {cap : Nat} {t1 t2 : Tmp} (hres : fn.results = #[.cell t1 65, .tmp t2]) (hp : a.tmps.getD t1 undef = .pointer (some ⟨g, 0, none⟩)) (hq : a.tmps.getD t2 undef = .int .i64 err) (hd : a.defers = [])
    (hg : wr.heap[g]? = some (.cells (ecells e p cap) 65 (0, 0))) (hn : NumsIn wr p e.s.l) (hb : Below w.heap.size w wr) : bodyPost Tryz.prog fn (GaveN w e err) Exit.ret a wr :=
  bodyPost_ret (v := .tuple #[.agg (ecells e p cap), a.tmps.getD t2 undef]) (results_cell_two hres _ _ g 65 _ (0, 0) _ hp hg Tryz.underlying65 rfl (by kernel_rfl)) hd ⟨p, cap, by rw [hq], hn, hb⟩

set_option maxRecDepth 100000 in
set_option maxHeartbeats 1000000 in
theorem tnew_any (c m : Int) (w : World) : Calls Tryz.prog 68 #[.int .i64 c, .int .i64 m] w (GaveN w (newE c m).1 (newE c m).2) := by
  have hb0 := balloc w (.cells zec 65)
  have hg0 := heap_alloc_new w (.cells zec 65)
  rcases Bool.eq_false_or_eq_true (mayB c m [] false) with h | h
  · have e1 : newE c m = (⟨-1, ⟨c, m, [], false⟩⟩, 0) := by unfold newE; rw [if_pos h]
    have e2 : newS c m = (⟨c, m, [], false⟩, 0) := by unfold newS; rw [if_pos h]
    have E2 := Lib.hid e2
    rw [e1]
    clear e1 e2 h
    go_enter Tryz.func68, Tryz.ntmps68
    go_wp2_with (first
      | (go_at_call 110; refine (new_is E2.out _).mono ?_; rintro _ w1 ⟨_, rfl, q, cq, rfl, hi1, hb1, -⟩; have hb2 := bstep (bstep hb0 hb1) (balloc w1 (.cells #[.int .i64 c, .int .i64 m, .slice q 0 cq, .bool false] 63)); have hg2 := ((balloc w1 (.cells #[.int .i64 c, .int .i64 m, .slice q 0 cq, .bool false] 63)).block w.heap.size (Nat.lt_of_lt_of_le (lt_of_block hg0) hb1.size)).trans ((hb1.block w.heap.size (lt_of_block hg0)).trans hg0); have HN := Lib.hid (NumsIn.nil (w1.alloc (.cells #[.int .i64 c, .int .i64 m, .slice q 0 cq, .bool false] 63)) q); clear hb0 hg0 hb1 hi1)
      | ((with_reducible refine wpList_store_row (o := ⟨none, _, _, _, _, _⟩) rfl 65 (.tmp 4) (.tmp 19) rfl w.heap.size #[.int .i64 (-1), .int .i64 c, .int .i64 m, .slice q 0 cq, .bool false] ?sx ?sy 65 zec ?sg ?si ?so ?s1 ?_); (case sx => rfl); (case sy => rfl); (case sg => exact hg2); (case si => kernel_rfl); (case so => rfl); (case s1 => kernel_rfl)))
    exact ent_ret (e := ⟨-1, ⟨c, m, [], false⟩⟩) Tryz.results68 rfl rfl rfl (setRow_heap _ _ _ _ _ _ hg2) (NumsIn.nil _ _) (below_setRow hb2 (Nat.le_refl _) _)
  · have e1 : newE c m = (zE, 1) := by unfold newE; rw [if_neg (by rw [h]; simp)]
    have e2 : newS c m = (z0, 1) := by unfold newS; rw [if_neg (by rw [h]; simp)]
    have E2 := Lib.hid e2
    rw [e1]
    clear e1 e2 h
    go_enter Tryz.func68, Tryz.ntmps68
    go_wp2_with (first
      | (go_at_call 110; refine (new_is E2.out _).mono ?_; rintro _ w1 ⟨_, rfl, q, cq, rfl, hi1, hb1, -⟩; have hb2 := bstep (bstep hb0 hb1) (balloc w1 (.cells #[.int .i64 0, .int .i64 0, .slice q 0 cq, .bool false] 63)); have hg2 := ((balloc w1 (.cells #[.int .i64 0, .int .i64 0, .slice q 0 cq, .bool false] 63)).block w.heap.size (Nat.lt_of_lt_of_le (lt_of_block hg0) hb1.size)).trans ((hb1.block w.heap.size (lt_of_block hg0)).trans hg0); clear hb0 hg0 hb1 hi1)
      | ((with_reducible refine wpList_store_row (o := ⟨none, _, _, _, _, _⟩) rfl 65 (.tmp 4) (.tmp 16) rfl w.heap.size zec ?sx ?sy 65 zec ?sg ?si ?so ?s1 ?_); (case sx => rfl); (case sy => rfl); (case sg => exact hg2); (case si => kernel_rfl); (case so => rfl); (case s1 => kernel_rfl)))
    exact ent_ret (e := zE) (p := none) (cap := 0) Tryz.results68 rfl rfl rfl (setRow_heap _ _ _ _ _ _ hg2) (NumsIn.nil _ _) (below_setRow hb2 (Nat.le_refl _) _)

end Go.Proofs.YtpknfbgnclgpmaaGreatDoor.Sh
