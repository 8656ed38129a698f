/-
  What is sent first: the messages' functions of a home's table, one contract each.
-/
import Derived.Test.YtfnemldjhfcalaaTbA
import Derived.Deep.RegionHeld3
import Derived.Deep.MidRow
namespace Go.Proofs.Ytfnemldjhfcalaa
open Go Go.RowKit Go.Sort

/-- The cells of a message that is new. -/
abbrev zm : Array Value := #[.int .i64 0, .int .i64 0, .int .i64 0, .int .i64 0, .int .i64 0, .int .i64 0, .int .i64 0, .int .i64 0, .int .i64 0, .int .i64 0, .int .i64 0, .int .i64 0, .int .i64 0, .int .i64 0, .int .i64 0]
/-- What a call gives that tells a message. -/
def GaveX (w : World) (x : Msg) (r : Ending) (w' : World) : Prop := r = .returned (mv x) ∧ Below w.heap.size w w'
theorem msg_ret {w wr : World} {x : Msg} {a : Act} {fn : Func} {g : Nat} {t1 : Tmp} (hres : fn.results = #[.cell t1 30]) (hp : a.tmps.getD t1 undef = .pointer (some ⟨g, 0, none⟩)) (hd : a.defers = [])
    (hg : wr.heap[g]? = some (.cells (mcells x) 30 (0, 0))) (hb : Below w.heap.size w wr) : bodyPost Try.prog fn (GaveX w x) Exit.ret a wr :=
  bodyPost_ret (v := .agg (mcells x)) (results_cell_row hres _ _ g 30 _ (0, 0) _ hp hg Try.underlying30 rfl (by kernel_rfl)) hd ⟨rfl, hb⟩
theorem range_of {w : World} {b : Nat} {A : Array Value} (h : ∀ o, w.cell? ⟨b, o, none⟩ = A[o]?) : w.rangeAt b 0 A.toList := fun i v hv => by
  rw [Nat.zero_add, h i]
  simpa using hv
/-- A load of a long row, in a region that draws its order; in one that does not. -/
theorem yields_load_at {P : Program} {ops : Array Oper} {S : World → Prop} {op : Oper} {a : Act} (hw : Region.wanted op (yielded ops a.tmps) = true) (ty : TypeId) (x : Operand) (ho : op.op = .load ty x)
    (b o : Nat) (hx : a.eval x = .pointer (some ⟨b, o, none⟩)) (cs : Array Value) (d : TypeDesc) (hS : ∀ w, S w → w.rangeAt b o cs.toList)
    (hu : P.underlying ty = some d) (hd : d.isRow = true) (hi : (P.info? ty).map (·.size) = some cs.size) : YieldsIf P ops S op (.agg cs) a := by
  simpa using yieldsIf_load_mid hw ty x ho b o hx cs.toList d hS hu hd (by simpa using hi)
theorem wpList_load_at {P : Program} {ops : Array Oper} {rest : List Oper} {op : Oper} {a : Act} {w : World} {Q : Exit → Act → World → Prop} (hgd : op.guard = none) (ty : TypeId) (x : Operand) (ho : op.op = .load ty x)
    (b o : Nat) (hx : a.eval x = .pointer (some ⟨b, o, none⟩)) (cs : Array Value) (d : TypeDesc) (hc : w.rangeAt b o cs.toList)
    (hu : P.underlying ty = some d) (hd : d.isRow = true) (hi : (P.info? ty).map (·.size) = some cs.size)
    (h : wpList P ops Q rest (a.put op.dst (.agg cs)) w) : wpList P ops Q (op :: rest) a w :=
  wpList_load_mid hgd ty x ho b o hx cs.toList d hc hu hd (by simpa using hi) (by simpa using h)
theorem below_drew (w : World) : Below w.heap.size w w.drew := (Below.refl _ _).drew

set_option maxHeartbeats 2000000 in
theorem readable_any (e : En) (p : Option Addr) (cap : Nat) (m : Msg) (v : W8) (w : World) (hl : e.s.l.length ≤ 5000) (h : NumsIn w p e.s.l) :
    Calls Try.prog 31 #[qv e p cap m v] w (GaveX w (readM e m v)) := by
  have KB := H2.box w (qcells e p cap m v) zm 68 30
  have hc := KB.cellsA
  have H := Lib.hid h
  clear h
  rcases Bool.eq_false_or_eq_true e.free with hf | hf
  · have HF := Lib.hid hf
    have HX : Hid (mcells (readM e m v) = #[.int .i64 7, .int .i64 0, .int .i64 0, .int .i64 m.fr, .int .i64 0, .int .i64 0, .int .i64 2, .int .i64 v.w0, .int .i64 v.w1, .int .i64 v.w2, .int .i64 v.w3, .int .i64 v.w4, .int .i64 v.w5, .int .i64 v.w6, .int .i64 v.w7]) := Lib.hid (by simp [readM, fullM, hf])
    clear hf
    go_enter Try.func31, Try.ntmps31
    go_wp2_with (first
      | (go_at_call 46; refine (free_is HF.out p cap _ (H.out.step KB.below) hl).mono ?_; rintro _ w1 ⟨rfl, hb1⟩; have K2 := KB.step hb1; have hc2 := K2.cellsA; clear hc hb1)
      | ((with_reducible refine wpList_store_row (o := ⟨none, _, _, _, _, _⟩) rfl 30 (.tmp 2) (.tmp 13) rfl (w.heap.size + 1) (#[.int .i64 7, .int .i64 0, .int .i64 0, .int .i64 m.fr, .int .i64 0, .int .i64 0, .int .i64 2, .int .i64 v.w0, .int .i64 v.w1, .int .i64 v.w2, .int .i64 v.w3, .int .i64 v.w4, .int .i64 v.w5, .int .i64 v.w6, .int .i64 v.w7]) ?sx ?sy 30 zm ?sg ?si ?so ?s1 ?_); (case sx => rfl); (case sy => rfl); (case sg => exact K2.b); (case si => kernel_rfl); (case so => rfl); (case s1 => kernel_rfl)))
    exact msg_ret Try.results31 rfl rfl (by rw [HX.out]; exact setRow_heap _ _ _ _ _ _ K2.b) (below_setRow K2.below (by omega) _)
  · have HF := Lib.hid hf
    have HX : Hid (mcells (readM e m v) = #[.int .i64 7, .int .i64 0, .int .i64 0, .int .i64 m.fr, .int .i64 0, .int .i64 0, .int .i64 1, .int .i64 v.w0, .int .i64 v.w1, .int .i64 v.w2, .int .i64 v.w3, .int .i64 v.w4, .int .i64 v.w5, .int .i64 v.w6, .int .i64 v.w7]) := Lib.hid (by simp [readM, fullM, hf])
    clear hf
    go_enter Try.func31, Try.ntmps31
    go_wp2_with (first
      | (go_at_call 46; refine (free_is HF.out p cap _ (H.out.step KB.below) hl).mono ?_; rintro _ w1 ⟨rfl, hb1⟩; have K2 := KB.step hb1; have hc2 := K2.cellsA; clear hc hb1)
      | ((with_reducible refine wpList_store_row (o := ⟨none, _, _, _, _, _⟩) rfl 30 (.tmp 2) (.tmp 13) rfl (w.heap.size + 1) (#[.int .i64 7, .int .i64 0, .int .i64 0, .int .i64 m.fr, .int .i64 0, .int .i64 0, .int .i64 1, .int .i64 v.w0, .int .i64 v.w1, .int .i64 v.w2, .int .i64 v.w3, .int .i64 v.w4, .int .i64 v.w5, .int .i64 v.w6, .int .i64 v.w7]) ?sx ?sy 30 zm ?sg ?si ?so ?s1 ?_); (case sx => rfl); (case sy => rfl); (case sg => exact K2.b); (case si => kernel_rfl); (case so => rfl); (case s1 => kernel_rfl)))
    exact msg_ret Try.results31 rfl rfl (by rw [HX.out]; exact setRow_heap _ _ _ _ _ _ K2.b) (below_setRow K2.below (by omega) _)

set_option maxHeartbeats 2000000 in
theorem forwardS_any (e : En) (p : Option Addr) (cap : Nat) (m : Msg) (v : W8) (w : World) :
    Calls Try.prog 32 #[qv e p cap m v] w (GaveX w (fwdS e m)) := by
  have KB := H2.box w (qcells e p cap m v) zm 68 30
  have hc := KB.cellsA
  go_enter Try.func32, Try.ntmps32
  go_wp2_with ((with_reducible refine wpList_store_row (o := ⟨none, _, _, _, _, _⟩) rfl 30 (.tmp 2) (.tmp 9) rfl (w.heap.size + 1) (#[.int .i64 4, .int .i64 0, .int .i64 0, .int .i64 e.ow, .int .i64 m.fr, .int .i64 0, .int .i64 0, .int .i64 0, .int .i64 0, .int .i64 0, .int .i64 0, .int .i64 0, .int .i64 0, .int .i64 0, .int .i64 0]) ?sx ?sy 30 zm ?sg ?si ?so ?s1 ?_); (case sx => rfl); (case sy => rfl); (case sg => exact KB.b); (case si => kernel_rfl); (case so => rfl); (case s1 => kernel_rfl))
  exact msg_ret Try.results32 rfl rfl (setRow_heap _ _ _ _ _ _ KB.b) (below_setRow KB.below (by omega) _)

set_option maxHeartbeats 2000000 in
theorem putAck_any (e : En) (p : Option Addr) (cap : Nat) (m : Msg) (v : W8) (w : World) :
    Calls Try.prog 38 #[qv e p cap m v] w (GaveX w (ackM m)) := by
  have KB := H2.box w (qcells e p cap m v) zm 68 30
  have hc := KB.cellsA
  go_enter Try.func38, Try.ntmps38
  go_wp2_with ((with_reducible refine wpList_store_row (o := ⟨none, _, _, _, _, _⟩) rfl 30 (.tmp 2) (.tmp 6) rfl (w.heap.size + 1) (#[.int .i64 10, .int .i64 0, .int .i64 0, .int .i64 m.fr, .int .i64 0, .int .i64 0, .int .i64 0, .int .i64 0, .int .i64 0, .int .i64 0, .int .i64 0, .int .i64 0, .int .i64 0, .int .i64 0, .int .i64 0]) ?sx ?sy 30 zm ?sg ?si ?so ?s1 ?_); (case sx => rfl); (case sy => rfl); (case sg => exact KB.b); (case si => kernel_rfl); (case so => rfl); (case s1 => kernel_rfl))
  exact msg_ret Try.results38 rfl rfl (setRow_heap _ _ _ _ _ _ KB.b) (below_setRow KB.below (by omega) _)

set_option maxHeartbeats 2000000 in
theorem writable_any (e : En) (p : Option Addr) (cap : Nat) (m : Msg) (v : W8) (w : World) (hl : e.s.l.length ≤ 5000) (h : NumsIn w p e.s.l) :
    Calls Try.prog 34 #[qv e p cap m v] w (GaveX w (wrtM e m v)) := by
  have KB := H2.box w (qcells e p cap m v) zm 68 30
  have KD := KB.step (below_drew _)
  have HO := Lib.hid (fun w1 (hb : Below w.heap.size w w1) => others_any e p cap m v w1 hl (h.step hb))
  obtain ⟨N, hN⟩ : ∃ N : Int, N = ((e.others m.fr).length : Int) := ⟨_, rfl⟩
  have HX : Hid (mcells (wrtM e m v) = #[.int .i64 7, .int .i64 0, .int .i64 0, .int .i64 m.fr, .int .i64 0, .int .i64 N, .int .i64 4, .int .i64 v.w0, .int .i64 v.w1, .int .i64 v.w2, .int .i64 v.w3, .int .i64 v.w4, .int .i64 v.w5, .int .i64 v.w6, .int .i64 v.w7]) := Lib.hid (by rw [hN]; rfl)
  have HN := Lib.hid hN
  clear h hN
  go_enter Try.func34, Try.ntmps34
  go_wp2_with fail
  refine wp_region_noPanic ?_
  refine wp_region_held_drew (S := fun w' => ∀ o, w'.cell? ⟨w.heap.size, o, none⟩ = (qcells e p cap m v)[o]?) (by kernel_rfl) KD.cellsA (fun hh => ?_)
  refine wpAnyH_take (fuel := 9) (i := 0) (oi := ⟨some 3, _, _, _, _, _⟩) (v := .pointer (some ⟨w.heap.size, 5, none⟩)) rfl (by kernel_rfl) (by kernel_rfl) (by kernel_rfl) (fun _ _ _ h => h) (Or.inl ⟨by rfl, ?_⟩) hh ?_
  · intro w' _
    go_simp
  simp only [Act.put, List.setIfInBounds_toArray, List.set_cons_zero, List.set_cons_succ]
  refine wpAnyH_take (fuel := 8) (i := 1) (oi := ⟨some 4, _, _, _, _, _⟩) (v := .pointer (some ⟨w.heap.size, 7, none⟩)) rfl (by kernel_rfl) (by kernel_rfl) (by kernel_rfl) (fun _ _ _ h => h) (Or.inl ⟨by rfl, ?_⟩) hh ?_
  · intro w' _
    go_simp
  simp only [Act.put, List.setIfInBounds_toArray, List.set_cons_zero, List.set_cons_succ]
  refine wpAnyH_take (fuel := 7) (i := 2) (oi := ⟨some 5, _, _, _, _, _⟩) (v := .int .i64 m.fr) rfl (by kernel_rfl) (by kernel_rfl) (by kernel_rfl) (fun _ _ _ h => h) (Or.inl ⟨by rfl, ?_⟩) hh ?_
  · rintro w' c0
    go_simp
  simp only [Act.put, List.setIfInBounds_toArray, List.set_cons_zero, List.set_cons_succ]
  refine wpAnyH_take (fuel := 6) (i := 3) (oi := ⟨some 6, _, _, _, _, _⟩) (v := .agg (qcells e p cap m v)) rfl (by kernel_rfl) (by kernel_rfl) (by kernel_rfl) (fun _ _ _ h => h) (yields_load_at (by rfl) 68 (.tmp 1) rfl w.heap.size 0 rfl (qcells e p cap m v) _ (fun w' c0 => range_of c0) Try.underlying68 rfl (by kernel_rfl)) hh ?_
  simp only [Act.put, List.setIfInBounds_toArray, List.set_cons_zero, List.set_cons_succ]
  refine wpAnyH_take (fuel := 5) (i := 6) (oi := ⟨some 9, _, _, _, _, _⟩) (v := .pointer (some ⟨w.heap.size, 20, none⟩)) rfl (by kernel_rfl) (by kernel_rfl) (by kernel_rfl) (fun _ _ _ h => h) (Or.inl ⟨by rfl, ?_⟩) hh ?_
  · intro w' _
    go_simp
  simp only [Act.put, List.setIfInBounds_toArray, List.set_cons_zero, List.set_cons_succ]
  refine wpAnyH_take (fuel := 4) (i := 7) (oi := ⟨some 10, _, _, _, _, _⟩) (v := .agg (wcells v)) rfl (by kernel_rfl) (by kernel_rfl) (by kernel_rfl) (fun _ _ _ h => h) (Or.inl ⟨by rfl, ?_⟩) hh ?_
  · rintro w' c0
    go_simp
  simp only [Act.put, List.setIfInBounds_toArray, List.set_cons_zero, List.set_cons_succ]
  refine wpAnyH_ready (fuel := 3) (rs := [4]) (by kernel_rfl) (by simp) ?_
  refine AllReadyH.cons (o := ⟨some 7, _, _, _, _, _⟩) rfl (fun K hK => ?_) AllReadyH.nil
  go_simp
  refine (HO.out _ KD.below).mono ?_
  rintro _ w1 ⟨pt, ct, rfl, -, hb1⟩
  have K2 := KD.step hb1
  show K _ _
  refine hK.out _ _ (K2.cellsA) (fun hh2 => ?_)
  clear hK K hh
  try simp only [Act.put, List.setIfInBounds_toArray, List.set_cons_zero, List.set_cons_succ]
  refine wpAnyH_take (fuel := 2) (i := 5) (oi := ⟨some 8, _, _, _, _, _⟩) (v := .int .i64 N) rfl (by kernel_rfl) (by kernel_rfl) (by kernel_rfl) (fun _ _ _ h => h) (Or.inl ⟨by rfl, ?_⟩) hh2 ?_
  · intro w' _
    (go_simp; rw [HN.out])
  simp only [Act.put, List.setIfInBounds_toArray, List.set_cons_zero, List.set_cons_succ]
  refine wpAnyH_take (fuel := 1) (i := 8) (oi := ⟨some 11, _, _, _, _, _⟩) (v := .agg #[.int .i64 7, .int .i64 0, .int .i64 0, .int .i64 m.fr, .int .i64 0, .int .i64 N, .int .i64 4, .int .i64 v.w0, .int .i64 v.w1, .int .i64 v.w2, .int .i64 v.w3, .int .i64 v.w4, .int .i64 v.w5, .int .i64 v.w6, .int .i64 v.w7]) rfl (by kernel_rfl) (by kernel_rfl) (by kernel_rfl) (fun _ _ _ h => h) (Or.inl ⟨by rfl, ?_⟩) hh2 ?_
  · intro w' _
    go_simp
  simp only [Act.put, List.setIfInBounds_toArray, List.set_cons_zero, List.set_cons_succ]
  refine wpAnyH_ready (fuel := 0) (rs := [9]) (by kernel_rfl) (by simp) ?_
  refine AllReadyH.cons (o := ⟨none, _, _, _, _, _⟩) rfl (fun K hK => ?_) AllReadyH.nil
  rw [if_pos (by rfl)]
  refine wp_store_row 30 (.tmp 2) (.tmp 11) rfl (w.heap.size + 1) (#[.int .i64 7, .int .i64 0, .int .i64 0, .int .i64 m.fr, .int .i64 0, .int .i64 N, .int .i64 4, .int .i64 v.w0, .int .i64 v.w1, .int .i64 v.w2, .int .i64 v.w3, .int .i64 v.w4, .int .i64 v.w5, .int .i64 v.w6, .int .i64 v.w7]) rfl rfl 30 zm K2.b (by kernel_rfl) rfl (by kernel_rfl) ?_
  have K3 := below_setRow K2.below (show w.heap.size ≤ w.heap.size + 1 by omega) (#[.int .i64 7, .int .i64 0, .int .i64 0, .int .i64 m.fr, .int .i64 0, .int .i64 N, .int .i64 4, .int .i64 v.w0, .int .i64 v.w1, .int .i64 v.w2, .int .i64 v.w3, .int .i64 v.w4, .int .i64 v.w5, .int .i64 v.w6, .int .i64 v.w7])
  have HC := setRow_heap _ (w.heap.size + 1) _ (#[.int .i64 7, .int .i64 0, .int .i64 0, .int .i64 m.fr, .int .i64 0, .int .i64 N, .int .i64 4, .int .i64 v.w0, .int .i64 v.w1, .int .i64 v.w2, .int .i64 v.w3, .int .i64 v.w4, .int .i64 v.w5, .int .i64 v.w6, .int .i64 v.w7]) 30 (0, 0) K2.b
  have hc3 : ∀ o, (w1.setRow (w.heap.size + 1) (#[.int .i64 7, .int .i64 0, .int .i64 0, .int .i64 m.fr, .int .i64 0, .int .i64 N, .int .i64 4, .int .i64 v.w0, .int .i64 v.w1, .int .i64 v.w2, .int .i64 v.w3, .int .i64 v.w4, .int .i64 v.w5, .int .i64 v.w6, .int .i64 v.w7])).cell? ⟨w.heap.size, o, none⟩ = (qcells e p cap m v)[o]? := fun o => (World.cell?_of_block (a := ⟨w.heap.size, o, none⟩) (setRow_other w1 (w.heap.size + 1) w.heap.size _ (by omega))).trans (K2.cellsA o)
  refine hK.out _ _ (hc3) (fun hh3 => ?_)
  clear hK K hh2
  simp only [Act.put]
  refine wpAnyH_done (by kernel_rfl) ?_ _
  refine NoPanic.normal ?_
  clear hh3
  have HC := Lib.hid HC
  have K3 := Lib.hid K3
  clear hc3 K2 hb1 KD KB
  generalize World.setRow _ _ _ = w3 at HC K3 ⊢
  go_wp2_with fail
  exact msg_ret Try.results34 rfl rfl (by rw [HX.out]; exact HC.out) K3.out

set_option maxHeartbeats 2000000 in
theorem forwardM_any (e : En) (p : Option Addr) (cap : Nat) (m : Msg) (v : W8) (w : World) (hl : e.s.l.length ≤ 5000) (h : NumsIn w p e.s.l) :
    Calls Try.prog 35 #[qv e p cap m v] w (GaveX w (fwdM e m)) := by
  have KB := H2.box w (qcells e p cap m v) zm 68 30
  have KD := KB.step (below_drew _)
  have HO := Lib.hid (fun w1 (hb : Below w.heap.size w w1) => others_any e p cap m v w1 hl (h.step hb))
  obtain ⟨N, hN⟩ : ∃ N : Int, N = ((e.others m.fr).length : Int) := ⟨_, rfl⟩
  have HX : Hid (mcells (fwdM e m) = #[.int .i64 5, .int .i64 0, .int .i64 0, .int .i64 e.ow, .int .i64 m.fr, .int .i64 N, .int .i64 0, .int .i64 0, .int .i64 0, .int .i64 0, .int .i64 0, .int .i64 0, .int .i64 0, .int .i64 0, .int .i64 0]) := Lib.hid (by rw [hN]; rfl)
  have HN := Lib.hid hN
  clear h hN
  go_enter Try.func35, Try.ntmps35
  go_wp2_with fail
  refine wp_region_noPanic ?_
  refine wp_region_held_drew (S := fun w' => ∀ o, w'.cell? ⟨w.heap.size, o, none⟩ = (qcells e p cap m v)[o]?) (by kernel_rfl) KD.cellsA (fun hh => ?_)
  refine wpAnyH_take (fuel := 10) (i := 0) (oi := ⟨some 3, _, _, _, _, _⟩) (v := .pointer (some ⟨w.heap.size, 0, none⟩)) rfl (by kernel_rfl) (by kernel_rfl) (by kernel_rfl) (fun _ _ _ h => h) (Or.inl ⟨by rfl, ?_⟩) hh ?_
  · intro w' _
    go_simp
  simp only [Act.put, List.setIfInBounds_toArray, List.set_cons_zero, List.set_cons_succ]
  refine wpAnyH_take (fuel := 9) (i := 1) (oi := ⟨some 4, _, _, _, _, _⟩) (v := .pointer (some ⟨w.heap.size, 0, none⟩)) rfl (by kernel_rfl) (by kernel_rfl) (by kernel_rfl) (fun _ _ _ h => h) (Or.inl ⟨by rfl, ?_⟩) hh ?_
  · intro w' _
    go_simp
  simp only [Act.put, List.setIfInBounds_toArray, List.set_cons_zero, List.set_cons_succ]
  refine wpAnyH_take (fuel := 8) (i := 2) (oi := ⟨some 5, _, _, _, _, _⟩) (v := .int .i64 e.ow) rfl (by kernel_rfl) (by kernel_rfl) (by kernel_rfl) (fun _ _ _ h => h) (Or.inl ⟨by rfl, ?_⟩) hh ?_
  · rintro w' c0
    go_simp
  simp only [Act.put, List.setIfInBounds_toArray, List.set_cons_zero, List.set_cons_succ]
  refine wpAnyH_take (fuel := 7) (i := 3) (oi := ⟨some 6, _, _, _, _, _⟩) (v := .pointer (some ⟨w.heap.size, 5, none⟩)) rfl (by kernel_rfl) (by kernel_rfl) (by kernel_rfl) (fun _ _ _ h => h) (Or.inl ⟨by rfl, ?_⟩) hh ?_
  · intro w' _
    go_simp
  simp only [Act.put, List.setIfInBounds_toArray, List.set_cons_zero, List.set_cons_succ]
  refine wpAnyH_take (fuel := 6) (i := 4) (oi := ⟨some 7, _, _, _, _, _⟩) (v := .pointer (some ⟨w.heap.size, 7, none⟩)) rfl (by kernel_rfl) (by kernel_rfl) (by kernel_rfl) (fun _ _ _ h => h) (Or.inl ⟨by rfl, ?_⟩) hh ?_
  · intro w' _
    go_simp
  simp only [Act.put, List.setIfInBounds_toArray, List.set_cons_zero, List.set_cons_succ]
  refine wpAnyH_take (fuel := 5) (i := 5) (oi := ⟨some 8, _, _, _, _, _⟩) (v := .int .i64 m.fr) rfl (by kernel_rfl) (by kernel_rfl) (by kernel_rfl) (fun _ _ _ h => h) (Or.inl ⟨by rfl, ?_⟩) hh ?_
  · rintro w' c0
    go_simp
  simp only [Act.put, List.setIfInBounds_toArray, List.set_cons_zero, List.set_cons_succ]
  refine wpAnyH_take (fuel := 4) (i := 6) (oi := ⟨some 9, _, _, _, _, _⟩) (v := .agg (qcells e p cap m v)) rfl (by kernel_rfl) (by kernel_rfl) (by kernel_rfl) (fun _ _ _ h => h) (yields_load_at (by rfl) 68 (.tmp 1) rfl w.heap.size 0 rfl (qcells e p cap m v) _ (fun w' c0 => range_of c0) Try.underlying68 rfl (by kernel_rfl)) hh ?_
  simp only [Act.put, List.setIfInBounds_toArray, List.set_cons_zero, List.set_cons_succ]
  refine wpAnyH_ready (fuel := 3) (rs := [7]) (by kernel_rfl) (by simp) ?_
  refine AllReadyH.cons (o := ⟨some 10, _, _, _, _, _⟩) rfl (fun K hK => ?_) AllReadyH.nil
  go_simp
  refine (HO.out _ KD.below).mono ?_
  rintro _ w1 ⟨pt, ct, rfl, -, hb1⟩
  have K2 := KD.step hb1
  show K _ _
  refine hK.out _ _ (K2.cellsA) (fun hh2 => ?_)
  clear hK K hh
  try simp only [Act.put, List.setIfInBounds_toArray, List.set_cons_zero, List.set_cons_succ]
  refine wpAnyH_take (fuel := 2) (i := 8) (oi := ⟨some 11, _, _, _, _, _⟩) (v := .int .i64 N) rfl (by kernel_rfl) (by kernel_rfl) (by kernel_rfl) (fun _ _ _ h => h) (Or.inl ⟨by rfl, ?_⟩) hh2 ?_
  · intro w' _
    (go_simp; rw [HN.out])
  simp only [Act.put, List.setIfInBounds_toArray, List.set_cons_zero, List.set_cons_succ]
  refine wpAnyH_take (fuel := 1) (i := 9) (oi := ⟨some 12, _, _, _, _, _⟩) (v := .agg #[.int .i64 5, .int .i64 0, .int .i64 0, .int .i64 e.ow, .int .i64 m.fr, .int .i64 N, .int .i64 0, .int .i64 0, .int .i64 0, .int .i64 0, .int .i64 0, .int .i64 0, .int .i64 0, .int .i64 0, .int .i64 0]) rfl (by kernel_rfl) (by kernel_rfl) (by kernel_rfl) (fun _ _ _ h => h) (Or.inl ⟨by rfl, ?_⟩) hh2 ?_
  · intro w' _
    go_simp
  simp only [Act.put, List.setIfInBounds_toArray, List.set_cons_zero, List.set_cons_succ]
  refine wpAnyH_ready (fuel := 0) (rs := [10]) (by kernel_rfl) (by simp) ?_
  refine AllReadyH.cons (o := ⟨none, _, _, _, _, _⟩) rfl (fun K hK => ?_) AllReadyH.nil
  rw [if_pos (by rfl)]
  refine wp_store_row 30 (.tmp 2) (.tmp 12) rfl (w.heap.size + 1) (#[.int .i64 5, .int .i64 0, .int .i64 0, .int .i64 e.ow, .int .i64 m.fr, .int .i64 N, .int .i64 0, .int .i64 0, .int .i64 0, .int .i64 0, .int .i64 0, .int .i64 0, .int .i64 0, .int .i64 0, .int .i64 0]) rfl rfl 30 zm K2.b (by kernel_rfl) rfl (by kernel_rfl) ?_
  have K3 := below_setRow K2.below (show w.heap.size ≤ w.heap.size + 1 by omega) (#[.int .i64 5, .int .i64 0, .int .i64 0, .int .i64 e.ow, .int .i64 m.fr, .int .i64 N, .int .i64 0, .int .i64 0, .int .i64 0, .int .i64 0, .int .i64 0, .int .i64 0, .int .i64 0, .int .i64 0, .int .i64 0])
  have HC := setRow_heap _ (w.heap.size + 1) _ (#[.int .i64 5, .int .i64 0, .int .i64 0, .int .i64 e.ow, .int .i64 m.fr, .int .i64 N, .int .i64 0, .int .i64 0, .int .i64 0, .int .i64 0, .int .i64 0, .int .i64 0, .int .i64 0, .int .i64 0, .int .i64 0]) 30 (0, 0) K2.b
  have hc3 : ∀ o, (w1.setRow (w.heap.size + 1) (#[.int .i64 5, .int .i64 0, .int .i64 0, .int .i64 e.ow, .int .i64 m.fr, .int .i64 N, .int .i64 0, .int .i64 0, .int .i64 0, .int .i64 0, .int .i64 0, .int .i64 0, .int .i64 0, .int .i64 0, .int .i64 0])).cell? ⟨w.heap.size, o, none⟩ = (qcells e p cap m v)[o]? := fun o => (World.cell?_of_block (a := ⟨w.heap.size, o, none⟩) (setRow_other w1 (w.heap.size + 1) w.heap.size _ (by omega))).trans (K2.cellsA o)
  refine hK.out _ _ (hc3) (fun hh3 => ?_)
  clear hK K hh2
  simp only [Act.put]
  refine wpAnyH_done (by kernel_rfl) ?_ _
  refine NoPanic.normal ?_
  clear hh3
  have HC := Lib.hid HC
  have K3 := Lib.hid K3
  clear hc3 K2 hb1 KD KB
  generalize World.setRow _ _ _ = w3 at HC K3 ⊢
  go_wp2_with fail
  exact msg_ret Try.results35 rfl rfl (by rw [HX.out]; exact HC.out) K3.out

set_option maxHeartbeats 2000000 in
theorem grant_any (e : En) (p : Option Addr) (cap : Nat) (m : Msg) (v : W8) (w : World) (hl : e.s.l.length ≤ 5000) (h : NumsIn w p e.s.l) :
    Calls Try.prog 36 #[qv e p cap m v] w (GaveX w (grtM e m)) := by
  have KB := H2.box w (qcells e p cap m v) zm 68 30
  have KD := KB.step (below_drew _)
  have HO := Lib.hid (fun w1 (hb : Below w.heap.size w w1) => others_any e p cap m v w1 hl (h.step hb))
  obtain ⟨N, hN⟩ : ∃ N : Int, N = ((e.others m.fr).length : Int) := ⟨_, rfl⟩
  have HX : Hid (mcells (grtM e m) = #[.int .i64 8, .int .i64 0, .int .i64 0, .int .i64 m.fr, .int .i64 0, .int .i64 N, .int .i64 0, .int .i64 0, .int .i64 0, .int .i64 0, .int .i64 0, .int .i64 0, .int .i64 0, .int .i64 0, .int .i64 0]) := Lib.hid (by rw [hN]; rfl)
  have HN := Lib.hid hN
  clear h hN
  go_enter Try.func36, Try.ntmps36
  go_wp2_with fail
  refine wp_region_noPanic ?_
  refine wp_region_held_drew (S := fun w' => ∀ o, w'.cell? ⟨w.heap.size, o, none⟩ = (qcells e p cap m v)[o]?) (by kernel_rfl) KD.cellsA (fun hh => ?_)
  refine wpAnyH_take (fuel := 7) (i := 0) (oi := ⟨some 3, _, _, _, _, _⟩) (v := .pointer (some ⟨w.heap.size, 5, none⟩)) rfl (by kernel_rfl) (by kernel_rfl) (by kernel_rfl) (fun _ _ _ h => h) (Or.inl ⟨by rfl, ?_⟩) hh ?_
  · intro w' _
    go_simp
  simp only [Act.put, List.setIfInBounds_toArray, List.set_cons_zero, List.set_cons_succ]
  refine wpAnyH_take (fuel := 6) (i := 1) (oi := ⟨some 4, _, _, _, _, _⟩) (v := .pointer (some ⟨w.heap.size, 7, none⟩)) rfl (by kernel_rfl) (by kernel_rfl) (by kernel_rfl) (fun _ _ _ h => h) (Or.inl ⟨by rfl, ?_⟩) hh ?_
  · intro w' _
    go_simp
  simp only [Act.put, List.setIfInBounds_toArray, List.set_cons_zero, List.set_cons_succ]
  refine wpAnyH_take (fuel := 5) (i := 2) (oi := ⟨some 5, _, _, _, _, _⟩) (v := .int .i64 m.fr) rfl (by kernel_rfl) (by kernel_rfl) (by kernel_rfl) (fun _ _ _ h => h) (Or.inl ⟨by rfl, ?_⟩) hh ?_
  · rintro w' c0
    go_simp
  simp only [Act.put, List.setIfInBounds_toArray, List.set_cons_zero, List.set_cons_succ]
  refine wpAnyH_take (fuel := 4) (i := 3) (oi := ⟨some 6, _, _, _, _, _⟩) (v := .agg (qcells e p cap m v)) rfl (by kernel_rfl) (by kernel_rfl) (by kernel_rfl) (fun _ _ _ h => h) (yields_load_at (by rfl) 68 (.tmp 1) rfl w.heap.size 0 rfl (qcells e p cap m v) _ (fun w' c0 => range_of c0) Try.underlying68 rfl (by kernel_rfl)) hh ?_
  simp only [Act.put, List.setIfInBounds_toArray, List.set_cons_zero, List.set_cons_succ]
  refine wpAnyH_ready (fuel := 3) (rs := [4]) (by kernel_rfl) (by simp) ?_
  refine AllReadyH.cons (o := ⟨some 7, _, _, _, _, _⟩) rfl (fun K hK => ?_) AllReadyH.nil
  go_simp
  refine (HO.out _ KD.below).mono ?_
  rintro _ w1 ⟨pt, ct, rfl, -, hb1⟩
  have K2 := KD.step hb1
  show K _ _
  refine hK.out _ _ (K2.cellsA) (fun hh2 => ?_)
  clear hK K hh
  try simp only [Act.put, List.setIfInBounds_toArray, List.set_cons_zero, List.set_cons_succ]
  refine wpAnyH_take (fuel := 2) (i := 5) (oi := ⟨some 8, _, _, _, _, _⟩) (v := .int .i64 N) rfl (by kernel_rfl) (by kernel_rfl) (by kernel_rfl) (fun _ _ _ h => h) (Or.inl ⟨by rfl, ?_⟩) hh2 ?_
  · intro w' _
    (go_simp; rw [HN.out])
  simp only [Act.put, List.setIfInBounds_toArray, List.set_cons_zero, List.set_cons_succ]
  refine wpAnyH_take (fuel := 1) (i := 6) (oi := ⟨some 9, _, _, _, _, _⟩) (v := .agg #[.int .i64 8, .int .i64 0, .int .i64 0, .int .i64 m.fr, .int .i64 0, .int .i64 N, .int .i64 0, .int .i64 0, .int .i64 0, .int .i64 0, .int .i64 0, .int .i64 0, .int .i64 0, .int .i64 0, .int .i64 0]) rfl (by kernel_rfl) (by kernel_rfl) (by kernel_rfl) (fun _ _ _ h => h) (Or.inl ⟨by rfl, ?_⟩) hh2 ?_
  · intro w' _
    go_simp
  simp only [Act.put, List.setIfInBounds_toArray, List.set_cons_zero, List.set_cons_succ]
  refine wpAnyH_ready (fuel := 0) (rs := [7]) (by kernel_rfl) (by simp) ?_
  refine AllReadyH.cons (o := ⟨none, _, _, _, _, _⟩) rfl (fun K hK => ?_) AllReadyH.nil
  rw [if_pos (by rfl)]
  refine wp_store_row 30 (.tmp 2) (.tmp 9) rfl (w.heap.size + 1) (#[.int .i64 8, .int .i64 0, .int .i64 0, .int .i64 m.fr, .int .i64 0, .int .i64 N, .int .i64 0, .int .i64 0, .int .i64 0, .int .i64 0, .int .i64 0, .int .i64 0, .int .i64 0, .int .i64 0, .int .i64 0]) rfl rfl 30 zm K2.b (by kernel_rfl) rfl (by kernel_rfl) ?_
  have K3 := below_setRow K2.below (show w.heap.size ≤ w.heap.size + 1 by omega) (#[.int .i64 8, .int .i64 0, .int .i64 0, .int .i64 m.fr, .int .i64 0, .int .i64 N, .int .i64 0, .int .i64 0, .int .i64 0, .int .i64 0, .int .i64 0, .int .i64 0, .int .i64 0, .int .i64 0, .int .i64 0])
  have HC := setRow_heap _ (w.heap.size + 1) _ (#[.int .i64 8, .int .i64 0, .int .i64 0, .int .i64 m.fr, .int .i64 0, .int .i64 N, .int .i64 0, .int .i64 0, .int .i64 0, .int .i64 0, .int .i64 0, .int .i64 0, .int .i64 0, .int .i64 0, .int .i64 0]) 30 (0, 0) K2.b
  have hc3 : ∀ o, (w1.setRow (w.heap.size + 1) (#[.int .i64 8, .int .i64 0, .int .i64 0, .int .i64 m.fr, .int .i64 0, .int .i64 N, .int .i64 0, .int .i64 0, .int .i64 0, .int .i64 0, .int .i64 0, .int .i64 0, .int .i64 0, .int .i64 0, .int .i64 0])).cell? ⟨w.heap.size, o, none⟩ = (qcells e p cap m v)[o]? := fun o => (World.cell?_of_block (a := ⟨w.heap.size, o, none⟩) (setRow_other w1 (w.heap.size + 1) w.heap.size _ (by omega))).trans (K2.cellsA o)
  refine hK.out _ _ (hc3) (fun hh3 => ?_)
  clear hK K hh2
  simp only [Act.put]
  refine wpAnyH_done (by kernel_rfl) ?_ _
  refine NoPanic.normal ?_
  clear hh3
  have HC := Lib.hid HC
  have K3 := Lib.hid K3
  clear hc3 K2 hb1 KD KB
  generalize World.setRow _ _ _ = w3 at HC K3 ⊢
  go_wp2_with fail
  exact msg_ret Try.results36 rfl rfl (by rw [HX.out]; exact HC.out) K3.out

end Go.Proofs.Ytfnemldjhfcalaa
