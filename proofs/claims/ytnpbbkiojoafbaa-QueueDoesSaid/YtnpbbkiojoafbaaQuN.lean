/-
  An operation of the law upon a queue.
-/
import Derived.Test.YtnpbbkiojoafbaaQuL
import Derived.Deep.RegionHeld3
namespace Go.Proofs.Ytnpbbkiojoafbaa
open Go Go.RowKit

theorem results_cell_three {P : Program} {fn : Func} {p q r : Tmp} {ty : TypeId} (h : fn.results = #[.cell p ty, .tmp q, .tmp r]) (tmps : Array Value) (w : World) (g : Nat) (t : TypeId) (cs : Array Value) (fr : Nat × Nat) (d : TypeDesc)
    (hp : tmps.getD p undef = .pointer (some ⟨g, 0, none⟩)) (hg : w.heap[g]? = some (.cells cs t fr))
    (hu : P.underlying ty = some d) (hd : (match d with | .struct _ | .array _ _ => true | _ => false) = true) (hi : (P.info? ty).map (·.size) = some cs.size) :
    (results fn tmps).run P w = .ok (.tuple #[.agg cs, tmps.getD q undef, tmps.getD r undef]) w := by
  have hp' : tmps[p]?.getD undef = .pointer (some ⟨g, 0, none⟩) := by simpa using hp
  simp [results, h, hp', asAddr, run_loadVar_row w g t ty cs fr d hg hu hd hi]
/-- What an operation gives. -/
def RetD (x : Msg) (q : Bool) (n : Int) (P : World → Prop) (e : Ending) (w' : World) : Prop := e = .returned (.tuple #[mv x, .bool q, .int .i64 n]) ∧ P w'
theorem do_ret {wr : World} {x : Msg} {q : Bool} {n : Int} {P : World → Prop} {a : Act} {g : Nat} (hp : a.tmps.getD 4 undef = .pointer (some ⟨g, 0, none⟩)) (hq : a.tmps.getD 5 undef = .bool q) (hn : a.tmps.getD 6 undef = .int .i64 n) (hd : a.defers = []) (hg : wr.heap[g]? = some (.cells (mcells x) 35 (0, 0))) (hb : P wr) :
    bodyPost Try.prog Try.f10 (RetD x q n P) Exit.ret a wr :=
  bodyPost_ret (v := .tuple #[.agg (mcells x), a.tmps.getD 5 undef, a.tmps.getD 6 undef]) (results_cell_three Try.results10 _ _ g 35 _ (0, 0) _ hp hg Try.underlying35 rfl (by kernel_rfl)) hd ⟨by rw [hq, hn], hb⟩
variable {w0 wr wr' : World} {b : Nat} {room : Int} {l : List En} {X : Nat → Obj → Prop} {bx : List (Nat × Obj)}
/-- A message within an operation's cells. -/
theorem op_msg {w : World} {g : Nat} {x : Qo} {T : TypeId} (h : w.heap[g]? = some (.cells (ocells x) T (0, 0))) : w.rangeAt g 2 (mcells x.m).toList := fun j v hv => by
  rw [blk_cell h]
  have hj := (List.getElem?_eq_some_iff.1 hv).1
  simp at hj
  rcases (show j = 0 ∨ j = 1 ∨ j = 2 ∨ j = 3 ∨ j = 4 ∨ j = 5 ∨ j = 6 ∨ j = 7 ∨ j = 8 ∨ j = 9 ∨ j = 10 ∨ j = 11 ∨ j = 12 ∨ j = 13 ∨ j = 14 by omega) with rfl | rfl | rfl | rfl | rfl | rfl | rfl | rfl | rfl | rfl | rfl | rfl | rfl | rfl | rfl
  all_goals exact hv

set_option maxHeartbeats 1000000 in
theorem do_add (h : OwnP w0 b room l X bx wr) (x : Qo) (k0 : (x.k == 0) = true) {n : Int} {m : List En} (e : addP room l x.m = (n, m)) :
    Calls Try.prog 10 #[.pointer (some ⟨b, 0, none⟩), .agg (ocells x)] wr (RetD z0 false n (OwnP w0 b room m X bx)) := by
  have HS := Lib.hid (h.add2 (.cells (ocells x) 38) (.cells zmc 35))
  have hA := HS.out.cells (List.mem_cons_of_mem _ (List.mem_cons_self ..))
  have HR := Lib.hid (op_msg (HS.out.box (List.mem_cons_of_mem _ (List.mem_cons_self ..))))
  have HE := Lib.hid e
  clear h e
  go_enter Try.func10, Try.ntmps10
  go_wp2_with (first | ((with_reducible refine wpList_load_at (op := ⟨some 16, _, _, _, _, _⟩) rfl 35 (.tmp 15) rfl wr.heap.size 2 ?lx (mcells x.m) _ ?lc Try.underlying35 ?ld ?li ?_); (case lx => rfl); (case lc => exact HR.out); (case ld => rfl); (case li => kernel_rfl)) | fail)
  refine (HS.out.addQ x.m HE.out).mono ?_
  rintro e w1 ⟨rfl, ho⟩
  have H1 := Lib.hid ho
  have h4 := H1.out.box (List.mem_cons_self ..)
  clear ho hA HS HE HR
  go_wp2_with (((with_reducible refine wpList_store_row (o := ⟨none, _, _, _, _, _⟩) rfl 35 (.tmp 4) (.tmp 13) rfl (wr.heap.size + 1) zmc ?sx ?sy 35 ?old ?sg ?si ?so ?s1 ?_); (case sx => rfl); (case sy => rfl); (case old => exact zmc); (case sg => exact h4); (case si => kernel_rfl); (case so => rfl); (case s1 => kernel_rfl)))
  exact do_ret rfl rfl rfl rfl (setRow_heap _ _ _ _ _ _ h4) H1.out.setRow.drop.drop

set_option maxHeartbeats 1000000 in
theorem do_start (h : OwnP w0 b room l X bx wr) (x : Qo) (hs : MIn wr x.p x.l) (hl : x.l.length ≤ 500) (k0 : (x.k == 0) = false) (k1 : (x.k == 1) = true) {n : Int} {m : List En} (e : startP l x.n x.l = (n, m)) :
    Calls Try.prog 10 #[.pointer (some ⟨b, 0, none⟩), .agg (ocells x)] wr (RetD z0 false n (OwnP w0 b room m X bx)) := by
  have HS := Lib.hid (h.add2 (.cells (ocells x) 38) (.cells zmc 35))
  have hA := HS.out.cells (List.mem_cons_of_mem _ (List.mem_cons_self ..))
  have HR := Lib.hid (op_msg (HS.out.box (List.mem_cons_of_mem _ (List.mem_cons_self ..))))
  have HM := Lib.hid (hs.step (balloc2 wr (.cells (ocells x) 38) (.cells zmc 35)))
  have HL := Lib.hid hl
  clear hs hl
  have HE := Lib.hid e
  clear h e
  go_enter Try.func10, Try.ntmps10
  go_wp2_with fail
  refine (HS.out.startQ x.n x.p x.c x.l HM.out HL.out HE.out).mono ?_
  rintro e w1 ⟨rfl, ho⟩
  have H1 := Lib.hid ho
  have h4 := H1.out.box (List.mem_cons_self ..)
  clear ho hA HS HE HR
  go_wp2_with (((with_reducible refine wpList_store_row (o := ⟨none, _, _, _, _, _⟩) rfl 35 (.tmp 4) (.tmp 20) rfl (wr.heap.size + 1) zmc ?sx ?sy 35 ?old ?sg ?si ?so ?s1 ?_); (case sx => rfl); (case sy => rfl); (case old => exact zmc); (case sg => exact h4); (case si => kernel_rfl); (case so => rfl); (case s1 => kernel_rfl)))
  exact do_ret rfl rfl rfl rfl (setRow_heap _ _ _ _ _ _ h4) H1.out.setRow.drop.drop

set_option maxHeartbeats 1000000 in
theorem do_fin (h : OwnP w0 b room l X bx wr) (x : Qo) (k0 : (x.k == 0) = false) (k1 : (x.k == 1) = false) (k2 : (x.k == 2) = false) {n : Int} {m : List En} (e : finP l x.m.ln x.m.fr = (n, m)) :
    Calls Try.prog 10 #[.pointer (some ⟨b, 0, none⟩), .agg (ocells x)] wr (RetD z0 false n (OwnP w0 b room m X bx)) := by
  have HS := Lib.hid (h.add2 (.cells (ocells x) 38) (.cells zmc 35))
  have hA := HS.out.cells (List.mem_cons_of_mem _ (List.mem_cons_self ..))
  have HR := Lib.hid (op_msg (HS.out.box (List.mem_cons_of_mem _ (List.mem_cons_self ..))))
  have HE := Lib.hid e
  clear h e
  go_enter Try.func10, Try.ntmps10
  go_wp2_with fail
  refine (HS.out.finQ x.m.ln x.m.fr HE.out).mono ?_
  rintro e w1 ⟨rfl, ho⟩
  have H1 := Lib.hid ho
  have h4 := H1.out.box (List.mem_cons_self ..)
  clear ho hA HS HE HR
  go_wp2_with (((with_reducible refine wpList_store_row (o := ⟨none, _, _, _, _, _⟩) rfl 35 (.tmp 4) (.tmp 42) rfl (wr.heap.size + 1) zmc ?sx ?sy 35 ?old ?sg ?si ?so ?s1 ?_); (case sx => rfl); (case sy => rfl); (case old => exact zmc); (case sg => exact h4); (case si => kernel_rfl); (case so => rfl); (case s1 => kernel_rfl)))
  exact do_ret rfl rfl rfl rfl (setRow_heap _ _ _ _ _ _ h4) H1.out.setRow.drop.drop

set_option maxHeartbeats 2000000 in
theorem do_sent (h : OwnP w0 b room l X bx wr) (x : Qo) (k0 : (x.k == 0) = false) (k1 : (x.k == 1) = false) (k2 : (x.k == 2) = true) {y : Msg} {q : Bool} {n : Int} {m : List En} (e1 : nextP l x.n = (y, q)) (e : sentP l x.n = (n, m)) :
    Calls Try.prog 10 #[.pointer (some ⟨b, 0, none⟩), .agg (ocells x)] wr (RetD y q n (OwnP w0 b room m X bx)) := by
  have HS := Lib.hid (h.add2 (.cells (ocells x) 38) (.cells zmc 35))
  have hA := HS.out.cells (List.mem_cons_of_mem _ (List.mem_cons_self ..))
  have HE := Lib.hid e
  have HE1 := Lib.hid e1
  clear h e e1
  go_enter Try.func10, Try.ntmps10
  go_wp2_with fail
  refine (HS.out.nextQ x.n HE1.out).mono ?_
  rintro e w1 ⟨rfl, hb1⟩
  have H1 := Lib.hid (HS.out.step hb1)
  clear hA HS HE1 hb1
  go_wp2_with fail
  have H2 := Lib.hid (H1.out.add (.cells (mcells y) 35))
  obtain ⟨w2, hw2⟩ : ∃ w2, w2 = w1.alloc (.cells (mcells y) 35) := ⟨_, rfl⟩
  obtain ⟨k7, hk7⟩ : ∃ k7, k7 = w1.heap.size := ⟨_, rfl⟩
  rw [← hw2, ← hk7] at H2
  rw [← hw2, ← hk7]
  clear hw2 hk7 H1
  refine wp_region_noPanic ?_
  refine wp_region_held_drew (S := fun w' => (∀ o, w'.cell? ⟨k7, o, none⟩ = (mcells y)[o]?) ∧ (∀ o, w'.cell? ⟨wr.heap.size, o, none⟩ = (ocells x)[o]?)) (by kernel_rfl) ⟨H2.out.cells (List.mem_cons_self ..), H2.out.cells (List.mem_cons_of_mem _ (List.mem_cons_of_mem _ (List.mem_cons_self ..)))⟩ (fun hh0 => ?_)
  replace H2 := Lib.hid H2.out.drew
  generalize World.drew w2 = w2 at *
  refine wpAnyH_take (fuel := 8) (i := 0) (oi := ⟨some 36, _, _, _, _, _⟩) (v := mv y) rfl (by kernel_rfl) (by kernel_rfl) (by kernel_rfl) (fun _ _ _ h => h) (Or.inl ⟨by rfl, ?_⟩) hh0 ?_
  · rintro w' ⟨c7, c3⟩
    go_simp
  simp only [Act.put, List.setIfInBounds_toArray, List.set_cons_zero, List.set_cons_succ]
  refine wpAnyH_take (fuel := 7) (i := 1) (oi := ⟨some 37, _, _, _, _, _⟩) (v := .bool q) rfl (by kernel_rfl) (by kernel_rfl) (by kernel_rfl) (fun _ _ _ h => h) (Or.inl ⟨by rfl, ?_⟩) hh0 ?_
  · intro w' _
    go_simp
  simp only [Act.put, List.setIfInBounds_toArray, List.set_cons_zero, List.set_cons_succ]
  refine wpAnyH_take (fuel := 6) (i := 2) (oi := ⟨some 38, _, _, _, _, _⟩) (v := .pointer (some ⟨b, 0, none⟩)) rfl (by kernel_rfl) (by kernel_rfl) (by kernel_rfl) (fun _ _ _ h => h) (Or.inl ⟨by rfl, ?_⟩) hh0 ?_
  · intro w' _
    go_simp
  simp only [Act.put, List.setIfInBounds_toArray, List.set_cons_zero, List.set_cons_succ]
  refine wpAnyH_take (fuel := 5) (i := 3) (oi := ⟨some 39, _, _, _, _, _⟩) (v := .pointer (some ⟨wr.heap.size, 1, none⟩)) rfl (by kernel_rfl) (by kernel_rfl) (by kernel_rfl) (fun _ _ _ h => h) (Or.inl ⟨by rfl, ?_⟩) hh0 ?_
  · intro w' _
    go_simp
  simp only [Act.put, List.setIfInBounds_toArray, List.set_cons_zero, List.set_cons_succ]
  refine wpAnyH_take (fuel := 4) (i := 4) (oi := ⟨some 40, _, _, _, _, _⟩) (v := .int .i64 x.n) rfl (by kernel_rfl) (by kernel_rfl) (by kernel_rfl) (fun _ _ _ h => h) (Or.inl ⟨by rfl, ?_⟩) hh0 ?_
  · rintro w' ⟨c7, c3⟩
    go_simp
  simp only [Act.put, List.setIfInBounds_toArray, List.set_cons_zero, List.set_cons_succ]
  refine wpAnyH_ready (fuel := 3) (rs := [5]) (by kernel_rfl) (by simp) ?_
  refine AllReadyH.cons (o := ⟨some 41, _, _, _, _, _⟩) rfl (fun P hP => ?_) AllReadyH.nil
  go_simp
  refine (H2.out.sentQ x.n HE.out).mono ?_
  rintro e w3 ⟨rfl, ho⟩
  have H3 := Lib.hid ho
  clear ho
  show P _ _
  refine hP.out _ _ (⟨H3.out.cells (List.mem_cons_self ..), H3.out.cells (List.mem_cons_of_mem _ (List.mem_cons_of_mem _ (List.mem_cons_self ..)))⟩) (fun hh1 => ?_)
  clear hP P hh0
  try simp only [Act.put, List.setIfInBounds_toArray, List.set_cons_zero, List.set_cons_succ]
  have H4 := Lib.hid (H3.out.perm (List.Perm.swap _ _ _))
  refine wpAnyH_ready (fuel := 2) (rs := [6]) (by kernel_rfl) (by simp) ?_
  refine AllReadyH.cons (o := ⟨none, _, _, _, _, _⟩) rfl (fun P hP => ?_) AllReadyH.nil
  rw [if_pos (by rfl)]
  refine wp_store_row 35 (.tmp 4) (.tmp 36) rfl (wr.heap.size + 1) (mcells y) rfl rfl 35 zmc (H4.out.box (List.mem_cons_self ..)) (by kernel_rfl) rfl (by kernel_rfl) ?_
  have H5 := Lib.hid (H4.out.setRow (cs' := mcells y))
  refine hP.out _ _ (⟨H5.out.cells (List.mem_cons_of_mem _ (List.mem_cons_self ..)), H5.out.cells (List.mem_cons_of_mem _ (List.mem_cons_of_mem _ (List.mem_cons_self ..)))⟩) (fun hh2 => ?_)
  clear hP P hh1
  simp only [Act.put]
  refine wpAnyH_take (fuel := 1) (i := 7) (oi := ⟨some 5, _, _, _, _, _⟩) (v := .bool q) rfl (by kernel_rfl) (by kernel_rfl) (by kernel_rfl) (fun _ _ _ h => h) (Or.inl ⟨by rfl, ?_⟩) hh2 ?_
  · intro w' _
    go_simp
  simp only [Act.put, List.setIfInBounds_toArray, List.set_cons_zero, List.set_cons_succ]
  refine wpAnyH_take (fuel := 0) (i := 8) (oi := ⟨some 6, _, _, _, _, _⟩) (v := .int .i64 n) rfl (by kernel_rfl) (by kernel_rfl) (by kernel_rfl) (fun _ _ _ h => h) (Or.inl ⟨by rfl, ?_⟩) hh2 ?_
  · intro w' _
    go_simp
  simp only [Act.put, List.setIfInBounds_toArray, List.set_cons_zero, List.set_cons_succ]
  refine wpAnyH_done (by kernel_rfl) ?_ _
  refine NoPanic.normal ?_
  clear hh2
  go_wp2_with fail
  exact do_ret rfl rfl rfl rfl (H5.out.box (List.mem_cons_self ..)) H5.out.drop.drop.drop

/-- An operation. -/
theorem Own.op (h : OwnP w0 b room l X bx wr) (x : Qo) (hs : MIn wr x.p x.l) (hl : x.l.length ≤ 500) {y : Msg} {q : Bool} {n : Int} {m : List En} (e : doP room l x = ((y, q, n), m)) :
    Calls Try.prog 10 #[.pointer (some ⟨b, 0, none⟩), .agg (ocells x)] wr fun e w' => e = .returned (.tuple #[mv y, .bool q, .int .i64 n]) ∧ OwnP w0 b room m X bx w' := by
  unfold doP at e
  by_cases k0 : x.k = 0
  · rw [if_pos k0] at e
    obtain ⟨⟨rfl, rfl, rfl⟩, rfl⟩ := (by simpa only [Prod.mk.injEq] using e : ((_ ∧ _ ∧ _) ∧ _))
    exact do_add h x (by simpa using k0) rfl
  · rw [if_neg k0] at e
    have b0 : (x.k == 0) = false := by simpa using k0
    by_cases k1 : x.k = 1
    · rw [if_pos k1] at e
      obtain ⟨⟨rfl, rfl, rfl⟩, rfl⟩ := (by simpa only [Prod.mk.injEq] using e : ((_ ∧ _ ∧ _) ∧ _))
      exact do_start h x hs hl b0 (by simpa using k1) rfl
    · rw [if_neg k1] at e
      have b1 : (x.k == 1) = false := by simpa using k1
      by_cases k2 : x.k = 2
      · rw [if_pos k2] at e
        obtain ⟨⟨rfl, rfl, rfl⟩, rfl⟩ := (by simpa only [Prod.mk.injEq] using e : ((_ ∧ _ ∧ _) ∧ _))
        exact do_sent h x b0 b1 (by simpa using k2) rfl rfl
      · rw [if_neg k2] at e
        obtain ⟨⟨rfl, rfl, rfl⟩, rfl⟩ := (by simpa only [Prod.mk.injEq] using e : ((_ ∧ _ ∧ _) ∧ _))
        exact do_fin h x b0 b1 (by simpa using k2) rfl

end Go.Proofs.Ytnpbbkiojoafbaa
