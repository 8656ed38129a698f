import Derived.Test.YtlfhkjjjocmpbaaGreatDoorSx
import Derived.Test.YtlfhkjjjocmpbaaGreatDoorQCcK

namespace Go.Proofs.YtlfhkjjjocmpbaaGreatDoor.Cc
open Go Go.RowKit
open List (setIfInBounds_toArray set_cons_zero set_cons_succ)

variable {w0 w w' : World} {bx : Bx} {K : Kb} {c : Cfg} {core n : Int} {s : St}
theorem take_ret {wr : World} {r : Rp} {P : World → Prop} {a : Act} {g : Nat} (hp : a.tmps.getD 4 undef = .pointer (some ⟨g, 0, none⟩)) (hq : a.tmps.getD 5 undef = .bool r.2.1) (hn : a.tmps.getD 6 undef = .int .i64 r.2.2) (hd : a.defers = []) (hg : wr.heap[g]? = some (.cells (mcells r.1) 38 (0, 0))) (hb : P wr) :
  bodyPost Tryz.prog Tryz.f23 (RetT r P) Exit.ret a wr :=
 bodyPost_ret (v := .tuple #[mv r.1, a.tmps.getD 5 undef, a.tmps.getD 6 undef]) (Ar.results_cell_three Tryz.results23 _ _ g 38 _ (0, 0) _ hp hg Tryz.underlying38 rfl (by kernel_rfl)) hd ⟨by rw [hq, hn], hb⟩

theorem nil_nil (w : World) : (binOp BinOp.eql 136 Value.nilFunc Value.nilFunc).run Tryz.prog w = .ok (.bool true) w := by kernel_rfl
theorem fv_nil (k : Nat) (w : World) : (binOp BinOp.eql 136 (fv k) Value.nilFunc).run Tryz.prog w = .ok (.bool false) w := by kernel_rfl

theorem become_yes (h : OwnP w0 K c core n s bx w) (hn : n ≤ 900) (m : Msg) (hk : 4 ≤ m.kd ∧ m.kd ≤ 10) :
  ∃ k, becomeV m.kd = fv k ∧ (∀ args w, (callFunc k args).run Tryz.prog w = .ok (.enter k args) w) ∧ Calls Tryz.prog k #[ptr K.k, mv m] w (RetT (becomeP c core s m).1 (OwnP w0 K c core (n + 2) (becomeP c core s m).2 bx)) := by
 have hm : ∀ {r : Rp × St} {n' : Int}, n' ≤ n + 2 → ∀ e w', RetT r.1 (OwnP w0 K c core n' r.2 bx) e w' → RetT r.1 (OwnP w0 K c core (n + 2) r.2 bx) e w' := fun hn' e w' ⟨a, b⟩ => ⟨a, b.more hn'⟩
 unfold becomeP
 rcases (show m.kd = 4 ∨ m.kd = 5 ∨ m.kd = 6 ∨ m.kd = 7 ∨ m.kd = 8 ∨ m.kd = 9 ∨ m.kd = 10 by omega) with e | e | e | e | e | e | e
 ·rw [if_pos e]
  exact ⟨_, by rw [e]; rfl, fun _ _ => by kernel_rfl, (h.tshare m).mono (hm (by omega))⟩
 ·rw [if_neg (by omega), if_pos e]
  exact ⟨_, by rw [e]; rfl, fun _ _ => by kernel_rfl, (h.tgive m).mono (hm (by omega))⟩
 ·rw [if_neg (by omega), if_neg (by omega), if_pos e]
  exact ⟨_, by rw [e]; rfl, fun _ _ => by kernel_rfl, (h.forget m).mono (hm (by omega))⟩
 ·rw [if_neg (by omega), if_neg (by omega), if_neg (by omega), if_pos e]
  exact ⟨_, by rw [e]; rfl, fun _ _ => by kernel_rfl, h.fill m⟩
 ·rw [if_neg (by omega), if_neg (by omega), if_neg (by omega), if_neg (by omega), if_pos e]
  exact ⟨_, by rw [e]; rfl, fun _ _ => by kernel_rfl, h.tgrant m⟩
 ·rw [if_neg (by omega), if_neg (by omega), if_neg (by omega), if_neg (by omega), if_neg (by omega), if_pos e]
  exact ⟨_, by rw [e]; rfl, fun _ _ => by kernel_rfl, h.count hn m⟩
 ·rw [if_neg (by omega), if_neg (by omega), if_neg (by omega), if_neg (by omega), if_neg (by omega), if_neg (by omega)]
  exact ⟨_, by rw [e]; rfl, fun _ _ => by kernel_rfl, (h.tdrop m).mono (hm (by omega))⟩
theorem become_no {k : Int} (hk : ¬ (4 ≤ k ∧ k ≤ 10)) : becomeV k = .nilFunc := by
 unfold becomeV
 rw [if_neg (by omega), if_neg (by omega), if_neg (by omega), if_neg (by omega), if_neg (by omega), if_neg (by omega), if_neg (by omega)]
set_option maxRecDepth 100000 in
set_option maxHeartbeats 2000000 in
theorem take_kind (h : OwnP w0 K c core n s bx w) (m : Msg) (hb : becomeV m.kd = .nilFunc) :
  Calls Tryz.prog 23 #[ptr K.k, mv m] w (RetT (m0, false, 1) (OwnP w0 K c core n s bx)) := by
 have H0 := Lib.hid (h.add2 (.cells (mcells m) 38) (.cells #[.int .i64 0, .int .i64 0, .int .i64 0, .int .i64 0, .int .i64 0, .int .i64 0, .int .i64 0, .int .i64 0, .int .i64 0, .int .i64 0, .int .i64 0, .int .i64 0, .int .i64 0, .int .i64 0, .int .i64 0] 38))
 have HB := Lib.hid (become_any m.kd)
 rw [hb] at HB
 have hk := H0.out.kc
 have hx := H0.out.cells mz1
 have hnil := nil_nil
 clear h hb
 go_enter Tryz.func23, Tryz.ntmps23
 go_wp2_with fail
 refine (HB.out _).mono ?_
 rintro e w1 ⟨rfl, rfl⟩
 clear hk hx
 go_wp2_with fail
 obtain ⟨w2, hw2⟩ : ∃ w2, w2 = (w.alloc (.cells (mcells m) 38)).alloc (.cells #[.int .i64 0, .int .i64 0, .int .i64 0, .int .i64 0, .int .i64 0, .int .i64 0, .int .i64 0, .int .i64 0, .int .i64 0, .int .i64 0, .int .i64 0, .int .i64 0, .int .i64 0, .int .i64 0, .int .i64 0] 38) := ⟨_, rfl⟩
 rw [← hw2] at H0
 change Code.wp _ _ _ _ ((w.alloc (.cells (mcells m) 38)).alloc (.cells #[.int .i64 0, .int .i64 0, .int .i64 0, .int .i64 0, .int .i64 0, .int .i64 0, .int .i64 0, .int .i64 0, .int .i64 0, .int .i64 0, .int .i64 0, .int .i64 0, .int .i64 0, .int .i64 0, .int .i64 0] 38))
 rw [← hw2]
 clear hw2
 refine wp_region_noPanic ?_
 refine wp_region_held_drew (S := (fun w' : World => (∀ o, w'.cell? ⟨K.k, o, none⟩ = (kcells c core K)[o]?) ∧ (∀ o, w'.cell? ⟨w.heap.size, o, none⟩ = (mcells m)[o]?))) (by kernel_rfl) ⟨H0.out.kc, H0.out.cells mz1⟩ (fun hh0 => ?_)
 replace H0 := Lib.hid H0.out.drew
 generalize World.drew w2 = w2 at *
 refine tk 19 0 ⟨some 11, _, _, _, _, _⟩ (.nilFunc) rfl (by kernel_rfl) (by rfl) hh0 ?_ ?_
 ·intro w' _
  go_simp
 simp only [Act.put, setIfInBounds_toArray, set_cons_zero, set_cons_succ]
 refine tk 18 1 ⟨some 12, _, _, _, _, _⟩ (.bool true) rfl (by kernel_rfl) (by rfl) hh0 ?_ ?_
 ·intro w' _
  go_simp
 simp only [Act.put, setIfInBounds_toArray, set_cons_zero, set_cons_succ]
 refine tk 17 2 ⟨some 13, _, _, _, _, _⟩ (.bool true) rfl (by kernel_rfl) (by rfl) hh0 ?_ ?_
 ·intro w' _
  go_simp
 simp only [Act.put, setIfInBounds_toArray, set_cons_zero, set_cons_succ]
 refine wpAnyH_take (fuel := 16) (i := 3) (oi := ⟨some 14, _, _, _, _, _⟩) (v := undef) rfl (by kernel_rfl) (by kernel_rfl) (by kernel_rfl) (fun _ _ _ h => h) (Or.inr ⟨by rfl, rfl⟩) hh0 ?_
 simp only [Act.put, setIfInBounds_toArray, set_cons_zero, set_cons_succ]
 refine wpAnyH_take (fuel := 15) (i := 4) (oi := ⟨some 15, _, _, _, _, _⟩) (v := undef) rfl (by kernel_rfl) (by kernel_rfl) (by kernel_rfl) (fun _ _ _ h => h) (Or.inr ⟨by rfl, rfl⟩) hh0 ?_
 simp only [Act.put, setIfInBounds_toArray, set_cons_zero, set_cons_succ]
 refine wpAnyH_take (fuel := 14) (i := 5) (oi := ⟨some 16, _, _, _, _, _⟩) (v := undef) rfl (by kernel_rfl) (by kernel_rfl) (by kernel_rfl) (fun _ _ _ h => h) (Or.inr ⟨by rfl, rfl⟩) hh0 ?_
 simp only [Act.put, setIfInBounds_toArray, set_cons_zero, set_cons_succ]
 refine wpAnyH_take (fuel := 13) (i := 6) (oi := ⟨some 17, _, _, _, _, _⟩) (v := undef) rfl (by kernel_rfl) (by kernel_rfl) (by kernel_rfl) (fun _ _ _ h => h) (Or.inr ⟨by rfl, rfl⟩) hh0 ?_
 simp only [Act.put, setIfInBounds_toArray, set_cons_zero, set_cons_succ]
 refine wpAnyH_take (fuel := 12) (i := 7) (oi := ⟨some 18, _, _, _, _, _⟩) (v := undef) rfl (by kernel_rfl) (by kernel_rfl) (by kernel_rfl) (fun _ _ _ h => h) (Or.inr ⟨by rfl, rfl⟩) hh0 ?_
 simp only [Act.put, setIfInBounds_toArray, set_cons_zero, set_cons_succ]
 refine wpAnyH_take (fuel := 11) (i := 8) (oi := ⟨some 19, _, _, _, _, _⟩) (v := undef) rfl (by kernel_rfl) (by kernel_rfl) (by kernel_rfl) (fun _ _ _ h => h) (Or.inr ⟨by rfl, rfl⟩) hh0 ?_
 simp only [Act.put, setIfInBounds_toArray, set_cons_zero, set_cons_succ]
 refine wpAnyH_take (fuel := 10) (i := 9) (oi := ⟨some 20, _, _, _, _, _⟩) (v := undef) rfl (by kernel_rfl) (by kernel_rfl) (by kernel_rfl) (fun _ _ _ h => h) (Or.inr ⟨by rfl, rfl⟩) hh0 ?_
 simp only [Act.put, setIfInBounds_toArray, set_cons_zero, set_cons_succ]
 refine tk 9 10 ⟨some 21, _, _, _, _, _⟩ (.bool true) rfl (by kernel_rfl) (by rfl) hh0 ?_ ?_
 ·intro w' _
  go_simp
 simp only [Act.put, setIfInBounds_toArray, set_cons_zero, set_cons_succ]
 refine tk 8 11 ⟨some 22, _, _, _, _, _⟩ (.bool true) rfl (by kernel_rfl) (by rfl) hh0 ?_ ?_
 ·intro w' _
  go_simp
 simp only [Act.put, setIfInBounds_toArray, set_cons_zero, set_cons_succ]
 refine wpAnyH_take (fuel := 7) (i := 12) (oi := ⟨some 23, _, _, _, _, _⟩) (v := undef) rfl (by kernel_rfl) (by kernel_rfl) (by kernel_rfl) (fun _ _ _ h => h) (Or.inr ⟨by rfl, rfl⟩) hh0 ?_
 simp only [Act.put, setIfInBounds_toArray, set_cons_zero, set_cons_succ]
 refine wpAnyH_take (fuel := 6) (i := 13) (oi := ⟨some 24, _, _, _, _, _⟩) (v := undef) rfl (by kernel_rfl) (by kernel_rfl) (by kernel_rfl) (fun _ _ _ h => h) (Or.inr ⟨by rfl, rfl⟩) hh0 ?_
 simp only [Act.put, setIfInBounds_toArray, set_cons_zero, set_cons_succ]
 refine wpAnyH_take (fuel := 5) (i := 14) (oi := ⟨some 25, _, _, _, _, _⟩) (v := undef) rfl (by kernel_rfl) (by kernel_rfl) (by kernel_rfl) (fun _ _ _ h => h) (Or.inr ⟨by rfl, rfl⟩) hh0 ?_
 simp only [Act.put, setIfInBounds_toArray, set_cons_zero, set_cons_succ]
 refine wpAnyH_take (fuel := 4) (i := 15) (oi := ⟨some 26, _, _, _, _, _⟩) (v := undef) rfl (by kernel_rfl) (by kernel_rfl) (by kernel_rfl) (fun _ _ _ h => h) (Or.inr ⟨by rfl, rfl⟩) hh0 ?_
 simp only [Act.put, setIfInBounds_toArray, set_cons_zero, set_cons_succ]
 refine wpAnyH_take (fuel := 3) (i := 16) (oi := ⟨some 27, _, _, _, _, _⟩) (v := undef) rfl (by kernel_rfl) (by kernel_rfl) (by kernel_rfl) (fun _ _ _ h => h) (Or.inr ⟨by rfl, rfl⟩) hh0 ?_
 simp only [Act.put, setIfInBounds_toArray, set_cons_zero, set_cons_succ]
 refine wpAnyH_take (fuel := 2) (i := 17) (oi := ⟨some 28, _, _, _, _, _⟩) (v := undef) rfl (by kernel_rfl) (by kernel_rfl) (by kernel_rfl) (fun _ _ _ h => h) (Or.inr ⟨by rfl, rfl⟩) hh0 ?_
 simp only [Act.put, setIfInBounds_toArray, set_cons_zero, set_cons_succ]
 refine wpAnyH_take (fuel := 1) (i := 18) (oi := ⟨some 29, _, _, _, _, _⟩) (v := undef) rfl (by kernel_rfl) (by kernel_rfl) (by kernel_rfl) (fun _ _ _ h => h) (Or.inr ⟨by rfl, rfl⟩) hh0 ?_
 simp only [Act.put, setIfInBounds_toArray, set_cons_zero, set_cons_succ]
 refine tk 0 19 ⟨some 30, _, _, _, _, _⟩ (.bool true) rfl (by kernel_rfl) (by rfl) hh0 ?_ ?_
 ·intro w' _
  go_simp
 simp only [Act.put, setIfInBounds_toArray, set_cons_zero, set_cons_succ]
 refine wpAnyH_done (by kernel_rfl) ?_ _
 refine NoPanic.normal ?_
 clear hh0
 have h4 := H0.out.box mz0
 go_wp2_with ((with_reducible refine wpList_store_row (o := ⟨none, _, _, _, _, _⟩) rfl 38 (.tmp 4) (.tmp 31) rfl (w.heap.size + 1) (mcells m0) ?sx ?sy 38 ?old ?sg ?si ?so ?s1 ?_); (case sx => rfl); (case sy => rfl); (case old => exact #[.int .i64 0, .int .i64 0, .int .i64 0, .int .i64 0, .int .i64 0, .int .i64 0, .int .i64 0, .int .i64 0, .int .i64 0, .int .i64 0, .int .i64 0, .int .i64 0, .int .i64 0, .int .i64 0, .int .i64 0]); (case sg => exact h4); (case si => kernel_rfl); (case so => rfl); (case s1 => kernel_rfl))
 exact take_ret (r := (m0, false, 1)) rfl rfl rfl rfl (setRow_heap _ _ _ _ _ _ h4) H0.out.setRow.drop.drop

set_option maxRecDepth 100000 in
set_option maxHeartbeats 2000000 in
theorem take_may (h : OwnP w0 K c core n s bx w) (m : Msg) (k : Nat) (hb : becomeV m.kd = fv k) (hmay : mayM c m = false) :
  Calls Tryz.prog 23 #[ptr K.k, mv m] w (RetT (m0, false, 1) (OwnP w0 K c core n s bx)) := by
 have H0 := Lib.hid (h.add2 (.cells (mcells m) 38) (.cells #[.int .i64 0, .int .i64 0, .int .i64 0, .int .i64 0, .int .i64 0, .int .i64 0, .int .i64 0, .int .i64 0, .int .i64 0, .int .i64 0, .int .i64 0, .int .i64 0, .int .i64 0, .int .i64 0, .int .i64 0] 38))
 have HB := Lib.hid (become_any m.kd)
 rw [hb] at HB
 have hk := H0.out.kc
 have hx := H0.out.cells mz1
 have hfv := fv_nil k
 have HM := Lib.hid (fun w1 bx (h : OwnP w0 K c core n s bx w1) => h.may m)
 rw [hmay] at HM
 clear h hb
 go_enter Tryz.func23, Tryz.ntmps23
 go_wp2_with fail
 refine (HB.out _).mono ?_
 rintro e w1 ⟨rfl, rfl⟩
 clear hk hx
 go_wp2_with fail
 obtain ⟨w2, hw2⟩ : ∃ w2, w2 = (w.alloc (.cells (mcells m) 38)).alloc (.cells #[.int .i64 0, .int .i64 0, .int .i64 0, .int .i64 0, .int .i64 0, .int .i64 0, .int .i64 0, .int .i64 0, .int .i64 0, .int .i64 0, .int .i64 0, .int .i64 0, .int .i64 0, .int .i64 0, .int .i64 0] 38) := ⟨_, rfl⟩
 rw [← hw2] at H0
 change Code.wp _ _ _ _ ((w.alloc (.cells (mcells m) 38)).alloc (.cells #[.int .i64 0, .int .i64 0, .int .i64 0, .int .i64 0, .int .i64 0, .int .i64 0, .int .i64 0, .int .i64 0, .int .i64 0, .int .i64 0, .int .i64 0, .int .i64 0, .int .i64 0, .int .i64 0, .int .i64 0] 38))
 rw [← hw2]
 clear hw2
 refine wp_region_noPanic ?_
 refine wp_region_held_drew (S := (fun w' : World => (∀ o, w'.cell? ⟨K.k, o, none⟩ = (kcells c core K)[o]?) ∧ (∀ o, w'.cell? ⟨w.heap.size, o, none⟩ = (mcells m)[o]?))) (by kernel_rfl) ⟨H0.out.kc, H0.out.cells mz1⟩ (fun hh0 => ?_)
 replace H0 := Lib.hid H0.out.drew
 generalize World.drew w2 = w2 at *
 refine tk 19 0 ⟨some 11, _, _, _, _, _⟩ (fv k) rfl (by kernel_rfl) (by rfl) hh0 ?_ ?_
 ·intro w' _
  go_simp
 simp only [Act.put, setIfInBounds_toArray, set_cons_zero, set_cons_succ]
 refine tk 18 1 ⟨some 12, _, _, _, _, _⟩ (.bool false) rfl (by kernel_rfl) (by rfl) hh0 ?_ ?_
 ·intro w' _
  go_simp
 simp only [Act.put, setIfInBounds_toArray, set_cons_zero, set_cons_succ]
 refine tk 17 2 ⟨some 13, _, _, _, _, _⟩ (.bool false) rfl (by kernel_rfl) (by rfl) hh0 ?_ ?_
 ·intro w' _
  go_simp
 simp only [Act.put, setIfInBounds_toArray, set_cons_zero, set_cons_succ]
 refine tk 16 3 ⟨some 14, _, _, _, _, _⟩ (ptr K.k) rfl (by kernel_rfl) (by rfl) hh0 ?_ ?_
 ·intro w' _
  go_simp
 simp only [Act.put, setIfInBounds_toArray, set_cons_zero, set_cons_succ]
 refine tk 15 4 ⟨some 15, _, _, _, _, _⟩ (ptr K.k) rfl (by kernel_rfl) (by rfl) hh0 ?_ ?_
 ·intro w' _
  go_simp
 simp only [Act.put, setIfInBounds_toArray, set_cons_zero, set_cons_succ]
 refine tk 14 5 ⟨some 16, _, _, _, _, _⟩ (ptr K.k) rfl (by kernel_rfl) (by rfl) hh0 ?_ ?_
 ·intro w' _
  go_simp
 simp only [Act.put, setIfInBounds_toArray, set_cons_zero, set_cons_succ]
 refine tk 13 6 ⟨some 17, _, _, _, _, _⟩ (cv c) rfl (by kernel_rfl) (by rfl) hh0 ?_ ?_
 ·rintro w' ⟨c0, -⟩
  go_simp
 simp only [Act.put, setIfInBounds_toArray, set_cons_zero, set_cons_succ]
 refine tk 12 7 ⟨some 18, _, _, _, _, _⟩ (mv m) rfl (by kernel_rfl) (by rfl) hh0 ?_ ?_
 ·rintro w' ⟨-, c0⟩
  go_simp
 simp only [Act.put, setIfInBounds_toArray, set_cons_zero, set_cons_succ]
 refine rd 11 8 ⟨some 19, _, _, _, _, _⟩ rfl (by kernel_rfl) (fun P hP => ?_)
 go_simp
 refine (HM.out _ _ H0.out).mono ?_
 rintro e w3 ⟨rfl, hb3⟩
 have H3 := Lib.hid (H0.out.step hb3)
 clear hb3
 show P _ _
 refine hP.out _ _ (⟨H3.out.kc, H3.out.cells mz1⟩) (fun hh1 => ?_)
 clear hP P hh0
 refine tk 10 9 ⟨some 20, _, _, _, _, _⟩ (.bool true) rfl (by kernel_rfl) (by rfl) hh1 ?_ ?_
 ·intro w' _
  go_simp
 simp only [Act.put, setIfInBounds_toArray, set_cons_zero, set_cons_succ]
 refine tk 9 10 ⟨some 21, _, _, _, _, _⟩ (.bool true) rfl (by kernel_rfl) (by rfl) hh1 ?_ ?_
 ·intro w' _
  go_simp
 simp only [Act.put, setIfInBounds_toArray, set_cons_zero, set_cons_succ]
 refine tk 8 11 ⟨some 22, _, _, _, _, _⟩ (.bool true) rfl (by kernel_rfl) (by rfl) hh1 ?_ ?_
 ·intro w' _
  go_simp
 simp only [Act.put, setIfInBounds_toArray, set_cons_zero, set_cons_succ]
 refine wpAnyH_take (fuel := 7) (i := 12) (oi := ⟨some 23, _, _, _, _, _⟩) (v := undef) rfl (by kernel_rfl) (by kernel_rfl) (by kernel_rfl) (fun _ _ _ h => h) (Or.inr ⟨by rfl, rfl⟩) hh1 ?_
 simp only [Act.put, setIfInBounds_toArray, set_cons_zero, set_cons_succ]
 refine wpAnyH_take (fuel := 6) (i := 13) (oi := ⟨some 24, _, _, _, _, _⟩) (v := undef) rfl (by kernel_rfl) (by kernel_rfl) (by kernel_rfl) (fun _ _ _ h => h) (Or.inr ⟨by rfl, rfl⟩) hh1 ?_
 simp only [Act.put, setIfInBounds_toArray, set_cons_zero, set_cons_succ]
 refine wpAnyH_take (fuel := 5) (i := 14) (oi := ⟨some 25, _, _, _, _, _⟩) (v := undef) rfl (by kernel_rfl) (by kernel_rfl) (by kernel_rfl) (fun _ _ _ h => h) (Or.inr ⟨by rfl, rfl⟩) hh1 ?_
 simp only [Act.put, setIfInBounds_toArray, set_cons_zero, set_cons_succ]
 refine wpAnyH_take (fuel := 4) (i := 15) (oi := ⟨some 26, _, _, _, _, _⟩) (v := undef) rfl (by kernel_rfl) (by kernel_rfl) (by kernel_rfl) (fun _ _ _ h => h) (Or.inr ⟨by rfl, rfl⟩) hh1 ?_
 simp only [Act.put, setIfInBounds_toArray, set_cons_zero, set_cons_succ]
 refine wpAnyH_take (fuel := 3) (i := 16) (oi := ⟨some 27, _, _, _, _, _⟩) (v := undef) rfl (by kernel_rfl) (by kernel_rfl) (by kernel_rfl) (fun _ _ _ h => h) (Or.inr ⟨by rfl, rfl⟩) hh1 ?_
 simp only [Act.put, setIfInBounds_toArray, set_cons_zero, set_cons_succ]
 refine wpAnyH_take (fuel := 2) (i := 17) (oi := ⟨some 28, _, _, _, _, _⟩) (v := undef) rfl (by kernel_rfl) (by kernel_rfl) (by kernel_rfl) (fun _ _ _ h => h) (Or.inr ⟨by rfl, rfl⟩) hh1 ?_
 simp only [Act.put, setIfInBounds_toArray, set_cons_zero, set_cons_succ]
 refine wpAnyH_take (fuel := 1) (i := 18) (oi := ⟨some 29, _, _, _, _, _⟩) (v := undef) rfl (by kernel_rfl) (by kernel_rfl) (by kernel_rfl) (fun _ _ _ h => h) (Or.inr ⟨by rfl, rfl⟩) hh1 ?_
 simp only [Act.put, setIfInBounds_toArray, set_cons_zero, set_cons_succ]
 refine tk 0 19 ⟨some 30, _, _, _, _, _⟩ (.bool true) rfl (by kernel_rfl) (by rfl) hh1 ?_ ?_
 ·intro w' _
  go_simp
 simp only [Act.put, setIfInBounds_toArray, set_cons_zero, set_cons_succ]
 refine wpAnyH_done (by kernel_rfl) ?_ _
 refine NoPanic.normal ?_
 clear hh1
 have h4 := H3.out.box mz0
 go_wp2_with ((with_reducible refine wpList_store_row (o := ⟨none, _, _, _, _, _⟩) rfl 38 (.tmp 4) (.tmp 31) rfl (w.heap.size + 1) (mcells m0) ?sx ?sy 38 ?old ?sg ?si ?so ?s1 ?_); (case sx => rfl); (case sy => rfl); (case old => exact #[.int .i64 0, .int .i64 0, .int .i64 0, .int .i64 0, .int .i64 0, .int .i64 0, .int .i64 0, .int .i64 0, .int .i64 0, .int .i64 0, .int .i64 0, .int .i64 0, .int .i64 0, .int .i64 0, .int .i64 0]); (case sg => exact h4); (case si => kernel_rfl); (case so => rfl); (case s1 => kernel_rfl))
 exact take_ret (r := (m0, false, 1)) rfl rfl rfl rfl (setRow_heap _ _ _ _ _ _ h4) H3.out.setRow.drop.drop

set_option maxRecDepth 100000 in
set_option maxHeartbeats 2000000 in
theorem take_to (h : OwnP w0 K c core n s bx w) (m : Msg) (k : Nat) (hb : becomeV m.kd = fv k) (hmay : mayM c m = true) (ht : (m.to != core) = true) :
  Calls Tryz.prog 23 #[ptr K.k, mv m] w (RetT (m0, false, 1) (OwnP w0 K c core n s bx)) := by
 have H0 := Lib.hid (h.add2 (.cells (mcells m) 38) (.cells #[.int .i64 0, .int .i64 0, .int .i64 0, .int .i64 0, .int .i64 0, .int .i64 0, .int .i64 0, .int .i64 0, .int .i64 0, .int .i64 0, .int .i64 0, .int .i64 0, .int .i64 0, .int .i64 0, .int .i64 0] 38))
 have HB := Lib.hid (become_any m.kd)
 rw [hb] at HB
 have hk := H0.out.kc
 have hx := H0.out.cells mz1
 have hfv := fv_nil k
 have HM := Lib.hid (fun w1 bx (h : OwnP w0 K c core n s bx w1) => h.may m)
 rw [hmay] at HM
 clear h hb
 go_enter Tryz.func23, Tryz.ntmps23
 go_wp2_with fail
 refine (HB.out _).mono ?_
 rintro e w1 ⟨rfl, rfl⟩
 clear hk hx
 go_wp2_with fail
 obtain ⟨w2, hw2⟩ : ∃ w2, w2 = (w.alloc (.cells (mcells m) 38)).alloc (.cells #[.int .i64 0, .int .i64 0, .int .i64 0, .int .i64 0, .int .i64 0, .int .i64 0, .int .i64 0, .int .i64 0, .int .i64 0, .int .i64 0, .int .i64 0, .int .i64 0, .int .i64 0, .int .i64 0, .int .i64 0] 38) := ⟨_, rfl⟩
 rw [← hw2] at H0
 change Code.wp _ _ _ _ ((w.alloc (.cells (mcells m) 38)).alloc (.cells #[.int .i64 0, .int .i64 0, .int .i64 0, .int .i64 0, .int .i64 0, .int .i64 0, .int .i64 0, .int .i64 0, .int .i64 0, .int .i64 0, .int .i64 0, .int .i64 0, .int .i64 0, .int .i64 0, .int .i64 0] 38))
 rw [← hw2]
 clear hw2
 refine wp_region_noPanic ?_
 refine wp_region_held_drew (S := (fun w' : World => (∀ o, w'.cell? ⟨K.k, o, none⟩ = (kcells c core K)[o]?) ∧ (∀ o, w'.cell? ⟨w.heap.size, o, none⟩ = (mcells m)[o]?))) (by kernel_rfl) ⟨H0.out.kc, H0.out.cells mz1⟩ (fun hh0 => ?_)
 replace H0 := Lib.hid H0.out.drew
 generalize World.drew w2 = w2 at *
 refine tk 19 0 ⟨some 11, _, _, _, _, _⟩ (fv k) rfl (by kernel_rfl) (by rfl) hh0 ?_ ?_
 ·intro w' _
  go_simp
 simp only [Act.put, setIfInBounds_toArray, set_cons_zero, set_cons_succ]
 refine tk 18 1 ⟨some 12, _, _, _, _, _⟩ (.bool false) rfl (by kernel_rfl) (by rfl) hh0 ?_ ?_
 ·intro w' _
  go_simp
 simp only [Act.put, setIfInBounds_toArray, set_cons_zero, set_cons_succ]
 refine tk 17 2 ⟨some 13, _, _, _, _, _⟩ (.bool false) rfl (by kernel_rfl) (by rfl) hh0 ?_ ?_
 ·intro w' _
  go_simp
 simp only [Act.put, setIfInBounds_toArray, set_cons_zero, set_cons_succ]
 refine tk 16 3 ⟨some 14, _, _, _, _, _⟩ (ptr K.k) rfl (by kernel_rfl) (by rfl) hh0 ?_ ?_
 ·intro w' _
  go_simp
 simp only [Act.put, setIfInBounds_toArray, set_cons_zero, set_cons_succ]
 refine tk 15 4 ⟨some 15, _, _, _, _, _⟩ (ptr K.k) rfl (by kernel_rfl) (by rfl) hh0 ?_ ?_
 ·intro w' _
  go_simp
 simp only [Act.put, setIfInBounds_toArray, set_cons_zero, set_cons_succ]
 refine tk 14 5 ⟨some 16, _, _, _, _, _⟩ (ptr K.k) rfl (by kernel_rfl) (by rfl) hh0 ?_ ?_
 ·intro w' _
  go_simp
 simp only [Act.put, setIfInBounds_toArray, set_cons_zero, set_cons_succ]
 refine tk 13 6 ⟨some 17, _, _, _, _, _⟩ (cv c) rfl (by kernel_rfl) (by rfl) hh0 ?_ ?_
 ·rintro w' ⟨c0, -⟩
  go_simp
 simp only [Act.put, setIfInBounds_toArray, set_cons_zero, set_cons_succ]
 refine tk 12 7 ⟨some 18, _, _, _, _, _⟩ (mv m) rfl (by kernel_rfl) (by rfl) hh0 ?_ ?_
 ·rintro w' ⟨-, c0⟩
  go_simp
 simp only [Act.put, setIfInBounds_toArray, set_cons_zero, set_cons_succ]
 refine rd 11 8 ⟨some 19, _, _, _, _, _⟩ rfl (by kernel_rfl) (fun P hP => ?_)
 go_simp
 refine (HM.out _ _ H0.out).mono ?_
 rintro e w3 ⟨rfl, hb3⟩
 have H3 := Lib.hid (H0.out.step hb3)
 clear hb3
 show P _ _
 refine hP.out _ _ (⟨H3.out.kc, H3.out.cells mz1⟩) (fun hh1 => ?_)
 clear hP P hh0
 refine tk 10 9 ⟨some 20, _, _, _, _, _⟩ (.bool false) rfl (by kernel_rfl) (by rfl) hh1 ?_ ?_
 ·intro w' _
  go_simp
 simp only [Act.put, setIfInBounds_toArray, set_cons_zero, set_cons_succ]
 refine tk 9 10 ⟨some 21, _, _, _, _, _⟩ (.bool false) rfl (by kernel_rfl) (by rfl) hh1 ?_ ?_
 ·intro w' _
  go_simp
 simp only [Act.put, setIfInBounds_toArray, set_cons_zero, set_cons_succ]
 refine tk 8 11 ⟨some 22, _, _, _, _, _⟩ (.bool false) rfl (by kernel_rfl) (by rfl) hh1 ?_ ?_
 ·intro w' _
  go_simp
 simp only [Act.put, setIfInBounds_toArray, set_cons_zero, set_cons_succ]
 refine tk 7 12 ⟨some 23, _, _, _, _, _⟩ (.pointer (some ⟨w.heap.size, 3, none⟩)) rfl (by kernel_rfl) (by rfl) hh1 ?_ ?_
 ·intro w' _
  go_simp
 simp only [Act.put, setIfInBounds_toArray, set_cons_zero, set_cons_succ]
 refine tk 6 13 ⟨some 24, _, _, _, _, _⟩ (.int .i64 m.to) rfl (by kernel_rfl) (by rfl) hh1 ?_ ?_
 ·rintro w' ⟨-, c0⟩
  go_simp
 simp only [Act.put, setIfInBounds_toArray, set_cons_zero, set_cons_succ]
 refine tk 5 14 ⟨some 25, _, _, _, _, _⟩ (ptr K.k) rfl (by kernel_rfl) (by rfl) hh1 ?_ ?_
 ·intro w' _
  go_simp
 simp only [Act.put, setIfInBounds_toArray, set_cons_zero, set_cons_succ]
 refine tk 4 15 ⟨some 26, _, _, _, _, _⟩ (ptr K.k) rfl (by kernel_rfl) (by rfl) hh1 ?_ ?_
 ·intro w' _
  go_simp
 simp only [Act.put, setIfInBounds_toArray, set_cons_zero, set_cons_succ]
 refine tk 3 16 ⟨some 27, _, _, _, _, _⟩ (.pointer (some ⟨K.k, 13, none⟩)) rfl (by kernel_rfl) (by rfl) hh1 ?_ ?_
 ·intro w' _
  go_simp
 simp only [Act.put, setIfInBounds_toArray, set_cons_zero, set_cons_succ]
 refine tk 2 17 ⟨some 28, _, _, _, _, _⟩ (.int .i64 core) rfl (by kernel_rfl) (by rfl) hh1 ?_ ?_
 ·rintro w' ⟨c0, -⟩
  go_simp
 simp only [Act.put, setIfInBounds_toArray, set_cons_zero, set_cons_succ]
 refine tk 1 18 ⟨some 29, _, _, _, _, _⟩ (.bool true) rfl (by kernel_rfl) (by rfl) hh1 ?_ ?_
 ·intro w' _
  go_simp
 simp only [Act.put, setIfInBounds_toArray, set_cons_zero, set_cons_succ]
 refine tk 0 19 ⟨some 30, _, _, _, _, _⟩ (.bool true) rfl (by kernel_rfl) (by rfl) hh1 ?_ ?_
 ·intro w' _
  go_simp
 simp only [Act.put, setIfInBounds_toArray, set_cons_zero, set_cons_succ]
 refine wpAnyH_done (by kernel_rfl) ?_ _
 refine NoPanic.normal ?_
 clear hh1
 have h4 := H3.out.box mz0
 go_wp2_with ((with_reducible refine wpList_store_row (o := ⟨none, _, _, _, _, _⟩) rfl 38 (.tmp 4) (.tmp 31) rfl (w.heap.size + 1) (mcells m0) ?sx ?sy 38 ?old ?sg ?si ?so ?s1 ?_); (case sx => rfl); (case sy => rfl); (case old => exact #[.int .i64 0, .int .i64 0, .int .i64 0, .int .i64 0, .int .i64 0, .int .i64 0, .int .i64 0, .int .i64 0, .int .i64 0, .int .i64 0, .int .i64 0, .int .i64 0, .int .i64 0, .int .i64 0, .int .i64 0]); (case sg => exact h4); (case si => kernel_rfl); (case so => rfl); (case s1 => kernel_rfl))
 exact take_ret (r := (m0, false, 1)) rfl rfl rfl rfl (setRow_heap _ _ _ _ _ _ h4) H3.out.setRow.drop.drop

set_option maxRecDepth 100000 in
set_option maxHeartbeats 2000000 in
theorem take_ok (h : OwnP w0 K c core n s bx w) (m : Msg) (k : Nat) (hb : becomeV m.kd = fv k) (hmay : mayM c m = true) (ht : (m.to != core) = false) {r : Rp} {s2 : St} {n2 : Int} (hcf : ∀ args w, (callFunc k args).run Tryz.prog w = .ok (.enter k args) w) (hbe : ∀ w bx, OwnP w0 K c core n s bx w → Calls Tryz.prog k #[ptr K.k, mv m] w (RetT r (OwnP w0 K c core n2 s2 bx))) :
  Calls Tryz.prog 23 #[ptr K.k, mv m] w (RetT r (OwnP w0 K c core n2 s2 bx)) := by
 have H0 := Lib.hid (h.add2 (.cells (mcells m) 38) (.cells #[.int .i64 0, .int .i64 0, .int .i64 0, .int .i64 0, .int .i64 0, .int .i64 0, .int .i64 0, .int .i64 0, .int .i64 0, .int .i64 0, .int .i64 0, .int .i64 0, .int .i64 0, .int .i64 0, .int .i64 0] 38))
 have HB := Lib.hid (become_any m.kd)
 rw [hb] at HB
 have hk := H0.out.kc
 have hx := H0.out.cells mz1
 have hfv := fv_nil k
 have HM := Lib.hid (fun w1 bx (h : OwnP w0 K c core n s bx w1) => h.may m)
 rw [hmay] at HM
 clear h hb
 go_enter Tryz.func23, Tryz.ntmps23
 go_wp2_with fail
 refine (HB.out _).mono ?_
 rintro e w1 ⟨rfl, rfl⟩
 clear hk hx
 go_wp2_with fail
 obtain ⟨w2, hw2⟩ : ∃ w2, w2 = (w.alloc (.cells (mcells m) 38)).alloc (.cells #[.int .i64 0, .int .i64 0, .int .i64 0, .int .i64 0, .int .i64 0, .int .i64 0, .int .i64 0, .int .i64 0, .int .i64 0, .int .i64 0, .int .i64 0, .int .i64 0, .int .i64 0, .int .i64 0, .int .i64 0] 38) := ⟨_, rfl⟩
 rw [← hw2] at H0
 change Code.wp _ _ _ _ ((w.alloc (.cells (mcells m) 38)).alloc (.cells #[.int .i64 0, .int .i64 0, .int .i64 0, .int .i64 0, .int .i64 0, .int .i64 0, .int .i64 0, .int .i64 0, .int .i64 0, .int .i64 0, .int .i64 0, .int .i64 0, .int .i64 0, .int .i64 0, .int .i64 0] 38))
 rw [← hw2]
 clear hw2
 refine wp_region_noPanic ?_
 refine wp_region_held_drew (S := (fun w' : World => (∀ o, w'.cell? ⟨K.k, o, none⟩ = (kcells c core K)[o]?) ∧ (∀ o, w'.cell? ⟨w.heap.size, o, none⟩ = (mcells m)[o]?))) (by kernel_rfl) ⟨H0.out.kc, H0.out.cells mz1⟩ (fun hh0 => ?_)
 replace H0 := Lib.hid H0.out.drew
 generalize World.drew w2 = w2 at *
 refine tk 19 0 ⟨some 11, _, _, _, _, _⟩ (fv k) rfl (by kernel_rfl) (by rfl) hh0 ?_ ?_
 ·intro w' _
  go_simp
 simp only [Act.put, setIfInBounds_toArray, set_cons_zero, set_cons_succ]
 refine tk 18 1 ⟨some 12, _, _, _, _, _⟩ (.bool false) rfl (by kernel_rfl) (by rfl) hh0 ?_ ?_
 ·intro w' _
  go_simp
 simp only [Act.put, setIfInBounds_toArray, set_cons_zero, set_cons_succ]
 refine tk 17 2 ⟨some 13, _, _, _, _, _⟩ (.bool false) rfl (by kernel_rfl) (by rfl) hh0 ?_ ?_
 ·intro w' _
  go_simp
 simp only [Act.put, setIfInBounds_toArray, set_cons_zero, set_cons_succ]
 refine tk 16 3 ⟨some 14, _, _, _, _, _⟩ (ptr K.k) rfl (by kernel_rfl) (by rfl) hh0 ?_ ?_
 ·intro w' _
  go_simp
 simp only [Act.put, setIfInBounds_toArray, set_cons_zero, set_cons_succ]
 refine tk 15 4 ⟨some 15, _, _, _, _, _⟩ (ptr K.k) rfl (by kernel_rfl) (by rfl) hh0 ?_ ?_
 ·intro w' _
  go_simp
 simp only [Act.put, setIfInBounds_toArray, set_cons_zero, set_cons_succ]
 refine tk 14 5 ⟨some 16, _, _, _, _, _⟩ (ptr K.k) rfl (by kernel_rfl) (by rfl) hh0 ?_ ?_
 ·intro w' _
  go_simp
 simp only [Act.put, setIfInBounds_toArray, set_cons_zero, set_cons_succ]
 refine tk 13 6 ⟨some 17, _, _, _, _, _⟩ (cv c) rfl (by kernel_rfl) (by rfl) hh0 ?_ ?_
 ·rintro w' ⟨c0, -⟩
  go_simp
 simp only [Act.put, setIfInBounds_toArray, set_cons_zero, set_cons_succ]
 refine tk 12 7 ⟨some 18, _, _, _, _, _⟩ (mv m) rfl (by kernel_rfl) (by rfl) hh0 ?_ ?_
 ·rintro w' ⟨-, c0⟩
  go_simp
 simp only [Act.put, setIfInBounds_toArray, set_cons_zero, set_cons_succ]
 refine rd 11 8 ⟨some 19, _, _, _, _, _⟩ rfl (by kernel_rfl) (fun P hP => ?_)
 go_simp
 refine (HM.out _ _ H0.out).mono ?_
 rintro e w3 ⟨rfl, hb3⟩
 have H3 := Lib.hid (H0.out.step hb3)
 clear hb3
 show P _ _
 refine hP.out _ _ (⟨H3.out.kc, H3.out.cells mz1⟩) (fun hh1 => ?_)
 clear hP P hh0
 refine tk 10 9 ⟨some 20, _, _, _, _, _⟩ (.bool false) rfl (by kernel_rfl) (by rfl) hh1 ?_ ?_
 ·intro w' _
  go_simp
 simp only [Act.put, setIfInBounds_toArray, set_cons_zero, set_cons_succ]
 refine tk 9 10 ⟨some 21, _, _, _, _, _⟩ (.bool false) rfl (by kernel_rfl) (by rfl) hh1 ?_ ?_
 ·intro w' _
  go_simp
 simp only [Act.put, setIfInBounds_toArray, set_cons_zero, set_cons_succ]
 refine tk 8 11 ⟨some 22, _, _, _, _, _⟩ (.bool false) rfl (by kernel_rfl) (by rfl) hh1 ?_ ?_
 ·intro w' _
  go_simp
 simp only [Act.put, setIfInBounds_toArray, set_cons_zero, set_cons_succ]
 refine tk 7 12 ⟨some 23, _, _, _, _, _⟩ (.pointer (some ⟨w.heap.size, 3, none⟩)) rfl (by kernel_rfl) (by rfl) hh1 ?_ ?_
 ·intro w' _
  go_simp
 simp only [Act.put, setIfInBounds_toArray, set_cons_zero, set_cons_succ]
 refine tk 6 13 ⟨some 24, _, _, _, _, _⟩ (.int .i64 m.to) rfl (by kernel_rfl) (by rfl) hh1 ?_ ?_
 ·rintro w' ⟨-, c0⟩
  go_simp
 simp only [Act.put, setIfInBounds_toArray, set_cons_zero, set_cons_succ]
 refine tk 5 14 ⟨some 25, _, _, _, _, _⟩ (ptr K.k) rfl (by kernel_rfl) (by rfl) hh1 ?_ ?_
 ·intro w' _
  go_simp
 simp only [Act.put, setIfInBounds_toArray, set_cons_zero, set_cons_succ]
 refine tk 4 15 ⟨some 26, _, _, _, _, _⟩ (ptr K.k) rfl (by kernel_rfl) (by rfl) hh1 ?_ ?_
 ·intro w' _
  go_simp
 simp only [Act.put, setIfInBounds_toArray, set_cons_zero, set_cons_succ]
 refine tk 3 16 ⟨some 27, _, _, _, _, _⟩ (.pointer (some ⟨K.k, 13, none⟩)) rfl (by kernel_rfl) (by rfl) hh1 ?_ ?_
 ·intro w' _
  go_simp
 simp only [Act.put, setIfInBounds_toArray, set_cons_zero, set_cons_succ]
 refine tk 2 17 ⟨some 28, _, _, _, _, _⟩ (.int .i64 core) rfl (by kernel_rfl) (by rfl) hh1 ?_ ?_
 ·rintro w' ⟨c0, -⟩
  go_simp
 simp only [Act.put, setIfInBounds_toArray, set_cons_zero, set_cons_succ]
 refine tk 1 18 ⟨some 29, _, _, _, _, _⟩ (.bool false) rfl (by kernel_rfl) (by rfl) hh1 ?_ ?_
 ·intro w' _
  go_simp
 simp only [Act.put, setIfInBounds_toArray, set_cons_zero, set_cons_succ]
 refine tk 0 19 ⟨some 30, _, _, _, _, _⟩ (.bool false) rfl (by kernel_rfl) (by rfl) hh1 ?_ ?_
 ·intro w' _
  go_simp
 simp only [Act.put, setIfInBounds_toArray, set_cons_zero, set_cons_succ]
 refine wpAnyH_done (by kernel_rfl) ?_ _
 refine NoPanic.normal ?_
 clear hh1
 have hx3 := H3.out.cells mz1
 go_wp2_with fail
 refine (hbe _ _ H3.out).mono ?_
 rintro e w5 ⟨rfl, ho⟩
 have H5 := Lib.hid ho
 have h4 := H5.out.box mz0
 clear ho hx3
 go_wp2_with ((with_reducible refine wpList_store_row (o := ⟨none, _, _, _, _, _⟩) rfl 38 (.tmp 4) (.tmp 36) rfl (w.heap.size + 1) (mcells r.1) ?sx ?sy 38 ?old ?sg ?si ?so ?s1 ?_); (case sx => rfl); (case sy => rfl); (case old => exact #[.int .i64 0, .int .i64 0, .int .i64 0, .int .i64 0, .int .i64 0, .int .i64 0, .int .i64 0, .int .i64 0, .int .i64 0, .int .i64 0, .int .i64 0, .int .i64 0, .int .i64 0, .int .i64 0, .int .i64 0]); (case sg => exact h4); (case si => kernel_rfl); (case so => rfl); (case s1 => kernel_rfl))
 exact take_ret rfl rfl rfl rfl (setRow_heap _ _ _ _ _ _ h4) H5.out.setRow.drop.drop

theorem Own.take (h : OwnP w0 K c core n s bx w) (hn : n ≤ 900) (m : Msg) :
  Calls Tryz.prog 23 #[ptr K.k, mv m] w (RetT (takeP c core s m).1 (OwnP w0 K c core (n + 2) (takeP c core s m).2 bx)) := by
 have hm : ∀ e w', RetT (m0, false, 1) (OwnP w0 K c core n s bx) e w' → RetT (m0, false, 1) (OwnP w0 K c core (n + 2) s bx) e w' := fun e w' ⟨a, b⟩ => ⟨a, b.more (by omega)⟩
 unfold takeP
 by_cases hk : 4 ≤ m.kd ∧ m.kd ≤ 10
 ·obtain ⟨k, hb, hcf, hbe⟩ := become_yes h hn m hk
  rcases Bool.eq_false_or_eq_true (mayM c m) with hmay | hmay
  ·by_cases ht : m.to = core
   ·rw [if_pos ⟨hk.1, hk.2, hmay, ht⟩]
    refine take_ok h m k hb hmay (by simpa using ht) hcf fun w1 bx1 h1 => ?_
    obtain ⟨k2, hb2, _, hbe2⟩ := become_yes h1 hn m hk
    have e : k2 = k := by
     rw [hb2] at hb
     simpa using hb
    rw [e] at hbe2
    exact hbe2
   ·rw [if_neg (fun q => ht q.2.2.2)]
    exact (take_to h m k hb hmay (by simpa using ht)).mono hm
  ·rw [if_neg (fun q => by rw [hmay] at q; exact absurd q.2.2.1 (by simp))]
   exact (take_may h m k hb hmay).mono hm
 ·rw [if_neg (fun q => hk ⟨q.1, q.2.1⟩)]
  exact (take_kind h m (become_no hk)).mono hm

end Go.Proofs.YtlfhkjjjocmpbaaGreatDoor.Cc
