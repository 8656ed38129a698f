/-
  What Evict does where a line goes into the buffer.
-/
import Derived.Test.YtlfhkjjjocmpbaaGreatDoorCcG
namespace Go.Proofs.YtlfhkjjjocmpbaaGreatDoor.Cc
open Go Go.RowKit

variable {w0 w w' : World} {bx : Bx} {K : Kb} {c : Cfg} {core n : Int} {s : St}
theorem Own.rot {ty : Tys} {p q r : Nat × Obj} (h : Own ty w0 K c core n s (p :: q :: r :: bx) w) : Own ty w0 K c core n s (r :: p :: q :: bx) w := h.perm ((List.Perm.cons p (List.Perm.swap r q bx)).trans (List.Perm.swap r p (q :: bx)))
set_option maxHeartbeats 2000000 in
theorem ev_put (h : OwnP w0 K c core n s bx w) (set way : Int) {st ln : Int} {wd : Wd} (hx : atP c s set way = (⟨st, ln, wd, false⟩, true)) (e0 : (st == 0) = false) (e1 : (st != 1) = true) (ef : (c.wb - s.B.length == 0) = false) :
    Calls Tryz.prog 22 #[ptr K.k, .int .i64 set, .int .i64 way] w (RetT (msg 3 ln core (lnH c ln) 0 0 0 wd, true, 0) (OwnP w0 K c core n { setA c s ln 0 d0 with B := (Wb.putP c.wb s.B ln wd).2 } bx)) := by
  have H0 := Lib.hid (h.add (.cells #[.int .i64 0, .int .i64 0, .int .i64 0, .int .i64 0, .int .i64 0, .int .i64 0, .int .i64 0, .int .i64 0, .int .i64 0, .int .i64 0, .int .i64 0, .int .i64 0, .int .i64 0, .int .i64 0, .int .i64 0] 38))
  have HF := Lib.hid (H0.out.way set way)
  rw [hx] at HF
  have HL := Lib.hid (fun w1 bx (h : OwnP w0 K c core n s bx w1) => h.left)
  clear h hx
  generalize c.wb - (s.B.length : Int) = lf at *
  go_enter Tryz.func22, Tryz.ntmps22
  go_wp2_with fail
  refine HF.out.mono ?_
  rintro e w1 ⟨rfl, hb1⟩
  have H1 := Lib.hid ((H0.out.step hb1).add (.cells (Ar.ycells ⟨st, ln, wd, false⟩) 66))
  have hk1 := H1.out.kc
  clear hb1
  go_wp2_with fail
  refine (HL.out _ _ H1.out).mono ?_
  rintro e w2 ⟨rfl, hb2⟩
  have H2 := Lib.hid (H1.out.step hb2)
  clear hb2 hk1 H1
  have hk2 := H2.out.kc
  have hy2 := H2.out.cells (List.mem_cons_self ..)
  go_wp2_with fail
  go_region_held3 (fun w' => (∀ o, w'.cell? ⟨K.k, o, none⟩ = (kcells c core K)[o]?) ∧ (∀ o, w'.cell? ⟨w1.heap.size, o, none⟩ = (Ar.ycells ⟨st, ln, wd, false⟩)[o]?))
    (first | exact ⟨H3.out.kc, H3.out.cells (List.mem_cons_self ..)⟩ | exact ⟨hk2, hy2⟩ | go_keep)
    (first
      | (go_at_call 50; refine ((by first | exact H2.out | exact H2.out.drew : OwnP w0 K c core n s _ _).set ln 0 d0).mono ?_; rintro e w3 ⟨⟨i3, rfl⟩, ho⟩; have H3 := Lib.hid ho; clear ho))
  clear hk2 hy2
  have hk3 := H3.out.kc
  have hy3 := H3.out.cells (List.mem_cons_self ..)
  go_wp2_with fail
  go_region_held3 (fun w' => (∀ o, w'.cell? ⟨K.k, o, none⟩ = (kcells c core K)[o]?) ∧ (∀ o, w'.cell? ⟨w1.heap.size, o, none⟩ = (Ar.ycells ⟨st, ln, wd, false⟩)[o]?))
    (first | exact ⟨H4.out.kc, H4.out.cells (List.mem_cons_self ..)⟩ | exact ⟨hk3, hy3⟩ | go_keep)
    (first
      | (go_at_call 53; refine ((by first | exact H3.out | exact H3.out.drew : OwnP w0 K c core n (setA c s ln 0 d0) _ _).put ln wd).mono ?_; rintro e w4 ⟨⟨i4, rfl⟩, ho⟩; have H4 := Lib.hid ho; clear ho))
  clear hk3 hy3
  have hy4 := H4.out.cells (List.mem_cons_self ..)
  go_wp2_with fail
  refine H4.out.toHome.mono ?_
  rintro e w5 ⟨rfl, hb5⟩
  have hy5 := ((H4.out.step hb5).add (.cells (mcells (toHomeP c core 3 ln)) 38)).cells (List.mem_cons_of_mem _ (List.mem_cons_self ..))
  have H5 := Lib.hid ((H4.out.step hb5).add (.cells (mcells (msg 3 ln core (lnH c ln) 0 0 0 wd)) 38)).rot
  have h6 := H5.out.box (List.mem_cons_self ..)
  clear hy4 hb5
  go_wp2_with ((with_reducible refine wpList_store_row (o := ⟨none, _, _, _, _, _⟩) rfl 38 (.tmp 6) (.tmp 74) rfl (w.heap.size) (mcells (msg 3 ln core (lnH c ln) 0 0 0 wd)) ?sx ?sy 38 ?old ?sg ?si ?so ?s1 ?_); (case sx => rfl); (case sy => rfl); (case old => exact #[.int .i64 0, .int .i64 0, .int .i64 0, .int .i64 0, .int .i64 0, .int .i64 0, .int .i64 0, .int .i64 0, .int .i64 0, .int .i64 0, .int .i64 0, .int .i64 0, .int .i64 0, .int .i64 0, .int .i64 0]); (case sg => exact h6); (case si => kernel_rfl); (case so => rfl); (case s1 => kernel_rfl))
  exact ev_ret rfl rfl rfl rfl (setRow_heap _ _ _ _ _ _ h6) H5.out.setRow.drop.drop.drop

/-- Evict. -/
theorem Own.evict (h : OwnP w0 K c core n s bx w) (set way : Int) :
    Calls Tryz.prog 22 #[ptr K.k, .int .i64 set, .int .i64 way] w (RetT (evictP c core s set way).1 (OwnP w0 K c core n (evictP c core s set way).2 bx)) := by
  unfold evictP
  rcases hx : atP c s set way with ⟨⟨st, ln, wd, lk⟩, q⟩
  cases q
  · exact ev_none h set way hx
  · rcases Bool.eq_false_or_eq_true (st == 0) with e0 | e0
    · simp only [e0]
      exact ev_inv h set way hx e0
    · simp only [e0]
      cases lk
      · rcases Bool.eq_false_or_eq_true (st != 1) with e1 | e1
        · rcases Bool.eq_false_or_eq_true (c.wb - (s.B.length : Int) == 0) with ef | ef
          · simp only [e1, ef]
            exact ev_full h set way hx e0 e1 ef
          · have e2 : ¬ st = 1 := by simpa using e1
            simp only [e1, ef, if_neg e2]
            exact ev_put h set way hx e0 e1 ef
        · obtain rfl : st = 1 := by simpa using e1
          exact ev_shared h set way hx
      · exact ev_lock h set way hx e0

end Go.Proofs.YtlfhkjjjocmpbaaGreatDoor.Cc
