/-
  What readSizes does with whatever bytes, and Read, the program's.
-/
import Derived.Test.YtjnbpohjdgnknaaDoorScF
namespace Go.Proofs.YtjnbpohjdgnknaaDoor
open Go Go.RowKit

theorem next_13no {b1 b2 : Nat} (r : List UInt8) (w : World) (h : Nx w b1 b2 r) (hn : r.length < 13) :
    Calls Tryd.prog 38 #[.int .i64 13, .pointer (some ⟨b1, 0, none⟩), .pointer (some ⟨b2, 0, none⟩)] w fun e w' => e = .returned (.tuple #[.string ⟨#[]⟩, .bool false]) ∧ w = w' := next_short r 13 w h hn

set_option maxRecDepth 100000 in
set_option maxHeartbeats 2000000 in
theorem sizes_no (b1 b2 : Nat) (r : List UInt8) (w : World) (h : Nx w b1 b2 r) (hr : r.length < 13) :
    Calls Tryd.prog 22 #[nextV b1 b2] w fun e w' => Kept b2 w.heap.size w w' ∧ e = .returned (.tuple #[cv c0, .int .i64 3]) := by
  have hb2 := h.lt
  have H := Lib.hid (h.kept ((Below.refl _ w).alloc (Nat.le_refl _) (.cells (cL c0) 24)))
  clear h
  go_enter Tryd.func22, Tryd.ntmps22
  go_wp2_with fail
  refine (next_13no r _ H.out hr).mono ?_
  rintro e w1 ⟨rfl, rfl⟩
  go_wp2_with ((with_reducible refine wpList_store_row (o := ⟨none, _, _, _, _, _⟩) rfl 24 (.tmp 2) (.tmp 14) rfl w.heap.size (cL c0) ?sx ?sy 24 ?old ?sg ?si ?so ?s1 ?_); (case sx => rfl); (case sy => rfl); (case sg => exact heap_alloc_new w _); (case si => kernel_rfl); (case so => rfl); (case s1 => kernel_rfl))
  refine bodyPost_ret (v := .tuple #[cv c0, .int .i64 3]) (results_cell_two Tryd.results22 _ _ w.heap.size 24 (cL c0) (0, 0) _ rfl (setRow_heap _ _ _ _ _ _ (heap_alloc_new w _)) Tryd.underlying24 rfl (by kernel_rfl)) rfl ⟨?_, rfl⟩
  have hb := below_setRow ((Below.refl w.heap.size w).alloc (Nat.le_refl _) (.cells (cL c0) 24)) (Nat.le_refl _) (cL c0)
  exact ⟨hb.mono (by omega), fun c hc _ => hb.block c hc⟩

/-- What a call gives that reads a machine's sizes out of whatever bytes. -/
def GaveS (b1 b2 : Nat) (r : List UInt8) (w : World) (e : Ending) (w' : World) : Prop :=
  Kept b2 w.heap.size w w' ∧ (r.length < 13 → e = .returned (.tuple #[cv c0, .int .i64 3])) ∧ (¬ r.length < 13 → okC (cfgM r) = true → e = .returned (.tuple #[cv (cfgM r), .int .i64 0]) ∧ Nx w' b1 b2 (r.drop 13)) ∧ (¬ r.length < 13 → okC (cfgM r) = false → e = .returned (.tuple #[cv c0, .int .i64 1]))
theorem long13 {r : List UInt8} (hr : ¬ r.length < 13) : ∃ (x0 x1 x2 x3 x4 x5 x6 x7 x8 x9 x10 x11 x12 : UInt8) (q : List UInt8), r = x0 :: x1 :: x2 :: x3 :: x4 :: x5 :: x6 :: x7 :: x8 :: x9 :: x10 :: x11 :: x12 :: q := by
  obtain _ | ⟨x0, r⟩ := r
  · simp at hr
  obtain _ | ⟨x1, r⟩ := r
  · simp at hr
  obtain _ | ⟨x2, r⟩ := r
  · simp at hr
  obtain _ | ⟨x3, r⟩ := r
  · simp at hr
  obtain _ | ⟨x4, r⟩ := r
  · simp at hr
  obtain _ | ⟨x5, r⟩ := r
  · simp at hr
  obtain _ | ⟨x6, r⟩ := r
  · simp at hr
  obtain _ | ⟨x7, r⟩ := r
  · simp at hr
  obtain _ | ⟨x8, r⟩ := r
  · simp at hr
  obtain _ | ⟨x9, r⟩ := r
  · simp at hr
  obtain _ | ⟨x10, r⟩ := r
  · simp at hr
  obtain _ | ⟨x11, r⟩ := r
  · simp at hr
  obtain _ | ⟨x12, r⟩ := r
  · simp at hr
  exact ⟨x0, x1, x2, x3, x4, x5, x6, x7, x8, x9, x10, x11, x12, r, rfl⟩
theorem sizes_any (b1 b2 : Nat) (r : List UInt8) (w : World) (h : Nx w b1 b2 r) :
    Calls Tryd.prog 22 #[nextV b1 b2] w (GaveS b1 b2 r w) := by
  by_cases hr : r.length < 13
  · exact (sizes_no b1 b2 r w h hr).mono fun e w' ⟨hk, he⟩ => ⟨hk, fun _ => he, fun h => absurd hr h, fun h => absurd hr h⟩
  · obtain ⟨x0, x1, x2, x3, x4, x5, x6, x7, x8, x9, x10, x11, x12, q, rfl⟩ := long13 hr
    exact (sizes_yes b1 b2 x0 x1 x2 x3 x4 x5 x6 x7 x8 x9 x10 x11 x12 q w h).mono fun e w' ⟨hk, h1, h2⟩ => ⟨hk, fun h => absurd h hr, fun _ hok => h1 hok, fun _ hok => h2 hok⟩

abbrev sL (c : Cfg) (pv qv : Value) : Array Value := #[.int .i64 c.co, .int .i64 c.ho, .int .i64 c.se, .int .i64 c.wa, .int .i64 c.wo, .int .i64 c.li, .int .i64 c.po, .int .i64 c.ms, .int .i64 c.bu, .int .i64 c.wb, .int .i64 c.r0, .int .i64 c.r1, .int .i64 c.r2, pv, qv]
abbrev nilV : Value := .slice none 0 0

theorem progs_err {c : Cfg} {r : List UInt8} {x : Int} : ∀ {k : Nat}, progsM c r k = .error x → (x != 0) = true
  | 0, h => by cases h
  | k + 1, h => by
    rw [progsM] at h
    cases hp : progsM c r k with
    | error y =>
      rw [hp] at h
      simp only [moreM] at h
      injection h with h
      subst h
      exact progs_err hp
    | ok p =>
      obtain ⟨ls, q⟩ := p
      rw [hp] at h
      simp only [moreM] at h
      cases hq : progM c q with
      | error y =>
        rw [hq] at h
        simp only at h
        injection h with h
        subst h
        exact prog_err hq
      | ok p =>
        rw [hq] at h
        cases h

/-- What a call gives that reads a script: a script that is the call's own, or an error. -/
def GaveRd (o : Except Int Scr) (w : World) (e : Ending) (w' : World) : Prop :=
  Below w.heap.size w w' ∧ match o with
    | .error x => e = .returned (.tuple #[.agg (sL c0 nilV nilV), .int .i64 x])
    | .ok s => ∃ pv qv, e = .returned (.tuple #[.agg (sL s.c pv qv), .int .i64 0]) ∧ OwnLs w' w.heap.size pv s.ps ∧ w'.ownsRow w.heap.size 49 3 qv s.pk.length (opCells s.pk)

/-- Read's own block, and nothing that was there has changed. -/
structure RdSt (w : World) (b2 : Nat) (wr : World) : Prop where
  box : wr.heap[w.heap.size]? = some (.cells (sL c0 nilV nilV) 28 (0, 0))
  below : Below w.heap.size w wr
  above : w.heap.size < b2
theorem RdSt.lt {w wr : World} {b2 : Nat} (h : RdSt w b2 wr) : w.heap.size < wr.heap.size := lt_of_block h.box
theorem RdSt.kept {w w1 w2 : World} {b2 : Nat} (h : RdSt w b2 w1) (hk : Kept b2 w1.heap.size w1 w2) : RdSt w b2 w2 :=
  ⟨(hk.other _ h.lt (by have := h.above; omega)).trans h.box, h.below.trans (hk.below.mono (by have := h.above; omega)), h.above⟩
theorem RdSt.step {w w1 w2 : World} {b2 : Nat} (h : RdSt w b2 w1) (hb : Below w1.heap.size w1 w2) : RdSt w b2 w2 :=
  ⟨(hb.block _ h.lt).trans h.box, h.below.trans (hb.mono (Nat.le_of_lt h.lt)), h.above⟩
/-- The block with the machine's sizes. -/
structure Szs (k b2 : Nat) (c : Cfg) (wr : World) : Prop where
  box : wr.heap[k]? = some (.cells (cL c) 24 (0, 0))
  ne : k ≠ b2
theorem Szs.kept {w1 w2 : World} {k b2 : Nat} {c : Cfg} (h : Szs k b2 c w1) (hk : Kept b2 w1.heap.size w1 w2) : Szs k b2 c w2 :=
  ⟨(hk.other _ (lt_of_block h.box) h.ne).trans h.box, h.ne⟩
theorem Szs.cell {w1 : World} {k b2 : Nat} {c : Cfg} (h : Szs k b2 c w1) (o : Nat) : w1.cell? ⟨k, o, none⟩ = (cL c)[o]? := by simp [World.cell?, h.box]

theorem read_ret {w wr : World} {b2 : Nat} {LL : Array Value} {x : Int} {a : Act} {Q : Ending → World → Prop} (hp : a.tmps.getD 2 undef = .pointer (some ⟨w.heap.size, 0, none⟩)) (hx : a.tmps.getD 3 undef = .int .i64 x) (hd : a.defers = []) (hL : LL.size = 15) (hR : RdSt w b2 wr)
    (h : Below w.heap.size w (wr.setRow w.heap.size LL) → Below w.heap.size wr (wr.setRow w.heap.size LL) → Q (.returned (.tuple #[.agg LL, .int .i64 x])) (wr.setRow w.heap.size LL)) :
    bodyPost Tryd.prog Tryd.f11 Q Exit.ret a (wr.setRow w.heap.size LL) := by
  have hbr := below_setRow (Below.refl w.heap.size wr) (Nat.le_refl _) LL
  refine bodyPost_ret (v := .tuple #[.agg LL, a.tmps.getD 3 undef]) (results_cell_two Tryd.results11 _ _ w.heap.size 28 _ (0, 0) _ hp (setRow_heap _ _ _ _ _ _ hR.box) Tryd.underlying28 rfl (by rw [hL]; kernel_rfl)) hd ?_
  rw [hx]
  exact h (hR.below.trans hbr) hbr

theorem own_form {w : World} {base e sz n : Nat} {v : Value} {xs : List Value} (h : w.ownsRow base e sz v n xs) : ∃ a k cap, v = .slice a k cap := by
  rcases h.2 with ⟨rfl, _⟩ | ⟨g', cap, cur, rfl, _⟩
  · exact ⟨_, _, _, rfl⟩
  · exact ⟨_, _, _, rfl⟩
theorem ownls_form {w : World} {B : Nat} {v : Value} {ls : List (List Op)} (h : OwnLs w B v ls) : ∃ a k cap, v = .slice a k cap := by
  obtain ⟨us, h1, _⟩ := h
  exact own_form h1
theorem own_row {w : World} {base e sz n g : Nat} {v : Value} {xs : List Value} (h : w.ownsRow base e sz v n xs) (hg : g < base) (cs : Array Value) : (w.setRow g cs).ownsRow base e sz v n xs := by
  refine ⟨h.1, ?_⟩
  rcases h.2 with hn | ⟨g', cap, cur, rfl, hb', hgg, rest⟩
  · exact .inl hn
  · exact .inr ⟨g', cap, cur, rfl, hb', (setRow_other w g g' cs (by omega)).trans hgg, rest⟩
theorem OwnLs.row {w : World} {B g : Nat} {v : Value} {ls : List (List Op)} (h : OwnLs w B v ls) (hg : g < B) (cs : Array Value) : OwnLs (w.setRow g cs) B v ls := by
  obtain ⟨us, h1, h2, h3⟩ := h
  exact ⟨us, own_row h1 hg cs, h2, fun j hj => own_row (h3 j hj) hg cs⟩

set_option maxRecDepth 100000 in
set_option maxHeartbeats 4000000 in
/-- Read, the program's. -/
theorem read_script (s : ByteArray) (w : World) (hs : s.size ≤ 100000000) :
    Calls Tryd.prog 11 #[.string s] w (GaveRd (rdM s.data.toList) w) := by
  go_enter Tryd.func11, Tryd.ntmps11
  go_wp2_with fail
  refine (taker_any s _ hs).mono ?_
  rintro e w1 ⟨rfl, hn1, hb1⟩
  have R1 : Hid (RdSt w (w.heap.size + 2) w1) := Lib.hid ⟨(hb1.block w.heap.size (by simp)).trans (heap_alloc_new w _), ((Below.refl _ w).alloc (Nat.le_refl _) _).trans (hb1.mono (by simp)), by omega⟩
  have N1 : Hid (Nx w1 (w.heap.size + 1) (w.heap.size + 2) s.data.toList) := Lib.hid ⟨s, 0, by simpa using hn1, rfl⟩
  clear hn1 hb1
  generalize s.data.toList = b at *
  go_wp2_with fail
  refine (sizes_any _ _ _ _ N1.out).mono ?_
  rintro e w2 ⟨hk2, hz1, hz2, hz3⟩
  have R2 := Lib.hid (R1.out.kept hk2)
  by_cases hl : b.length < 13
  · have HE : Hid (rdM b = .error 3) := Lib.hid (by unfold rdM; rw [if_pos hl])
    obtain rfl := hz1 hl
    have R3 := Lib.hid (R2.out.step ((Below.refl _ w2).alloc (Nat.le_refl _) (.cells (cL c0) 24)))
    clear hk2 hz1 hz2 hz3
    go_wp2_with ((with_reducible refine wpList_store_row (o := ⟨none, _, _, _, _, _⟩) rfl 28 (.tmp 2) (.tmp 18) rfl w.heap.size (sL c0 nilV nilV) ?sx ?sy 28 ?old ?sg ?si ?so ?s1 ?_); (case sx => rfl); (case sy => rfl); (case sg => exact R3.out.box); (case si => kernel_rfl); (case so => rfl); (case s1 => kernel_rfl))
    exact read_ret rfl rfl rfl rfl R3.out (fun hb _ => by rw [HE.out]; exact ⟨hb, rfl⟩)
  · rcases Bool.eq_false_or_eq_true (okC (cfgM b)) with hok | hok
    · obtain ⟨rfl, hn2⟩ := hz2 hl hok
      have hco := co_nat hok
      have HC := Lib.hid (cfgM_fits b)
      have R3 := Lib.hid (R2.out.step ((Below.refl _ w2).alloc (Nat.le_refl _) (.cells (cL (cfgM b)) 24)))
      have N3 := Lib.hid (hn2.kept ((Below.refl _ w2).alloc (Nat.le_refl _) (.cells (cL (cfgM b)) 24)))
      have S3 : Hid (Szs w2.heap.size (w.heap.size + 2) (cfgM b) (w2.alloc (.cells (cL (cfgM b)) 24))) := Lib.hid ⟨heap_alloc_new w2 _, by have := hn2.lt; omega⟩
      have HR : Hid (rdM b = endM (cfgM b) (progsM (cfgM b) (b.drop 13) (cfgM b).co.toNat)) := Lib.hid (by unfold rdM; rw [if_neg hl, if_pos hok])
      have HOK := Lib.hid hok
      have hs3 := S3.out.cell
      clear hk2 hz1 hz2 hz3 hn2 hok
      generalize cfgM b = c at *
      generalize b.drop 13 = r at *
      go_wp2_with fail
      refine (programs_any c _ _ r _ HC.out HOK.out N3.out).mono ?_
      rintro e w4 ⟨hk4, h4⟩
      have R4 := Lib.hid (R3.out.kept hk4)
      have S4 := Lib.hid (S3.out.kept hk4)
      clear hk4 hs3
      cases hp : progsM c r c.co.toNat with
      | error x =>
        rw [hp] at h4
        have hx := progs_err hp
        have HE : Hid (rdM b = .error x) := Lib.hid (by rw [HR.out, hp]; rfl)
        subst h4
        clear hp
        go_wp2_with ((with_reducible refine wpList_store_row (o := ⟨none, _, _, _, _, _⟩) rfl 28 (.tmp 2) (.tmp 28) rfl w.heap.size (sL c0 nilV nilV) ?sx ?sy 28 ?old ?sg ?si ?so ?s1 ?_); (case sx => rfl); (case sy => rfl); (case sg => exact R4.out.box); (case si => kernel_rfl); (case so => rfl); (case s1 => kernel_rfl))
        exact read_ret rfl rfl rfl rfl R4.out (fun hb _ => by rw [HE.out]; exact ⟨hb, rfl⟩)
      | ok p =>
        obtain ⟨ls, r2⟩ := p
        rw [hp] at h4
        obtain ⟨pv, rfl, ho4, hn4⟩ := h4
        obtain ⟨pa, pn, pc, rfl⟩ := ownls_form ho4
        have HR2 : Hid (rdM b = endM c (.ok (ls, r2))) := Lib.hid (by rw [HR.out, hp])
        have O4 := Lib.hid ho4
        have N4 := Lib.hid hn4
        clear hp ho4 hn4 HR
        go_wp2_with fail
        refine (picks_any _ _ r2 _ N4.out).mono ?_
        rintro e w5 ⟨hk5, h5, h5'⟩
        have R5 := Lib.hid (R4.out.kept hk5)
        have S5 := Lib.hid (S4.out.kept hk5)
        have O5 := Lib.hid (O4.out.kept hk5 (by have := N3.out.lt; omega))
        clear hk5
        by_cases hq : (picksM r2).2 = []
        · obtain ⟨qv, rfl, ho5⟩ := h5 hq
          obtain ⟨qa, qn, qc, rfl⟩ := own_form ho5
          have HE : Hid (rdM b = .ok ⟨c, ls, (picksM r2).1⟩) := Lib.hid (by rw [HR2.out]; simp only [endM]; rw [if_pos hq])
          have P5 := Lib.hid ho5
          have hs5 := S5.out.cell
          clear h5 h5' hq ho5
          generalize (picksM r2).1 = pk at *
          go_wp2_with ((with_reducible refine wpList_store_row (o := ⟨none, _, _, _, _, _⟩) rfl 28 (.tmp 2) (.tmp 42) rfl w.heap.size (sL c (.slice pa pn pc) (.slice qa qn qc)) ?sx ?sy 28 ?old ?sg ?si ?so ?s1 ?_); (case sx => rfl); (case sy => rfl); (case sg => exact R5.out.box); (case si => kernel_rfl); (case so => rfl); (case s1 => kernel_rfl))
          refine read_ret (LL := sL c (.slice pa pn pc) (.slice qa qn qc)) (x := 0) ?_ ?_ ?_ ?_ R5.out (fun hb hb2 => ?_)
          · rfl
          · rfl
          · rfl
          · rfl
          rw [HE.out]
          exact ⟨hb, _, _, rfl, (O5.out.row (by have := N3.out.lt; omega) _).base (by have := N3.out.lt; omega), own_base (own_row P5.out (by have := R4.out.lt; omega) _) (by have := R4.out.lt; omega)⟩
        · obtain rfl := h5' hq
          have HE : Hid (rdM b = .error 3) := Lib.hid (by rw [HR2.out]; simp only [endM]; rw [if_neg hq])
          clear h5 h5' hq
          go_wp2_with ((with_reducible refine wpList_store_row (o := ⟨none, _, _, _, _, _⟩) rfl 28 (.tmp 2) (.tmp 37) rfl w.heap.size (sL c0 nilV nilV) ?sx ?sy 28 ?old ?sg ?si ?so ?s1 ?_); (case sx => rfl); (case sy => rfl); (case sg => exact R5.out.box); (case si => kernel_rfl); (case so => rfl); (case s1 => kernel_rfl))
          exact read_ret rfl rfl rfl rfl R5.out (fun hb _ => by rw [HE.out]; exact ⟨hb, rfl⟩)
    · have HE : Hid (rdM b = .error 1) := Lib.hid (by unfold rdM; rw [if_neg hl, hok]; rfl)
      obtain rfl := hz3 hl hok
      have R3 := Lib.hid (R2.out.step ((Below.refl _ w2).alloc (Nat.le_refl _) (.cells (cL c0) 24)))
      clear hk2 hz1 hz2 hz3
      go_wp2_with ((with_reducible refine wpList_store_row (o := ⟨none, _, _, _, _, _⟩) rfl 28 (.tmp 2) (.tmp 18) rfl w.heap.size (sL c0 nilV nilV) ?sx ?sy 28 ?old ?sg ?si ?so ?s1 ?_); (case sx => rfl); (case sy => rfl); (case sg => exact R3.out.box); (case si => kernel_rfl); (case so => rfl); (case s1 => kernel_rfl))
      exact read_ret rfl rfl rfl rfl R3.out (fun hb _ => by rw [HE.out]; exact ⟨hb, rfl⟩)

end Go.Proofs.YtjnbpohjdgnknaaDoor
