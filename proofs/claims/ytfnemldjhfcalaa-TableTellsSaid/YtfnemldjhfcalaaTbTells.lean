/-
  TableTells is true.
-/
import Derived.Test.YtfnemldjhfcalaaTbU
import Derived.Test.YtfnemldjhfcalaaTbOne
import Derived.Deep.RegionHeld3
import Derived.Deep.CutRange
import Derived.Deep.DeepCutAuto
namespace Go.Proofs.Ytfnemldjhfcalaa
open Go Go.RowKit Go.Sort

theorem rnew_is {c m : Int} {e : En} {err : Int} (h : newE c m = (e, err)) (w : World) : Calls Try.prog 8 #[.int .i64 c, .int .i64 m] w (GaveN w e err) := by
  have := rnew_any c m w
  rw [h] at this
  exact this
theorem newE_nil {c m : Int} {e : En} {err : Int} (h : newE c m = (e, err)) : e.s.l = [] := by
  unfold newE at h
  split at h <;> (have := (Prod.ext_iff.1 h).1; simp only at this; subst this; rfl)
theorem next_len {e : En} {m : Msg} {v : W8} {t : Tn} {err : Int} (h : nextT e m v = (t, err)) : t.e.s.l.length ≤ 5000 ∧ t.sent.length ≤ 1000 := by
  rcases next_fine e m v with ⟨err', hN, -⟩ | ⟨-, t', X, L, hN, hF⟩
  · have := (Prod.ext_iff.1 (h.symm.trans hN)).1
    simp only at this
    subst this
    simp [zT, zE, z0]
  · have := (Prod.ext_iff.1 (h.symm.trans hN)).1
    simp only at this
    subst this
    have h1 := (may_bounds (may_parts hF.may).1).2.2.2.2
    have h2 := hF.len
    refine ⟨by omega, ?_⟩
    rw [hF.sent]
    simp [invs_len]
    omega
theorem NumsIn.sep {w : World} {p : Option Addr} {l : List Int} (h : NumsIn w p l) : l ≠ [] → ∀ a, p = some a → a.block ≠ w.heap.size := fun hl a ha => by
  obtain ⟨g, off, e, hg, -⟩ := h 0 (by cases l with | nil => exact absurd rfl hl | cons => simp)
  rw [ha] at e
  cases e
  simp only
  omega
theorem MsIn.sep {w : World} {q : Option Addr} {L : List Msg} (h : MsIn w q L) : L ≠ [] → ∀ a, q = some a → a.block ≠ w.heap.size := fun hl a ha => by
  obtain ⟨x, hx⟩ : ∃ x, L[0]? = some x := by cases L with | nil => exact absurd rfl hl | cons x t => exact ⟨x, rfl⟩
  obtain ⟨k, e, hk, -⟩ := h 0 x hx
  rw [ha] at e
  cases e
  simp only
  omega
theorem MsIn.sepZ {w : World} {q : Option Addr} {L : List Msg} {r : Nat} {t : TypeId} (h : MsIn w q L) (hr : w.heap[r]? = some (.cells ztc t (0, 0))) : L ≠ [] → ∀ a, q = some a → a.block ≠ r := fun hl a ha e => by
  obtain ⟨x, hx⟩ : ∃ x, L[0]? = some x := by cases L with | nil => exact absurd rfl hl | cons x t => exact ⟨x, rfl⟩
  obtain ⟨k, e2, -, hv⟩ := h 0 x hx
  rw [ha] at e2
  cases e2
  simp only at e
  subst e
  have h3 := hv 3 _ rfl
  rw [blk_cell hr] at h3
  simp at h3
theorem MsIn.rowS {w : World} {q : Option Addr} {L : List Msg} (h : MsIn w q L) (r : Nat) (hs : L ≠ [] → ∀ a, q = some a → a.block ≠ r) (cs : Array Value) : MsIn (w.setRow r cs) q L := fun i x hx => by
  obtain ⟨k, e, hk, hv⟩ := h i x hx
  have hne := hs (fun e => by rw [e] at hx; simp at hx) _ e
  exact ⟨k, e, by simpa using hk, fun j u hu => (World.cell?_of_block (a := ⟨k, i * 15 + j, none⟩) (setRow_other w r k cs hne)).trans (hv j u hu)⟩

/-- What the law carries from call to call. -/
structure T8 (w : World) (G : List (Nat × Array Value × TypeId)) (E1 : En) (px py : Option Addr) (T : Tn) (pt qt : Option Addr) (wr : World) : Prop where
  bx : Bx w G wr
  nx : NumsIn wr px E1.s.l
  ny : NumsIn wr py E1.s.l
  nt : NumsIn wr pt T.e.s.l
  mt : MsIn wr qt T.sent
theorem T8.step {w wr wr' : World} {G : List (Nat × Array Value × TypeId)} {E1 : En} {px py pt qt : Option Addr} {T : Tn} (h : T8 w G E1 px py T pt qt wr) (hb : Below wr.heap.size wr wr') : T8 w G E1 px py T pt qt wr' :=
  ⟨h.bx.step hb, h.nx.step hb, h.ny.step hb, h.nt.step hb, h.mt.step hb⟩
/-- A block that is none of these. -/
def Sep8 (w : World) (G : List (Nat × Array Value × TypeId)) (E1 : En) (px py : Option Addr) (T : Tn) (pt qt : Option Addr) (r : Nat) : Prop :=
  ((∀ z ∈ G, z.1 ≠ r) ∧ w.heap.size ≤ r) ∧ (E1.s.l ≠ [] → ∀ a, px = some a → a.block ≠ r) ∧ (E1.s.l ≠ [] → ∀ a, py = some a → a.block ≠ r) ∧ (T.e.s.l ≠ [] → ∀ a, pt = some a → a.block ≠ r) ∧ (T.sent ≠ [] → ∀ a, qt = some a → a.block ≠ r)
theorem T8.sep {w wr : World} {G : List (Nat × Array Value × TypeId)} {E1 : En} {px py pt qt : Option Addr} {T : Tn} (h : T8 w G E1 px py T pt qt wr) : Sep8 w G E1 px py T pt qt wr.heap.size :=
  ⟨h.bx.fresh, h.nx.sep, h.ny.sep, h.nt.sep, h.mt.sep⟩
theorem T8.row {w wr : World} {G : List (Nat × Array Value × TypeId)} {E1 : En} {px py pt qt : Option Addr} {T : Tn} {r : Nat} (h : T8 w G E1 px py T pt qt wr) (s : Sep8 w G E1 px py T pt qt r) (cs : Array Value) : T8 w G E1 px py T pt qt (wr.setRow r cs) :=
  ⟨h.bx.away s.1.1 s.1.2 cs, h.nx.rowN r s.2.1 cs, h.ny.rowN r s.2.2.1 cs, h.nt.rowN r s.2.2.2.1 cs, h.mt.rowS r s.2.2.2.2 cs⟩
/-- .. and the document's turn. -/
structure T9 (w : World) (G : List (Nat × Array Value × TypeId)) (E1 : En) (px py : Option Addr) (T : Tn) (pt qt pu qu : Option Addr) (gu : Nat) (U : Array Value) (wr : World) : Prop where
  t8 : T8 w G E1 px py T pt qt wr
  u : wr.heap[gu]? = some (.cells U 46 (0, 0))
  nu : NumsIn wr pu T.e.s.l
  mu : MsIn wr qu T.sent
theorem T9.step {w wr wr' : World} {G : List (Nat × Array Value × TypeId)} {E1 : En} {px py pt qt pu qu : Option Addr} {T : Tn} {gu : Nat} {U : Array Value} (h : T9 w G E1 px py T pt qt pu qu gu U wr) (hb : Below wr.heap.size wr wr') : T9 w G E1 px py T pt qt pu qu gu U wr' :=
  ⟨h.t8.step hb, (hb.block _ (lt_of_block h.u)).trans h.u, h.nu.step hb, h.mu.step hb⟩

set_option maxRecDepth 100000 in
set_option maxHeartbeats 16000000 in
theorem tableTells_any (e : En) (p : Option Addr) (cap : Nat) (m : Msg) (v : W8) (c n : Int) (w : World) (hl : e.s.l.length ≤ 9223372036854775807) (hn : NumsIn w p e.s.l) :
    Calls Try.prog 3 #[ev e p cap, mv m, .agg (wcells v), .int .i64 c, .int .i64 n] w (Yes w) := by
  have B0 := Bx.three w (ecells e p cap) (mcells m) (wcells v) 26 30 28
  have HN := Lib.hid hn
  clear hn
  by_cases hlen : e.s.l.length ≤ 100
  rotate_left
  · have hq : (100 : Int) < (e.s.l.length : Int) := by omega
    clear hlen
    go_enter Try.func3, Try.ntmps3
    go_wp2_with (go_at_call 6; refine (tawake_any _).mono ?_; rintro _ w1 ⟨rfl, hb1⟩; have B1 := B0.step hb1; have hcE := B1.cells (.tail _ (.tail _ (.head _))); clear hb1)
    go_ret
    exact ⟨rfl, B1.below⟩
  have hq : ¬ (100 : Int) < (e.s.l.length : Int) := by omega
  have hl5 : e.s.l.length ≤ 5000 := by omega
  obtain ⟨E1, f1, hNE⟩ : ∃ E1 f1, newE c n = (E1, f1) := ⟨_, _, rfl⟩
  obtain ⟨T, err, hNX⟩ : ∃ T err, nextT e m v = (T, err) := ⟨_, _, rfl⟩
  obtain ⟨hT5, hTs⟩ := next_len hNX
  have hE5 : E1.s.l.length ≤ 5000 := by rw [newE_nil hNE]; simp
  obtain ⟨em, hem⟩ : ∃ b, e.may = b := ⟨_, rfl⟩
  have HEM := Lib.hid hem
  have HNE := Lib.hid hNE
  have HNX := Lib.hid hNX
  clear hNE hNX hem
  go_enter Try.func3, Try.ntmps3
  go_upto_region 8 with (first
    | (go_at_call 6; refine (tawake_any _).mono ?_; rintro _ w1 ⟨rfl, hb1⟩; have B1 := B0.step hb1; have hcE := B1.cells (.tail _ (.tail _ (.head _))); clear hb1)
    | (go_at_call 7; refine (tnew_is HNE.out _).mono ?_; rintro _ w2 ⟨px, cx, rfl, hx, hb2⟩; have B2 := (B1.step hb2).add (ecells E1 px cx) 26; have HX := Lib.hid (hx.step (balloc w2 (.cells (ecells E1 px cx) 26))); clear hb2 hx hcE)
    | (go_at_call 8; refine (rnew_is HNE.out _).mono ?_; rintro _ w3 ⟨py, cy, rfl, hy, hb3⟩; have B3 := (B2.step hb3).add (ecells E1 py cy) 37; have HX3 := Lib.hid ((HX.out.step hb3).step (balloc w3 (.cells (ecells E1 py cy) 37))); have HY3 := Lib.hid (hy.step (balloc w3 (.cells (ecells E1 py cy) 37))); have hcE := B3.cells (.tail _ (.tail _ (.tail _ (.tail _ (.head _))))); have hcM := B3.cells (.tail _ (.tail _ (.tail _ (.head _)))); have hcW := B3.cells (.tail _ (.tail _ (.head _))); clear hb3 hy HX)
    | (go_at_call 9; refine (next_is HNX.out p cap _ (HN.out.step B3.below) hl5).mono ?_; rintro _ w4 ⟨pt, ct, qt, kt, rfl, ht, hmt, hb4⟩; have hal := balloc w4 (.cells (tcells T pt ct (.slice qt T.sent.length kt)) 42); have Q4 := Lib.hid (T8.mk (E1 := E1) (T := T) ((B3.step hb4).add (tcells T pt ct (.slice qt T.sent.length kt)) 42) ((HX3.out.step hb4).step hal) ((HY3.out.step hb4).step hal) (ht.step hal) (hmt.step hal)); clear hb4 ht hmt hal hcE hcM hcW HX3 HY3))
  have hxb := Q4.out.bx.cells (.tail _ (.tail _ (.tail _ (.tail _ (.tail _ (.head _))))))
  generalize World.alloc w4 _ = wr at Q4 hxb ⊢
  generalize w4.heap.size = tb at *
  generalize w3.heap.size = yb at *
  generalize w2.heap.size = xb at *
  clear hxb B0 B1 B2 B3
  go_cut [17, 18] (fun s17 s18 wx => ∃ gu pu cu qu ku, s17 = .pointer (some ⟨gu, 0, none⟩) ∧ s18 = .int .i64 err ∧ T9 w [(tb, tcells T pt ct (.slice qt T.sent.length kt), 42), (yb, ecells E1 py cy, 37), (xb, ecells E1 px cx, 26), (w.heap.size + 1 + 1, wcells v, 28), (w.heap.size + 1, mcells m, 30), (w.heap.size, ecells e p cap, 26)] E1 px py T pt qt pu qu gu (tcells T pu cu (.slice qu T.sent.length ku)) wx)
  case first =>
    have Q0 := Lib.hid (Q4.out.step (below_drew _))
    clear Q4
    generalize hW0 : wr.drew = W0 at Q0
    refine wp_region_noPanic ?_
    refine wp_region_held_drew (S := fun w' => (∀ o, w'.cell? ⟨w.heap.size, o, none⟩ = (ecells e p cap)[o]?) ∧ (∀ o, w'.cell? ⟨w.heap.size + 1, o, none⟩ = (mcells m)[o]?) ∧ (∀ o, w'.cell? ⟨w.heap.size + 1 + 1, o, none⟩ = (wcells v)[o]?)) (by kernel_rfl) (by rw [hW0]; exact ⟨Q0.out.bx.cells (.tail _ (.tail _ (.tail _ (.tail _ (.tail _ (.head _)))))), Q0.out.bx.cells (.tail _ (.tail _ (.tail _ (.tail _ (.head _))))), Q0.out.bx.cells (.tail _ (.tail _ (.tail _ (.head _))))⟩) (fun hh => ?_)
    rw [hW0] at hh ⊢
    refine wpAnyH_take (fuel := 10) (i := 0) (oi := ⟨some 46, _, _, _, _, _⟩) (v := .agg (ecells e p cap)) rfl (by kernel_rfl) (by kernel_rfl) (by kernel_rfl) (fun _ _ _ h => h) (Or.inl ⟨by rfl, ?_⟩) hh ?_
    · rintro w' ⟨c0, _, _⟩
      go_simp
    simp only [Act.put, List.setIfInBounds_toArray, List.set_cons_zero, List.set_cons_succ]
    refine wpAnyH_take (fuel := 9) (i := 2) (oi := ⟨some 48, _, _, _, _, _⟩) (v := .agg (mcells m)) rfl (by kernel_rfl) (by kernel_rfl) (by kernel_rfl) (fun _ _ _ h => h) (yields_load_at (by rfl) 30 (.tmp 6) rfl (w.heap.size + 1) 0 rfl (mcells m) _ (fun w' ⟨_, c0, _⟩ => range_of c0) Try.underlying30 rfl (by kernel_rfl)) hh ?_
    simp only [Act.put, List.setIfInBounds_toArray, List.set_cons_zero, List.set_cons_succ]
    refine wpAnyH_take (fuel := 8) (i := 3) (oi := ⟨some 49, _, _, _, _, _⟩) (v := .agg (wcells v)) rfl (by kernel_rfl) (by kernel_rfl) (by kernel_rfl) (fun _ _ _ h => h) (Or.inl ⟨by rfl, ?_⟩) hh ?_
    · rintro w' ⟨_, _, c0⟩
      go_simp
    simp only [Act.put, List.setIfInBounds_toArray, List.set_cons_zero, List.set_cons_succ]
    refine wpAnyH_ready (fuel := 7) (rs := [1, 8]) (by kernel_rfl) (by simp) ?_
    refine AllReadyH.cons (o := ⟨some 47, _, _, _, _, _⟩) rfl (fun K hK => ?_) (AllReadyH.cons (o := ⟨some 17, _, _, _, _, _⟩) rfl (fun K hK => ?_) AllReadyH.nil)
    · skip
      go_simp
      refine (own13_any e p cap _).mono ?_
      rintro _ W1 ⟨rfl, hbb⟩
      have Q1 := Lib.hid (Q0.out.step hbb)
      show K _ _
      refine hK.out _ _ ⟨Q1.out.bx.cells (.tail _ (.tail _ (.tail _ (.tail _ (.tail _ (.head _)))))), Q1.out.bx.cells (.tail _ (.tail _ (.tail _ (.tail _ (.head _))))), Q1.out.bx.cells (.tail _ (.tail _ (.tail _ (.head _))))⟩ (fun hh7 => ?_)
      clear hK K hh hbb
      try simp only [Act.put, List.setIfInBounds_toArray, List.set_cons_zero, List.set_cons_succ]
      refine wpAnyH_ready (fuel := 6) (rs := [4, 8]) (by kernel_rfl) (by simp) ?_
      refine AllReadyH.cons (o := ⟨some 50, _, _, _, _, _⟩) rfl (fun K hK => ?_) (AllReadyH.cons (o := ⟨some 17, _, _, _, _, _⟩) rfl (fun K hK => ?_) AllReadyH.nil)
      · skip
        go_simp
        refine (rnext_is HNX.out p cap _ (HN.out.step Q1.out.bx.below) hl5).mono ?_
        rintro _ W2 ⟨pu, cu, qu, ku, rfl, hnu, hmu, hbb, hou⟩
        have NU2 := Lib.hid hnu
        have MU2 := Lib.hid hmu
        have Q2 := Lib.hid (Q1.out.step hbb)
        show K _ _
        refine hK.out _ _ ⟨Q2.out.bx.cells (.tail _ (.tail _ (.tail _ (.tail _ (.tail _ (.head _)))))), Q2.out.bx.cells (.tail _ (.tail _ (.tail _ (.tail _ (.head _))))), Q2.out.bx.cells (.tail _ (.tail _ (.tail _ (.head _))))⟩ (fun hh6 => ?_)
        clear hK K hh7 hbb hnu hmu hou
        try simp only [Act.put, List.setIfInBounds_toArray, List.set_cons_zero, List.set_cons_succ]
        refine wpAnyH_take (fuel := 5) (i := 5) (oi := ⟨some 45, _, _, _, _, _⟩) (v := .tuple #[.agg (tcells T pu cu (.slice qu T.sent.length ku)), .int .i64 err]) rfl (by kernel_rfl) (by kernel_rfl) (by kernel_rfl) (fun _ _ _ h => h) (Or.inl ⟨by rfl, ?_⟩) hh6 ?_
        · intro w' _
          go_simp
        simp only [Act.put, List.setIfInBounds_toArray, List.set_cons_zero, List.set_cons_succ]
        refine wpAnyH_take (fuel := 4) (i := 6) (oi := ⟨some 51, _, _, _, _, _⟩) (v := .agg (tcells T pu cu (.slice qu T.sent.length ku))) rfl (by kernel_rfl) (by kernel_rfl) (by kernel_rfl) (fun _ _ _ h => h) (Or.inl ⟨by rfl, ?_⟩) hh6 ?_
        · intro w' _
          go_simp
        simp only [Act.put, List.setIfInBounds_toArray, List.set_cons_zero, List.set_cons_succ]
        refine wpAnyH_take (fuel := 3) (i := 7) (oi := ⟨some 52, _, _, _, _, _⟩) (v := .int .i64 err) rfl (by kernel_rfl) (by kernel_rfl) (by kernel_rfl) (fun _ _ _ h => h) (Or.inl ⟨by rfl, ?_⟩) hh6 ?_
        · intro w' _
          go_simp
        simp only [Act.put, List.setIfInBounds_toArray, List.set_cons_zero, List.set_cons_succ]
        refine wpAnyH_ready (fuel := 2) (rs := [8]) (by kernel_rfl) (by simp) ?_
        refine AllReadyH.cons (o := ⟨some 17, _, _, _, _, _⟩) rfl (fun K hK => ?_) AllReadyH.nil
        go_simp
        have hbb := balloc W2 (.cells ztc 46)
        have hnew := heap_alloc_new W2 (.cells ztc 46)
        have SP := Lib.hid Q2.out.sep
        have PS := Lib.hid NU2.out.sep
        have QS := Lib.hid MU2.out.sep
        generalize hWq : W2.alloc (.cells ztc 46) = W3 at hbb hnew
        have Z3 := Lib.hid hnew
        have Q3 := Lib.hid (Q2.out.step hbb)
        have NU3 := Lib.hid (NU2.out.step hbb)
        have MU3 := Lib.hid (MU2.out.step hbb)
        show K _ _
        refine hK.out _ _ ⟨Q3.out.bx.cells (.tail _ (.tail _ (.tail _ (.tail _ (.tail _ (.head _)))))), Q3.out.bx.cells (.tail _ (.tail _ (.tail _ (.tail _ (.head _))))), Q3.out.bx.cells (.tail _ (.tail _ (.tail _ (.head _))))⟩ (fun hh2 => ?_)
        clear hK K hh6 hbb hnew hWq
        try simp only [Act.put, List.setIfInBounds_toArray, List.set_cons_zero, List.set_cons_succ]
        refine wpAnyH_ready (fuel := 1) (rs := [9]) (by kernel_rfl) (by simp) ?_
        refine AllReadyH.cons (o := ⟨none, _, _, _, _, _⟩) rfl (fun K hK => ?_) AllReadyH.nil
        rw [if_pos (by rfl)]
        refine wp_store_row 46 (.tmp 17) (.tmp 51) rfl (W2.heap.size) (tcells T pu cu (.slice qu T.sent.length ku)) rfl rfl 46 ztc Z3.out (by kernel_rfl) rfl (by kernel_rfl) ?_
        have QZ := Lib.hid (T9.mk (Q3.out.row SP.out (tcells T pu cu (.slice qu T.sent.length ku))) (setRow_heap _ (W2.heap.size) _ (tcells T pu cu (.slice qu T.sent.length ku)) 46 (0, 0) Z3.out) (NU3.out.rowN _ PS.out (tcells T pu cu (.slice qu T.sent.length ku))) (MU3.out.rowS _ QS.out (tcells T pu cu (.slice qu T.sent.length ku))))
        refine hK.out _ _ ⟨QZ.out.t8.bx.cells (.tail _ (.tail _ (.tail _ (.tail _ (.tail _ (.head _)))))), QZ.out.t8.bx.cells (.tail _ (.tail _ (.tail _ (.tail _ (.head _))))), QZ.out.t8.bx.cells (.tail _ (.tail _ (.tail _ (.head _))))⟩ (fun hhz => ?_)
        clear hK K hh2
        simp only [Act.put]
        refine wpAnyH_take (fuel := 0) (i := 10) (oi := ⟨some 18, _, _, _, _, _⟩) (v := .int .i64 err) rfl (by kernel_rfl) (by kernel_rfl) (by kernel_rfl) (fun _ _ _ h => h) (Or.inl ⟨by rfl, ?_⟩) hhz ?_
        · intro w' _
          go_simp
        simp only [Act.put, List.setIfInBounds_toArray, List.set_cons_zero, List.set_cons_succ]
        refine wpAnyH_done (by kernel_rfl) ?_ _
        refine NoPanic.normal ?_
        clear hhz
        generalize World.setRow _ _ _ = W9 at QZ ⊢
        go_wp2_with fail
        go_meet
        case rel => exact ⟨_, pu, cu, qu, ku, rfl, rfl, QZ.out⟩
      · skip
        go_simp
        have hbb := balloc W1 (.cells ztc 46)
        have hnew := heap_alloc_new W1 (.cells ztc 46)
        have SP := Lib.hid Q1.out.sep
        generalize hWq : W1.alloc (.cells ztc 46) = W2 at hbb hnew
        have Z2 := Lib.hid hnew
        have Q2 := Lib.hid (Q1.out.step hbb)
        show K _ _
        refine hK.out _ _ ⟨Q2.out.bx.cells (.tail _ (.tail _ (.tail _ (.tail _ (.tail _ (.head _)))))), Q2.out.bx.cells (.tail _ (.tail _ (.tail _ (.tail _ (.head _))))), Q2.out.bx.cells (.tail _ (.tail _ (.tail _ (.head _))))⟩ (fun hh6 => ?_)
        clear hK K hh7 hbb hnew hWq
        try simp only [Act.put, List.setIfInBounds_toArray, List.set_cons_zero, List.set_cons_succ]
        refine wpAnyH_ready (fuel := 5) (rs := [4]) (by kernel_rfl) (by simp) ?_
        refine AllReadyH.cons (o := ⟨some 50, _, _, _, _, _⟩) rfl (fun K hK => ?_) AllReadyH.nil
        go_simp
        refine (rnext_is HNX.out p cap _ (HN.out.step Q2.out.bx.below) hl5).mono ?_
        rintro _ W3 ⟨pu, cu, qu, ku, rfl, hnu, hmu, hbb, hou⟩
        have NU3 := Lib.hid hnu
        have MU3 := Lib.hid hmu
        have PS := Lib.hid (apart_row HN.out hou SP.out.1.2 (lt_of_block Z2.out))
        have Q3 := Lib.hid (Q2.out.step hbb)
        have Z3 := Lib.hid ((hbb.block _ (lt_of_block Z2.out)).trans Z2.out)
        have QS := Lib.hid (hmu.sepZ Z3.out)
        show K _ _
        refine hK.out _ _ ⟨Q3.out.bx.cells (.tail _ (.tail _ (.tail _ (.tail _ (.tail _ (.head _)))))), Q3.out.bx.cells (.tail _ (.tail _ (.tail _ (.tail _ (.head _))))), Q3.out.bx.cells (.tail _ (.tail _ (.tail _ (.head _))))⟩ (fun hh5 => ?_)
        clear hK K hh6 hbb hnu hmu hou
        try simp only [Act.put, List.setIfInBounds_toArray, List.set_cons_zero, List.set_cons_succ]
        refine wpAnyH_take (fuel := 4) (i := 5) (oi := ⟨some 45, _, _, _, _, _⟩) (v := .tuple #[.agg (tcells T pu cu (.slice qu T.sent.length ku)), .int .i64 err]) rfl (by kernel_rfl) (by kernel_rfl) (by kernel_rfl) (fun _ _ _ h => h) (Or.inl ⟨by rfl, ?_⟩) hh5 ?_
        · intro w' _
          go_simp
        simp only [Act.put, List.setIfInBounds_toArray, List.set_cons_zero, List.set_cons_succ]
        refine wpAnyH_take (fuel := 3) (i := 6) (oi := ⟨some 51, _, _, _, _, _⟩) (v := .agg (tcells T pu cu (.slice qu T.sent.length ku))) rfl (by kernel_rfl) (by kernel_rfl) (by kernel_rfl) (fun _ _ _ h => h) (Or.inl ⟨by rfl, ?_⟩) hh5 ?_
        · intro w' _
          go_simp
        simp only [Act.put, List.setIfInBounds_toArray, List.set_cons_zero, List.set_cons_succ]
        refine wpAnyH_take (fuel := 2) (i := 7) (oi := ⟨some 52, _, _, _, _, _⟩) (v := .int .i64 err) rfl (by kernel_rfl) (by kernel_rfl) (by kernel_rfl) (fun _ _ _ h => h) (Or.inl ⟨by rfl, ?_⟩) hh5 ?_
        · intro w' _
          go_simp
        simp only [Act.put, List.setIfInBounds_toArray, List.set_cons_zero, List.set_cons_succ]
        refine wpAnyH_ready (fuel := 1) (rs := [9]) (by kernel_rfl) (by simp) ?_
        refine AllReadyH.cons (o := ⟨none, _, _, _, _, _⟩) rfl (fun K hK => ?_) AllReadyH.nil
        rw [if_pos (by rfl)]
        refine wp_store_row 46 (.tmp 17) (.tmp 51) rfl (W1.heap.size) (tcells T pu cu (.slice qu T.sent.length ku)) rfl rfl 46 ztc Z3.out (by kernel_rfl) rfl (by kernel_rfl) ?_
        have QZ := Lib.hid (T9.mk (Q3.out.row SP.out (tcells T pu cu (.slice qu T.sent.length ku))) (setRow_heap _ (W1.heap.size) _ (tcells T pu cu (.slice qu T.sent.length ku)) 46 (0, 0) Z3.out) (NU3.out.rowN _ PS.out (tcells T pu cu (.slice qu T.sent.length ku))) (MU3.out.rowS _ QS.out (tcells T pu cu (.slice qu T.sent.length ku))))
        refine hK.out _ _ ⟨QZ.out.t8.bx.cells (.tail _ (.tail _ (.tail _ (.tail _ (.tail _ (.head _)))))), QZ.out.t8.bx.cells (.tail _ (.tail _ (.tail _ (.tail _ (.head _))))), QZ.out.t8.bx.cells (.tail _ (.tail _ (.tail _ (.head _))))⟩ (fun hhz => ?_)
        clear hK K hh5
        simp only [Act.put]
        refine wpAnyH_take (fuel := 0) (i := 10) (oi := ⟨some 18, _, _, _, _, _⟩) (v := .int .i64 err) rfl (by kernel_rfl) (by kernel_rfl) (by kernel_rfl) (fun _ _ _ h => h) (Or.inl ⟨by rfl, ?_⟩) hhz ?_
        · intro w' _
          go_simp
        simp only [Act.put, List.setIfInBounds_toArray, List.set_cons_zero, List.set_cons_succ]
        refine wpAnyH_done (by kernel_rfl) ?_ _
        refine NoPanic.normal ?_
        clear hhz
        generalize World.setRow _ _ _ = W9 at QZ ⊢
        go_wp2_with fail
        go_meet
        case rel => exact ⟨_, pu, cu, qu, ku, rfl, rfl, QZ.out⟩
    · skip
      go_simp
      have hbb := balloc W0 (.cells ztc 46)
      have hnew := heap_alloc_new W0 (.cells ztc 46)
      have SP := Lib.hid Q0.out.sep
      generalize hWq : W0.alloc (.cells ztc 46) = W1 at hbb hnew
      have Z1 := Lib.hid hnew
      have Q1 := Lib.hid (Q0.out.step hbb)
      show K _ _
      refine hK.out _ _ ⟨Q1.out.bx.cells (.tail _ (.tail _ (.tail _ (.tail _ (.tail _ (.head _)))))), Q1.out.bx.cells (.tail _ (.tail _ (.tail _ (.tail _ (.head _))))), Q1.out.bx.cells (.tail _ (.tail _ (.tail _ (.head _))))⟩ (fun hh7 => ?_)
      clear hK K hh hbb hnew hWq
      try simp only [Act.put, List.setIfInBounds_toArray, List.set_cons_zero, List.set_cons_succ]
      refine wpAnyH_ready (fuel := 6) (rs := [1]) (by kernel_rfl) (by simp) ?_
      refine AllReadyH.cons (o := ⟨some 47, _, _, _, _, _⟩) rfl (fun K hK => ?_) AllReadyH.nil
      go_simp
      refine (own13_any e p cap _).mono ?_
      rintro _ W2 ⟨rfl, hbb⟩
      have Q2 := Lib.hid (Q1.out.step hbb)
      have Z2 := Lib.hid ((hbb.block _ (lt_of_block Z1.out)).trans Z1.out)
      show K _ _
      refine hK.out _ _ ⟨Q2.out.bx.cells (.tail _ (.tail _ (.tail _ (.tail _ (.tail _ (.head _)))))), Q2.out.bx.cells (.tail _ (.tail _ (.tail _ (.tail _ (.head _))))), Q2.out.bx.cells (.tail _ (.tail _ (.tail _ (.head _))))⟩ (fun hh6 => ?_)
      clear hK K hh7 hbb
      try simp only [Act.put, List.setIfInBounds_toArray, List.set_cons_zero, List.set_cons_succ]
      refine wpAnyH_ready (fuel := 5) (rs := [4]) (by kernel_rfl) (by simp) ?_
      refine AllReadyH.cons (o := ⟨some 50, _, _, _, _, _⟩) rfl (fun K hK => ?_) AllReadyH.nil
      go_simp
      refine (rnext_is HNX.out p cap _ (HN.out.step Q2.out.bx.below) hl5).mono ?_
      rintro _ W3 ⟨pu, cu, qu, ku, rfl, hnu, hmu, hbb, hou⟩
      have NU3 := Lib.hid hnu
      have MU3 := Lib.hid hmu
      have PS := Lib.hid (apart_row HN.out hou SP.out.1.2 (lt_of_block Z2.out))
      have Q3 := Lib.hid (Q2.out.step hbb)
      have Z3 := Lib.hid ((hbb.block _ (lt_of_block Z2.out)).trans Z2.out)
      have QS := Lib.hid (hmu.sepZ Z3.out)
      show K _ _
      refine hK.out _ _ ⟨Q3.out.bx.cells (.tail _ (.tail _ (.tail _ (.tail _ (.tail _ (.head _)))))), Q3.out.bx.cells (.tail _ (.tail _ (.tail _ (.tail _ (.head _))))), Q3.out.bx.cells (.tail _ (.tail _ (.tail _ (.head _))))⟩ (fun hh5 => ?_)
      clear hK K hh6 hbb hnu hmu hou
      try simp only [Act.put, List.setIfInBounds_toArray, List.set_cons_zero, List.set_cons_succ]
      refine wpAnyH_take (fuel := 4) (i := 5) (oi := ⟨some 45, _, _, _, _, _⟩) (v := .tuple #[.agg (tcells T pu cu (.slice qu T.sent.length ku)), .int .i64 err]) rfl (by kernel_rfl) (by kernel_rfl) (by kernel_rfl) (fun _ _ _ h => h) (Or.inl ⟨by rfl, ?_⟩) hh5 ?_
      · intro w' _
        go_simp
      simp only [Act.put, List.setIfInBounds_toArray, List.set_cons_zero, List.set_cons_succ]
      refine wpAnyH_take (fuel := 3) (i := 6) (oi := ⟨some 51, _, _, _, _, _⟩) (v := .agg (tcells T pu cu (.slice qu T.sent.length ku))) rfl (by kernel_rfl) (by kernel_rfl) (by kernel_rfl) (fun _ _ _ h => h) (Or.inl ⟨by rfl, ?_⟩) hh5 ?_
      · intro w' _
        go_simp
      simp only [Act.put, List.setIfInBounds_toArray, List.set_cons_zero, List.set_cons_succ]
      refine wpAnyH_take (fuel := 2) (i := 7) (oi := ⟨some 52, _, _, _, _, _⟩) (v := .int .i64 err) rfl (by kernel_rfl) (by kernel_rfl) (by kernel_rfl) (fun _ _ _ h => h) (Or.inl ⟨by rfl, ?_⟩) hh5 ?_
      · intro w' _
        go_simp
      simp only [Act.put, List.setIfInBounds_toArray, List.set_cons_zero, List.set_cons_succ]
      refine wpAnyH_ready (fuel := 1) (rs := [9]) (by kernel_rfl) (by simp) ?_
      refine AllReadyH.cons (o := ⟨none, _, _, _, _, _⟩) rfl (fun K hK => ?_) AllReadyH.nil
      rw [if_pos (by rfl)]
      refine wp_store_row 46 (.tmp 17) (.tmp 51) rfl (W0.heap.size) (tcells T pu cu (.slice qu T.sent.length ku)) rfl rfl 46 ztc Z3.out (by kernel_rfl) rfl (by kernel_rfl) ?_
      have QZ := Lib.hid (T9.mk (Q3.out.row SP.out (tcells T pu cu (.slice qu T.sent.length ku))) (setRow_heap _ (W0.heap.size) _ (tcells T pu cu (.slice qu T.sent.length ku)) 46 (0, 0) Z3.out) (NU3.out.rowN _ PS.out (tcells T pu cu (.slice qu T.sent.length ku))) (MU3.out.rowS _ QS.out (tcells T pu cu (.slice qu T.sent.length ku))))
      refine hK.out _ _ ⟨QZ.out.t8.bx.cells (.tail _ (.tail _ (.tail _ (.tail _ (.tail _ (.head _)))))), QZ.out.t8.bx.cells (.tail _ (.tail _ (.tail _ (.tail _ (.head _))))), QZ.out.t8.bx.cells (.tail _ (.tail _ (.tail _ (.head _))))⟩ (fun hhz => ?_)
      clear hK K hh5
      simp only [Act.put]
      refine wpAnyH_take (fuel := 0) (i := 10) (oi := ⟨some 18, _, _, _, _, _⟩) (v := .int .i64 err) rfl (by kernel_rfl) (by kernel_rfl) (by kernel_rfl) (fun _ _ _ h => h) (Or.inl ⟨by rfl, ?_⟩) hhz ?_
      · intro w' _
        go_simp
      simp only [Act.put, List.setIfInBounds_toArray, List.set_cons_zero, List.set_cons_succ]
      refine wpAnyH_done (by kernel_rfl) ?_ _
      refine NoPanic.normal ?_
      clear hhz
      generalize World.setRow _ _ _ = W9 at QZ ⊢
      go_wp2_with fail
      go_meet
      case rel => exact ⟨_, pu, cu, qu, ku, rfl, rfl, QZ.out⟩
  case rest =>
    obtain ⟨gu, pu, cu, qu, ku, rfl, rfl, hT9⟩ := hcut
    have L0 := Lib.hid hT9
    clear hT9 Q4
    have q1 : (f1 == f1) = true := by simp
    have q2 : (err == err) = true := by simp
    have q3 : (em == em) = true := by simp
    have q4 : (T.wr == T.wr) = true := by simp
    have h0 := L0.out.t8.bx.cells (.tail _ (.tail _ (.tail _ (.tail _ (.tail _ (.head _))))))
    clear h0
    go_wp2_with fail
    go_region_held3 (fun w' => (∀ o, w'.cell? ⟨xb, o, none⟩ = (ecells E1 px cx)[o]?) ∧ (∀ o, w'.cell? ⟨yb, o, none⟩ = (ecells E1 py cy)[o]?) ∧ (∀ o, w'.cell? ⟨w.heap.size, o, none⟩ = (ecells e p cap)[o]?) ∧ (∀ o, w'.cell? ⟨tb, o, none⟩ = (tcells T pt ct (.slice qt T.sent.length kt))[o]?) ∧ (∀ o, w'.cell? ⟨gu, o, none⟩ = (tcells T pu cu (.slice qu T.sent.length ku))[o]?))
      (first | exact ⟨L6.out.t8.bx.cells (.tail _ (.tail _ (.head _))), L6.out.t8.bx.cells (.tail _ (.head _)), L6.out.t8.bx.cells (.tail _ (.tail _ (.tail _ (.tail _ (.tail _ (.head _)))))), L6.out.t8.bx.cells (.head _), fun o => blk_cell L6.out.u o⟩ | exact ⟨L5.out.t8.bx.cells (.tail _ (.tail _ (.head _))), L5.out.t8.bx.cells (.tail _ (.head _)), L5.out.t8.bx.cells (.tail _ (.tail _ (.tail _ (.tail _ (.tail _ (.head _)))))), L5.out.t8.bx.cells (.head _), fun o => blk_cell L5.out.u o⟩ | exact ⟨L4.out.t8.bx.cells (.tail _ (.tail _ (.head _))), L4.out.t8.bx.cells (.tail _ (.head _)), L4.out.t8.bx.cells (.tail _ (.tail _ (.tail _ (.tail _ (.tail _ (.head _)))))), L4.out.t8.bx.cells (.head _), fun o => blk_cell L4.out.u o⟩ | exact ⟨L3.out.t8.bx.cells (.tail _ (.tail _ (.head _))), L3.out.t8.bx.cells (.tail _ (.head _)), L3.out.t8.bx.cells (.tail _ (.tail _ (.tail _ (.tail _ (.tail _ (.head _)))))), L3.out.t8.bx.cells (.head _), fun o => blk_cell L3.out.u o⟩ | exact ⟨L2.out.t8.bx.cells (.tail _ (.tail _ (.head _))), L2.out.t8.bx.cells (.tail _ (.head _)), L2.out.t8.bx.cells (.tail _ (.tail _ (.tail _ (.tail _ (.tail _ (.head _)))))), L2.out.t8.bx.cells (.head _), fun o => blk_cell L2.out.u o⟩ | exact ⟨L1.out.t8.bx.cells (.tail _ (.tail _ (.head _))), L1.out.t8.bx.cells (.tail _ (.head _)), L1.out.t8.bx.cells (.tail _ (.tail _ (.tail _ (.tail _ (.tail _ (.head _)))))), L1.out.t8.bx.cells (.head _), fun o => blk_cell L1.out.u o⟩ | exact ⟨L0.out.t8.bx.cells (.tail _ (.tail _ (.head _))), L0.out.t8.bx.cells (.tail _ (.head _)), L0.out.t8.bx.cells (.tail _ (.tail _ (.tail _ (.tail _ (.tail _ (.head _)))))), L0.out.t8.bx.cells (.head _), fun o => blk_cell L0.out.u o⟩ | go_keep)
      (first
        | (go_at_call 12; have hL := L4; clear hL; refine (tsame_yes T.e pt pu ct cu _ hT5 (by first | exact L4.out.t8.nt | exact (L4.out.step (below_drew _)).t8.nt) (by first | exact L4.out.nu | exact (L4.out.step (below_drew _)).nu)).mono ?_; rintro _ w5 ⟨rfl, hb5⟩; have L5 := (by first | exact Lib.hid (L4.out.step hb5) | exact Lib.hid ((L4.out.step (below_drew _)).step hb5)); clear hb5)
        | (go_at_call 12; refine (tsame_yes E1 px py cx cy _ hE5 (by first | exact L0.out.t8.nx | exact (L0.out.step (below_drew _)).t8.nx) (by first | exact L0.out.t8.ny | exact (L0.out.step (below_drew _)).t8.ny)).mono ?_; rintro _ w1 ⟨rfl, hb1⟩; have L1 := (by first | exact Lib.hid (L0.out.step hb1) | exact Lib.hid ((L0.out.step (below_drew _)).step hb1)); clear hb1)
        | (go_at_call 13; refine (tmay_is HEM.out p cap _ hl5 (HN.out.step (by first | exact L1.out.t8.bx.below | exact (L1.out.step (below_drew _)).t8.bx.below))).mono ?_; rintro _ w2 ⟨rfl, hb2⟩; have L2 := (by first | exact Lib.hid (L1.out.step hb2) | exact Lib.hid ((L1.out.step (below_drew _)).step hb2)); clear hb2)
        | (go_at_call 11; refine (own13_any e p cap _).mono ?_; rintro _ w3 ⟨rfl, hb3⟩; have L3 := (by first | exact Lib.hid (L2.out.step hb3) | exact Lib.hid ((L2.out.step (below_drew _)).step hb3)); clear hb3)
        | (go_at_call 14; refine (rmay_is HEM.out p cap _ hl (HN.out.step (by first | exact L3.out.t8.bx.below | exact (L3.out.step (below_drew _)).t8.bx.below))).mono ?_; rintro _ w4 ⟨rfl, hb4⟩; have L4 := (by first | exact Lib.hid (L3.out.step hb4) | exact Lib.hid ((L3.out.step (below_drew _)).step hb4)); clear hb4)
        | (go_at_call 15; refine (msame_any qt qu kt ku T.sent.length T.sent _ rfl hTs (by first | exact L5.out.t8.mt | exact (L5.out.step (below_drew _)).t8.mt) (by first | exact L5.out.mu | exact (L5.out.step (below_drew _)).mu)).mono ?_; rintro _ w6 ⟨rfl, hb6⟩; have L6 := (by first | exact Lib.hid (L5.out.step hb6) | exact Lib.hid ((L5.out.step (below_drew _)).step hb6)); clear hb6))
    go_wp2
    go_ret
    exact ⟨rfl, L6.out.t8.bx.below⟩

end Go.Proofs.Ytfnemldjhfcalaa
