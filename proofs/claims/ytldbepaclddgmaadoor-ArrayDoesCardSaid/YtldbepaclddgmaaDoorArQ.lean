/-
  A map of the lines that were seen, beside a law's own array; which lines are met, way by way.
-/
import Derived.Test.YtldbepaclddgmaaDoorArN
import Derived.Maps.OwnOps
import Derived.Maps.OwnSet
import Derived.Maps.Views
namespace Go.Proofs.YtldbepaclddgmaaDoor
open Go Go.RowKit Go.Sort Go.Maps

/-! Which lines are met. -/
/-- The lines that are there in m ways from o on. -/
def Vl (L : List Wy) (o m : Nat) : List Int := linesU ((L.drop o).take m)
theorem drop_take_cons {L : List Wy} {o m : Nat} {x : Wy} (hx : L[o]? = some x) : (L.drop o).take (m + 1) = x :: (L.drop (o + 1)).take m := by
  obtain ⟨hi, rfl⟩ := List.getElem?_eq_some_iff.1 hx
  rw [List.drop_eq_getElem_cons hi, List.take_succ_cons]
theorem Vl_yes {L : List Wy} {o m : Nat} {x : Wy} (hx : L[o]? = some x) (h : tk x = true) : Vl L o (m + 1) = x.ln :: Vl L (o + 1) m := by
  unfold Vl
  rw [drop_take_cons hx]
  simp [linesU, h]
theorem Vl_no {L : List Wy} {o m : Nat} {x : Wy} (hx : L[o]? = some x) (h : tk x = false) : Vl L o (m + 1) = Vl L (o + 1) m := by
  unfold Vl
  rw [drop_take_cons hx]
  simp [linesU, h]
theorem Vl_zero (L : List Wy) (o : Nat) : Vl L o 0 = [] := by simp [Vl, linesU]
theorem Vl_len (L : List Wy) (o m : Nat) : (Vl L o m).length ≤ m := by
  unfold Vl linesU
  rw [List.length_map]
  have h1 := List.length_filter_le tk ((L.drop o).take m)
  have h2 := List.length_take_le m (L.drop o)
  omega
theorem linesU_add (L : List Wy) (a b : Nat) : linesU (L.take (a + b)) = linesU (L.take a) ++ Vl L a b := by
  unfold linesU Vl linesU
  rw [List.take_add, List.filter_append, List.map_append]
theorem mem_linesU {L : List Wy} {y : Int} (h : y ∈ linesU L) : ∃ (i : Nat) (x : Wy), L[i]? = some x ∧ tk x = true ∧ x.ln = y := by
  obtain ⟨x, hx, e⟩ := List.mem_map.1 h
  obtain ⟨h1, h2⟩ := List.mem_filter.1 hx
  obtain ⟨i, hi⟩ := List.getElem?_of_mem h1
  exact ⟨i, x, hi, h2, e⟩
/-- A line that is there is met once. -/
theorem Good.met {c : Cfg} {L : List Wy} (g : Good c L) {o p m : Nat} {x : Wy} (hx : L[o]? = some x) (ht : tk x = true) (hp : p ≤ o) : (Vl L (o + 1) m ++ linesU (L.take p)).contains x.ln = false := by
  rcases Bool.eq_false_or_eq_true ((Vl L (o + 1) m ++ linesU (L.take p)).contains x.ln) with h | h
  · rw [List.contains_iff_mem, List.mem_append] at h
    rcases h with h | h
    · obtain ⟨i, y, hy, hty, e⟩ := mem_linesU h
      rw [List.getElem?_take] at hy
      split at hy
      · rw [List.getElem?_drop] at hy
        have := g.uq _ _ y x hy hx hty ht e
        omega
      · cases hy
    · obtain ⟨i, y, hy, hty, e⟩ := mem_linesU h
      rw [List.getElem?_take] at hy
      split at hy
      · have := g.uq _ _ y x hy hx hty ht e
        omega
      · cases hy
  · exact h
/-- Where a line that is there is found. -/
theorem Good.at_find {c : Cfg} {L : List Wy} (g : Good c L) (sz : Sized c L) {s k : Nat} {x : Wy} (hk : k < c.wa.toNat) (hx : L[s * c.wa.toNat + k]? = some x) (ht : tk x = true) :
    fnd c L x.ln = (x, (k : Int), true) ∧ x.ln % c.se = s ∧ 0 ≤ x.ln ∧ x.ln ≤ 1024 := by
  obtain ⟨hl, h1, h2⟩ := g.ins _ x hx ht
  have hw := ok_ways sz.ok
  have hlt := soN_lt sz.ok x.ln
  have hm := Int.emod_nonneg x.ln (b := c.se) (by omega)
  have hp := g.plc_of sz hx ht
  obtain ⟨_, h0, hli⟩ := ok_of_lnOk hl
  have e : (x.ln % c.se).toNat = s := by
    unfold soN at h1 h2
    rcases Nat.lt_trichotomy (x.ln % c.se).toNat s with h | h | h
    · have := Nat.mul_le_mul_right c.wa.toNat h
      rw [Nat.succ_mul] at this
      omega
    · exact h
    · have := Nat.mul_le_mul_right c.wa.toNat h
      rw [Nat.succ_mul] at this
      omega
  have e2 : soN c x.ln = s * c.wa.toNat := by unfold soN; rw [e]
  rw [e2, Nat.add_sub_cancel_left] at hp
  refine ⟨fnd_some hp (by rw [e2]; exact hx), by omega, h0, by omega⟩
/-- The first free way of m from o on, counted from j. -/
def Fr (L : List Wy) (o m j : Nat) : Int := oi ((((L.drop o).take m).findIdx? (fun x => !tk x)).map (j + ·))
theorem Fr_zero (L : List Wy) (o j : Nat) : Fr L o 0 j = -1 := by simp [Fr, oi]
theorem Fr_no {L : List Wy} {o m j : Nat} {x : Wy} (hx : L[o]? = some x) (h : tk x = false) : Fr L o (m + 1) j = j := by
  unfold Fr
  rw [drop_take_cons hx, List.findIdx?_cons]
  simp [h, oi]
theorem Fr_yes {L : List Wy} {o m j : Nat} {x : Wy} (hx : L[o]? = some x) (h : tk x = true) : Fr L o (m + 1) j = Fr L (o + 1) m (j + 1) := by
  unfold Fr
  rw [drop_take_cons hx, List.findIdx?_cons]
  simp only [h, Bool.not_true, Bool.false_eq_true, if_false, Option.map_map]
  congr 2
  funext z
  simp
  omega
theorem Fr_fre {c : Cfg} {L : List Wy} {s : Nat} (hs : (s : Int) < c.se) (hl : lnOk c s = true) : oi (fre c L s) = Fr L (s * c.wa.toNat) c.wa.toNat 0 := by
  have e : ((s : Int) % c.se).toNat = s := by rw [Int.emod_eq_of_lt (by omega) hs]; simp
  unfold fre Fr pt soN
  rw [if_pos hl, e]
  congr 1
  cases List.findIdx? (fun x => !tk x) (List.take c.wa.toNat (List.drop (s * c.wa.toNat) L)) <;> simp

theorem wf_small {c : Int} (h0 : -1000 ≤ c) (h1 : c ≤ 2000) : (Lit.int .i64 c).wf = true := by
  have e : IntKind.i64.min = -9223372036854775808 := by decide
  have e2 : IntKind.i64.max = 9223372036854775807 := by decide
  simp only [Lit.wf, Bool.and_eq_true, decide_eq_true_eq]
  omega
/-! The map of those that were seen. -/
theorem law3 : Keyed Tryd.prog 3 := int_keyed Tryd.underlying3
theorem zero4 (w : World) : (zeroValue 4).run Tryd.prog w = .ok (.bool false) w := by kernel_rfl
structure Seen (D : DataW Unit) (ks : List Int) : Prop where
  tidy : Tidy D
  has : ∀ y : Int, Maps.has D (.int .i64 y) = ks.contains y
  at_ : ∀ y : Int, D.atKey (.int .i64 y) (.lit (.bool false)) = .lit (.bool (ks.contains y))
  size : Maps.size D = ks.length
theorem Seen.empty : Seen (.map []) [] := ⟨tidy_empty, fun y => by rw [has_eq]; rfl, fun y => rfl, by rw [size_eq]; rfl⟩
theorem Seen.put {D : DataW Unit} {ks : List Int} (h : Seen D ks) {x : Int} (hx : ks.contains x = false) : Seen (D.put (.int .i64 x) (.lit (.bool true))) (x :: ks) := by
  have hk : ∀ z : Int, WideAt.IsKeyLit (.int .i64 z) := fun _ => trivial
  refine ⟨h.tidy.put (hk x) _, fun y => ?_, fun y => ?_, ?_⟩
  · rw [List.contains_cons]
    by_cases hy : y = x
    · subst hy
      rw [has_put_same h.tidy.isMap (hk _)]
      simp
    · rw [has_put_other (by simpa using hy), h.has]
      have : (y == x) = false := by simpa using hy
      rw [this, Bool.false_or]
  · rw [List.contains_cons]
    by_cases hy : y = x
    · subst hy
      rw [atKey_put_same h.tidy.isMap (hk _)]
      simp
    · rw [atKey_put_other (by simpa using hy), h.at_]
      have : (y == x) = false := by simpa using hy
      rw [this, Bool.false_or]
  · rw [size_put h.tidy, h.has, hx, h.size]
    rfl
theorem Seen.congr {D : DataW Unit} {ks ms : List Int} (h : Seen D ks) (hp : ks.Perm ms) : Seen D ms := by
  have e : ∀ y, ms.contains y = ks.contains y := fun y => by
    rw [Bool.eq_iff_iff, List.contains_iff_mem, List.contains_iff_mem]
    exact hp.mem_iff.symm
  exact ⟨h.tidy, fun y => by rw [e, h.has], fun y => by rw [e, h.at_], by rw [h.size, hp.length_eq]⟩
theorem own_map_block {w w' : World} {mb n : Nat} {D : DataW Unit} (h : w.ownsMap Tryd.prog 3 (plainElem (H := Unit) Tryd.prog 4) mb n D) (hb : w'.heap[mb]? = w.heap[mb]?) : w'.ownsMap Tryd.prog 3 (plainElem (H := Unit) Tryd.prog 4) mb n D := by
  obtain ⟨es, clock, h1, h2⟩ := h
  exact ⟨es, clock, hb.trans h1, h2⟩
theorem own_map_lt {w : World} {mb n : Nat} {D : DataW Unit} (h : w.ownsMap Tryd.prog 3 (plainElem (H := Unit) Tryd.prog 4) mb n D) : mb < w.heap.size := by
  obtain ⟨es, clock, h1, _⟩ := h
  exact (Array.getElem?_eq_some_iff.1 h1).1

theorem way_neq3 (s l : Int) (d : Wd) (k : Bool) (w : World) : (binOp .neq 43 (.agg #[.int .i64 s, .int .i64 l, .int .i64 d.w0, .int .i64 d.w1, .int .i64 d.w2, .int .i64 d.w3, .int .i64 d.w4, .int .i64 d.w5, .int .i64 d.w6, .int .i64 d.w7, .bool k]) (.agg #[.int .i64 s, .int .i64 l, .int .i64 d.w0, .int .i64 d.w1, .int .i64 d.w2, .int .i64 d.w3, .int .i64 d.w4, .int .i64 d.w5, .int .i64 d.w6, .int .i64 d.w7, .bool k])).run Tryd.prog w = .ok (.bool false) w := way_neq ⟨s, l, d, k⟩ w
abbrev kcells (c : Cfg) : Array Value := #[.int .i64 c.co, .int .i64 c.ho, .int .i64 c.se, .int .i64 c.wa, .int .i64 c.wo, .int .i64 c.li, .int .i64 c.po, .int .i64 c.ms, .int .i64 c.bu, .int .i64 c.wb, .int .i64 c.r0, .int .i64 c.r1, .int .i64 c.r2]
/-- The sizes' box, the call's first block. -/
structure K1 (w : World) (c : Cfg) (wr : World) : Prop where
  c0 : wr.heap[w.heap.size]? = some (.cells (kcells c) 24 (0, 0))
  bl : Below w.heap.size w wr
theorem K1.step {w wr wr' : World} {c : Cfg} (h : K1 w c wr) (hb : Below wr.heap.size wr wr') : K1 w c wr' := ⟨(hb.block _ (lt_of_block h.c0)).trans h.c0, bstep h.bl hb⟩
/-- A law's own array beside a map of those that were seen. -/
structure OkM (w : World) (b g : Nat) (c : Cfg) (L : List Wy) (mb : Nat) (ks : List Int) (D : DataW Unit) (wr : World) : Prop where
  own : Own w b g c L wr
  map : wr.ownsMap Tryd.prog 3 (plainElem (H := Unit) Tryd.prog 4) mb ks.length D
  seen : Seen D ks
  bm : w.heap.size ≤ mb
  nb : mb ≠ b
  ng : mb ≠ g
variable {w wr wr' : World} {b g mb : Nat} {c : Cfg} {L : List Wy} {ks ms : List Int} {D : DataW Unit}
theorem OkM.step (h : OkM w b g c L mb ks D wr) (hb : Below wr.heap.size wr wr') : OkM w b g c L mb ks D wr' :=
  ⟨h.own.step hb, own_map_block h.map (hb.block mb (own_map_lt h.map)), h.seen, h.bm, h.nb, h.ng⟩
theorem OkM.new (h : Own w b g c L wr) : OkM w b g c L wr.heap.size [] (.map []) (wr.alloc (.map #[] 0)) :=
  ⟨h.step (balloc _ _), World.ownsMap_made _ _ _ _, Seen.empty, h.bl.size, by have := h.ar.bl; omega, by have := h.ar.gl; omega⟩
theorem OkM.perm (h : OkM w b g c L mb ks D wr) (hp : ks.Perm ms) : OkM w b g c L mb ms D wr := ⟨h.own, hp.length_eq ▸ h.map, h.seen.congr hp, h.bm, h.nb, h.ng⟩
theorem OkM.keyed (h : OkM w b g c L mb ks D wr) {x : Int} (hx : ks.contains x = false) (hm : wr'.ownsMap Tryd.prog 3 (plainElem (H := Unit) Tryd.prog 4) mb (ks.length + 1) (D.put (.int .i64 x) (.lit (.bool true)))) (hg : wr.grownBy wr' (some mb)) :
    OkM w b g c L mb (x :: ks) (D.put (.int .i64 x) (.lit (.bool true))) wr' := by
  have h1 := h.nb
  have h2 := h.ng
  exact ⟨⟨h.own.ar.keep hg.size (hg.block b h.own.ar.bl (by simp; omega)) (hg.block g h.own.ar.gl (by simp; omega)), h.own.gd, h.own.bb, h.own.gb, h.own.bl.grown hg h.own.bl.size (fun k hk => by cases hk; exact h.bm), h.own.tb⟩, hm, h.seen.put hx, h.bm, h.nb, h.ng⟩
set_option maxRecDepth 100000 in
theorem OkM.look (h : OkM w b g c L mb ks D wr) {x : Int} (hx : (Lit.int .i64 x).wf = true) : (Instr.lookup 59 (.map (some mb)) (.int .i64 x) false).run Tryd.prog wr = .ok (.bool (ks.contains x)) wr := by
  obtain ⟨v, ps, hr, hv⟩ := h.map.lookup law3 Tryd.underlying59 (zero4 wr) (plainElem_bool Tryd.underlying4 false) (keyOf_int_mk Tryd.underlying3 hx)
  rw [h.seen.at_] at hv
  rw [hr]
  have e : v = .bool (ks.contains x) := by
    unfold plainElem at hv
    rw [Tryd.underlying4] at hv
    cases v <;> simp_all
  rw [e]
theorem OkM.len (h : OkM w b g c L mb ks D wr) (ty : TypeId) : (Builtin.len_ #[59] ty #[.map (some mb)]).run Tryd.prog wr = .ok (.int .i64 (ks.length : Int)) wr := by
  rw [h.map.len Tryd.underlying59 ty, h.seen.size]

end Go.Proofs.YtldbepaclddgmaaDoor
