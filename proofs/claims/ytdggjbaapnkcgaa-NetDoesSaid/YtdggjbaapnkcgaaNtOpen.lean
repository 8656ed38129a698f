/-
  A slice of operations that comes in: three numbers and a message each.
-/
import Derived.Test.YtdggjbaapnkcgaaMsOpen
import Derived.Test.YtdggjbaapnkcgaaNtB
import Derived.Deep.Slices
import Derived.SizedLaws
namespace Go.Proofs.Ytdggjbaapnkcgaa
open Go.ChangeShapes Go.WideShapes Go.ChangeAt Go.RowKit Go.Deep

/-- Where a slice's things lie. -/
def RowsIn {α : Type} (f : α → List Value) (sz : Nat) (w : World) (p : Option Addr) (l : List α) : Prop :=
  ∀ i (h : i < l.length), ∃ g off, p = some ⟨g, off, none⟩ ∧ g < w.heap.size ∧ ∀ j u, (f l[i])[j]? = some u → w.cell? ⟨g, off + (i * sz + j), none⟩ = some u

theorem pick_rows {α : Type} {P : Nat → α → Prop} : ∀ (len : Nat), (∀ i, i < len → ∃ x, P i x) → ∃ l : List α, l.length = len ∧ ∀ i (h : i < l.length), P i l[i]
  | 0, _ => ⟨[], rfl, fun i h => by simp at h⟩
  | len + 1, h => by
    obtain ⟨l, hl, hc⟩ := pick_rows len (fun i hi => h i (by omega))
    obtain ⟨x, hx⟩ := h len (by omega)
    refine ⟨l ++ [x], by simp [hl], fun i hi => ?_⟩
    by_cases hi' : i < l.length
    · rw [List.getElem_append_left hi']
      exact hc i hi'
    · have e : i = len := by simp at hi; omega
      subst e
      rw [List.getElem_append_right (by omega)]
      simpa [hl] using hx

set_option maxRecDepth 100000 in
theorem open_rows {H : Type} {enc : TypeId × Value → H} {W : World} {base : Nat} {v : Value} {d : DataW H} {p : List MemPlace} {α : Type} (f : α → List Value) (sz : Nat) (hsz : 0 < sz) (hf : ∀ x, (f x).length = sz) {t e : TypeId} (ht : Try.prog.underlying t = some (.slice e)) (hce : Try.prog.cellsOf e = sz)
    (one_ : ∀ m cs y, cs.length = sz → DataW.trod enc Try.prog W 0 (fun _ => true) true m e cs = some y → ∃ x, cs = f x)
    (hv : Value.okWide Try.prog W .any base t v) (h : DataW.Trod enc Try.prog W 0 (fun _ => true) true t v d p) : ∃ (q : Option Addr) (cap : Nat) (l : List α), v = .slice q l.length cap ∧ RowsIn f sz W q l ∧ l.length ≤ 9223372036854775807 := by
  obtain ⟨pv, nv, cv', rfl⟩ := okWide_slice ht hv
  obtain ⟨fuel, hh⟩ := h
  rcases open_slice ht hh with ⟨e0, _⟩ | ⟨a, len, cap, m, n, D, Pl, e0, _, hl, hcap, hmm, hx, hi⟩
  · have e' : Value.slice pv nv cv' = .slice none 0 0 := by simpa [Value.cells] using e0
    rw [e']
    exact ⟨none, 0, [], rfl, fun i h => by simp at h, by simp⟩
  · have e' : Value.slice pv nv cv' = .slice (some a) len cap := by simpa [Value.cells] using e0
    rw [e']
    have hm : m = cap := by simpa using hmm
    subst hm
    have hlen : len ≤ 9223372036854775807 := by
      unfold maxLen at hcap
      omega
    rcases Nat.eq_zero_or_pos len with h0 | h0
    · subst h0
      exact ⟨some a, m, [], rfl, fun i h => by simp at h, by simp⟩
    · have hel : ∀ i, i < len → ∃ x : α, ∀ j u, (f x)[j]? = some u → W.cell? (a.add (i * sz + j)) = some u := fun i hil => by
        obtain ⟨cs', hc, ht'⟩ := hi i (by omega)
        rw [hce] at hc
        obtain ⟨_, hcl, hat⟩ := World.cells?_some hc
        obtain ⟨x, rfl⟩ := one_ _ _ _ hcl ht'
        refine ⟨x, fun j u hu => ?_⟩
        have hj : j < sz := by
          have := (List.getElem?_eq_some_iff.1 hu).1
          rwa [hf] at this
        rw [← Go.Deep.add_add, hat j hj]
        exact hu
      obtain ⟨x0, hx0⟩ := hel 0 h0
      obtain ⟨g, off, sp⟩ := a
      obtain ⟨u0, hu0⟩ : ∃ u0, (f x0)[0]? = some u0 := ⟨_, List.getElem?_eq_getElem (by rw [hf]; exact hsz)⟩
      have hcell := hx0 0 _ hu0
      have hsp : sp = none := by
        cases sp with
        | none => rfl
        | some q =>
          exfalso
          have hq : W.cell? ((⟨g, off, some q⟩ : Addr).add (0 * sz + 0)) = none := by
            rw [Nat.zero_mul]
            unfold World.cell?
            split
            · simp [Addr.add]
            · rfl
          rw [hq] at hcell
          cases hcell
      subst hsp
      have hg : g < W.heap.size := by
        have := World.block_lt_of_cell? W _ hcell
        rwa [add_plain] at this
      obtain ⟨l, hll, hcl⟩ := pick_rows len hel
      subst hll
      refine ⟨_, m, l, rfl, fun i hil => ⟨g, off, rfl, hg, fun j u hu => ?_⟩, hlen⟩
      have := hcl i hil j u hu
      rwa [add_plain] at this

set_option maxRecDepth 100000 in
theorem msg_cells {H : Type} {enc : TypeId × Value → H} {W : World} {m : Nat} {l : List Value} {y : DataW H × List MemPlace} (hl : l.length = 15)
    (h : DataW.trod enc Try.prog W 0 (fun _ => true) true m 37 l = some y) : ∃ M : Msg, l = mg M := by
  match l, hl with
  | [c0, c1, c2, c3, c4, c5, c6, c7, c8, c9, c10, c11, c12, c13, c14], _ =>
  obtain ⟨xs, n, _, _, _, hlen, hg⟩ := DataW.trod_struct Try.underlying37 h
  match xs, hlen with
  | [y0, y1, y2, y3, y4, y5, y6, y7], _ =>
    obtain ⟨n0, rfl, _⟩ := int_cell rfl (hg 0 _ rfl)
    obtain ⟨n1, rfl, _⟩ := int_cell rfl (hg 1 _ rfl)
    obtain ⟨n2, rfl, _⟩ := int_cell rfl (hg 2 _ rfl)
    obtain ⟨n3, rfl, _⟩ := int_cell rfl (hg 3 _ rfl)
    obtain ⟨n4, rfl, _⟩ := int_cell rfl (hg 4 _ rfl)
    obtain ⟨n5, rfl, _⟩ := int_cell rfl (hg 5 _ rfl)
    obtain ⟨n6, rfl, _⟩ := int_cell rfl (hg 6 _ rfl)
    have hr : DataW.trod enc Try.prog W 0 (fun _ => true) true n 35 ([c7, c8, c9, c10, c11, c12, c13, c14].take (Try.prog.cellsOf 35)) = some y7 := hg 7 _ rfl
    rw [cells25] at hr
    obtain ⟨zs, k, _, _, _, hzl, hel⟩ := DataW.trod_array Try.underlying35 hr
    match zs, hzl with
    | [z0, z1, z2, z3, z4, z5, z6, z7], _ =>
      have e0 := hel 0 (by decide)
      have e1 := hel 1 (by decide)
      have e2 := hel 2 (by decide)
      have e3 := hel 3 (by decide)
      have e4 := hel 4 (by decide)
      have e5 := hel 5 (by decide)
      have e6 := hel 6 (by decide)
      have e7 := hel 7 (by decide)
      rw [cells3] at e0 e1 e2 e3 e4 e5 e6 e7
      obtain ⟨a0, r0, _, _⟩ := DataW.trod_int Try.underlying3 e0
      obtain ⟨a1, r1, _, _⟩ := DataW.trod_int Try.underlying3 e1
      obtain ⟨a2, r2, _, _⟩ := DataW.trod_int Try.underlying3 e2
      obtain ⟨a3, r3, _, _⟩ := DataW.trod_int Try.underlying3 e3
      obtain ⟨a4, r4, _, _⟩ := DataW.trod_int Try.underlying3 e4
      obtain ⟨a5, r5, _, _⟩ := DataW.trod_int Try.underlying3 e5
      obtain ⟨a6, r6, _, _⟩ := DataW.trod_int Try.underlying3 e6
      obtain ⟨a7, r7, _, _⟩ := DataW.trod_int Try.underlying3 e7
      simp at r0 r1 r2 r3 r4 r5 r6 r7
      subst r0 r1 r2 r3 r4 r5 r6 r7
      exact ⟨⟨n0, n1, n2, n3, n4, n5, n6, a0, a1, a2, a3, a4, a5, a6, a7⟩, rfl⟩

/-- An operation of a law: what is done, a network, a place, a message. -/
structure OpN where
  d : Int
  k : Int
  i : Int
  m : Msg
abbrev opa (x : OpN) : Array Value := #[.int .i64 x.d, .int .i64 x.k, .int .i64 x.i, .int .i64 x.m.kd, .int .i64 x.m.ln, .int .i64 x.m.fr, .int .i64 x.m.to, .int .i64 x.m.wh, .int .i64 x.m.ac, .int .i64 x.m.ow, .int .i64 x.m.w0, .int .i64 x.m.w1, .int .i64 x.m.w2, .int .i64 x.m.w3, .int .i64 x.m.w4, .int .i64 x.m.w5, .int .i64 x.m.w6, .int .i64 x.m.w7]
def opn (x : OpN) : List Value := (opa x).toList
theorem opn_len (x : OpN) : (opn x).length = 18 := rfl
theorem cellsOpN : Try.prog.cellsOf 39 = 18 := by kernel_rfl
/-- Where a slice's operations lie. -/
def OpsN (w : World) (p : Option Addr) (l : List OpN) : Prop :=
  ∀ i x, l[i]? = some x → ∃ g off, p = some ⟨g, off, none⟩ ∧ g < w.heap.size ∧ w.rangeAt g (off + i * 18) (opn x)
theorem OpsN.step {w w' : World} {p : Option Addr} {l : List OpN} (h : OpsN w p l) (hb : Below w.heap.size w w') : OpsN w' p l := fun i x hx => by
  obtain ⟨g, off, e, hg, hr⟩ := h i x hx
  exact ⟨g, off, e, Nat.lt_of_lt_of_le hg hb.size, fun j u hu => (hb.cell (p := ⟨g, off + i * 18 + j, none⟩) hg).trans (hr j u hu)⟩
set_option maxRecDepth 100000 in
theorem open_opsN {H : Type} {enc : TypeId × Value → H} {W : World} {base : Nat} {v : Value} {d : DataW H} {p : List MemPlace}
    (hv : Value.okWide Try.prog W .any base 25 v) (h : DataW.Trod enc Try.prog W 0 (fun _ => true) true 25 v d p) : ∃ (q : Option Addr) (cap : Nat) (l : List OpN), v = .slice q l.length cap ∧ OpsN W q l ∧ l.length ≤ 9223372036854775807 := by
  obtain ⟨q, cap, l, e, hr, hl⟩ := open_rows opn 18 (by decide) opn_len Try.underlying25 cellsOpN (fun m cs y hc hy => by
    match cs, hc with
    | [c0, c1, c2, c3, c4, c5, c6, c7, c8, c9, c10, c11, c12, c13, c14, c15, c16, c17], _ =>
      obtain ⟨xs, n', _, _, _, hxl, hg⟩ := DataW.trod_struct Try.underlying39 hy
      match xs, hxl with
      | [y0, y1, y2, y3], _ =>
        obtain ⟨n0, rfl, _⟩ := int_cell rfl (hg 0 _ rfl)
        obtain ⟨n1, rfl, _⟩ := int_cell rfl (hg 1 _ rfl)
        obtain ⟨n2, rfl, _⟩ := int_cell rfl (hg 2 _ rfl)
        have hr : DataW.trod enc Try.prog W 0 (fun _ => true) true n' 37 ([c3, c4, c5, c6, c7, c8, c9, c10, c11, c12, c13, c14, c15, c16, c17].take (Try.prog.cellsOf 37)) = some y3 := hg 3 _ rfl
        rw [cells28] at hr
        obtain ⟨M, hM⟩ := msg_cells rfl hr
        simp [mg] at hM
        obtain ⟨rfl, rfl, rfl, rfl, rfl, rfl, rfl, rfl, rfl, rfl, rfl, rfl, rfl, rfl, rfl⟩ := hM
        exact ⟨⟨n0, n1, n2, M⟩, rfl⟩) hv h
  refine ⟨q, cap, l, e, fun i x hx => ?_, hl⟩
  obtain ⟨hi, rfl⟩ := List.getElem?_eq_some_iff.1 hx
  obtain ⟨g, off, e, hg, hc⟩ := hr i hi
  exact ⟨g, off, e, hg, fun j u hu => by rw [Nat.add_assoc]; exact hc j u hu⟩

end Go.Proofs.Ytdggjbaapnkcgaa
