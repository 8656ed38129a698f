/-
  A slice that comes in holds a list: of numbers, or of operations.
-/
import Derived.Test.YtnimaogdjfenpaaLaidA
import Derived.Test.YtnimaogdjfenpaaBgE
import Derived.Deep.Slices
import Derived.SizedLaws
namespace Go.Proofs.Ytnimaogdjfenpaa
open Go.ChangeShapes Go.WideShapes Go.ChangeAt Go.RowKit Go.Deep

theorem cells3 : Try.prog.cellsOf 3 = 1 := by kernel_rfl
theorem int_cell {H : Type} {enc : TypeId × Value → H} {W : World} {m : Nat} {v : Value} {l : List Value} {y : DataW H × List MemPlace} (hl : l.take 1 = [v])
    (h : DataW.trod enc Try.prog W 0 (fun _ => true) true m 3 (l.take (Try.prog.cellsOf 3)) = some y) : ∃ n : Int, v = .int .i64 n ∧ n ≤ 9223372036854775807 := by
  rw [cells3, hl] at h
  obtain ⟨n, e, _, hw⟩ := DataW.trod_int Try.underlying3 h
  simp at e
  exact ⟨n, e, (int_range hw).2⟩

/-- Where a slice's things lie. -/
def RowsIn {α : Type} (f : α → List Value) (sz : Nat) (w : World) (p : Option Addr) (l : List α) : Prop :=
  ∀ i (h : i < l.length), ∃ g off, p = some ⟨g, off, none⟩ ∧ g < w.heap.size ∧ ∀ j u, (f l[i])[j]? = some u → w.cell? ⟨g, off + (i * sz + j), none⟩ = some u

theorem pick_rows {α : Type} {P : Nat → α → Prop} : ∀ (len : Nat), (∀ i, i < len → ∃ x, P i x) → ∃ l : List α, l.length = len ∧ ∀ i (h : i < l.length), P i l[i]
  | 0, _ => ⟨[], rfl, fun i h => by simp at h⟩
  | len + 1, h => by
    obtain ⟨l, hl, hc⟩ := pick_rows len (fun i hi => h i (by omega))
    obtain ⟨x, hx⟩ := h len (by omega)
    refine ⟨l ++ [x], by simp [hl], fun i hi => ?_⟩
    by_cases hi' : i < l.length
    · rw [List.getElem_append_left hi']
      exact hc i hi'
    · have e : i = len := by simp at hi; omega
      subst e
      rw [List.getElem_append_right (by omega)]
      simpa [hl] using hx

set_option maxRecDepth 100000 in
theorem open_rows {H : Type} {enc : TypeId × Value → H} {W : World} {base : Nat} {v : Value} {d : DataW H} {p : List MemPlace} {α : Type} (f : α → List Value) (sz : Nat) (hsz : 0 < sz) (hf : ∀ x, (f x).length = sz) {t e : TypeId} (ht : Try.prog.underlying t = some (.slice e)) (hce : Try.prog.cellsOf e = sz)
    (one_ : ∀ m cs y, cs.length = sz → DataW.trod enc Try.prog W 0 (fun _ => true) true m e cs = some y → ∃ x, cs = f x)
    (hv : Value.okWide Try.prog W .any base t v) (h : DataW.Trod enc Try.prog W 0 (fun _ => true) true t v d p) : ∃ (q : Option Addr) (cap : Nat) (l : List α), v = .slice q l.length cap ∧ RowsIn f sz W q l ∧ l.length ≤ 9223372036854775807 := by
  obtain ⟨pv, nv, cv', rfl⟩ := okWide_slice ht hv
  obtain ⟨fuel, hh⟩ := h
  rcases open_slice ht hh with ⟨e0, _⟩ | ⟨a, len, cap, m, n, D, Pl, e0, _, hl, hcap, hmm, hx, hi⟩
  · have e' : Value.slice pv nv cv' = .slice none 0 0 := by simpa [Value.cells] using e0
    rw [e']
    exact ⟨none, 0, [], rfl, fun i h => by simp at h, by simp⟩
  · have e' : Value.slice pv nv cv' = .slice (some a) len cap := by simpa [Value.cells] using e0
    rw [e']
    have hm : m = cap := by simpa using hmm
    subst hm
    have hlen : len ≤ 9223372036854775807 := by
      unfold maxLen at hcap
      omega
    rcases Nat.eq_zero_or_pos len with h0 | h0
    · subst h0
      exact ⟨some a, m, [], rfl, fun i h => by simp at h, by simp⟩
    · have hel : ∀ i, i < len → ∃ x : α, ∀ j u, (f x)[j]? = some u → W.cell? (a.add (i * sz + j)) = some u := fun i hil => by
        obtain ⟨cs', hc, ht'⟩ := hi i (by omega)
        rw [hce] at hc
        obtain ⟨_, hcl, hat⟩ := World.cells?_some hc
        obtain ⟨x, rfl⟩ := one_ _ _ _ hcl ht'
        refine ⟨x, fun j u hu => ?_⟩
        have hj : j < sz := by
          have := (List.getElem?_eq_some_iff.1 hu).1
          rwa [hf] at this
        rw [← Go.Deep.add_add, hat j hj]
        exact hu
      obtain ⟨x0, hx0⟩ := hel 0 h0
      obtain ⟨g, off, sp⟩ := a
      obtain ⟨u0, hu0⟩ : ∃ u0, (f x0)[0]? = some u0 := ⟨_, List.getElem?_eq_getElem (by rw [hf]; exact hsz)⟩
      have hcell := hx0 0 _ hu0
      have hsp : sp = none := by
        cases sp with
        | none => rfl
        | some q =>
          exfalso
          have hq : W.cell? ((⟨g, off, some q⟩ : Addr).add (0 * sz + 0)) = none := by
            rw [Nat.zero_mul]
            unfold World.cell?
            split
            · simp [Addr.add]
            · rfl
          rw [hq] at hcell
          cases hcell
      subst hsp
      have hg : g < W.heap.size := by
        have := World.block_lt_of_cell? W _ hcell
        rwa [add_plain] at this
      obtain ⟨l, hll, hcl⟩ := pick_rows len hel
      subst hll
      refine ⟨_, m, l, rfl, fun i hil => ⟨g, off, rfl, hg, fun j u hu => ?_⟩, hlen⟩
      have := hcl i hil j u hu
      rwa [add_plain] at this

theorem open_nums {H : Type} {enc : TypeId × Value → H} {W : World} {base : Nat} {v : Value} {d : DataW H} {p : List MemPlace}
    (hv : Value.okWide Try.prog W .any base 38 v) (h : DataW.Trod enc Try.prog W 0 (fun _ => true) true 38 v d p) : ∃ (q : Option Addr) (cap : Nat) (l : List Int), v = .slice q l.length cap ∧ NumsIn W q l ∧ l.length ≤ 9223372036854775807 := by
  obtain ⟨q, cap, l, e, hr, hl⟩ := open_rows one 1 (by decide) one_len Try.underlying38 cells3 (fun m cs y hc hy => by
    match cs, hc with
    | [c], _ =>
      obtain ⟨n, rfl, _⟩ := int_cell (l := [c]) rfl (by rw [cells3]; exact hy)
      exact ⟨n, rfl⟩) hv h
  refine ⟨q, cap, l, e, fun j hj => ?_, hl⟩
  obtain ⟨g, off, e, hg, hc⟩ := hr j hj
  have := hc 0 (.int .i64 l[j]) rfl
  exact ⟨g, off, e, hg, by simpa [List.getD_eq_getElem?_getD, hj] using this⟩

/-- An operation of a law: what is done, and with which number. -/
structure Op2 where
  d : Int
  n : Int
def ops2 (x : Op2) : List Value := [.int .i64 x.d, .int .i64 x.n]
theorem ops2_len (x : Op2) : (ops2 x).length = 2 := rfl
theorem cellsOp2 : Try.prog.cellsOf 32 = 2 := by kernel_rfl
/-- Where a slice's operations lie. -/
def OpsIn (w : World) (p : Option Addr) (l : List Op2) : Prop :=
  ∀ i (h : i < l.length), ∃ g off, p = some ⟨g, off, none⟩ ∧ g < w.heap.size ∧ w.cell? ⟨g, off + i * 2, none⟩ = some (.int .i64 l[i].d) ∧ w.cell? ⟨g, off + i * 2 + 1, none⟩ = some (.int .i64 l[i].n)
theorem OpsIn.step {w w' : World} {p : Option Addr} {l : List Op2} (h : OpsIn w p l) (hb : Below w.heap.size w w') : OpsIn w' p l := fun i hi => by
  obtain ⟨g, off, e, hg, h0, h1⟩ := h i hi
  exact ⟨g, off, e, Nat.lt_of_lt_of_le hg hb.size, (hb.cell (p := ⟨g, off + i * 2, none⟩) hg).trans h0, (hb.cell (p := ⟨g, off + i * 2 + 1, none⟩) hg).trans h1⟩
theorem open_ops2 {H : Type} {enc : TypeId × Value → H} {W : World} {base : Nat} {v : Value} {d : DataW H} {p : List MemPlace}
    (hv : Value.okWide Try.prog W .any base 22 v) (h : DataW.Trod enc Try.prog W 0 (fun _ => true) true 22 v d p) : ∃ (q : Option Addr) (cap : Nat) (l : List Op2), v = .slice q l.length cap ∧ OpsIn W q l ∧ l.length ≤ 9223372036854775807 := by
  obtain ⟨q, cap, l, e, hr, hl⟩ := open_rows ops2 2 (by decide) ops2_len Try.underlying22 cellsOp2 (fun m cs y hc hy => by
    match cs, hc with
    | [c0, c1], _ =>
      obtain ⟨xs, n', _, _, _, hxl, hg⟩ := DataW.trod_struct Try.underlying32 hy
      match xs, hxl with
      | [y0, y1], _ =>
        obtain ⟨n0, rfl, _⟩ := int_cell rfl (hg 0 _ rfl)
        obtain ⟨n1, rfl, _⟩ := int_cell rfl (hg 1 _ rfl)
        exact ⟨⟨n0, n1⟩, rfl⟩) hv h
  refine ⟨q, cap, l, e, fun j hj => ?_, hl⟩
  obtain ⟨g, off, e, hg, hc⟩ := hr j hj
  exact ⟨g, off, e, hg, hc 0 _ rfl, hc 1 _ rfl⟩

end Go.Proofs.Ytnimaogdjfenpaa
