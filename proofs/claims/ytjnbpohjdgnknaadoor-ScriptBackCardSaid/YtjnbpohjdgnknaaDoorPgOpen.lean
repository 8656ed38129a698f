/-
  What the listed tables give the walks of this seat (internal/strconv's powers of ten), that the program's own start lays them so, and what programs and operations that come in are.
-/
import Derived.Test.YtjnbpohjdgnknaaDoorLaidA
import Derived.Test.YtjnbpohjdgnknaaDoorOpen
import Derived.Test.YtjnbpohjdgnknaaDoorPgI
import Derived.Deep.Slices
import Derived.SizedLaws
namespace Go.Proofs.YtjnbpohjdgnknaaDoor
open Go.ChangeShapes Go.WideShapes Go.ChangeAt Go.RowKit Go.Deep

/-- The three tables, as each row lists them. -/
def laidTabs3 : List (String × DataW Unit) := [("math/bits.deBruijn32tab", Rows.laid_math_bits_deBruijn32tab), ("math/bits.deBruijn64tab", Rows.laid_math_bits_deBruijn64tab), ("internal/strconv.uint64pow10", Rows.laid_internal_strconv_uint64pow10)]

theorem gPow : Tryd.prog.globalNamed "internal/strconv.uint64pow10" = some 2 := by kernel_rfl
theorem tPow : (Tryd.prog.globals[2]?).map (·.type) = some 124 := by kernel_rfl
theorem cellsU64 : Tryd.prog.cellsOf 107 = 1 := by kernel_rfl
theorem cellsPow : Tryd.prog.cellsOf 124 = 20 := by kernel_rfl
theorem dPow : (Rows.laid_internal_strconv_uint64pow10 : DataW Unit) = Lib.tabData .u64 Lib.pow10Tab := by rfl

/-- The door's own heap meets the condition. -/
theorem door_met3 (os : Os) (args : Array Value) : laidMetH Tryd.prog laidTabs3 ((World.doorLaid Tryd.prog 400 os).forCall (fun _ _ => 0) ⟨#[], args, []⟩).memory :=
  laidMetH_of_parts3 (fuel := 8) (laidMet_of_run' 8 (by kernel_rfl) (by kernel_rfl)) (by kernel_rfl) (by kernel_rfl)

theorem of_laid3 {W : World} (h : laidMetH Tryd.prog laidTabs3 W) : Pow W.heap.size W := by
  rw [MakeChecks.laidMetH_plain _ _ _ (by kernel_rfl)] at h
  have h2 : laidMet Tryd.prog [("internal/strconv.uint64pow10", Rows.laid_internal_strconv_uint64pow10)] W := h.tail.tail
  rw [dPow] at h2
  exact Lib.tabBelow_of_tabIs (Lib.tabIs_of_head gPow tPow Tryd.underlying124 Tryd.underlying107 cellsU64 cellsPow h2)

theorem cellsOp : Tryd.prog.cellsOf 52 = 3 := by kernel_rfl
theorem bytesOp : Tryd.prog.bytesOf 52 = 24 := by kernel_rfl

set_option maxRecDepth 100000 in
/-- An operation that comes in by value is three numbers. -/
theorem open_op {H : Type} {enc : TypeId × Value → H} {W : World} {base : Nat} {v : Value} {d : DataW H} {p : List MemPlace} (hv : Value.okWide Tryd.prog W .any base 52 v)
    (h : DataW.Trod enc Tryd.prog W 0 (fun _ => true) true 52 v d p) : ∃ x : Op, v = ov x := by
  obtain ⟨cs, rfl, hsz⟩ := okWide_struct Tryd.underlying52 hv
  obtain ⟨l⟩ := cs
  match l, hsz.trans cellsOp with
  | [c0, c1, c2], _ =>
    obtain ⟨fuel, hf⟩ := h
    obtain ⟨xs, n, _, _, _, hlen, hg⟩ := DataW.trod_struct Tryd.underlying52 hf
    match xs, hlen with
    | [y0, y1, y2], _ =>
      obtain ⟨n0, rfl, _⟩ := int_cell rfl (hg 0 _ rfl)
      obtain ⟨n1, rfl, _⟩ := int_cell rfl (hg 1 _ rfl)
      obtain ⟨n2, rfl, _⟩ := int_cell rfl (hg 2 _ rfl)
      exact ⟨⟨n0, n1, n2⟩, rfl⟩

theorem pick_ops {W : World} {g off : Nat} : ∀ (len : Nat), (∀ i, i < len → ∃ x : Op, ∀ j u, (opCells [x])[j]? = some u → W.cell? ⟨g, off + (i * 3 + j), none⟩ = some u) →
    ∃ l : List Op, l.length = len ∧ ∀ i u, (opCells l)[i]? = some u → W.cell? ⟨g, off + i, none⟩ = some u
  | 0, _ => ⟨[], rfl, fun i u hu => by simp [opCells] at hu⟩
  | len + 1, h => by
    obtain ⟨l, hl, hc⟩ := pick_ops len (fun i hi => h i (by omega))
    obtain ⟨x, hx⟩ := h len (by omega)
    have hn : (opCells l).length = len * 3 := by
      rw [← hl]
      clear hc hl hx h
      induction l with
      | nil => rfl
      | cons y l ih =>
        have e : opCells (y :: l) = .int .i64 y.k :: .int .i64 y.a :: .int .i64 y.v :: opCells l := rfl
        rw [e]
        simp only [List.length_cons, ih]
        omega
    refine ⟨l ++ [x], by simp [hl], fun i u hu => ?_⟩
    rw [opCells_snoc] at hu
    by_cases hi : i < len * 3
    · rw [List.getElem?_append_left (by omega)] at hu
      exact hc i u hu
    · rw [List.getElem?_append_right (by omega), hn] at hu
      have := hx (i - len * 3) u hu
      rwa [show len * 3 + (i - len * 3) = i by omega] at this

set_option maxRecDepth 100000 in
/-- A slice of operations that comes in holds a list of them, and is no longer than memory is. -/
theorem open_ops {H : Type} {enc : TypeId × Value → H} {W : World} {base : Nat} {v : Value} {d : DataW H} {p : List MemPlace} (hv : Value.okWide Tryd.prog W .any base 42 v)
    (hw : ∀ n ∈ DataW.weights Tryd.prog 42 d, n ≤ reachBytes)
    (h : DataW.Trod enc Tryd.prog W 0 (fun _ => true) true 42 v d p) : ∃ l : List Op, OpsAt W v l ∧ l.length ≤ 4611686018427387903 := by
  obtain ⟨pv, nv, cv', rfl⟩ := okWide_slice Tryd.underlying42 hv
  obtain ⟨fuel, hf⟩ := h
  rcases open_slice Tryd.underlying42 hf with ⟨e, _⟩ | ⟨a, len, cap, m, n, D, Pl, e, _, hl, _, hmm, hx, hi⟩
  · have e' : Value.slice pv nv cv' = .slice none 0 0 := by simpa [Value.cells] using e
    rw [e']
    exact ⟨[], OpsAt.nil_ W, by simp⟩
  · have e' : Value.slice pv nv cv' = .slice (some a) len cap := by simpa [Value.cells] using e
    rw [e']
    have hm : m = cap := by simpa using hmm
    subst hm
    have hlen : len ≤ 4611686018427387903 := by
      simp only [Prod.mk.injEq] at hx
      have hwt := hw ((len + (m - len)) * 24) (by
        rw [hx.1]
        simp [DataW.weights, Tryd.underlying42, bytesOp])
      have hr : reachBytes = 140737488351232 := rfl
      omega
    rcases Nat.eq_zero_or_pos len with h0 | h0
    · subst h0
      exact ⟨[], .inl ⟨some a, m, rfl, (fun h => by cases h), rfl⟩, by simp⟩
    · have hel : ∀ i, i < len → ∃ x : Op, ∀ j u, (opCells [x])[j]? = some u → W.cell? (a.add (i * 3 + j)) = some u := fun i hil => by
        obtain ⟨cs', hc, ht⟩ := hi i (by omega)
        rw [cellsOp] at hc
        obtain ⟨_, hcl, hat⟩ := World.cells?_some hc
        match cs', hcl with
        | [c0, c1, c2], _ =>
          obtain ⟨xs, n', _, _, _, hxl, hg⟩ := DataW.trod_struct Tryd.underlying52 ht
          match xs, hxl with
          | [y0, y1, y2], _ =>
            obtain ⟨n0, rfl, _⟩ := int_cell rfl (hg 0 _ rfl)
            obtain ⟨n1, rfl, _⟩ := int_cell rfl (hg 1 _ rfl)
            obtain ⟨n2, rfl, _⟩ := int_cell rfl (hg 2 _ rfl)
            refine ⟨⟨n0, n1, n2⟩, fun j u hu => ?_⟩
            have hj : j < 3 := by
              have := (List.getElem?_eq_some_iff.1 hu).1
              simpa [opCells] using this
            rw [← Go.Deep.add_add, hat j hj]
            exact hu
      obtain ⟨x0, hx0⟩ := hel 0 h0
      obtain ⟨g, off, sp⟩ := a
      have hcell := hx0 0 _ (by simp [opCells]; rfl)
      have hsp : sp = none := by
        cases sp with
        | none => rfl
        | some q =>
          exfalso
          have hq : W.cell? (⟨g, off, some q⟩ : Addr) = none := by
            unfold World.cell?
            split
            · simp
            · rfl
          have hc' : W.cell? (⟨g, off, some q⟩ : Addr) = some (.int .i64 x0.k) := hcell
          rw [hq] at hc'
          cases hc'
      subst hsp
      have hg : g < W.heap.size := World.block_lt_of_cell? W _ hcell
      obtain ⟨l, hll, hcl⟩ := pick_ops (W := W) (g := g) (off := off) len (fun i hil => by
        obtain ⟨x, hx⟩ := hel i hil
        refine ⟨x, fun j u hu => ?_⟩
        have := hx j u hu
        rwa [Lib.add_plain] at this)
      subst hll
      exact ⟨l, .inr ⟨g, off, m, rfl, hg, hcl⟩, hlen⟩

end Go.Proofs.YtjnbpohjdgnknaaDoor
