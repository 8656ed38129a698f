/-
  A list of numbers, or a set of sharers, that comes in.
-/
import Derived.Test.YtfnemldjhfcalaaLaidA
import Derived.Test.YtfnemldjhfcalaaShA
import Derived.Deep.Slices
import Derived.SizedLaws
import Derived.ChangeArms
namespace Go.Proofs.Ytfnemldjhfcalaa
open Go.ChangeShapes Go.WideShapes Go.ChangeAt Go.RowKit Go.Deep

theorem cells3 : Try.prog.cellsOf 3 = 1 := by kernel_rfl
theorem cells4 : Try.prog.cellsOf 4 = 1 := by kernel_rfl
theorem cellsNs : Try.prog.cellsOf 22 = 1 := by kernel_rfl
theorem cellsSet : Try.prog.cellsOf 24 = 4 := by kernel_rfl
theorem int_cell {H : Type} {enc : TypeId × Value → H} {W : World} {m : Nat} {v : Value} {l : List Value} {y : DataW H × List MemPlace} (hl : l.take 1 = [v])
    (h : DataW.trod enc Try.prog W 0 (fun _ => true) true m 3 (l.take (Try.prog.cellsOf 3)) = some y) : ∃ n : Int, v = .int .i64 n ∧ -9223372036854775808 ≤ n ∧ n ≤ 9223372036854775807 := by
  rw [cells3, hl] at h
  obtain ⟨n, e, _, hw⟩ := DataW.trod_int Try.underlying3 h
  simp at e
  exact ⟨n, e, int_range hw⟩
theorem bool_cell {H : Type} {enc : TypeId × Value → H} {W : World} {m : Nat} {v : Value} {l : List Value} {y : DataW H × List MemPlace} (hl : l.take 1 = [v])
    (h : DataW.trod enc Try.prog W 0 (fun _ => true) true m 4 (l.take (Try.prog.cellsOf 4)) = some y) : ∃ b : Bool, v = .bool b := by
  rw [cells4, hl] at h
  obtain ⟨n, e, _⟩ := DataW.trod_bool Try.underlying4 h
  simp at e
  exact ⟨n, e⟩
theorem pick_nums {P : Nat → Int → Prop} : ∀ (len : Nat), (∀ i, i < len → ∃ x, P i x) → ∃ l : List Int, l.length = len ∧ ∀ i, i < len → P i (l.getD i 0)
  | 0, _ => ⟨[], rfl, fun i h => by omega⟩
  | len + 1, h => by
    obtain ⟨l, hl, hc⟩ := pick_nums len (fun i hi => h i (by omega))
    obtain ⟨x, hx⟩ := h len (by omega)
    refine ⟨l ++ [x], by simp [hl], fun i hi => ?_⟩
    simp only [List.getD_eq_getElem?_getD]
    by_cases hi' : i < len
    · rw [List.getElem?_append_left (by omega)]
      have := hc i hi'
      rwa [List.getD_eq_getElem?_getD] at this
    · have e : i = len := by omega
      subst e
      rw [List.getElem?_append_right (by omega)]
      simpa [hl] using hx

set_option maxRecDepth 100000 in
theorem nums_cells {H : Type} {enc : TypeId × Value → H} {W : World} {fuel : Nat} {cs : List Value} {x : DataW H × List MemPlace} (hf : DataW.trod enc Try.prog W 0 (fun _ => true) true fuel 22 cs = some x) :
    ∃ (q : Option Addr) (cap : Nat) (l : List Int), cs = [.slice q l.length cap] ∧ NumsIn W q l ∧ l.length ≤ 9223372036854775807 := by
  rcases open_slice Try.underlying22 hf with ⟨e0, _⟩ | ⟨a, len, cap, m, n, D, Pl, e0, _, hl, hcap, hmm, hx, hi⟩
  · exact ⟨none, 0, [], e0, NumsIn.nil _ _, by simp⟩
  · have hm : m = cap := by simpa using hmm
    subst hm
    have hlen : len ≤ 9223372036854775807 := by
      unfold maxLen at hcap
      omega
    rcases Nat.eq_zero_or_pos len with h0 | h0
    · subst h0
      exact ⟨some a, m, [], e0, NumsIn.nil _ _, by simp⟩
    · have hel : ∀ i, i < len → ∃ x : Int, W.cell? (a.add i) = some (.int .i64 x) := fun i hil => by
        obtain ⟨cs', hc, ht'⟩ := hi i (by omega)
        rw [cells3] at hc
        obtain ⟨_, hcl, hat⟩ := World.cells?_some hc
        match cs', hcl with
        | [c], _ =>
          obtain ⟨n', rfl, _⟩ := int_cell (l := [c]) rfl (by rw [cells3]; exact ht')
          have := hat 0 (by omega)
          refine ⟨n', ?_⟩
          rw [Go.Deep.add_add] at this
          simpa using this
      obtain ⟨x0, hx0⟩ := hel 0 h0
      obtain ⟨g, off, sp⟩ := a
      have hsp : sp = none := by
        cases sp with
        | none => rfl
        | some q =>
          exfalso
          have hq : W.cell? ((⟨g, off, some q⟩ : Addr).add 0) = none := by
            unfold World.cell?
            split
            · simp [Addr.add]
            · rfl
          rw [hq] at hx0
          cases hx0
      subst hsp
      have hg : g < W.heap.size := by
        have := World.block_lt_of_cell? W _ hx0
        rwa [add_plain] at this
      obtain ⟨l, hll, hcl⟩ := pick_nums len hel
      subst hll
      refine ⟨_, m, l, e0, fun i hil => ⟨g, off, rfl, hg, ?_⟩, hlen⟩
      have := hcl i hil
      rwa [add_plain] at this

theorem open_nums {H : Type} {enc : TypeId × Value → H} {W : World} {base : Nat} {v : Value} {d : DataW H} {p : List MemPlace}
    (hv : Value.okWide Try.prog W .any base 22 v) (h : DataW.Trod enc Try.prog W 0 (fun _ => true) true 22 v d p) : ∃ (q : Option Addr) (cap : Nat) (l : List Int), v = .slice q l.length cap ∧ NumsIn W q l ∧ l.length ≤ 9223372036854775807 := by
  obtain ⟨pv, nv, cv', rfl⟩ := okWide_slice Try.underlying22 hv
  obtain ⟨fuel, hh⟩ := h
  obtain ⟨q, cap, l, e, h1, h2⟩ := nums_cells hh
  exact ⟨q, cap, l, by simpa [Value.cells] using e, h1, h2⟩

set_option maxRecDepth 100000 in
/-- A set of sharers that comes in by value. -/
theorem open_set {H : Type} {enc : TypeId × Value → H} {W : World} {base : Nat} {v : Value} {d : DataW H} {p : List MemPlace} (hv : Value.okWide Try.prog W .any base 24 v)
    (h : DataW.Trod enc Try.prog W 0 (fun _ => true) true 24 v d p) : ∃ (c m : Int) (q : Option Addr) (cap : Nat) (l : List Int) (al : Bool), v = .agg (sv c m q l.length cap al) ∧ NumsIn W q l ∧ l.length ≤ 9223372036854775807 := by
  obtain ⟨cs, rfl, hsz⟩ := okWide_struct Try.underlying24 hv
  obtain ⟨l⟩ := cs
  match l, hsz.trans cellsSet with
  | [c0, c1, c2, c3], _ =>
    obtain ⟨fuel, hf⟩ := h
    have hf' : DataW.trod enc Try.prog W 0 (fun _ => true) true fuel 24 [c0, c1, c2, c3] = some (d, p) := hf
    obtain ⟨xs, n, _, _, _, hlen, hg⟩ := DataW.trod_struct Try.underlying24 hf'
    match xs, hlen with
    | [y0, y1, y2, y3], _ =>
      obtain ⟨n0, rfl, _⟩ := int_cell rfl (hg 0 _ rfl)
      obtain ⟨n1, rfl, _⟩ := int_cell rfl (hg 1 _ rfl)
      have h2 : DataW.trod enc Try.prog W 0 (fun _ => true) true n 22 ([c2, c3].take (Try.prog.cellsOf 22)) = some y2 := hg 2 _ rfl
      rw [cellsNs] at h2
      obtain ⟨q, cap, l, e, h1, hl⟩ := nums_cells h2
      obtain ⟨b, rfl⟩ := bool_cell rfl (hg 3 _ rfl)
      simp at e
      subst e
      exact ⟨n0, n1, q, cap, l, b, rfl, h1, hl⟩

end Go.Proofs.Ytfnemldjhfcalaa
