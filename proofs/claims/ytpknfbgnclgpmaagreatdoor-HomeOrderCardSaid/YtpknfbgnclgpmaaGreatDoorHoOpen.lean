/-
  A slice of steps that comes in.
-/
import Derived.Test.YtpknfbgnclgpmaaGreatDoorLayBase
import Derived.Test.YtpknfbgnclgpmaaGreatDoorHoO
import Derived.Deep.Slices
import Derived.SizedLaws
import Derived.Carry
namespace Go.Proofs.YtpknfbgnclgpmaaGreatDoor.Ho
open Go.ChangeShapes Go.WideShapes Go.ChangeAt Go.RowKit Go.Deep

/-- Where a slice's things lie. -/
def RowsAt {α : Type} (f : α → List Value) (sz : Nat) (w : World) (p : Option Addr) (l : List α) : Prop :=
  ∀ i (h : i < l.length), ∃ g off, p = some ⟨g, off, none⟩ ∧ g < w.heap.size ∧ ∀ j u, (f l[i])[j]? = some u → w.cell? ⟨g, off + (i * sz + j), none⟩ = some u

theorem pick_rows {α : Type} {P : Nat → α → Prop} : ∀ (len : Nat), (∀ i, i < len → ∃ x, P i x) → ∃ l : List α, l.length = len ∧ ∀ i (h : i < l.length), P i l[i]
  | 0, _ => ⟨[], rfl, fun i h => by simp at h⟩
  | len + 1, h => by
    obtain ⟨l, hl, hc⟩ := pick_rows len (fun i hi => h i (by omega))
    obtain ⟨x, hx⟩ := h len (by omega)
    refine ⟨l ++ [x], by simp [hl], fun i hi => ?_⟩
    by_cases hi' : i < l.length
    · rw [List.getElem_append_left hi']
      exact hc i hi'
    · have e : i = len := by simp at hi; omega
      subst e
      rw [List.getElem_append_right (by omega)]
      simpa [hl] using hx

set_option maxRecDepth 100000 in
theorem open_rows {H : Type} {enc : TypeId × Value → H} {W : World} {base : Nat} {v : Value} {d : DataW H} {p : List MemPlace} {α : Type} (f : α → List Value) (sz : Nat) (hsz : 0 < sz) (hf : ∀ x, (f x).length = sz) {t e : TypeId} (ht : Tryz.prog.underlying t = some (.slice e)) (hce : Tryz.prog.cellsOf e = sz)
    (one_ : ∀ m cs y, cs.length = sz → DataW.trod enc Tryz.prog W 0 (fun _ => true) true m e cs = some y → ∃ x, cs = f x)
    (hv : Value.okWide Tryz.prog W .any base t v) (h : DataW.Trod enc Tryz.prog W 0 (fun _ => true) true t v d p) : ∃ (q : Option Addr) (cap : Nat) (l : List α), v = .slice q l.length cap ∧ RowsAt f sz W q l ∧ l.length ≤ 9223372036854775807 := by
  obtain ⟨pv, nv, cv', rfl⟩ := okWide_slice ht hv
  obtain ⟨fuel, hh⟩ := h
  rcases open_slice ht hh with ⟨e0, _⟩ | ⟨a, len, cap, m, n, D, Pl, e0, _, hl, hcap, hmm, hx, hi⟩
  · have e' : Value.slice pv nv cv' = .slice none 0 0 := by simpa [Value.cells] using e0
    rw [e']
    exact ⟨none, 0, [], rfl, fun i h => by simp at h, by simp⟩
  · have e' : Value.slice pv nv cv' = .slice (some a) len cap := by simpa [Value.cells] using e0
    rw [e']
    have hm : m = cap := by simpa using hmm
    subst hm
    have hlen : len ≤ 9223372036854775807 := by
      unfold maxLen at hcap
      omega
    rcases Nat.eq_zero_or_pos len with h0 | h0
    · subst h0
      exact ⟨some a, m, [], rfl, fun i h => by simp at h, by simp⟩
    · have hel : ∀ i, i < len → ∃ x : α, ∀ j u, (f x)[j]? = some u → W.cell? (a.add (i * sz + j)) = some u := fun i hil => by
        obtain ⟨cs', hc, ht'⟩ := hi i (by omega)
        rw [hce] at hc
        obtain ⟨_, hcl, hat⟩ := World.cells?_some hc
        obtain ⟨x, rfl⟩ := one_ _ _ _ hcl ht'
        refine ⟨x, fun j u hu => ?_⟩
        have hj : j < sz := by
          have := (List.getElem?_eq_some_iff.1 hu).1
          rwa [hf] at this
        rw [← Go.Deep.add_add, hat j hj]
        exact hu
      obtain ⟨x0, hx0⟩ := hel 0 h0
      obtain ⟨g, off, sp⟩ := a
      obtain ⟨u0, hu0⟩ : ∃ u0, (f x0)[0]? = some u0 := ⟨_, List.getElem?_eq_getElem (by rw [hf]; exact hsz)⟩
      have hcell := hx0 0 _ hu0
      have hsp : sp = none := by
        cases sp with
        | none => rfl
        | some q =>
          exfalso
          have hq : W.cell? ((⟨g, off, some q⟩ : Addr).add (0 * sz + 0)) = none := by
            rw [Nat.zero_mul]
            unfold World.cell?
            split
            · simp [Addr.add]
            · rfl
          rw [hq] at hcell
          cases hcell
      subst hsp
      have hg : g < W.heap.size := by
        have := World.block_lt_of_cell? W _ hcell
        rwa [add_plain] at this
      obtain ⟨l, hll, hcl⟩ := pick_rows len hel
      subst hll
      refine ⟨_, m, l, rfl, fun i hil => ⟨g, off, rfl, hg, fun j u hu => ?_⟩, hlen⟩
      have := hcl i hil j u hu
      rwa [add_plain] at this

theorem cells35 : Tryz.prog.cellsOf 36 = 8 := by kernel_rfl
theorem cells38 : Tryz.prog.cellsOf 38 = 15 := by kernel_rfl
theorem cellsStep : Tryz.prog.cellsOf 40 = 20 := by kernel_rfl
theorem cellsThree : Tryz.prog.cellsOf 22 = 3 := by kernel_rfl
theorem okWide_array {P : Program} {w : World} {r : Reach} {base : Nat} {t e : TypeId} {n : Nat} {v : Value} (ht : P.underlying t = some (.array n e)) (h : Value.okWide P w r base t v) : ∃ cs, v = .agg cs ∧ cs.size = P.cellsOf t := by
  simp only [Value.okWide, ht] at h
  obtain ⟨cs, h1, h2, _⟩ := h
  exact ⟨cs, h1, h2⟩
set_option maxRecDepth 100000 in
/-- Words' cells. -/
theorem words_cells {H : Type} {enc : TypeId × Value → H} {W : World} {m : Nat} {l : List Value} {y : DataW H × List MemPlace} (hl : l.length = 8)
    (hr : DataW.trod enc Tryz.prog W 0 (fun _ => true) true m 36 l = some y) : ∃ d : Me.Wd, l = (Me.dcells d).toList := by
  match l, hl with
  | [c0, c1, c2, c3, c4, c5, c6, c7], _ =>
  obtain ⟨zs, k, _, _, _, hzl, hel⟩ := DataW.trod_array Tryz.underlying36 hr
  match zs, hzl with
  | [z0, z1, z2, z3, z4, z5, z6, z7], _ =>
    have e0 := hel 0 (by decide)
    have e1 := hel 1 (by decide)
    have e2 := hel 2 (by decide)
    have e3 := hel 3 (by decide)
    have e4 := hel 4 (by decide)
    have e5 := hel 5 (by decide)
    have e6 := hel 6 (by decide)
    have e7 := hel 7 (by decide)
    rw [cells3] at e0 e1 e2 e3 e4 e5 e6 e7
    obtain ⟨a0, r0, _, _⟩ := DataW.trod_int Tryz.underlying3 e0
    obtain ⟨a1, r1, _, _⟩ := DataW.trod_int Tryz.underlying3 e1
    obtain ⟨a2, r2, _, _⟩ := DataW.trod_int Tryz.underlying3 e2
    obtain ⟨a3, r3, _, _⟩ := DataW.trod_int Tryz.underlying3 e3
    obtain ⟨a4, r4, _, _⟩ := DataW.trod_int Tryz.underlying3 e4
    obtain ⟨a5, r5, _, _⟩ := DataW.trod_int Tryz.underlying3 e5
    obtain ⟨a6, r6, _, _⟩ := DataW.trod_int Tryz.underlying3 e6
    obtain ⟨a7, r7, _, _⟩ := DataW.trod_int Tryz.underlying3 e7
    simp at r0 r1 r2 r3 r4 r5 r6 r7
    subst r0 r1 r2 r3 r4 r5 r6 r7
    exact ⟨⟨a0, a1, a2, a3, a4, a5, a6, a7⟩, rfl⟩
set_option maxRecDepth 100000 in
theorem msg_cells {H : Type} {enc : TypeId × Value → H} {W : World} {m : Nat} {l : List Value} {y : DataW H × List MemPlace} (hl : l.length = 15)
    (hy : DataW.trod enc Tryz.prog W 0 (fun _ => true) true m 38 l = some y) : ∃ x : Msg, l = (mcells x).toList ∧ (Lit.int .i64 x.ln).wf = true := by
  match l, hl with
  | [c0, c1, c2, c3, c4, c5, c6, c7, c8, c9, c10, c11, c12, c13, c14], _ =>
    obtain ⟨xs, n', _, _, _, hxl, hg⟩ := DataW.trod_struct Tryz.underlying38 hy
    match xs, hxl with
    | [y0, y1, y2, y3, y4, y5, y6, y7], _ =>
      obtain ⟨n0, rfl, _⟩ := int_cell rfl (hg 0 _ rfl)
      have h1 : DataW.trod enc Tryz.prog W 0 (fun _ => true) true n' 3 ([c1, c2, c3, c4, c5, c6, c7, c8, c9, c10, c11, c12, c13, c14].take (Tryz.prog.cellsOf 3)) = some y1 := hg 1 _ rfl
      rw [cells3] at h1
      obtain ⟨n1, r1, _, w1⟩ := DataW.trod_int Tryz.underlying3 h1
      have q1 : [c1] = [Value.int .i64 n1] := r1
      obtain rfl : c1 = _ := (List.cons.inj q1).1
      obtain ⟨n2, rfl, _⟩ := int_cell rfl (hg 2 _ rfl)
      obtain ⟨n3, rfl, _⟩ := int_cell rfl (hg 3 _ rfl)
      obtain ⟨n4, rfl, _⟩ := int_cell rfl (hg 4 _ rfl)
      obtain ⟨n5, rfl, _⟩ := int_cell rfl (hg 5 _ rfl)
      obtain ⟨n6, rfl, _⟩ := int_cell rfl (hg 6 _ rfl)
      have hr : DataW.trod enc Tryz.prog W 0 (fun _ => true) true n' 36 ([c7, c8, c9, c10, c11, c12, c13, c14].take (Tryz.prog.cellsOf 36)) = some y7 := hg 7 _ rfl
      rw [cells35] at hr
      obtain ⟨d, hd⟩ := words_cells rfl hr
      simp at hd
      obtain ⟨rfl, rfl, rfl, rfl, rfl, rfl, rfl, rfl⟩ := hd
      exact ⟨⟨n0, n1, n2, n3, n4, n5, n6, d.a0, d.a1, d.a2, d.a3, d.a4, d.a5, d.a6, d.a7⟩, rfl, w1⟩
def stc (x : Sp) : List Value := (scells x).toList
theorem stc_len (x : Sp) : (stc x).length = 20 := rfl
/-- A step whose message's line is a number of an int. -/
abbrev SpW := { x : Sp // (Lit.int .i64 x.m.ln).wf = true }
set_option maxRecDepth 100000 in
theorem three_cells {H : Type} {enc : TypeId × Value → H} {W : World} {m : Nat} {l : List Value} {y : DataW H × List MemPlace} (hl : l.length = 3)
    (hr : DataW.trod enc Tryz.prog W 0 (fun _ => true) true m 22 l = some y) : ∃ a b d : Int, l = [.int .i64 a, .int .i64 b, .int .i64 d] := by
  match l, hl with
  | [c0, c1, c2], _ =>
  obtain ⟨zs, k, _, _, _, hzl, hel⟩ := DataW.trod_array Tryz.underlying22 hr
  match zs, hzl with
  | [z0, z1, z2], _ =>
    have e0 := hel 0 (by decide)
    have e1 := hel 1 (by decide)
    have e2 := hel 2 (by decide)
    rw [cells3] at e0 e1 e2
    obtain ⟨a0, r0, _, _⟩ := DataW.trod_int Tryz.underlying3 e0
    obtain ⟨a1, r1, _, _⟩ := DataW.trod_int Tryz.underlying3 e1
    obtain ⟨a2, r2, _, _⟩ := DataW.trod_int Tryz.underlying3 e2
    simp at r0 r1 r2
    subst r0 r1 r2
    exact ⟨a0, a1, a2, rfl⟩
set_option maxRecDepth 100000 in
theorem step_cells {H : Type} {enc : TypeId × Value → H} {W : World} {m : Nat} {l : List Value} {y : DataW H × List MemPlace} (hl : l.length = 20)
    (hy : DataW.trod enc Tryz.prog W 0 (fun _ => true) true m 40 l = some y) : ∃ x : SpW, l = stc x.1 := by
  match l, hl with
  | [c0, c1, c2, c3, c4, c5, c6, c7, c8, c9, c10, c11, c12, c13, c14, c15, c16, c17, c18, c19], _ =>
    obtain ⟨xs, n', _, _, _, hxl, hg⟩ := DataW.trod_struct Tryz.underlying40 hy
    match xs, hxl with
    | [y0, y1, y2, y3], _ =>
      obtain ⟨n0, rfl, _⟩ := int_cell rfl (hg 0 _ rfl)
      obtain ⟨n1, rfl, _⟩ := int_cell rfl (hg 1 _ rfl)
      have h3 : DataW.trod enc Tryz.prog W 0 (fun _ => true) true n' 22 ([c2, c3, c4, c5, c6, c7, c8, c9, c10, c11, c12, c13, c14, c15, c16, c17, c18, c19].take (Tryz.prog.cellsOf 22)) = some y2 := hg 2 _ rfl
      rw [cellsThree] at h3
      obtain ⟨a, b, d, hd⟩ := three_cells rfl h3
      simp at hd
      obtain ⟨rfl, rfl, rfl⟩ := hd
      have hm : DataW.trod enc Tryz.prog W 0 (fun _ => true) true n' 38 ([c5, c6, c7, c8, c9, c10, c11, c12, c13, c14, c15, c16, c17, c18, c19].take (Tryz.prog.cellsOf 38)) = some y3 := hg 3 _ rfl
      rw [cells38] at hm
      obtain ⟨e, hd, hw⟩ := msg_cells rfl hm
      simp at hd
      obtain ⟨rfl, rfl, rfl, rfl, rfl, rfl, rfl, rfl, rfl, rfl, rfl, rfl, rfl, rfl, rfl⟩ := hd
      exact ⟨⟨⟨n0, n1, a, b, d, e⟩, hw⟩, rfl⟩
set_option maxRecDepth 100000 in
theorem open_steps {H : Type} {enc : TypeId × Value → H} {W : World} {base : Nat} {v : Value} {d : DataW H} {p : List MemPlace}
    (hv : Value.okWide Tryz.prog W .any base 25 v) (h : DataW.Trod enc Tryz.prog W 0 (fun _ => true) true 25 v d p) : ∃ (q : Option Addr) (cap : Nat) (l : List Sp), v = .slice q l.length cap ∧ StepsA W q l ∧ l.length ≤ 9223372036854775807 ∧ ∀ x ∈ l, (Lit.int .i64 x.m.ln).wf = true := by
  obtain ⟨q, cap, l, e, hr, hl⟩ := open_rows (fun x : SpW => stc x.1) 20 (by decide) (fun x => stc_len x.1) Tryz.underlying25 cellsStep (fun m cs y hc hy => step_cells hc hy) hv h
  refine ⟨q, cap, l.map (·.1), by rw [List.length_map]; exact e, fun i hi => ?_, by rw [List.length_map]; exact hl, fun x hx => ?_⟩
  · rw [List.length_map] at hi
    obtain ⟨g, off, e, hg, hc⟩ := hr i hi
    refine ⟨g, off, e, hg, fun j u hu => ?_⟩
    rw [List.getElem_map] at hu
    rw [Nat.add_assoc]
    exact hc j u hu
  · obtain ⟨y, _, rfl⟩ := List.mem_map.1 hx
    exact y.2

end Go.Proofs.YtpknfbgnclgpmaaGreatDoor.Ho
