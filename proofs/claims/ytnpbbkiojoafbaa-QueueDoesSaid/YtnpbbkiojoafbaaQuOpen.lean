/-
  A slice of operations that comes in, each with a message and a list of messages; an operation by value.
-/
import Derived.Test.YtnpbbkiojoafbaaLaidA
import Derived.Test.YtnpbbkiojoafbaaQuQ
import Derived.Deep.Slices
import Derived.SizedLaws
import Derived.ChangeArms
namespace Go.Proofs.Ytnpbbkiojoafbaa
open Go.ChangeShapes Go.WideShapes Go.ChangeAt Go.RowKit Go.Deep

theorem cells3 : Try.prog.cellsOf 3 = 1 := by kernel_rfl
theorem cellsW8 : Try.prog.cellsOf 33 = 8 := by kernel_rfl
theorem cellsMsg : Try.prog.cellsOf 35 = 15 := by kernel_rfl
theorem cellsMs : Try.prog.cellsOf 36 = 1 := by kernel_rfl
theorem cellsOp : Try.prog.cellsOf 38 = 18 := by kernel_rfl
theorem bytesMsg : Try.prog.bytesOf 35 = 120 := by kernel_rfl
theorem int_cell {H : Type} {enc : TypeId × Value → H} {W : World} {m : Nat} {v : Value} {l : List Value} {y : DataW H × List MemPlace} (hl : l.take 1 = [v])
    (h : DataW.trod enc Try.prog W 0 (fun _ => true) true m 3 (l.take (Try.prog.cellsOf 3)) = some y) : ∃ n : Int, v = .int .i64 n ∧ (Lit.int .i64 n).wf = true := by
  rw [cells3, hl] at h
  obtain ⟨n, e, _, hw⟩ := DataW.trod_int Try.underlying3 h
  simp at e
  exact ⟨n, e, hw⟩
theorem weightsAll_mem {H : Type} {P : Program} {e : TypeId} : ∀ {l : List (DataW H)} {d : DataW H}, d ∈ l → ∀ n ∈ d.weights P e, n ∈ DataW.weightsAll P e l
  | [], _, h, _, _ => by cases h
  | x :: r, d, h, n, hn => by
    rw [DataW.weightsAll, List.mem_append]
    rcases List.mem_cons.1 h with rfl | h
    · exact .inl hn
    · exact .inr (weightsAll_mem h n hn)

theorem pick_rows {α : Type} {P : Nat → α → Prop} : ∀ (len : Nat), (∀ i, i < len → ∃ x, P i x) → ∃ l : List α, l.length = len ∧ ∀ i x, l[i]? = some x → P i x
  | 0, _ => ⟨[], rfl, fun i x h => by cases h⟩
  | len + 1, h => by
    obtain ⟨l, hl, hc⟩ := pick_rows len (fun i hi => h i (by omega))
    obtain ⟨x, hx⟩ := h len (by omega)
    refine ⟨l ++ [x], by simp [hl], fun i y hy => ?_⟩
    by_cases hi' : i < l.length
    · rw [List.getElem?_append_left hi'] at hy
      exact hc i y hy
    · have hi : i < (l ++ [x]).length := (List.getElem?_eq_some_iff.1 hy).1
      have e : i = len := by simp at hi; omega
      subst e
      rw [List.getElem?_append_right (by omega)] at hy
      have e2 : x = y := by simpa [hl] using hy
      rw [← e2]
      exact hx

set_option maxRecDepth 100000 in
theorem rows_cells {H : Type} {enc : TypeId × Value → H} {W : World} {fuel : Nat} {cs : List Value} {x : DataW H × List MemPlace} {α : Type} (f : α → List Value) (sz : Nat) (hsz : 0 < sz) (hf : ∀ x, (f x).length = sz) (Pr : α → Prop) {t e : TypeId} (ht : Try.prog.underlying t = some (.slice e)) (hce : Try.prog.cellsOf e = sz)
    (one_ : ∀ m cs (y : DataW H × List MemPlace), cs.length = sz → DataW.trod enc Try.prog W 0 (fun _ => true) true m e cs = some y → (∀ n ∈ y.1.weights Try.prog e, n ≤ reachBytes) → ∃ x, cs = f x ∧ Pr x)
    (h : DataW.trod enc Try.prog W 0 (fun _ => true) true fuel t cs = some x) (hz : ∀ n ∈ x.1.weights Try.prog t, n ≤ reachBytes) :
    ∃ (q : Option Addr) (cap : Nat) (l : List α), cs = [.slice q l.length cap] ∧ (∀ i x, l[i]? = some x → ∃ g o, q = some ⟨g, o, none⟩ ∧ g < W.heap.size ∧ W.rangeAt g (o + i * sz) (f x)) ∧ l.length ≤ 9223372036854775807 ∧ l.length * Try.prog.bytesOf e ≤ reachBytes ∧ ∀ x ∈ l, Pr x := by
  rcases open_slice ht h with ⟨e0, _⟩ | ⟨a, len, cap, m, n, D, Pl, e0, _, hl, hcap, hmm, hx, hi⟩
  · exact ⟨none, 0, [], e0, fun i x hx => (by cases hx), by simp, by simp, fun x hx => (by cases hx)⟩
  · have hm : m = cap := by simpa using hmm
    subst hm
    have hlen : len ≤ 9223372036854775807 := by
      unfold maxLen at hcap
      omega
    rw [hx] at hz
    have hby : len * Try.prog.bytesOf e ≤ reachBytes := by
      have := hz (((List.range len).map D).length * Try.prog.bytesOf e + ((List.range (m - len)).map fun j => D (len + j)).length * Try.prog.bytesOf e) (by
        simp only [DataW.weights, ht, List.mem_cons, Nat.add_mul]
        exact .inl trivial)
      simp at this
      omega
    rcases Nat.eq_zero_or_pos len with h0 | h0
    · subst h0
      exact ⟨some a, m, [], e0, fun i x hx => (by cases hx), by simp, by simp, fun x hx => (by cases hx)⟩
    · have hel : ∀ i, i < len → ∃ x : α, (∀ j u, (f x)[j]? = some u → W.cell? (a.add (i * sz + j)) = some u) ∧ Pr x := fun i hil => by
        obtain ⟨cs', hc, ht'⟩ := hi i (by omega)
        rw [hce] at hc
        obtain ⟨_, hcl, hat⟩ := World.cells?_some hc
        obtain ⟨x, rfl, hp⟩ := one_ _ _ _ hcl ht' (fun n hn => hz n (by
          simp only [DataW.weights, ht, List.mem_cons, List.mem_append]
          exact .inr (.inl (weightsAll_mem (List.mem_map.2 ⟨i, List.mem_range.2 hil, rfl⟩) n hn))))
        refine ⟨x, fun j u hu => ?_, hp⟩
        have hj : j < sz := by
          have := (List.getElem?_eq_some_iff.1 hu).1
          rwa [hf] at this
        rw [← Go.Deep.add_add, hat j hj]
        exact hu
      obtain ⟨x0, hx0, _⟩ := hel 0 h0
      obtain ⟨g, off, sp⟩ := a
      obtain ⟨u0, hu0⟩ : ∃ u0, (f x0)[0]? = some u0 := ⟨_, List.getElem?_eq_getElem (by rw [hf]; exact hsz)⟩
      have hcell := hx0 0 _ hu0
      have hsp : sp = none := by
        cases sp with
        | none => rfl
        | some q =>
          exfalso
          have hq : W.cell? ((⟨g, off, some q⟩ : Addr).add (0 * sz + 0)) = none := by
            rw [Nat.zero_mul]
            unfold World.cell?
            split
            · simp [Addr.add]
            · rfl
          rw [hq] at hcell
          cases hcell
      subst hsp
      have hg : g < W.heap.size := by
        have := World.block_lt_of_cell? W _ hcell
        rwa [add_plain] at this
      obtain ⟨l, hll, hcl⟩ := pick_rows len hel
      subst hll
      refine ⟨_, m, l, e0, fun i x hx => ⟨g, off, rfl, hg, fun j u hu => ?_⟩, hlen, hby, fun x hx => ?_⟩
      · have := (hcl i x hx).1 j u hu
        rw [add_plain] at this
        rwa [Nat.add_assoc]
      · obtain ⟨i, hi, rfl⟩ := List.getElem_of_mem hx
        exact (hcl i _ (List.getElem?_eq_getElem hi)).2

set_option maxRecDepth 100000 in
theorem msg_cells {H : Type} {enc : TypeId × Value → H} {W : World} {m : Nat} {l : List Value} {y : DataW H × List MemPlace} (hl : l.length = 15)
    (h : DataW.trod enc Try.prog W 0 (fun _ => true) true m 35 l = some y) : ∃ M : Msg, l = mg M ∧ (Lit.int .i64 M.ln).wf = true := by
  match l, hl with
  | [c0, c1, c2, c3, c4, c5, c6, c7, c8, c9, c10, c11, c12, c13, c14], _ =>
  obtain ⟨xs, n, _, _, _, hlen, hg⟩ := DataW.trod_struct Try.underlying35 h
  match xs, hlen with
  | [y0, y1, y2, y3, y4, y5, y6, y7], _ =>
    obtain ⟨n0, rfl, _⟩ := int_cell rfl (hg 0 _ rfl)
    obtain ⟨n1, rfl, hw⟩ := int_cell rfl (hg 1 _ rfl)
    obtain ⟨n2, rfl, _⟩ := int_cell rfl (hg 2 _ rfl)
    obtain ⟨n3, rfl, _⟩ := int_cell rfl (hg 3 _ rfl)
    obtain ⟨n4, rfl, _⟩ := int_cell rfl (hg 4 _ rfl)
    obtain ⟨n5, rfl, _⟩ := int_cell rfl (hg 5 _ rfl)
    obtain ⟨n6, rfl, _⟩ := int_cell rfl (hg 6 _ rfl)
    have hr : DataW.trod enc Try.prog W 0 (fun _ => true) true n 33 ([c7, c8, c9, c10, c11, c12, c13, c14].take (Try.prog.cellsOf 33)) = some y7 := hg 7 _ rfl
    rw [cellsW8] at hr
    obtain ⟨zs, k, _, _, _, hzl, hel⟩ := DataW.trod_array Try.underlying33 hr
    match zs, hzl with
    | [z0, z1, z2, z3, z4, z5, z6, z7], _ =>
      have e0 := hel 0 (by decide)
      have e1 := hel 1 (by decide)
      have e2 := hel 2 (by decide)
      have e3 := hel 3 (by decide)
      have e4 := hel 4 (by decide)
      have e5 := hel 5 (by decide)
      have e6 := hel 6 (by decide)
      have e7 := hel 7 (by decide)
      rw [cells3] at e0 e1 e2 e3 e4 e5 e6 e7
      obtain ⟨a0, r0, _, _⟩ := DataW.trod_int Try.underlying3 e0
      obtain ⟨a1, r1, _, _⟩ := DataW.trod_int Try.underlying3 e1
      obtain ⟨a2, r2, _, _⟩ := DataW.trod_int Try.underlying3 e2
      obtain ⟨a3, r3, _, _⟩ := DataW.trod_int Try.underlying3 e3
      obtain ⟨a4, r4, _, _⟩ := DataW.trod_int Try.underlying3 e4
      obtain ⟨a5, r5, _, _⟩ := DataW.trod_int Try.underlying3 e5
      obtain ⟨a6, r6, _, _⟩ := DataW.trod_int Try.underlying3 e6
      obtain ⟨a7, r7, _, _⟩ := DataW.trod_int Try.underlying3 e7
      simp at r0 r1 r2 r3 r4 r5 r6 r7
      subst r0 r1 r2 r3 r4 r5 r6 r7
      exact ⟨⟨n0, n1, n2, n3, n4, n5, n6, a0, a1, a2, a3, a4, a5, a6, a7⟩, rfl, hw⟩
theorem msgs_cells {H : Type} {enc : TypeId × Value → H} {W : World} {fuel : Nat} {cs : List Value} {x : DataW H × List MemPlace} (h : DataW.trod enc Try.prog W 0 (fun _ => true) true fuel 36 cs = some x) (hz : ∀ n ∈ x.1.weights Try.prog 36, n ≤ reachBytes) :
    ∃ (q : Option Addr) (cap : Nat) (l : List Msg), cs = [.slice q l.length cap] ∧ MIn W q l ∧ l.length ≤ 140737488355328 := by
  obtain ⟨q, cap, l, h1, h2, -, h3, -⟩ := rows_cells mg 15 (by decide) mg_len (fun _ => True) Try.underlying36 cellsMsg (fun m cs y hc hy _ => by
    obtain ⟨M, e, _⟩ := msg_cells hc hy
    exact ⟨M, e, trivial⟩) h hz
  refine ⟨q, cap, l, h1, h2, ?_⟩
  rw [bytesMsg] at h3
  unfold reachBytes at h3
  omega

/-- What is asked of an operation that comes in. -/
def OpOk (W : World) (x : Qo) : Prop := MIn W x.p x.l ∧ (Lit.int .i64 x.m.ln).wf = true ∧ x.l.length ≤ 140737488355328
set_option maxRecDepth 100000 in
theorem op_cells {H : Type} {enc : TypeId × Value → H} {W : World} {m : Nat} {l : List Value} {y : DataW H × List MemPlace} (hl : l.length = 18)
    (hy : DataW.trod enc Try.prog W 0 (fun _ => true) true m 38 l = some y) (hz : ∀ n ∈ y.1.weights Try.prog 38, n ≤ reachBytes) : ∃ x : Qo, l = oc x ∧ OpOk W x := by
  match l, hl with
  | [c0, c1, c2, c3, c4, c5, c6, c7, c8, c9, c10, c11, c12, c13, c14, c15, c16, c17], _ =>
    obtain ⟨xs, n', _, hyx, _, hxl, hg⟩ := DataW.trod_struct Try.underlying38 hy
    match xs, hxl with
    | [y0, y1, y2, y3], _ =>
      obtain ⟨n0, rfl, _⟩ := int_cell rfl (hg 0 _ rfl)
      obtain ⟨n1, rfl, _⟩ := int_cell rfl (hg 1 _ rfl)
      have hr : DataW.trod enc Try.prog W 0 (fun _ => true) true n' 35 ([c2, c3, c4, c5, c6, c7, c8, c9, c10, c11, c12, c13, c14, c15, c16, c17].take (Try.prog.cellsOf 35)) = some y2 := hg 2 _ rfl
      rw [cellsMsg] at hr
      obtain ⟨M, hM, hw⟩ := msg_cells rfl hr
      have hs : DataW.trod enc Try.prog W 0 (fun _ => true) true n' 36 ([c17].take (Try.prog.cellsOf 36)) = some y3 := hg 3 _ rfl
      rw [cellsMs] at hs
      have hz3 : ∀ n ∈ y3.1.weights Try.prog 36, n ≤ reachBytes := fun n hn => hz n (by
        rw [hyx]
        simp only [DataW.weights, Try.underlying38]
        exact DataW.weights_mem_each (j := 3) rfl rfl n hn)
      obtain ⟨q, cap, ml, e, h1, h2⟩ := msgs_cells hs hz3
      simp [mg] at hM
      obtain ⟨rfl, rfl, rfl, rfl, rfl, rfl, rfl, rfl, rfl, rfl, rfl, rfl, rfl, rfl, rfl⟩ := hM
      simp at e
      subst e
      exact ⟨⟨n0, n1, M, ml, q, cap⟩, rfl, h1, hw, h2⟩
set_option maxRecDepth 100000 in
theorem open_opsQ {H : Type} {enc : TypeId × Value → H} {W : World} {base : Nat} {v : Value} {d : DataW H} {p : List MemPlace}
    (hv : Value.okWide Try.prog W .any base 22 v) (h : DataW.Trod enc Try.prog W 0 (fun _ => true) true 22 v d p) (hz : ∀ n ∈ d.weights Try.prog 22, n ≤ reachBytes) :
    ∃ (q : Option Addr) (cap : Nat) (l : List Qo), v = .slice q l.length cap ∧ OpsIn W q l ∧ l.length ≤ 9223372036854775807 ∧ (∀ x ∈ l, (Lit.int .i64 x.m.ln).wf = true) ∧ ∀ x ∈ l, x.l.length ≤ 140737488355328 := by
  obtain ⟨pv, nv, cv', rfl⟩ := okWide_slice Try.underlying22 hv
  obtain ⟨fuel, hh⟩ := h
  obtain ⟨q, cap, l, e, h1, h2, -, h3⟩ := rows_cells oc 18 (by decide) oc_len (OpOk W) Try.underlying22 cellsOp (fun m cs y hc hy hz => op_cells hc hy hz) hh hz
  refine ⟨q, cap, l, by simpa [Value.cells] using e, ⟨h1, fun x hx => (h3 x hx).1⟩, h2, fun x hx => (h3 x hx).2.1, fun x hx => (h3 x hx).2.2⟩
set_option maxRecDepth 100000 in
theorem open_opQ {H : Type} {enc : TypeId × Value → H} {W : World} {base : Nat} {v : Value} {d : DataW H} {p : List MemPlace}
    (hv : Value.okWide Try.prog W .any base 38 v) (h : DataW.Trod enc Try.prog W 0 (fun _ => true) true 38 v d p) (hz : ∀ n ∈ d.weights Try.prog 38, n ≤ reachBytes) :
    ∃ x : Qo, v = .agg (ocells x) ∧ OpOk W x := by
  obtain ⟨cs, rfl, hsz⟩ := okWide_struct Try.underlying38 hv
  obtain ⟨fuel, hf⟩ := h
  obtain ⟨x, e, ho⟩ := op_cells (l := cs.toList) (by simpa using hsz.trans cellsOp) hf hz
  refine ⟨x, ?_, ho⟩
  rw [← Array.toArray_toList (xs := cs), e]
  rfl

end Go.Proofs.Ytnpbbkiojoafbaa
