/-
  A script that comes in by value, and what the program's start has laid.
-/
import Derived.Test.YtjnbpohjdgnknaaDoorPgOpen
import Derived.Test.YtjnbpohjdgnknaaDoorScS
import Derived.Test.YtjnbpohjdgnknaaDoorScJ
import Derived.Test.YtjnbpohjdgnknaaDoorScO
import Derived.Deep.Strs
namespace Go.Proofs.YtjnbpohjdgnknaaDoor
open Go.ChangeShapes Go.WideShapes Go.ChangeAt Go.RowKit Go.Deep

theorem gTab : Tryd.prog.globalNamed "math/bits.deBruijn64tab" = some 1 := by kernel_rfl
theorem tTab : (Tryd.prog.globals[1]?).map (·.type) = some 112 := by kernel_rfl
theorem cells5 : Tryd.prog.cellsOf 5 = 1 := by kernel_rfl
theorem cells64 : Tryd.prog.cellsOf 112 = 64 := by kernel_rfl
theorem dTab : (Rows.laid_math_bits_deBruijn64tab : DataW Unit) = Lib.tabData .u8 (Lib.deBruijn64tab.map fun n : Nat => (n : Int)) := by rfl

/-- What the rows list gives both tables. -/
theorem of_laid4 {W : World} (h : laidMetH Tryd.prog laidTabs3 W) : Std W := by
  have hp := of_laid3 h
  rw [MakeChecks.laidMetH_plain _ _ _ (by kernel_rfl)] at h
  have h2 : laidMet Tryd.prog [("math/bits.deBruijn64tab", Rows.laid_math_bits_deBruijn64tab), ("internal/strconv.uint64pow10", Rows.laid_internal_strconv_uint64pow10)] W := h.tail
  rw [dTab] at h2
  have hT := Lib.tabIs_of_head gTab tTab Tryd.underlying112 Tryd.underlying5 cells5 cells64 h2
  have hc : Tab W := fun j hj => by
    have := hT.cell gTab j (by simpa [Lib.deBruijn64tab] using hj)
    rw [this]
    simp only [List.getD_eq_getElem?_getD, List.getElem?_map]
    have hlt : j < Lib.deBruijn64tab.length := by simpa [Lib.deBruijn64tab] using hj
    rw [List.getElem?_eq_getElem hlt]
    rfl
  exact ⟨hc, Go.block_lt_of_cell (hc 0 (by omega)), hp⟩

theorem cellsPick : Tryd.prog.cellsOf 49 = 3 := by kernel_rfl
theorem bytesPick : Tryd.prog.bytesOf 49 = 24 := by kernel_rfl
theorem cellsOps : Tryd.prog.cellsOf 42 = 1 := by kernel_rfl
theorem bytesOps : Tryd.prog.bytesOf 42 = 24 := by kernel_rfl
theorem cellsScr : Tryd.prog.cellsOf 28 = 15 := by kernel_rfl
theorem cellsLs : Tryd.prog.cellsOf 25 = 1 := by kernel_rfl
theorem cellsPks : Tryd.prog.cellsOf 26 = 1 := by kernel_rfl

set_option maxRecDepth 100000 in
/-- A machine's sizes, cell by cell. -/
theorem cfg_cells {H : Type} {enc : TypeId × Value → H} {W : World} {m : Nat} {c0 c1 c2 c3 c4 c5 c6 c7 c8 c9 c10 c11 c12 : Value} {y : DataW H × List MemPlace}
    (hf : DataW.trod enc Tryd.prog W 0 (fun _ => true) true m 24 [c0, c1, c2, c3, c4, c5, c6, c7, c8, c9, c10, c11, c12] = some y) : ∃ c : Cfg, [c0, c1, c2, c3, c4, c5, c6, c7, c8, c9, c10, c11, c12] = (cL c).toList ∧ c.fits := by
  obtain ⟨xs, n, _, _, _, hlen, hg⟩ := DataW.trod_struct Tryd.underlying24 hf
  match xs, hlen with
  | [y0, y1, y2, y3, y4, y5, y6, y7, y8, y9, y10], _ =>
    obtain ⟨n0, rfl, b0⟩ := int_cell rfl (hg 0 _ rfl)
    obtain ⟨n1, rfl, b1⟩ := int_cell rfl (hg 1 _ rfl)
    obtain ⟨n2, rfl, b2⟩ := int_cell rfl (hg 2 _ rfl)
    obtain ⟨n3, rfl, b3⟩ := int_cell rfl (hg 3 _ rfl)
    obtain ⟨n4, rfl, b4⟩ := int_cell rfl (hg 4 _ rfl)
    obtain ⟨n5, rfl, b5⟩ := int_cell rfl (hg 5 _ rfl)
    obtain ⟨n6, rfl, b6⟩ := int_cell rfl (hg 6 _ rfl)
    obtain ⟨n7, rfl, b7⟩ := int_cell rfl (hg 7 _ rfl)
    obtain ⟨n8, rfl, b8⟩ := int_cell rfl (hg 8 _ rfl)
    obtain ⟨n9, rfl, b9⟩ := int_cell rfl (hg 9 _ rfl)
    have hr : DataW.trod enc Tryd.prog W 0 (fun _ => true) true n 22 ([c10, c11, c12].take (Tryd.prog.cellsOf 22)) = some y10 := hg 10 _ rfl
    rw [cells22] at hr
    obtain ⟨zs, m, _, _, _, hzl, hel⟩ := DataW.trod_array Tryd.underlying22 hr
    match zs, hzl with
    | [z0, z1, z2], _ =>
      have e0 := hel 0 (by decide)
      have e1 := hel 1 (by decide)
      have e2 := hel 2 (by decide)
      rw [cells3] at e0 e1 e2
      obtain ⟨n10, r10, _, w10⟩ := DataW.trod_int Tryd.underlying3 e0
      obtain ⟨n11, r11, _, w11⟩ := DataW.trod_int Tryd.underlying3 e1
      obtain ⟨n12, r12, _, w12⟩ := DataW.trod_int Tryd.underlying3 e2
      simp at r10 r11 r12
      subst r10 r11 r12
      exact ⟨⟨n0, n1, n2, n3, n4, n5, n6, n7, n8, n9, n10, n11, n12⟩, rfl, b0, b1, b2, b3, b4, b5, b6, b7, b8, b9, (int_range w10).2, (int_range w11).2, (int_range w12).2⟩

set_option maxRecDepth 100000 in
/-- A slice of structs of three numbers, cell by cell. -/
theorem row3_cells {H : Type} {enc : TypeId × Value → H} {W : World} {t e fuel : Nat} {cs : List Value} {d : DataW H} {pl : List MemPlace} (ht : Tryd.prog.underlying t = some (.slice e)) (hc3 : Tryd.prog.cellsOf e = 3) (hby : Tryd.prog.bytesOf e = 24)
    (hst : ∀ {n : Nat} {c0 c1 c2 : Value} {y : DataW H × List MemPlace}, DataW.trod enc Tryd.prog W 0 (fun _ => true) true n e [c0, c1, c2] = some y → ∃ x : Op, [c0, c1, c2] = opCells [x])
    (hw : ∀ n ∈ DataW.weights Tryd.prog t d, n ≤ reachBytes) (hf : DataW.trod enc Tryd.prog W 0 (fun _ => true) true fuel t cs = some (d, pl)) : ∃ v l, cs = [v] ∧ OpsAt W v l ∧ l.length ≤ 4611686018427387903 := by
  rcases open_slice ht hf with ⟨e', _⟩ | ⟨a, len, cap, m, n, D, Pl, e', _, hl, _, hmm, hx, hi⟩
  · exact ⟨_, [], e', OpsAt.nil_ W, by simp⟩
  · have hm : m = cap := by simpa using hmm
    subst hm
    have hlen : len ≤ 4611686018427387903 := by
      simp only [Prod.mk.injEq] at hx
      have hwt := hw ((len + (m - len)) * 24) (by
        rw [hx.1]
        simp [DataW.weights, ht, hby])
      have hr : reachBytes = 140737488351232 := rfl
      omega
    rcases Nat.eq_zero_or_pos len with h0 | h0
    · subst h0
      exact ⟨_, [], e', .inl ⟨some a, m, rfl, (fun h => by cases h), rfl⟩, by simp⟩
    · have hel : ∀ i, i < len → ∃ x : Op, ∀ j u, (opCells [x])[j]? = some u → W.cell? (a.add (i * 3 + j)) = some u := fun i hil => by
        obtain ⟨cs', hc, htr⟩ := hi i (by omega)
        rw [hc3] at hc
        obtain ⟨_, hcl, hat⟩ := World.cells?_some hc
        match cs', hcl with
        | [c0, c1, c2], _ =>
          obtain ⟨x, hx⟩ := hst htr
          refine ⟨x, fun j u hu => ?_⟩
          have hj : j < 3 := by
            have := (List.getElem?_eq_some_iff.1 hu).1
            simpa [opCells] using this
          rw [← Go.Deep.add_add, hat j hj, hx]
          exact hu
      obtain ⟨x0, hx0⟩ := hel 0 h0
      obtain ⟨g, off, sp⟩ := a
      have hcell := hx0 0 _ (by simp [opCells]; rfl)
      have hsp : sp = none := by
        cases sp with
        | none => rfl
        | some q =>
          exfalso
          have hq : W.cell? (⟨g, off, some q⟩ : Addr) = none := by
            unfold World.cell?
            split
            · simp
            · rfl
          have hc' : W.cell? (⟨g, off, some q⟩ : Addr) = some (.int .i64 x0.k) := hcell
          rw [hq] at hc'
          cases hc'
      subst hsp
      have hg : g < W.heap.size := World.block_lt_of_cell? W _ hcell
      obtain ⟨l, hll, hcl⟩ := pick_ops (W := W) (g := g) (off := off) len (fun i hil => by
        obtain ⟨x, hx⟩ := hel i hil
        refine ⟨x, fun j u hu => ?_⟩
        have := hx j u hu
        rwa [Lib.add_plain] at this)
      subst hll
      exact ⟨_, l, e', .inr ⟨g, off, m, rfl, hg, hcl⟩, hlen⟩

theorem op_struct {H : Type} {enc : TypeId × Value → H} {W : World} {n : Nat} {c0 c1 c2 : Value} {y : DataW H × List MemPlace} (ht : DataW.trod enc Tryd.prog W 0 (fun _ => true) true n 52 [c0, c1, c2] = some y) : ∃ x : Op, [c0, c1, c2] = opCells [x] := by
  obtain ⟨xs, n', _, _, _, hxl, hg⟩ := DataW.trod_struct Tryd.underlying52 ht
  match xs, hxl with
  | [y0, y1, y2], _ =>
    obtain ⟨n0, rfl, _⟩ := int_cell rfl (hg 0 _ rfl)
    obtain ⟨n1, rfl, _⟩ := int_cell rfl (hg 1 _ rfl)
    obtain ⟨n2, rfl, _⟩ := int_cell rfl (hg 2 _ rfl)
    exact ⟨⟨n0, n1, n2⟩, rfl⟩
theorem pick_struct {H : Type} {enc : TypeId × Value → H} {W : World} {n : Nat} {c0 c1 c2 : Value} {y : DataW H × List MemPlace} (ht : DataW.trod enc Tryd.prog W 0 (fun _ => true) true n 49 [c0, c1, c2] = some y) : ∃ x : Op, [c0, c1, c2] = opCells [x] := by
  obtain ⟨xs, n', _, _, _, hxl, hg⟩ := DataW.trod_struct Tryd.underlying49 ht
  match xs, hxl with
  | [y0, y1, y2], _ =>
    obtain ⟨n0, rfl, _⟩ := int_cell rfl (hg 0 _ rfl)
    obtain ⟨n1, rfl, _⟩ := int_cell rfl (hg 1 _ rfl)
    obtain ⟨n2, rfl, _⟩ := int_cell rfl (hg 2 _ rfl)
    exact ⟨⟨n0, n1, n2⟩, rfl⟩

theorem pick_lists {Q : Nat → List Op → Prop} : ∀ (len : Nat), (∀ i, i < len → ∃ l, Q i l) → ∃ ls : List (List Op), ls.length = len ∧ ∀ j, j < len → Q j (ls.getD j [])
  | 0, _ => ⟨[], rfl, fun j hj => by omega⟩
  | len + 1, h => by
    obtain ⟨ls, hl, hq⟩ := pick_lists len (fun i hi => h i (by omega))
    obtain ⟨l, hx⟩ := h len (by omega)
    refine ⟨ls ++ [l], by simp [hl], fun j hj => ?_⟩
    simp only [List.getD_eq_getElem?_getD]
    by_cases hj2 : j < len
    · rw [List.getElem?_append_left (by omega)]
      have := hq j hj2
      rwa [List.getD_eq_getElem?_getD] at this
    · rw [List.getElem?_append_right (by omega), show j - ls.length = 0 by omega]
      rw [show j = len by omega]
      exact hx
theorem weights_all {H : Type} {P : Program} {e : TypeId} {d : DataW H} {n : Nat} (hn : n ∈ DataW.weights P e d) : ∀ {ds : List (DataW H)}, d ∈ ds → n ∈ DataW.weightsAll P e ds
  | [], h => by cases h
  | d' :: ds, h => by
    rw [DataW.weightsAll]
    rcases List.mem_cons.1 h with rfl | h
    · exact List.mem_append_left _ hn
    · exact List.mem_append_right _ (weights_all hn h)

set_option maxRecDepth 100000 in
/-- A list of programs that comes in. -/
theorem lists_cells {H : Type} {enc : TypeId × Value → H} {W : World} {fuel : Nat} {cs : List Value} {d : DataW H} {pl : List MemPlace}
    (hw : ∀ n ∈ DataW.weights Tryd.prog 25 d, n ≤ reachBytes) (hf : DataW.trod enc Tryd.prog W 0 (fun _ => true) true fuel 25 cs = some (d, pl)) :
    ∃ p cap ls, cs = [.slice p ls.length cap] ∧ LsIn W p ls ∧ ls.length ≤ 4611686018427387903 ∧ ∀ j, j < ls.length → (ls.getD j []).length ≤ 4611686018427387903 := by
  rcases open_slice1 Tryd.underlying25 cellsOps hf with ⟨e', _⟩ | ⟨a, len, cap, m, n, V, D, Pl, e', _, hl, _, hmm, hx, hi⟩
  · exact ⟨none, 0, [], e', (fun j hj => by simp at hj), by simp, fun j hj => by simp at hj⟩
  · have hm : m = cap := by simpa using hmm
    subst hm
    simp only [Prod.mk.injEq] at hx
    have hlen : len ≤ 4611686018427387903 := by
      have hwt := hw ((len + (m - len)) * 24) (by
        rw [hx.1]
        simp [DataW.weights, Tryd.underlying25, bytesOps])
      have hr : reachBytes = 140737488351232 := rfl
      omega
    obtain ⟨ls, hll, hq⟩ := pick_lists (Q := fun i l => OpsAt W (V i) l ∧ l.length ≤ 4611686018427387903) len (fun i hil => by
      obtain ⟨_, htr⟩ := hi i (by omega)
      obtain ⟨v, l, e1, h1, h2⟩ := row3_cells Tryd.underlying42 cellsOp bytesOp op_struct (fun k hk => hw k (by
        rw [hx.1]
        have hmem : D i ∈ (List.range len).map D := List.mem_map.2 ⟨i, List.mem_range.2 hil, rfl⟩
        have := weights_all hk hmem
        simp only [DataW.weights, Tryd.underlying25]
        exact List.mem_cons_of_mem _ (List.mem_append_left _ this))) htr
      injection e1 with e1
      rw [e1]
      exact ⟨l, h1, h2⟩)
    subst hll
    refine ⟨some a, m, ls, e', fun j hj => ?_, hlen, fun j hj => (hq j hj).2⟩
    have hcj := (hi j (by omega)).1
    obtain ⟨g, off, sp⟩ := a
    have hsp : sp = none := by
      cases sp with
      | none => rfl
      | some q =>
        exfalso
        have hq : W.cell? (⟨g, off, some q⟩ : Addr) = none := by
          unfold World.cell?
          split
          · simp
          · rfl
        have hc' : W.cell? (⟨g, off, some q⟩ : Addr) = some (V 0) := (hi 0 (by omega)).1
        rw [hq] at hc'
        cases hc'
    subst hsp
    rw [Lib.add_plain] at hcj
    exact ⟨g, off, V j, rfl, World.block_lt_of_cell? W _ hcj, hcj, (hq j hj).1⟩

set_option maxRecDepth 100000 in
/-- A script that comes in by value. -/
theorem open_script {H : Type} {enc : TypeId × Value → H} {W : World} {base : Nat} {v : Value} {d : DataW H} {p : List MemPlace} (hv : Value.okWide Tryd.prog W .any base 28 v)
    (hw : ∀ n ∈ DataW.weights Tryd.prog 28 d, n ≤ reachBytes)
    (h : DataW.Trod enc Tryd.prog W 0 (fun _ => true) true 28 v d p) : ∃ s p cp q cq, v = sv s p cp q cq ∧ ScAt W s p q ∧ Big s := by
  obtain ⟨cs, rfl, hsz⟩ := okWide_struct Tryd.underlying28 hv
  obtain ⟨l⟩ := cs
  match l, hsz.trans cellsScr with
  | [c0, c1, c2, c3, c4, c5, c6, c7, c8, c9, c10, c11, c12, c13, c14], _ =>
    obtain ⟨fuel, hf⟩ := h
    obtain ⟨y0, y1, y2, n, hx, _, h0, h1, h2⟩ := trod_struct3 Tryd.underlying28 hf
    simp only [Prod.mk.injEq] at hx
    have h0' : DataW.trod enc Tryd.prog W 0 (fun _ => true) true n 24 ([c0, c1, c2, c3, c4, c5, c6, c7, c8, c9, c10, c11, c12, c13, c14].take (Tryd.prog.cellsOf 24)) = some y0 := h0
    have h1' : DataW.trod enc Tryd.prog W 0 (fun _ => true) true n 25 ([c13, c14].take (Tryd.prog.cellsOf 25)) = some (y1.1, y1.2) := h1
    have h2' : DataW.trod enc Tryd.prog W 0 (fun _ => true) true n 26 ([c14].take (Tryd.prog.cellsOf 26)) = some (y2.1, y2.2) := h2
    rw [cells24] at h0'
    rw [cellsLs] at h1'
    rw [cellsPks] at h2'
    rw [hx.1] at hw
    simp only [DataW.weights, Tryd.underlying28] at hw
    obtain ⟨c, hc, hcf⟩ := cfg_cells h0'
    obtain ⟨pp, cp, ls, e1, hin, hb1, hb2⟩ := lists_cells (fun k hk => hw k (by
      simp only [DataW.weightsEach, List.map_cons]
      exact List.mem_append_right _ (List.mem_append_left _ hk))) h1'
    obtain ⟨qv, pk, e2, hops, hb3⟩ := row3_cells Tryd.underlying26 cellsPick bytesPick pick_struct (fun k hk => hw k (by
      simp only [DataW.weightsEach, List.map_cons]
      exact List.mem_append_right _ (List.mem_append_right _ (List.mem_append_left _ hk)))) h2'
    obtain ⟨qq, cq, rfl, hqi⟩ := hops.in_
    simp at e1 e2 hc
    obtain ⟨rfl, rfl, rfl, rfl, rfl, rfl, rfl, rfl, rfl, rfl, rfl, rfl, rfl⟩ := hc
    subst e1 e2
    exact ⟨⟨c, ls, pk⟩, pp, cp, qq, cq, rfl, ⟨hin, hqi⟩, ⟨hcf, hb1, hb3, hb2⟩⟩

theorem cellsBytes3 : Tryd.prog.cellsOf 46 = 3 := by kernel_rfl
theorem byte_value {n : Int} (h : (Lit.int .u8 n).wf = true) : ∃ x : UInt8, n = (x.toNat : Int) := by
  have e1 : IntKind.u8.min = 0 := by decide
  have e2 : IntKind.u8.max = 255 := by decide
  have h' : IntKind.u8.min ≤ n ∧ n ≤ IntKind.u8.max := by simpa [Lit.wf] using h
  rw [e1, e2] at h'
  exact ⟨u8 n, (u8_in h').symm⟩
set_option maxRecDepth 100000 in
theorem okWide_array3 {W : World} {r : Reach} {base t n e : Nat} {v : Value} (ht : Tryd.prog.underlying t = some (.array n e)) (h : Value.okWide Tryd.prog W r base t v) : ∃ cs, v = .agg cs ∧ cs.size = Tryd.prog.cellsOf t := by
  simp only [Value.okWide, ht] at h
  obtain ⟨cs, h1, h2, _⟩ := h
  exact ⟨cs, h1, h2⟩
set_option maxRecDepth 100000 in
/-- Three bytes that come in by value. -/
theorem open_bytes3 {H : Type} {enc : TypeId × Value → H} {W : World} {base : Nat} {v : Value} {d : DataW H} {p : List MemPlace} (hv : Value.okWide Tryd.prog W .any base 46 v)
    (h : DataW.Trod enc Tryd.prog W 0 (fun _ => true) true 46 v d p) : ∃ x y z : UInt8, v = .agg #[.int .u8 x.toNat, .int .u8 y.toNat, .int .u8 z.toNat] := by
  obtain ⟨cs, rfl, hsz⟩ := okWide_array3 Tryd.underlying46 hv
  obtain ⟨l⟩ := cs
  match l, hsz.trans cellsBytes3 with
  | [c0, c1, c2], _ =>
    obtain ⟨fuel, hf⟩ := h
    have hf' : DataW.trod enc Tryd.prog W 0 (fun _ => true) true fuel 46 [c0, c1, c2] = some (d, p) := hf
    obtain ⟨zs, m, _, _, _, hzl, hel⟩ := DataW.trod_array Tryd.underlying46 hf'
    match zs, hzl with
    | [z0, z1, z2], _ =>
      have e0 := hel 0 (by decide)
      have e1 := hel 1 (by decide)
      have e2 := hel 2 (by decide)
      rw [cells5] at e0 e1 e2
      obtain ⟨n0, r0, _, w0⟩ := DataW.trod_int Tryd.underlying5 e0
      obtain ⟨n1, r1, _, w1⟩ := DataW.trod_int Tryd.underlying5 e1
      obtain ⟨n2, r2, _, w2⟩ := DataW.trod_int Tryd.underlying5 e2
      simp at r0 r1 r2
      obtain ⟨x, rfl⟩ := byte_value w0
      obtain ⟨y, rfl⟩ := byte_value w1
      obtain ⟨z, rfl⟩ := byte_value w2
      subst r0 r1 r2
      exact ⟨x, y, z, rfl⟩

end Go.Proofs.YtjnbpohjdgnknaaDoor
