/-
  An entry, a message, or words that come in by value.
-/
import Derived.Test.YtfnemldjhfcalaaShOpen
import Derived.Test.YtfnemldjhfcalaaTbM
namespace Go.Proofs.Ytfnemldjhfcalaa
open Go.ChangeShapes Go.WideShapes Go.ChangeAt Go.RowKit Go.Deep

theorem okWide_arr {w : World} {base : Nat} {t e : TypeId} {v : Value} {n : Nat} (ht : Try.prog.underlying t = some (.array n e)) (h : Value.okWide Try.prog w .any base t v) : ∃ cs, v = .agg cs ∧ cs.size = Try.prog.cellsOf t := by
  simp only [Value.okWide, ht] at h
  obtain ⟨cs, h1, h2, _⟩ := h
  exact ⟨cs, h1, h2⟩
theorem cellsW8 : Try.prog.cellsOf 28 = 8 := by kernel_rfl
theorem cellsMsg : Try.prog.cellsOf 30 = 15 := by kernel_rfl
theorem cellsEn : Try.prog.cellsOf 26 = 5 := by kernel_rfl

set_option maxRecDepth 100000 in
theorem words_cells {H : Type} {enc : TypeId × Value → H} {W : World} {fuel : Nat} {c0 c1 c2 c3 c4 c5 c6 c7 : Value} {x : DataW H × List MemPlace} (hr : DataW.trod enc Try.prog W 0 (fun _ => true) true fuel 28 [c0, c1, c2, c3, c4, c5, c6, c7] = some x) :
    ∃ v : W8, [c0, c1, c2, c3, c4, c5, c6, c7] = [.int .i64 v.w0, .int .i64 v.w1, .int .i64 v.w2, .int .i64 v.w3, .int .i64 v.w4, .int .i64 v.w5, .int .i64 v.w6, .int .i64 v.w7] := by
  obtain ⟨zs, k, _, _, _, hzl, hel⟩ := DataW.trod_array Try.underlying28 hr
  match zs, hzl with
  | [z0, z1, z2, z3, z4, z5, z6, z7], _ =>
    have e0 := hel 0 (by decide)
    have e1 := hel 1 (by decide)
    have e2 := hel 2 (by decide)
    have e3 := hel 3 (by decide)
    have e4 := hel 4 (by decide)
    have e5 := hel 5 (by decide)
    have e6 := hel 6 (by decide)
    have e7 := hel 7 (by decide)
    rw [cells3] at e0 e1 e2 e3 e4 e5 e6 e7
    obtain ⟨a0, r0, _, _⟩ := DataW.trod_int Try.underlying3 e0
    obtain ⟨a1, r1, _, _⟩ := DataW.trod_int Try.underlying3 e1
    obtain ⟨a2, r2, _, _⟩ := DataW.trod_int Try.underlying3 e2
    obtain ⟨a3, r3, _, _⟩ := DataW.trod_int Try.underlying3 e3
    obtain ⟨a4, r4, _, _⟩ := DataW.trod_int Try.underlying3 e4
    obtain ⟨a5, r5, _, _⟩ := DataW.trod_int Try.underlying3 e5
    obtain ⟨a6, r6, _, _⟩ := DataW.trod_int Try.underlying3 e6
    obtain ⟨a7, r7, _, _⟩ := DataW.trod_int Try.underlying3 e7
    simp at r0 r1 r2 r3 r4 r5 r6 r7
    subst r0 r1 r2 r3 r4 r5 r6 r7
    exact ⟨⟨a0, a1, a2, a3, a4, a5, a6, a7⟩, rfl⟩
theorem open_words {H : Type} {enc : TypeId × Value → H} {W : World} {base : Nat} {v : Value} {d : DataW H} {p : List MemPlace} (hv : Value.okWide Try.prog W .any base 28 v)
    (h : DataW.Trod enc Try.prog W 0 (fun _ => true) true 28 v d p) : ∃ u : W8, v = .agg (wcells u) := by
  obtain ⟨cs, rfl, hsz⟩ := okWide_arr Try.underlying28 hv
  obtain ⟨l⟩ := cs
  match l, hsz.trans cellsW8 with
  | [c0, c1, c2, c3, c4, c5, c6, c7], _ =>
    obtain ⟨fuel, hf⟩ := h
    obtain ⟨u, e⟩ := words_cells (show DataW.trod enc Try.prog W 0 (fun _ => true) true fuel 28 [c0, c1, c2, c3, c4, c5, c6, c7] = some (d, p) from hf)
    exact ⟨u, by rw [e]⟩

set_option maxRecDepth 100000 in
theorem open_message {H : Type} {enc : TypeId × Value → H} {W : World} {base : Nat} {v : Value} {d : DataW H} {p : List MemPlace} (hv : Value.okWide Try.prog W .any base 30 v)
    (h : DataW.Trod enc Try.prog W 0 (fun _ => true) true 30 v d p) : ∃ m : Msg, v = mv m := by
  obtain ⟨cs, rfl, hsz⟩ := okWide_struct Try.underlying30 hv
  obtain ⟨l⟩ := cs
  match l, hsz.trans cellsMsg with
  | [c0, c1, c2, c3, c4, c5, c6, c7, c8, c9, c10, c11, c12, c13, c14], _ =>
    obtain ⟨fuel, hf⟩ := h
    have hf' : DataW.trod enc Try.prog W 0 (fun _ => true) true fuel 30 [c0, c1, c2, c3, c4, c5, c6, c7, c8, c9, c10, c11, c12, c13, c14] = some (d, p) := hf
    obtain ⟨xs, n, _, _, _, hlen, hg⟩ := DataW.trod_struct Try.underlying30 hf'
    match xs, hlen with
    | [y0, y1, y2, y3, y4, y5, y6, y7], _ =>
      obtain ⟨n0, rfl, _⟩ := int_cell rfl (hg 0 _ rfl)
      obtain ⟨n1, rfl, _⟩ := int_cell rfl (hg 1 _ rfl)
      obtain ⟨n2, rfl, _⟩ := int_cell rfl (hg 2 _ rfl)
      obtain ⟨n3, rfl, _⟩ := int_cell rfl (hg 3 _ rfl)
      obtain ⟨n4, rfl, _⟩ := int_cell rfl (hg 4 _ rfl)
      obtain ⟨n5, rfl, _⟩ := int_cell rfl (hg 5 _ rfl)
      obtain ⟨n6, rfl, _⟩ := int_cell rfl (hg 6 _ rfl)
      have hr : DataW.trod enc Try.prog W 0 (fun _ => true) true n 28 ([c7, c8, c9, c10, c11, c12, c13, c14].take (Try.prog.cellsOf 28)) = some y7 := hg 7 _ rfl
      rw [cellsW8] at hr
      obtain ⟨u, e⟩ := words_cells hr
      simp at e
      obtain ⟨rfl, rfl, rfl, rfl, rfl, rfl, rfl, rfl⟩ := e
      exact ⟨⟨n0, n1, n2, n3, n4, n5, n6, u.w0, u.w1, u.w2, u.w3, u.w4, u.w5, u.w6, u.w7⟩, rfl⟩

set_option maxRecDepth 100000 in
theorem open_entry {H : Type} {enc : TypeId × Value → H} {W : World} {base : Nat} {v : Value} {d : DataW H} {p : List MemPlace} (hv : Value.okWide Try.prog W .any base 26 v)
    (h : DataW.Trod enc Try.prog W 0 (fun _ => true) true 26 v d p) : ∃ (e : En) (q : Option Addr) (cap : Nat), v = ev e q cap ∧ NumsIn W q e.s.l ∧ e.s.l.length ≤ 9223372036854775807 := by
  obtain ⟨cs, rfl, hsz⟩ := okWide_struct Try.underlying26 hv
  obtain ⟨l⟩ := cs
  match l, hsz.trans cellsEn with
  | [b0, c0, c1, c2, c3], _ =>
    obtain ⟨fuel, hf⟩ := h
    have hf' : DataW.trod enc Try.prog W 0 (fun _ => true) true fuel 26 [b0, c0, c1, c2, c3] = some (d, p) := hf
    obtain ⟨us, k, _, _, _, hul, hu⟩ := DataW.trod_struct Try.underlying26 hf'
    match us, hul with
    | [u0, u1], _ =>
      obtain ⟨o, rfl, _⟩ := int_cell rfl (hu 0 _ rfl)
      have hs : DataW.trod enc Try.prog W 0 (fun _ => true) true k 24 ([c0, c1, c2, c3].take (Try.prog.cellsOf 24)) = some u1 := hu 1 _ rfl
      rw [cellsSet] at hs
      have hs' : DataW.trod enc Try.prog W 0 (fun _ => true) true k 24 [c0, c1, c2, c3] = some u1 := hs
      obtain ⟨xs, n, _, _, _, hlen, hg⟩ := DataW.trod_struct Try.underlying24 hs'
      match xs, hlen with
      | [y0, y1, y2, y3], _ =>
        obtain ⟨n0, rfl, _⟩ := int_cell rfl (hg 0 _ rfl)
        obtain ⟨n1, rfl, _⟩ := int_cell rfl (hg 1 _ rfl)
        have h2 : DataW.trod enc Try.prog W 0 (fun _ => true) true n 22 ([c2, c3].take (Try.prog.cellsOf 22)) = some y2 := hg 2 _ rfl
        rw [cellsNs] at h2
        obtain ⟨q, cap, l, e, h1, hl⟩ := nums_cells h2
        obtain ⟨b, rfl⟩ := bool_cell rfl (hg 3 _ rfl)
        simp at e
        subst e
        exact ⟨⟨o, ⟨n0, n1, l, b⟩⟩, q, cap, rfl, h1, hl⟩

end Go.Proofs.Ytfnemldjhfcalaa
