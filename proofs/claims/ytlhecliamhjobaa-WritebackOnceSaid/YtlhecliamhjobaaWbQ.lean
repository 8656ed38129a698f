/-
  Maps of lines (to words, to bools) as boxes beside a law's own buffer.
-/
import Derived.Test.YtlhecliamhjobaaWbP
import Derived.Test.YtlhecliamhjobaaWbS
import Derived.Test.YtlhecliamhjobaaWbT
import Derived.Maps.OwnOps
import Derived.Maps.OwnSet
import Derived.Maps.Views
import Derived.Carry
namespace Go.Proofs.Ytlhecliamhjobaa
open Go Go.RowKit Go.Maps

theorem law3 : Keyed Try.prog 3 := int_keyed Try.underlying3
theorem zero4 (w : World) : (zeroValue 4).run Try.prog w = .ok (.bool false) w := by kernel_rfl
theorem zero32 (w : World) : (zeroValue 32).run Try.prog w = .ok (.agg (dcells d0)) w := by kernel_rfl
theorem dcells_inj {a b : Wd} (h : dcells a = dcells b) : a = b := by
  obtain ⟨a0, a1, a2, a3, a4, a5, a6, a7⟩ := a
  obtain ⟨b0, b1, b2, b3, b4, b5, b6, b7⟩ := b
  simpa [dcells] using h
open Classical in
/-- How words read: as themselves. -/
noncomputable def wordsR (v : Value) : Option (DataW Wd × List MemPlace) := if h : ∃ d : Wd, v = .agg (dcells d) then some (.held (Classical.choose h), []) else none
theorem wordsR_mk (d : Wd) : wordsR (.agg (dcells d)) = some (.held d, []) := by
  have h : ∃ d' : Wd, Value.agg (dcells d) = .agg (dcells d') := ⟨d, rfl⟩
  unfold wordsR
  rw [dif_pos h]
  have := Classical.choose_spec h
  rw [← dcells_inj (Value.agg.inj this)]
theorem wordsR_inv {v : Value} {d : Wd} {ps : List MemPlace} (h : wordsR v = some (.held d, ps)) : v = .agg (dcells d) := by
  unfold wordsR at h
  split at h
  · rename_i hd
    have e := Classical.choose_spec hd
    simp only [Option.some.injEq, Prod.mk.injEq, DataW.held.injEq] at h
    rw [e, h.1]
  · cases h

/-- A map to bools, in plain words: what it says of each line. -/
structure Mb (D : DataW Unit) (f : Int → Bool) : Prop where
  tidy : Tidy D
  at_ : ∀ y : Int, D.atKey (.int .i64 y) (.lit (.bool false)) = .lit (.bool (f y))
theorem Mb.empty : Mb (.map []) (fun _ => false) := ⟨tidy_empty, fun _ => rfl⟩
theorem Mb.congr {D : DataW Unit} {f g : Int → Bool} (h : Mb D f) (e : ∀ y, g y = f y) : Mb D g := ⟨h.tidy, fun y => by rw [e, h.at_]⟩
theorem Mb.put {D : DataW Unit} {f : Int → Bool} (h : Mb D f) (x : Int) (q : Bool) : Mb (D.put (.int .i64 x) (.lit (.bool q))) (fun y => if y = x then q else f y) := by
  have hk : ∀ z : Int, WideAt.IsKeyLit (.int .i64 z) := fun _ => trivial
  refine ⟨h.tidy.put (hk x) _, fun y => ?_⟩
  by_cases hy : y = x
  · subst hy
    rw [atKey_put_same h.tidy.isMap (hk _), if_pos rfl]
  · rw [atKey_put_other (by simpa using hy), h.at_, if_neg hy]
theorem Mb.del {D : DataW Unit} {f : Int → Bool} (h : Mb D f) (x : Int) : Mb (D.del (.int .i64 x)) (fun y => if y = x then false else f y) := by
  refine ⟨h.tidy.del _, fun y => ?_⟩
  by_cases hy : y = x
  · subst hy
    rw [atKey_del_same, if_pos rfl]
  · rw [atKey_del_other (by simpa using hy), h.at_, if_neg hy]
/-- A map to words, in plain words: which lines it has, and what it says of each. -/
structure Mw (D : DataW Wd) (f : Int → Bool) (g : Int → Wd) : Prop where
  tidy : Tidy D
  has : ∀ y : Int, Maps.has D (.int .i64 y) = f y
  at_ : ∀ y : Int, D.atKey (.int .i64 y) (.held d0) = .held (g y)
theorem Mw.empty : Mw (.map []) (fun _ => false) (fun _ => d0) := ⟨tidy_empty, fun y => by rw [has_eq]; rfl, fun _ => rfl⟩
theorem Mw.congr {D : DataW Wd} {f f' : Int → Bool} {g g' : Int → Wd} (h : Mw D f g) (e : ∀ y, f' y = f y) (e2 : ∀ y, g' y = g y) : Mw D f' g' := ⟨h.tidy, fun y => by rw [e, h.has], fun y => by rw [e2, h.at_]⟩
theorem Mw.put {D : DataW Wd} {f : Int → Bool} {g : Int → Wd} (h : Mw D f g) (x : Int) (d : Wd) : Mw (D.put (.int .i64 x) (.held d)) (fun y => if y = x then true else f y) (fun y => if y = x then d else g y) := by
  have hk : ∀ z : Int, WideAt.IsKeyLit (.int .i64 z) := fun _ => trivial
  refine ⟨h.tidy.put (hk x) _, fun y => ?_, fun y => ?_⟩
  · by_cases hy : y = x
    · subst hy
      rw [has_put_same h.tidy.isMap (hk _), if_pos rfl]
    · rw [has_put_other (by simpa using hy), h.has, if_neg hy]
  · by_cases hy : y = x
    · subst hy
      rw [atKey_put_same h.tidy.isMap (hk _), if_pos rfl]
    · rw [atKey_put_other (by simpa using hy), h.at_, if_neg hy]
theorem Mw.del {D : DataW Wd} {f : Int → Bool} {g : Int → Wd} (h : Mw D f g) (x : Int) : Mw (D.del (.int .i64 x)) (fun y => if y = x then false else f y) (fun y => if y = x then d0 else g y) := by
  refine ⟨h.tidy.del _, fun y => ?_, fun y => ?_⟩
  · by_cases hy : y = x
    · subst hy
      rw [has_del_same, if_pos rfl]
    · rw [has_del_other (by simpa using hy), h.has, if_neg hy]
  · by_cases hy : y = x
    · subst hy
      rw [atKey_del_same, if_pos rfl]
    · rw [atKey_del_other (by simpa using hy), h.at_, if_neg hy]
theorem Mw.size_put {D : DataW Wd} {f : Int → Bool} {g : Int → Wd} (h : Mw D f g) {x : Int} (d : Wd) (hx : f x = false) : Maps.size (D.put (.int .i64 x) (.held d)) = Maps.size D + 1 := by
  rw [Maps.size_put h.tidy, h.has, hx]
  rfl
theorem Mw.size_del {D : DataW Wd} {f : Int → Bool} {g : Int → Wd} (h : Mw D f g) {x : Int} (hx : f x = true) : Maps.size (D.del (.int .i64 x)) + 1 = Maps.size D := by
  have := Maps.size_del h.tidy (k := .int .i64 x)
  rw [h.has, hx] at this
  simpa using this
theorem Mw.size_same {D : DataW Wd} {f : Int → Bool} {g : Int → Wd} (h : Mw D f g) {x : Int} (hx : f x = false) : Maps.size (D.del (.int .i64 x)) = Maps.size D := by
  have := Maps.size_del h.tidy (k := .int .i64 x)
  rw [h.has, hx] at this
  simpa using this

noncomputable abbrev boolR : Value → Option (DataW Unit × List MemPlace) := plainElem (H := Unit) Try.prog 4
/-- A block's content is a map. -/
def MapO {H : Type} (R : Value → Option (DataW H × List MemPlace)) (o : Obj) (mb n : Nat) (D : DataW H) : Prop := ∀ W : World, W.heap[mb]? = some o → W.ownsMap Try.prog 3 R mb n D
theorem MapO.of {H : Type} {R : Value → Option (DataW H × List MemPlace)} {w : World} {mb n : Nat} {D : DataW H} (h : w.ownsMap Try.prog 3 R mb n D) : ∃ o, w.heap[mb]? = some o ∧ MapO R o mb n D := by
  obtain ⟨es, clock, h1, h2⟩ := h
  exact ⟨_, h1, fun W hW => ⟨es, clock, hW, h2⟩⟩
theorem MapO.new {H : Type} (R : Value → Option (DataW H × List MemPlace)) (mb : Nat) : MapO R (.map #[] 0) mb 0 (.map []) := fun W hW => by
  have hm : (W.alloc (.map #[] 0)).ownsMap Try.prog 3 R W.heap.size 0 (.map []) := World.ownsMap_made _ _ _ _
  obtain ⟨es, clock, h1, h2⟩ := hm
  rw [heap_alloc_new] at h1
  cases h1
  exact ⟨_, _, hW, h2⟩
set_option maxRecDepth 100000 in
theorem MapO.lookB {o : Obj} {mb n : Nat} {D : DataW Unit} {f : Int → Bool} {wr : World} (h : MapO boolR o mb n D) (hb : wr.heap[mb]? = some o) (hf : Mb D f) {x : Int} (hx : (Lit.int .i64 x).wf = true) {q : Bool} (hq : f x = q) : (Instr.lookup 54 (.map (some mb)) (.int .i64 x) false).run Try.prog wr = .ok (.bool q) wr := by
  obtain ⟨v, ps, hr, hv⟩ := (h wr hb).lookup law3 Try.underlying54 (zero4 wr) (plainElem_bool Try.underlying4 false) (keyOf_int_mk Try.underlying3 hx)
  rw [hf.at_] at hv
  rw [hr, ← hq]
  have e : v = .bool (f x) := by
    unfold boolR plainElem at hv
    rw [Try.underlying4] at hv
    cases v <;> simp_all
  rw [e]
set_option maxRecDepth 100000 in
theorem MapO.lookW {o : Obj} {mb n : Nat} {D : DataW Wd} {f : Int → Bool} {g : Int → Wd} {wr : World} (h : MapO wordsR o mb n D) (hb : wr.heap[mb]? = some o) (hf : Mw D f g) {x : Int} (hx : (Lit.int .i64 x).wf = true) {d : Wd} (hd : g x = d) : (Instr.lookup 53 (.map (some mb)) (.int .i64 x) false).run Try.prog wr = .ok (.agg (dcells d)) wr := by
  obtain ⟨v, ps, hr, hv⟩ := (h wr hb).lookup law3 Try.underlying53 (zero32 wr) (wordsR_mk d0) (keyOf_int_mk Try.underlying3 hx)
  rw [hf.at_] at hv
  rw [hr, wordsR_inv hv, hd]
set_option maxRecDepth 100000 in
theorem MapO.lookOk {o : Obj} {mb n : Nat} {D : DataW Wd} {f : Int → Bool} {g : Int → Wd} {wr : World} (h : MapO wordsR o mb n D) (hb : wr.heap[mb]? = some o) (hf : Mw D f g) {x : Int} (hx : (Lit.int .i64 x).wf = true) {d : Wd} {q : Bool} (hd : g x = d) (hq : f x = q) : (Instr.lookup 53 (.map (some mb)) (.int .i64 x) true).run Try.prog wr = .ok (.tuple #[.agg (dcells d), .bool q]) wr := by
  obtain ⟨v, ps, hr, hv⟩ := (h wr hb).look_ok law3 Try.underlying53 (zero32 wr) (wordsR_mk d0) (keyOf_int_mk Try.underlying3 hx)
  rw [hf.at_] at hv
  rw [hr, wordsR_inv hv, hd, hf.has, hq]
theorem MapO.len {H : Type} {R : Value → Option (DataW H × List MemPlace)} {o : Obj} {mb n : Nat} {D : DataW H} {wr : World} (h : MapO R o mb n D) (hb : wr.heap[mb]? = some o) (ty : TypeId) : (Builtin.len_ #[53] ty #[.map (some mb)]).run Try.prog wr = .ok (.int .i64 (Maps.size D : Int)) wr := (h wr hb).len Try.underlying53 ty
theorem MapO.lenN {H : Type} {R : Value → Option (DataW H × List MemPlace)} {o : Obj} {mb n m : Nat} {D : DataW H} {wr : World} (h : MapO R o mb n D) (hb : wr.heap[mb]? = some o) (hs : Maps.size D = m) (ty : TypeId) : (Builtin.len_ #[53] ty #[.map (some mb)]).run Try.prog wr = .ok (.int .i64 (m : Int)) wr := by rw [h.len hb ty, hs]

variable {w wr wr' : World} {b : Nat} {room : Int} {l : List En} {bx : List (Nat × Obj)}
theorem Own.perm {by_ : List (Nat × Obj)} (h : Own w b room l bx wr) (hp : bx.Perm by_) : Own w b room l by_ wr := by
  obtain ⟨v, h1, h2⟩ := h.bg
  exact ⟨⟨v, h1, fun p hq => h2 p (hp.mem_iff.2 hq)⟩, h.gd, h.bl, fun p hq => h.bxs p (hp.mem_iff.2 hq), (hp.map Prod.fst).nodup_iff.1 h.nd⟩
/-- A map's block behind a change, among other boxes. -/
theorem Own.mapped {H : Type} {R : Value → Option (DataW H × List MemPlace)} (A B : List (Nat × Obj)) {mb n : Nat} {o : Obj} {D : DataW H} (h : Own w b room l (A ++ (mb, o) :: B) wr) (hm : wr'.ownsMap Try.prog 3 R mb n D) (hg : wr.grownBy wr' (some mb)) : ∃ o', Own w b room l (A ++ (mb, o') :: B) wr' ∧ MapO R o' mb n D := by
  obtain ⟨o', h1, h2⟩ := MapO.of hm
  exact ⟨o', ((h.perm List.perm_middle).turn hg h1).perm List.perm_middle.symm, h2⟩

end Go.Proofs.Ytlhecliamhjobaa
