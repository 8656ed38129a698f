/-
  Maps of lines, and a list that was handed out, beside a law's own file.
-/
import Derived.Test.YtcfcgejeiihgnaaMhP
import Derived.Test.YtcfcgejeiihgnaaMhS
import Derived.Test.YtcfcgejeiihgnaaMhT
import Derived.Maps.OwnOps
import Derived.Maps.OwnSet
import Derived.Maps.Views
import Derived.Carry
namespace Go.Proofs.Ytcfcgejeiihgnaa
open Go Go.RowKit Go.Maps

theorem law3 : Keyed Try.prog 3 := int_keyed Try.underlying3
theorem zero4 (w : World) : (zeroValue 4).run Try.prog w = .ok (.bool false) w := by kernel_rfl
/-- A map in plain words: of which lines it says yes, and of no other one has it an entry. -/
structure Mp (D : DataW Unit) (f : Int → Bool) : Prop where
  tidy : Tidy D
  has : ∀ y : Int, Maps.has D (.int .i64 y) = f y
  at_ : ∀ y : Int, D.atKey (.int .i64 y) (.lit (.bool false)) = .lit (.bool (f y))
theorem Mp.empty : Mp (.map []) (fun _ => false) := ⟨tidy_empty, fun y => by rw [has_eq]; rfl, fun y => rfl⟩
theorem Mp.congr {D : DataW Unit} {f g : Int → Bool} (h : Mp D f) (e : ∀ y, g y = f y) : Mp D g := ⟨h.tidy, fun y => by rw [e, h.has], fun y => by rw [e, h.at_]⟩
theorem Mp.put {D : DataW Unit} {f : Int → Bool} (h : Mp D f) (x : Int) : Mp (D.put (.int .i64 x) (.lit (.bool true))) (fun y => y == x || f y) := by
  have hk : ∀ z : Int, WideAt.IsKeyLit (.int .i64 z) := fun _ => trivial
  refine ⟨h.tidy.put (hk x) _, fun y => ?_, fun y => ?_⟩
  · by_cases hy : y = x
    · subst hy
      rw [has_put_same h.tidy.isMap (hk _)]
      simp
    · rw [has_put_other (by simpa using hy), h.has]
      have : (y == x) = false := by simpa using hy
      rw [this, Bool.false_or]
  · by_cases hy : y = x
    · subst hy
      rw [atKey_put_same h.tidy.isMap (hk _)]
      simp
    · rw [atKey_put_other (by simpa using hy), h.at_]
      have : (y == x) = false := by simpa using hy
      rw [this, Bool.false_or]
theorem Mp.del {D : DataW Unit} {f : Int → Bool} (h : Mp D f) (x : Int) : Mp (D.del (.int .i64 x)) (fun y => if y = x then false else f y) := by
  refine ⟨h.tidy.del _, fun y => ?_, fun y => ?_⟩
  · by_cases hy : y = x
    · subst hy
      rw [has_del_same, if_pos rfl]
    · rw [has_del_other (by simpa using hy), h.has, if_neg hy]
  · by_cases hy : y = x
    · subst hy
      rw [atKey_del_same, if_pos rfl]
    · rw [atKey_del_other (by simpa using hy), h.at_, if_neg hy]
theorem Mp.size_put {D : DataW Unit} {f : Int → Bool} (h : Mp D f) {x : Int} (hx : f x = false) : Maps.size (D.put (.int .i64 x) (.lit (.bool true))) = Maps.size D + 1 := by
  rw [Maps.size_put h.tidy, h.has, hx]
  rfl

abbrev isMap (w : World) (mb n : Nat) (D : DataW Unit) : Prop := w.ownsMap Try.prog 3 (plainElem (H := Unit) Try.prog 4) mb n D
/-- A block's content is a map. -/
def MapO (o : Obj) (mb n : Nat) (D : DataW Unit) : Prop := ∀ W : World, W.heap[mb]? = some o → isMap W mb n D
theorem MapO.of {w : World} {mb n : Nat} {D : DataW Unit} (h : isMap w mb n D) : ∃ o, w.heap[mb]? = some o ∧ MapO o mb n D := by
  obtain ⟨es, clock, h1, h2⟩ := h
  exact ⟨_, h1, fun W hW => ⟨es, clock, hW, h2⟩⟩
theorem MapO.new (mb : Nat) : MapO (.map #[] 0) mb 0 (.map []) := fun W hW => by
  have hm : isMap (W.alloc (.map #[] 0)) W.heap.size 0 (.map []) := World.ownsMap_made _ _ _ _
  obtain ⟨es, clock, h1, h2⟩ := hm
  rw [heap_alloc_new] at h1
  cases h1
  exact ⟨_, _, hW, h2⟩
set_option maxRecDepth 100000 in
theorem MapO.look {o : Obj} {mb n : Nat} {D : DataW Unit} {f : Int → Bool} {wr : World} (h : MapO o mb n D) (hb : wr.heap[mb]? = some o) (hf : Mp D f) {x : Int} (hx : (Lit.int .i64 x).wf = true) {q : Bool} (hq : f x = q) : (Instr.lookup 54 (.map (some mb)) (.int .i64 x) false).run Try.prog wr = .ok (.bool q) wr := by
  obtain ⟨v, ps, hr, hv⟩ := (h wr hb).lookup law3 Try.underlying54 (zero4 wr) (plainElem_bool Try.underlying4 false) (keyOf_int_mk Try.underlying3 hx)
  rw [hf.at_] at hv
  rw [hr, ← hq]
  have e : v = .bool (f x) := by
    unfold plainElem at hv
    rw [Try.underlying4] at hv
    cases v <;> simp_all
  rw [e]
theorem MapO.len {o : Obj} {mb n : Nat} {D : DataW Unit} {wr : World} (h : MapO o mb n D) (hb : wr.heap[mb]? = some o) (ty : TypeId) : (Builtin.len_ #[54] ty #[.map (some mb)]).run Try.prog wr = .ok (.int .i64 (Maps.size D : Int)) wr := (h wr hb).len Try.underlying54 ty
theorem turned_grown {w w' : World} {mb : Nat} (h : w.mapTurned w' mb) : w.grownBy w' (some mb) := by
  obtain ⟨es, clock, es', clock', _, rfl⟩ := h
  refine ⟨rfl, rfl, rfl, by simp [ChangeMaps.setBlock], fun k _ hne => ?_⟩
  have : mb ≠ k := fun e => hne (by rw [e])
  simp [ChangeMaps.setBlock, this]

variable {w wr wr' : World} {b : Nat} {room k : Int} {l : List Ms} {bx : List (Nat × Obj)}
theorem Own.perm {by_ : List (Nat × Obj)} (h : Own w b room k l bx wr) (hp : bx.Perm by_) : Own w b room k l by_ wr := by
  obtain ⟨v, h1, h2⟩ := h.bg
  exact ⟨⟨v, h1, fun p hq => h2 p (hp.mem_iff.2 hq)⟩, h.gd, h.k0, h.bl, fun p hq => h.bxs p (hp.mem_iff.2 hq), (hp.map Prod.fst).nodup_iff.1 h.nd⟩
/-- A block that a call has made is a box. -/
theorem Own.into (h : Own w b room k l bx wr) (hb : Below wr.heap.size wr wr') {g : Nat} {o : Obj} (hg : wr'.heap[g]? = some o) (hl : wr.heap.size ≤ g) : Own w b room k l ((g, o) :: bx) wr' := by
  have hs := h.step hb
  obtain ⟨v0, h10, h20⟩ := h.bg
  refine ⟨⟨v0, h10.below hb, fun p hp => ?_⟩, h.gd, h.k0, hs.bl, fun p hp => ?_, ?_⟩
  · rcases List.mem_cons.1 hp with rfl | hp
    · exact h10.own_lt hl
    · exact h20 p hp
  · rcases List.mem_cons.1 hp with rfl | hp
    · exact ⟨hg, by have := h.blt; simp only; omega, Nat.le_trans h.bl.size hl⟩
    · exact hs.bxs p hp
  · rw [List.map_cons, List.nodup_cons]
    refine ⟨fun hm => ?_, h.nd⟩
    obtain ⟨p, hp, e⟩ := List.mem_map.1 hm
    have := lt_of_block (h.bxs p hp).1
    omega
/-- Boxes that hold where a list lies. -/
def Lies (p : Option Addr) (l : List Ms) (cx : List (Nat × Obj)) : Prop := ∀ W : World, (∀ q ∈ cx, W.heap[q.1]? = some q.2) → MsIn W p l
theorem Own.listB (h : Own w b room k l bx wr) :
    Calls Try.prog 15 #[.pointer (some ⟨b, 0, none⟩)] wr fun e w' => ∃ p cap cx, e = .returned (.slice p l.length cap) ∧ Own w b room k l (cx ++ bx) w' ∧ Lies p l cx := by
  obtain ⟨v, h1, h2⟩ := h.bg
  have := h.gd.short
  refine (list_any h1 (by omega)).mono fun e' w' ⟨v', he, ho, hb⟩ => ?_
  rcases ho.2 with ⟨e0, h0⟩ | ⟨g, cap, cur, e0, hB, hg, rest⟩
  · subst e0
    refine ⟨none, 0, [], by rw [he, h0], h.step hb, fun W _ i x hx => ?_⟩
    have := (List.getElem?_eq_some_iff.1 hx).1
    omega
  · subst e0
    refine ⟨some ⟨g, 0, none⟩, cap, [(g, .cells cur 34 (0, 0))], he, h.into hb hg hB, fun W hW => ?_⟩
    have hWg := hW _ (List.mem_cons_self ..)
    have hoW : W.ownsRow wr.heap.size 34 15 (.slice (some ⟨g, 0, none⟩) l.length cap) l.length (cellsOf mc l) := ⟨ho.1, .inr ⟨g, cap, cur, rfl, hB, hWg, rest⟩⟩
    obtain ⟨p', cap', e1, hin⟩ := own_ins hoW
    obtain ⟨rfl, rfl⟩ : some (⟨g, 0, none⟩ : Addr) = p' ∧ cap = cap' := by simpa using e1
    exact hin
theorem Lies.at {p : Option Addr} {cx : List (Nat × Obj)} (h : Lies p l cx) {m : List Ms} (ho : Own w b room k m (cx ++ bx) wr) : MsIn wr p l := h wr fun q hq => (ho.bxs q (List.mem_append_left _ hq)).1
/-- A map's block behind a change. -/
theorem Own.mapped {mb n : Nat} {o : Obj} {D : DataW Unit} (h : Own w b room k l ((mb, o) :: bx) wr) (hm : isMap wr' mb n D) (hg : wr.grownBy wr' (some mb)) : ∃ o', Own w b room k l ((mb, o') :: bx) wr' ∧ MapO o' mb n D := by
  obtain ⟨o', h1, h2⟩ := MapO.of hm
  exact ⟨o', h.turn hg h1, h2⟩

end Go.Proofs.Ytcfcgejeiihgnaa
