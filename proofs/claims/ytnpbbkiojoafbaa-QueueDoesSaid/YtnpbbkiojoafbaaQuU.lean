/-
  Maps of lines to bools as boxes beside a law's own queue; lists of entries that are kept.
-/
import Derived.Test.YtnpbbkiojoafbaaQuT
import Derived.Maps.OwnOps
import Derived.Maps.OwnSet
import Derived.Maps.Views
import Derived.Carry
namespace Go.Proofs.Ytnpbbkiojoafbaa
open Go Go.RowKit Go.Maps

theorem law3 : Keyed Try.prog 3 := int_keyed Try.underlying3
theorem zero4 (w : World) : (zeroValue 4).run Try.prog w = .ok (.bool false) w := by kernel_rfl
/-- A map to bools, in plain words: what it says of each line. -/
structure Mb (D : DataW Unit) (f : Int → Bool) : Prop where
  tidy : Tidy D
  at_ : ∀ y : Int, D.atKey (.int .i64 y) (.lit (.bool false)) = .lit (.bool (f y))
theorem Mb.empty : Mb (.map []) (fun _ => false) := ⟨tidy_empty, fun _ => rfl⟩
theorem Mb.congr {D : DataW Unit} {f g : Int → Bool} (h : Mb D f) (e : ∀ y, g y = f y) : Mb D g := ⟨h.tidy, fun y => by rw [e, h.at_]⟩
theorem Mb.put {D : DataW Unit} {f : Int → Bool} (h : Mb D f) (x : Int) (q : Bool) : Mb (D.put (.int .i64 x) (.lit (.bool q))) (fun y => if y = x then q else f y) := by
  have hk : ∀ z : Int, WideAt.IsKeyLit (.int .i64 z) := fun _ => trivial
  refine ⟨h.tidy.put (hk x) _, fun y => ?_⟩
  by_cases hy : y = x
  · subst hy
    rw [atKey_put_same h.tidy.isMap (hk _), if_pos rfl]
  · rw [atKey_put_other (by simpa using hy), h.at_, if_neg hy]
noncomputable abbrev boolR : Value → Option (DataW Unit × List MemPlace) := plainElem (H := Unit) Try.prog 4
/-- A block's content is a map. -/
def MapO {H : Type} (R : Value → Option (DataW H × List MemPlace)) (o : Obj) (mb n : Nat) (D : DataW H) : Prop := ∀ W : World, W.heap[mb]? = some o → W.ownsMap Try.prog 3 R mb n D
theorem MapO.of {H : Type} {R : Value → Option (DataW H × List MemPlace)} {w : World} {mb n : Nat} {D : DataW H} (h : w.ownsMap Try.prog 3 R mb n D) : ∃ o, w.heap[mb]? = some o ∧ MapO R o mb n D := by
  obtain ⟨es, clock, h1, h2⟩ := h
  exact ⟨_, h1, fun W hW => ⟨es, clock, hW, h2⟩⟩
theorem MapO.new {H : Type} (R : Value → Option (DataW H × List MemPlace)) (mb : Nat) : MapO R (.map #[] 0) mb 0 (.map []) := fun W hW => by
  have hm : (W.alloc (.map #[] 0)).ownsMap Try.prog 3 R W.heap.size 0 (.map []) := World.ownsMap_made _ _ _ _
  obtain ⟨es, clock, h1, h2⟩ := hm
  rw [heap_alloc_new] at h1
  cases h1
  exact ⟨_, _, hW, h2⟩
set_option maxRecDepth 100000 in
theorem MapO.lookB {o : Obj} {mb n : Nat} {D : DataW Unit} {f : Int → Bool} {wr : World} (h : MapO boolR o mb n D) (hb : wr.heap[mb]? = some o) (hf : Mb D f) {x : Int} (hx : (Lit.int .i64 x).wf = true) {q : Bool} (hq : f x = q) : (Instr.lookup 63 (.map (some mb)) (.int .i64 x) false).run Try.prog wr = .ok (.bool q) wr := by
  obtain ⟨v, ps, hr, hv⟩ := (h wr hb).lookup law3 Try.underlying63 (zero4 wr) (plainElem_bool Try.underlying4 false) (keyOf_int_mk Try.underlying3 hx)
  rw [hf.at_] at hv
  rw [hr, ← hq]
  have e : v = .bool (f x) := by
    unfold boolR plainElem at hv
    rw [Try.underlying4] at hv
    cases v <;> simp_all
  rw [e]
section
variable {T e : TypeId} {w0 wr wr' : World} {b : Nat} {room : Int} {l : List En} {X Y : Nat → Obj → Prop} {bx : List (Nat × Obj)}
/-- A map's block behind a change, among other boxes. -/
theorem Own.mapped {H : Type} {R : Value → Option (DataW H × List MemPlace)} {mb n : Nat} {o : Obj} {D : DataW H} (h : Own T e w0 b room l X ((mb, o) :: bx) wr) (hm : wr'.ownsMap Try.prog 3 R mb n D) (hg : wr.grownBy wr' (some mb)) : ∃ o', Own T e w0 b room l X ((mb, o') :: bx) wr' ∧ MapO R o' mb n D := by
  obtain ⟨o', h1, h2⟩ := MapO.of hm
  exact ⟨o', h.goes (mv_turn hg h1), h2⟩
theorem Own.weak (h : Own T e w0 b room l X bx wr) (hX : ∀ k o, Y k o → X k o) : Own T e w0 b room l Y bx wr := by
  obtain ⟨l0, v, h1, h2, h3, h4⟩ := h
  exact ⟨l0, v, h1, h2, h3, h4.bl, h4.at_, h4.nd, h4.ft, fun k o hk => h4.kp k o (hX k o hk)⟩
/-- Blocks that are new are to stay from here on. -/
def keepN (n : Nat) (w : World) (X : Nat → Obj → Prop) : Nat → Obj → Prop := fun k o => X k o ∨ (n ≤ k ∧ w.heap[k]? = some o)
theorem Own.keepNew (h : Own T e w0 b room l X bx wr) (hb : Below wr.heap.size wr wr') : Own T e w0 b room l (keepN wr.heap.size wr' X) bx wr' := by
  obtain ⟨l0, v, h1, h2, h3, h4⟩ := h
  obtain ⟨k1, k2, k3⟩ := mv_step (w0 := w0) (bx := bx) hb _ _ h4
  refine ⟨l0, v, h1, h2.keepF k2 k3, h3, k1.bl, k1.at_, k1.nd, k1.ft, fun k o hk => ?_⟩
  rcases hk with hk | ⟨hn, hk⟩
  · exact k1.kp k o hk
  · refine ⟨hk, fun e => ?_, fun p hp => ?_⟩
    · have := (h2.foot e).2
      omega
    · have := lt_of_block (h4.at_ p hp).1
      omega
/-- A list that was kept is still there. -/
theorem Own.ein {n : Nat} {wk : World} (h : Own T e w0 b room l X bx wr) {p : Option Addr} {M : List Ep} (hM : EIn wk p M) (hF : Frsh n p M) (hX : ∀ k o, n ≤ k → wk.heap[k]? = some o → X k o) (hs : wk.heap.size ≤ wr.heap.size) : EIn wr p M := by
  have hk : ∀ k, n ≤ k → k < wk.heap.size → wr.heap[k]? = wk.heap[k]? := fun k hn hlt => by
    obtain ⟨o, ho⟩ : ∃ o, wk.heap[k]? = some o := ⟨_, Array.getElem?_eq_getElem hlt⟩
    rw [ho]
    exact h.kept (hX k o hn ho)
  exact hM.keep hs (fun a ha hlt => hk _ (hF.1 a ha) hlt) fun x hx _ a ha hlt => hk _ (hF.2 x hx a ha) hlt
end

end Go.Proofs.Ytnpbbkiojoafbaa
