/-
  Short words for what the walks say again and again: an operation taken first, the one that is ready, where a thing stands in a list.
-/
import Derived.Deep.RegionHeld3
import Derived.Deep.MidRow
namespace Go.Proofs.YtlfhkjjjocmpbaaGreatDoor
open Go

variable {P : Program} {ops : Array Oper} {Q : Exit → Act → World → Prop} {md : Region.Mode} {S : World → Prop} {listed : Array Bool} {a : Act} {w : World}
theorem tk (fuel i : Nat) (oi : Oper) (v : Value) (hi : ops[i]? = some oi) (hb : (Region.noSelect ops && (Region.free md ops listed i && (Region.ready md ops listed).contains i)) = true)
    (hw : Region.wanted oi (yielded ops a.tmps) = true) (hS : S w) (hy : ∀ w', S w' → (execOp a.eval oi).run P w' = .ok (.value v) w') (h : wpAnyH P md ops Q S fuel (listed.setIfInBounds i true) (a.put oi.dst v) w)
    (hQ : ∀ c (a : Act) w, Q (.panic c) (a.put oi.dst v) w → Q (.panic c) a w := by exact fun _ _ _ h => h) : wpAnyH P md ops Q S (fuel + 1) listed a w := by
  simp only [Bool.and_eq_true] at hb
  exact wpAnyH_take hi hb.1 hb.2.1 hb.2.2 hQ (Or.inl ⟨hw, hy⟩) hS h
theorem rd (fuel i : Nat) (o : Oper) (ho : ops[i]? = some o) (hr : (Region.ready md ops listed == [i]) = true)
    (h : ∀ K' : Act → World → Prop, Shut (∀ a w, S w → (S w → wpAnyH P md ops Q S fuel (listed.setIfInBounds i true) a w) → K' a w) → if Region.wanted o (yielded ops a.tmps) = true then Oper.wp P o a w K' Q else K' (a.put o.dst undef) w) : wpAnyH P md ops Q S (fuel + 1) listed a w := by
  exact wpAnyH_ready (by simpa using hr) (by simp) (AllReadyH.cons ho h AllReadyH.nil)
section
variable {α : Type} {a b c d e f g : α} {l : List α}
theorem mz0 : a ∈ a :: l := List.mem_cons_self ..
theorem mz1 : a ∈ b :: a :: l := List.mem_cons_of_mem _ mz0
theorem mz2 : a ∈ b :: c :: a :: l := List.mem_cons_of_mem _ mz1
theorem mz3 : a ∈ b :: c :: d :: a :: l := List.mem_cons_of_mem _ mz2
theorem mz4 : a ∈ b :: c :: d :: e :: a :: l := List.mem_cons_of_mem _ mz3
theorem mz5 : a ∈ b :: c :: d :: e :: f :: a :: l := List.mem_cons_of_mem _ mz4
theorem mz6 : a ∈ b :: c :: d :: e :: f :: g :: a :: l := List.mem_cons_of_mem _ mz5
end

end Go.Proofs.YtlfhkjjjocmpbaaGreatDoor
