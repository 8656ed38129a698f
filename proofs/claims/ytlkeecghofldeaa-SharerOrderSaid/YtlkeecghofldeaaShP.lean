/-
  Lists of cores in whichever order, and boxes side by side.
-/
import Derived.Test.YtlkeecghofldeaaShR
import Derived.Test.YtlkeecghofldeaaShM
namespace Go.Proofs.Ytlkeecghofldeaa
open Go Go.RowKit

def listF (xs : List Int) : Int → Bool := fun y => xs.contains y
theorem listF_snoc (xs : List Int) (x : Int) : listF (xs ++ [x]) = orB (listF xs) x := by
  funext y
  unfold listF orB
  rw [Bool.eq_iff_iff]
  simp
/-- What a set is, to which these were added. -/
def stL (c : Nat) (m : Int) (xs : List Int) : St := stOf c m (listF xs)
theorem stL_nil (c : Nat) (m : Int) : stL c m [] = stOf c m (fun _ => false) := rfl
theorem stL_no {c : Nat} {m : Int} {xs : List Int} {x : Int} (h : hasB c x = false) : stL c m (xs ++ [x]) = stL c m xs := by
  unfold stL
  rw [listF_snoc]
  refine stOf_congr fun y h0 h1 => ?_
  have hne : (y == x) = false := by
    simp
    intro e
    subst e
    rw [hasB_iff.2 ⟨h0, h1⟩] at h
    cases h
  simp [orB, hne]
theorem addL_yes {c : Nat} {m : Int} {xs : List Int} {x : Int} (h1 : 1 ≤ c) (h2 : c ≤ 64) (h3 : 0 ≤ m) (h4 : m ≤ 8) (h : hasB c x = true) : addS (stL c m xs) x = (stL c m (xs ++ [x]), 0) := by
  unfold stL
  rw [listF_snoc]
  exact add_yes h1 h2 h3 h4 h
theorem addL_no {c : Nat} {m : Int} {xs : List Int} {x : Int} (h1 : 1 ≤ c) (h2 : c ≤ 64) (h3 : 0 ≤ m) (h4 : m ≤ 8) (h : hasB c x = false) : addS (stL c m xs) x = (z0, 5) := add_no h1 h2 h3 h4 h
theorem stL_same {c : Nat} {m : Int} {xs ys : List Int} (h : ∀ y, y ∈ xs ↔ y ∈ ys) : stL c m xs = stL c m ys := by
  unfold stL
  refine stOf_congr fun y _ _ => ?_
  unfold listF
  rw [Bool.eq_iff_iff, List.contains_iff_mem, List.contains_iff_mem]
  exact h y
theorem stL_len (c : Nat) (m : Int) (xs : List Int) : (stL c m xs).l.length ≤ c := stOf_len c m _

/-- The place that is turned about. -/
def turnAt (N b i : Nat) : Nat := (N - 1 - i + b) % N
def turned (l : List Int) (b k : Nat) : List Int := (List.range k).map fun i => l.getD (turnAt l.length b i) 0
theorem turned_succ (l : List Int) (b k : Nat) : turned l b (k + 1) = turned l b k ++ [l.getD (turnAt l.length b k) 0] := by
  unfold turned
  rw [List.range_succ, List.map_append]
  rfl
theorem turnAt_lt {N b i : Nat} (h : 0 < N) : turnAt N b i < N := Nat.mod_lt _ h
theorem getD_mem {l : List Int} {j : Nat} (h : j < l.length) : l.getD j 0 ∈ l := by
  rw [List.getD_eq_getElem?_getD, List.getElem?_eq_getElem h]
  exact List.getElem_mem h
theorem turn_back {N b j : Nat} (h : j < N) : ∃ i, i < N ∧ turnAt N b i = j := by
  refine ⟨(N - 1 + b - j) % N, Nat.mod_lt _ (by omega), ?_⟩
  have h1 := Nat.div_add_mod (N - 1 + b - j) N
  have h2 := Nat.mod_lt (N - 1 + b - j) (show 0 < N by omega)
  have e : N - 1 - (N - 1 + b - j) % N + b = j + N * ((N - 1 + b - j) / N) := by omega
  unfold turnAt
  rw [e, Nat.add_mul_mod_self_left, Nat.mod_eq_of_lt h]
theorem turned_mem (l : List Int) (b : Nat) (y : Int) : y ∈ turned l b l.length ↔ y ∈ l := by
  unfold turned
  rw [List.mem_map]
  constructor
  · rintro ⟨i, hi, rfl⟩
    have := List.mem_range.1 hi
    exact getD_mem (turnAt_lt (by omega))
  · intro h
    obtain ⟨j, hj, e⟩ := List.getElem_of_mem h
    obtain ⟨i, hi, ei⟩ := turn_back (b := b) hj
    refine ⟨i, List.mem_range.2 hi, ?_⟩
    rw [ei, List.getD_eq_getElem?_getD, List.getElem?_eq_getElem hj]
    exact e

theorem Box.lt {G : Nat → Prop} {g : Nat} {s : St} {wr : World} (h : Box G g s wr) : g < wr.heap.size := by
  obtain ⟨_, _, h1, _⟩ := h
  exact lt_of_block h1
theorem Box.regroup {G G' : Nat → Prop} {g : Nat} {s : St} {wr : World} (h : Box G g s wr) (hG : ∀ k, G' k → wr.heap.size ≤ k) : Box G' g s wr := by
  obtain ⟨p, cap, h1, h2, _⟩ := h
  refine ⟨p, cap, h1, h2, fun hl a ha hg => ?_⟩
  obtain ⟨g0, off, e, hb, _⟩ := h2 0 (List.length_pos_iff.2 hl)
  rw [e] at ha
  cases ha
  have := hG _ hg
  simp only at this
  omega
/-- Another set has been stored into a box. -/
theorem Box.stored {G : Nat → Prop} {g : Nat} {s s' : St} {wr : World} {p : Option Addr} {cap : Nat} (h : Box G g s wr) (hg : G g) (hin : NumsIn wr p s'.l) (hf : s'.l ≠ [] → ∀ a, p = some a → ¬ G a.block) : Box G g s' (wr.setRow g (sval s' p cap)) := by
  obtain ⟨q, cq, h1, _⟩ := h
  refine ⟨p, cap, setRow_heap _ _ _ _ _ _ h1, ?_, hf⟩
  by_cases hl : s'.l = []
  · rw [hl]
    exact NumsIn.nil _ _
  · exact hin.row g (fun a ha e => hf hl a ha (e ▸ hg)) _
/-- .. of which the other boxes know nothing. -/
theorem Box.other {G : Nat → Prop} {g g' : Nat} {s : St} {wr : World} (h : Box G g s wr) (hg : G g') (hne : g ≠ g') (cs : Array Value) : Box G g s (wr.setRow g' cs) := by
  obtain ⟨q, cq, h1, h2, h3⟩ := h
  refine ⟨q, cq, (setRow_other _ _ _ _ hne).trans h1, ?_, h3⟩
  by_cases hl : s.l = []
  · rw [hl]
    exact NumsIn.nil _ _
  · exact h2.row g' (fun a ha e => h3 hl a ha (e ▸ hg)) _

/-- Two boxes of the call's own. -/
structure OSt (w : World) (ba bb : Nat) (sa sb : St) (wr : World) : Prop where
  a : Box (fun k => k = ba ∨ k = bb) ba sa wr
  b : Box (fun k => k = ba ∨ k = bb) bb sb wr
  ne : ba ≠ bb
  biga : w.heap.size ≤ ba
  bigb : w.heap.size ≤ bb
  below : Below w.heap.size w wr
variable {w wr wr' : World} {ba bb : Nat} {sa sb s' : St}
theorem OSt.step (h : OSt w ba bb sa sb wr) (hb : Below wr.heap.size wr wr') : OSt w ba bb sa sb wr' := ⟨h.a.step hb, h.b.step hb, h.ne, h.biga, h.bigb, bstep h.below hb⟩
theorem OSt.setA (h : OSt w ba bb sa sb wr) {p : Option Addr} {cap : Nat} (hin : NumsIn wr p s'.l) (hf : s'.l ≠ [] → ∀ a, p = some a → ¬ (a.block = ba ∨ a.block = bb)) : OSt w ba bb s' sb (wr.setRow ba (sval s' p cap)) :=
  ⟨h.a.stored (Or.inl rfl) hin hf, h.b.other (Or.inl rfl) (fun e => h.ne e.symm) _, h.ne, h.biga, h.bigb, below_setRow h.below h.biga _⟩
theorem OSt.setB (h : OSt w ba bb sa sb wr) {p : Option Addr} {cap : Nat} (hin : NumsIn wr p s'.l) (hf : s'.l ≠ [] → ∀ a, p = some a → ¬ (a.block = ba ∨ a.block = bb)) : OSt w ba bb sa s' (wr.setRow bb (sval s' p cap)) :=
  ⟨h.a.other (Or.inr rfl) h.ne _, h.b.stored (Or.inr rfl) hin hf, h.ne, h.biga, h.bigb, below_setRow h.below h.bigb _⟩

/-- Three boxes, of which the last may be stored into. -/
structure O3 (w : World) (ba bb bc : Nat) (sa sb sc : St) (wr : World) : Prop where
  a : Box (fun k => k = bc) ba sa wr
  b : Box (fun k => k = bc) bb sb wr
  c : Box (fun k => k = bc) bc sc wr
  nea : ba ≠ bc
  neb : bb ≠ bc
  bigc : w.heap.size ≤ bc
  below : Below w.heap.size w wr
theorem O3.step {bc : Nat} {sc : St} (h : O3 w ba bb bc sa sb sc wr) (hb : Below wr.heap.size wr wr') : O3 w ba bb bc sa sb sc wr' := ⟨h.a.step hb, h.b.step hb, h.c.step hb, h.nea, h.neb, h.bigc, bstep h.below hb⟩
theorem O3.setC {bc : Nat} {sc : St} (h : O3 w ba bb bc sa sb sc wr) {p : Option Addr} {cap : Nat} (hin : NumsIn wr p s'.l) (hf : s'.l ≠ [] → ∀ a, p = some a → ¬ a.block = bc) : O3 w ba bb bc sa sb s' (wr.setRow bc (sval s' p cap)) :=
  ⟨h.a.other rfl h.nea _, h.b.other rfl h.neb _, h.c.stored rfl hin hf, h.nea, h.neb, h.bigc, below_setRow h.below h.bigc _⟩
/-- The third box is made of the first one. -/
theorem OSt.third (h : OSt w ba bb sa sb wr) {p : Option Addr} {cap : Nat} (hin : NumsIn wr p sa.l) : O3 w ba bb wr.heap.size sa sb sa (wr.alloc (.cells (sval sa p cap) 24)) := by
  have hb := balloc wr (.cells (sval sa p cap) 24)
  have hz := h.below.size
  refine ⟨(h.a.regroup fun k e => by omega).step hb, (h.b.regroup fun k e => by omega).step hb, ⟨p, cap, heap_alloc_new wr _, hin.step hb, fun hl a ha e => ?_⟩, by have := h.a.lt; omega, by have := h.b.lt; omega, hz, bstep h.below hb⟩
  obtain ⟨g0, off, e', hb0, _⟩ := hin 0 (List.length_pos_iff.2 hl)
  rw [e'] at ha
  cases ha
  simp only at e
  omega

end Go.Proofs.Ytlkeecghofldeaa
