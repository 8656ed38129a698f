/-
  Lists that are kept, whatever grew; what is left of a list from a place on; where two lists part.
-/
import Derived.Test.YtnpbbkiojoafbaaQuO
import Derived.Test.YtnpbbkiojoafbaaQuU
import Derived.Test.YtnpbbkiojoafbaaQuP
namespace Go.Proofs.Ytnpbbkiojoafbaa
open Go Go.RowKit

theorem MIn.kept {w w' : World} {p : Option Addr} {l : List Msg} (h : MIn w p l) (hk : l ≠ [] → ∀ a, p = some a → a.block < w.heap.size → w'.heap[a.block]? = w.heap[a.block]?) : MIn w' p l := fun i x hx => by
  obtain ⟨g, o, e, hg, hr⟩ := h i x hx
  subst e
  have hb := hk (fun e => by rw [e] at hx; cases hx) ⟨g, o, none⟩ rfl hg
  have hlt : g < w'.heap.size := lt_of_block (hb.trans (Array.getElem?_eq_getElem hg))
  exact ⟨g, o, rfl, hlt, fun j v hv => (World.cell?_of_block (a := ⟨g, o + i * 15 + j, none⟩) hb).trans (hr j v hv)⟩
theorem Own.ein2 {T e : TypeId} {w0 wr wk : World} {b : Nat} {room : Int} {l : List En} {X : Nat → Obj → Prop} {bx : List (Nat × Obj)} {n : Nat} (h : Own T e w0 b room l X bx wr) {p : Option Addr} {M : List Ep} (hM : EIn wk p M) (hF : Frsh n p M) (hX : ∀ k o, n ≤ k → wk.heap[k]? = some o → X k o) : EIn wr p M := by
  have hk : ∀ k, n ≤ k → k < wk.heap.size → wr.heap[k]? = wk.heap[k]? := fun k hn hlt => by
    obtain ⟨o, ho⟩ : ∃ o, wk.heap[k]? = some o := ⟨_, Array.getElem?_eq_getElem hlt⟩
    rw [ho]
    exact h.kept (hX k o hn ho)
  refine ⟨fun i x hx => ?_, fun x hx => (hM.2 x hx).kept fun _ a ha hlt => hk _ (hF.2 x hx a ha) hlt⟩
  obtain ⟨g, o, e, hg, hr⟩ := hM.1 i x hx
  have hb := hk g (by have := hF.1 _ e; simpa using this) hg
  have hlt : g < wr.heap.size := lt_of_block (hb.trans (Array.getElem?_eq_getElem hg))
  exact ⟨g, o, e, hlt, fun j v hv => (World.cell?_of_block (a := ⟨g, o + i * 17 + j, none⟩) hb).trans (hr j v hv)⟩

/-- A block that is to stay is a box from here on. -/
theorem Own.boxed {T e : TypeId} {w0 wr : World} {b : Nat} {room : Int} {l : List En} {k : Nat} {o : Obj} (h : Own T e w0 b room l (fun k' o' => k' = k ∧ o' = o) [] wr) (hk : w0.heap.size ≤ k) : Own T e w0 b room l noX [(k, o)] wr := by
  obtain ⟨l0, v, h1, h2, h3, h4⟩ := h
  obtain ⟨k1, k2, -⟩ := h4.kp k o ⟨rfl, rfl⟩
  exact ⟨l0, v, h1, h2, h3, h4.bl, fun p hp => (by obtain rfl : p = (k, o) := by simpa using hp
                                                   exact ⟨k1, hk, k2⟩), by simp, h4.ft, fun _ _ h => h.elim⟩
/-- What is left of a list from a place on. -/
theorem slice_from (p : Option Addr) (n c k : Nat) (hk : k ≤ n) : ∃ D : Option Addr, (∀ w, (Instr.slice 48 (.slice p n c) (some (.int .i64 (k : Int))) none none).run Try.prog w = .ok (.slice D (n - k) (c - k)) w) ∧ ∀ w M, EIn w p M → M.length = n → n ≤ c → EIn w D (M.drop k) := by
  have he : Try.prog.elem 48 = 61 := by kernel_rfl
  have hs : ∀ w, (sizeOf 61).run Try.prog w = .ok 17 w := fun w => by kernel_rfl
  have hu : Try.prog.underlying 48 = some (.slice (Try.prog.elem 48)) := by rw [he]; exact Try.underlying48
  have hr := fun w => run_slice_l (P := Try.prog) w 48 p n c hu .i64 (k : Int) (by omega) (by omega)
  refine ⟨if c = k then p else p.map (·.add (k * 17)), fun w => ?_, fun w M hM hn hnc => ⟨fun i x hx => ?_, fun x hx => hM.2 x (List.mem_of_mem_drop hx)⟩⟩
  · rw [hr w, he, hs]
    simp [Result.andThen, sliced]
  · rw [List.getElem?_drop] at hx
    have hi := (List.getElem?_eq_some_iff.1 hx).1
    obtain ⟨g, o, rfl, hg, h2⟩ := hM.1 (k + i) x hx
    rw [if_neg (by omega)]
    refine ⟨g, o + k * 17, by simp [Addr.add_lit], hg, ?_⟩
    rw [show o + k * 17 + i * 17 = o + (k + i) * 17 by rw [Nat.add_mul]; omega]
    exact h2

/-- Where two lists part. -/
structure Part (l m : List En) (A : Nat) : Prop where
  le1 : A ≤ l.length
  le2 : A ≤ m.length
  eq : ∀ j, j < A → l[j]? = m[j]?
  ne : A < l.length → A < m.length → l[A]? ≠ m[A]?
theorem Part.append {l : List En} {x : En} {A : Nat} (h : Part l (l ++ [x]) A) : A = l.length := by
  rcases Nat.lt_or_ge A l.length with hA | hA
  · exact absurd (by rw [List.getElem?_append_left hA]) (h.ne hA (by simp; omega))
  · have := h.le1
    omega
theorem Part.erase {l : List En} {i A : Nat} (hi : i < l.length) (h : Part l (l.eraseIdx i) A) : A < l.length ∧ l.drop (A + 1) = (l.eraseIdx i).drop A := by
  have hl := List.length_eraseIdx_of_lt hi
  have h2 := h.le2
  have hA : A < l.length := by omega
  have hiA : i ≤ A := by
    rcases Nat.lt_or_ge A i with hlt | hge
    · exact absurd (by rw [List.getElem?_eraseIdx, if_pos hlt]) (h.ne hA (by omega))
    · exact hge
  refine ⟨hA, List.ext_getElem? fun j => ?_⟩
  rw [List.getElem?_drop, List.getElem?_drop, List.getElem?_eraseIdx, if_neg (by omega)]
  congr 1
  omega
theorem Part.set {l : List En} {i A : Nat} {z z' : En} (hz : l[i]? = some z) (hne : z' ≠ z) (h : Part l (l.set i z') A) : A = i := by
  have hi := (List.getElem?_eq_some_iff.1 hz).1
  rcases Nat.lt_trichotomy A i with hlt | heq | hgt
  · exact absurd (by rw [List.getElem?_set_ne (by omega)]) (h.ne (by omega) (by rw [List.length_set]; omega))
  · exact heq
  · have := h.eq i hgt
    rw [List.getElem?_set_self hi, hz] at this
    exact absurd (Option.some.inj this).symm hne
theorem Part.drop_set {l : List En} {i : Nat} {z' : En} : l.drop (i + 1) = (l.set i z').drop (i + 1) := by
  refine List.ext_getElem? fun j => ?_
  rw [List.getElem?_drop, List.getElem?_drop, List.getElem?_set_ne (by omega)]

end Go.Proofs.Ytnpbbkiojoafbaa
