/-
  What the smallest functions of the program's reader do, one contract each: kindOf, takeDigit, takeMinus, value, endNumber.
-/
import Derived.Test.YtjnbpohjdgnknaaDoorPgA
import Derived.OneCell
namespace Go.Proofs.YtjnbpohjdgnknaaDoor
open Go Go.RowKit

/-- The reader's block holds these cells. -/
def At (w : World) (b : Nat) (L : Array Value) : Prop := w.heap[b]? = some (.cells L 102 (0, 0))
theorem At.cell {w : World} {b : Nat} {L : Array Value} (h : At w b L) (i : Nat) : w.cell? ⟨b, i, none⟩ = L[i]? := by simp [World.cell?, show w.heap[b]? = _ from h]
theorem At.free {w : World} {b : Nat} {L : Array Value} (h : At w b L) (i : Nat) : w.frozen? ⟨b, i, none⟩ = false := by simp [World.frozen?, show w.heap[b]? = _ from h]
theorem At.lt {w : World} {b : Nat} {L : Array Value} (h : At w b L) : b < w.heap.size := lt_of_block h
theorem At.set {w : World} {b : Nat} {L : Array Value} (h : At w b L) (i : Nat) (u : Value) : At (w.setCell ⟨b, i, none⟩ u) b (L.setIfInBounds i u) := by
  have hlt := lt_of_block h
  have h' : w.heap[b] = .cells L 102 (0, 0) := by simpa [Array.getElem?_eq_getElem hlt] using (show w.heap[b]? = _ from h)
  show (w.heap.modify b _)[b]? = _
  rw [Array.getElem?_eq_getElem (by simpa using hlt), Array.getElem_modify_self, h']
  rfl

/-- Nothing but one block has changed. -/
structure Only (b : Nat) (w w' : World) : Prop where
  below : Below b w w'
  size : w'.heap.size = w.heap.size
  other : ∀ c, c ≠ b → w'.heap[c]? = w.heap[c]?
theorem Only.refl (b : Nat) (w : World) : Only b w w := ⟨Below.refl _ _, rfl, fun _ _ => rfl⟩
theorem Only.trans {b : Nat} {w w1 w2 : World} (h : Only b w w1) (k : Only b w1 w2) : Only b w w2 := ⟨h.below.trans k.below, k.size.trans h.size, fun c hc => (k.other c hc).trans (h.other c hc)⟩
theorem Only.set {b : Nat} {w w1 : World} (h : Only b w w1) (i : Nat) (u : Value) : Only b w (w1.setCell ⟨b, i, none⟩ u) :=
  ⟨h.below.setCell (Nat.le_refl _) u, by rw [← h.size]; simp [World.setCell], fun c hc => (Below.heap_setCell _ _ _ _ hc).trans (h.other c hc)⟩

/-- The reader's cells. -/
abbrev rdL (v : Value) (x : Op) (pl : Nat) (n : Num) : Array Value := #[v, .int .i64 x.k, .int .i64 x.a, .int .i64 x.v, .int .i64 (pl : Int), .bool n.neg, .int .i64 (n.dg : Int), .int .i64 (n.sz : Int)]

theorem kindOf_any (r : Nat) (w : World) :
    Calls Tryd.prog 69 #[.int .i32 r] w fun e w' => e = .returned (.int .i64 (kindR r)) ∧ w = w' := by
  go_enter Tryd.func69, Tryd.ntmps69
  go_wp2
  all_goals
    go_ret
    refine ⟨ret_int ?_, rfl⟩
    simp at *
    unfold kindR
    first | (rw [if_pos (by omega)]) | (rw [if_neg (by omega), if_pos (by omega)]) | (rw [if_neg (by omega), if_neg (by omega), if_pos (by omega)]) | (rw [if_neg (by omega), if_neg (by omega), if_neg (by omega), if_pos (by omega)]) | (rw [if_neg (by omega), if_neg (by omega), if_neg (by omega), if_neg (by omega)])

/-- What a call gives that reads a part of a number. -/
def GaveN (b : Nat) (v : Value) (x : Op) (pl : Nat) (o : Option Num) (w : World) (e : Ending) (w' : World) : Prop := e = .returned (.bool o.isSome) ∧ Only b w w' ∧ ∀ m, o = some m → At w' b (rdL v x pl m)

theorem digit_no {neg : Bool} {dg sz r : Nat} (h : r < 48 ∨ 57 < r ∨ (0 < dg ∧ sz = 0)) : Num.digit ⟨neg, dg, sz⟩ r = none := by
  unfold Num.digit
  rw [if_neg]
  rintro ⟨h0, h1, h2, h3⟩
  rcases h with h | h | h
  · omega
  · omega
  · exact h2 h
theorem gaveN_no {b : Nat} {v : Value} {x : Op} {pl : Nat} {neg : Bool} {dg sz r : Nat} {w : World} (h : r < 48 ∨ 57 < r ∨ (0 < dg ∧ sz = 0)) : GaveN b v x pl (Num.digit ⟨neg, dg, sz⟩ r) w (.returned (.bool false)) w := by
  rw [digit_no h]
  exact ⟨rfl, Only.refl _ _, fun _ h => by cases h⟩
theorem gaveN_dig {b : Nat} {v : Value} {x : Op} {pl : Nat} {neg : Bool} {dg sz r : Nat} {w : World} {q : Int} (h : At w b (rdL v x pl ⟨neg, dg, sz⟩)) (h0 : 48 ≤ r) (h1 : r ≤ 57) (h2 : dg = 0 ∨ sz ≠ 0) (hq : q = ((10 * sz + (r - 48) : Nat) : Int)) :
    GaveN b v x pl (Num.digit ⟨neg, dg, sz⟩ r) w (.returned (.bool (decide (q ≤ 2147483648)))) ((w.setCell ⟨b, 6, none⟩ (.int .i64 (dg + 1))).setCell ⟨b, 7, none⟩ (.int .i64 q)) := by
  have hb : decide (q ≤ 2147483648) = (Num.digit ⟨neg, dg, sz⟩ r).isSome := by
    unfold Num.digit
    by_cases hle : q ≤ 2147483648
    · rw [if_pos ⟨h0, h1, by show ¬ (0 < dg ∧ sz = 0); omega, by show 10 * sz + (r - 48) ≤ _; omega⟩]
      simpa using hle
    · rw [if_neg (by rintro ⟨_, _, _, h3⟩; have : 10 * sz + (r - 48) ≤ 2147483648 := h3; omega)]
      simpa using hle
  refine ⟨by rw [hb], ((Only.refl _ _).set 6 _).set 7 _, fun m hm => ?_⟩
  unfold Num.digit at hm
  split at hm
  · injection hm with hm
    subst hm
    have := (h.set 6 (.int .i64 (dg + 1))).set 7 (.int .i64 q)
    rw [hq] at this ⊢
    exact this
  · cases hm

set_option maxHeartbeats 1000000 in
theorem digit_any (b : Nat) (v : Value) (x : Op) (pl : Nat) (n : Num) (r : Nat) (w : World) (h : At w b (rdL v x pl n)) (hd : n.dg ≤ 5000) (hs : n.sz ≤ 2147483648) (hr : r ≤ 2147483647) :
    Calls Tryd.prog 65 #[.pointer (some ⟨b, 5, none⟩), .int .i32 r] w (GaveN b v x pl (n.digit r) w) := by
  have hc5 := h.cell 5
  have hc6 := h.cell 6
  have hc7 := h.cell 7
  have hf6 := h.free 6
  have hf7 := h.free 7
  have H := Lib.hid h
  clear h
  obtain ⟨neg, dg, sz⟩ := n
  have hd' : dg ≤ 5000 := hd
  have hs' : sz ≤ 2147483648 := hs
  clear hd hs
  simp at hc5 hc6 hc7
  go_enter Tryd.func65, Tryd.ntmps65
  go_wp2
  all_goals
    go_ret
    first
      | exact gaveN_no (by first | omega | (simp at *; omega))
      | exact gaveN_dig H.out (by first | omega | (simp at *; omega)) (by first | omega | (simp at *; omega)) (by first | omega | (simp at *; omega)) (by first | omega | (simp at *; omega))

theorem gaveN_minus {b : Nat} {v : Value} {x : Op} {pl : Nat} {neg : Bool} {dg sz : Nat} {w : World} {q : Bool} (h : At w b (rdL v x pl ⟨neg, dg, sz⟩)) (hq : q = decide (neg = false ∧ dg = 0)) :
    GaveN b v x pl (Num.minus ⟨neg, dg, sz⟩) w (.returned (.bool q)) (w.setCell ⟨b, 5, none⟩ (.bool true)) := by
  have hb : q = (Num.minus ⟨neg, dg, sz⟩).isSome := by
    rw [hq]
    unfold Num.minus
    by_cases hle : neg = false ∧ dg = 0
    · rw [if_pos hle]; simpa using hle
    · rw [if_neg hle]; simpa using hle
  refine ⟨by rw [hb], (Only.refl _ _).set 5 _, fun m hm => ?_⟩
  unfold Num.minus at hm
  split at hm
  · injection hm with hm
    subst hm
    exact h.set 5 (.bool true)
  · cases hm

theorem minus_any (b : Nat) (v : Value) (x : Op) (pl : Nat) (n : Num) (w : World) (h : At w b (rdL v x pl n)) :
    Calls Tryd.prog 66 #[.pointer (some ⟨b, 5, none⟩)] w (GaveN b v x pl n.minus w) := by
  have hc5 := h.cell 5
  have hc6 := h.cell 6
  have hf5 := h.free 5
  have H := Lib.hid h
  clear h
  obtain ⟨neg, dg, sz⟩ := n
  simp at hc5 hc6
  rcases Bool.eq_false_or_eq_true neg with hn | hn
  all_goals
    subst hn
    go_enter Tryd.func66, Tryd.ntmps66
    go_wp2
    go_ret
    exact gaveN_minus H.out (by first | (simp; done) | (rw [Bool.eq_iff_iff]; simp))

/-- What a number is, and whether it is one, as values. -/
abbrev valV (o : Option Int) : Value := .tuple #[.int .i64 (o.getD 0), .bool o.isSome]
theorem value_any (b : Nat) (v : Value) (x : Op) (pl : Nat) (n : Num) (w : World) (h : At w b (rdL v x pl n)) (hs : n.sz ≤ 2147483648) :
    Calls Tryd.prog 70 #[.pointer (some ⟨b, 5, none⟩)] w fun e w' => e = .returned (valV n.val) ∧ w = w' := by
  have hc5 := h.cell 5
  have hc6 := h.cell 6
  have hc7 := h.cell 7
  clear h
  obtain ⟨neg, dg, sz⟩ := n
  have hs' : sz ≤ 2147483648 := hs
  clear hs
  simp at hc5 hc6 hc7
  have h6 : ∀ d : Nat, ((d : Int) == 0) = decide (d = 0) := fun d => by rw [Bool.eq_iff_iff]; simp
  rcases Bool.eq_false_or_eq_true neg with hn | hn <;> by_cases hd : dg = 0 <;> by_cases hz : sz = 0
  all_goals
    subst hn
    try subst hd
    try subst hz
    go_enter Tryd.func70, Tryd.ntmps70
    go_wp2
    go_ret2
    simp_all [Num.val]

end Go.Proofs.YtjnbpohjdgnknaaDoor
