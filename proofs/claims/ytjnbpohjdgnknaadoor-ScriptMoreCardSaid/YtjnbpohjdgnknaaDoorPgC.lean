/-
  What the program's reader does with a letter, an = and a number's end, one contract each: endNumber, takeLetter, takeEquals.
-/
import Derived.Test.YtjnbpohjdgnknaaDoorPgB
namespace Go.Proofs.YtjnbpohjdgnknaaDoor
open Go Go.RowKit

/-- Operations as cells. -/
def opCells (l : List Op) : List Value := l.flatMap fun x => [.int .i64 x.k, .int .i64 x.a, .int .i64 x.v]
/-- The reader stands so. -/
def Rd (b base : Nat) (w : World) (σ : St) : Prop := ∃ v, At w b (rdL v σ.op σ.pl σ.num) ∧ w.ownsRow base 52 3 v σ.ops.length (opCells σ.ops)
/-- Below a number, nothing but one block has changed. -/
structure Kept (b base : Nat) (w w' : World) : Prop where
  below : Below b w w'
  other : ∀ c, c < base → c ≠ b → w'.heap[c]? = w.heap[c]?
theorem Kept.refl (b base : Nat) (w : World) : Kept b base w w := ⟨Below.refl _ _, fun _ _ _ => rfl⟩
theorem Kept.trans {b base : Nat} {w w1 w2 : World} (h : Kept b base w w1) (k : Kept b base w1 w2) : Kept b base w w2 := ⟨h.below.trans k.below, fun c h1 h2 => (k.other c h1 h2).trans (h.other c h1 h2)⟩
theorem Only.kept {b : Nat} {w w' : World} (h : Only b w w') (base : Nat) : Kept b base w w' := ⟨h.below, fun c _ hc => h.other c hc⟩
theorem own_only {b base e sz n : Nat} {w w' : World} {v : Value} {xs : List Value} (h : w.ownsRow base e sz v n xs) (ho : Only b w w') (hb : b < base) : w'.ownsRow base e sz v n xs := by
  refine ⟨h.1, ?_⟩
  rcases h.2 with hn | ⟨g, cap, cur, rfl, hb', hgg, rest⟩
  · exact .inl hn
  · exact .inr ⟨g, cap, cur, rfl, hb', (ho.other g (by omega)).trans hgg, rest⟩
/-- What a call of the reader gives. -/
def Gave (b base : Nat) (o : Option St) (w : World) (e : Ending) (w' : World) : Prop := e = .returned (.bool o.isSome) ∧ Kept b base w w' ∧ ∀ σ, o = some σ → Rd b base w' σ

/-- What the end of a number gives: its place has it, and the next one is begun. -/
def GaveE (b : Nat) (v : Value) (x : Op) (pl : Nat) (o : Option Int) (w : World) (e : Ending) (w' : World) : Prop := e = .returned (.bool o.isSome) ∧ Only b w w' ∧ At w' b (rdL v x pl num0)

set_option maxHeartbeats 1000000 in
theorem endAddr_any (b : Nat) (v : Value) (x : Op) (pl : Nat) (n : Num) (w : World) (h : At w b (rdL v x pl n)) (hs : n.sz ≤ 2147483648) :
    Calls Tryd.prog 67 #[.pointer (some ⟨b, 0, none⟩), .pointer (some ⟨b, 2, none⟩)] w (GaveE b v ⟨x.k, n.val.getD 0, x.v⟩ pl n.val w) := by
  have hc2 := h.cell 2
  have hc5 := h.cell 5
  have hc6 := h.cell 6
  have hc7 := h.cell 7
  have hf2 := h.free 2
  have hf5 := h.free 5
  have hf6 := h.free 6
  have hf7 := h.free 7
  have H := Lib.hid h
  have HS := Lib.hid hs
  clear h hs
  simp at hc2 hc5 hc6 hc7
  go_enter Tryd.func67, Tryd.ntmps67
  go_wp2_with (go_at_call 70; refine (value_any b v x pl n _ H.out HS.out).mono ?_; rintro e w' ⟨rfl, rfl⟩)
  go_ret
  exact ⟨rfl, ((((Only.refl _ _).set 2 _).set 5 _).set 6 _).set 7 _, (((H.out.set 2 _).set 5 _).set 6 _).set 7 _⟩

set_option maxHeartbeats 1000000 in
theorem endVal_any (b : Nat) (v : Value) (x : Op) (pl : Nat) (n : Num) (w : World) (h : At w b (rdL v x pl n)) (hs : n.sz ≤ 2147483648) :
    Calls Tryd.prog 67 #[.pointer (some ⟨b, 0, none⟩), .pointer (some ⟨b, 3, none⟩)] w (GaveE b v ⟨x.k, x.a, n.val.getD 0⟩ pl n.val w) := by
  have hc3 := h.cell 3
  have hc5 := h.cell 5
  have hc6 := h.cell 6
  have hc7 := h.cell 7
  have hf3 := h.free 3
  have hf5 := h.free 5
  have hf6 := h.free 6
  have hf7 := h.free 7
  have H := Lib.hid h
  have HS := Lib.hid hs
  clear h hs
  simp at hc3 hc5 hc6 hc7
  go_enter Tryd.func67, Tryd.ntmps67
  go_wp2_with (go_at_call 70; refine (value_any b v x pl n _ H.out HS.out).mono ?_; rintro e w' ⟨rfl, rfl⟩)
  go_ret
  exact ⟨rfl, ((((Only.refl _ _).set 3 _).set 5 _).set 6 _).set 7 _, (((H.out.set 3 _).set 5 _).set 6 _).set 7 _⟩

theorem gave_letter {b base : Nat} {v : Value} {σ : St} {r : Nat} {w w' : World} {q : Bool} (hb : b < base) (h : At w' b (rdL v ⟨kindR r, σ.op.a, σ.op.v⟩ (if kindR r = 4 then 3 else 1) σ.num)) (hown : w.ownsRow base 52 3 v σ.ops.length (opCells σ.ops)) (ho : Only b w w') (hq : q = decide (kindR r ≠ 0)) :
    Gave b base (σ.letter r) w (.returned (.bool q)) w' := by
  unfold St.letter
  by_cases hk : kindR r = 0
  · rw [if_pos hk]
    refine ⟨by rw [hq]; simp [hk], ho.kept _, fun _ h => by cases h⟩
  · rw [if_neg hk]
    refine ⟨by rw [hq]; simp [hk], ho.kept _, fun τ hτ => ?_⟩
    injection hτ with hτ
    subst hτ
    exact ⟨v, h, own_only hown ho hb⟩

set_option maxHeartbeats 1000000 in
theorem letter_any (b base : Nat) (σ : St) (r : Nat) (w : World) (hb : b < base) (h : Rd b base w σ) :
    Calls Tryd.prog 63 #[.pointer (some ⟨b, 0, none⟩), .int .i32 r] w (Gave b base (σ.letter r) w) := by
  obtain ⟨v, h, hown⟩ := h
  have hc1 := h.cell 1
  have hc4 := h.cell 4
  have hf1 := h.free 1
  have hf4 := h.free 4
  have H := Lib.hid h
  have HO := Lib.hid hown
  clear h hown
  simp at hc1 hc4
  by_cases h4 : kindR r = 4
  · have e : ((kindR r) == 4) = true := by simp [h4]
    have H4 := Lib.hid h4
    clear h4
    go_enter Tryd.func63, Tryd.ntmps63
    go_wp2_with (go_at_call 69; refine (kindOf_any r _).mono ?_; rintro e w' ⟨rfl, rfl⟩)
    go_ret
    exact gave_letter (v := v) hb (by rw [if_pos H4.out]; exact ((H.out.set 1 _).set 4 _).set 4 _) HO.out ((((Only.refl _ _).set 1 _).set 4 _).set 4 _) (by simp [bne]; rw [Bool.eq_iff_iff]; simp)
  · have e : ((kindR r) == 4) = false := by simp [h4]
    have H4 := Lib.hid h4
    clear h4
    go_enter Tryd.func63, Tryd.ntmps63
    go_wp2_with (go_at_call 69; refine (kindOf_any r _).mono ?_; rintro e w' ⟨rfl, rfl⟩)
    go_ret
    exact gave_letter (v := v) hb (by rw [if_neg H4.out]; exact ((H.out.set 1 _).set 4 _)) HO.out (((Only.refl _ _).set 1 _).set 4 _) (by simp [bne]; rw [Bool.eq_iff_iff]; simp)

set_option maxHeartbeats 1000000 in
theorem equals_any (b base : Nat) (σ : St) (w : World) (hb : b < base) (h : Rd b base w σ) (hs : σ.num.sz ≤ 2147483648) :
    Calls Tryd.prog 64 #[.pointer (some ⟨b, 0, none⟩)] w (Gave b base σ.equals w) := by
  obtain ⟨v, h, hown⟩ := h
  have hc1 := h.cell 1
  have hc4 := h.cell 4
  have hf4 := h.free 4
  have H := Lib.hid h
  have H2 := Lib.hid (h.set 4 (.int .i64 2))
  have HO := Lib.hid hown
  have HS := Lib.hid hs
  clear h hown hs
  simp at hc1 hc4
  by_cases h1 : σ.op.k = 1
  · have e : (σ.op.k != 1) = false := by simp [h1]
    have HE : Hid (σ.equals = none) := Lib.hid (by unfold St.equals; rw [if_pos h1])
    clear h1
    go_enter Tryd.func64, Tryd.ntmps64
    go_wp2
    go_ret
    refine ⟨by rw [HE.out]; rfl, ((Only.refl _ _).set 4 _).kept _, fun τ hτ => by rw [HE.out] at hτ; cases hτ⟩
  · have e : (σ.op.k != 1) = true := by simp [h1]
    have HE : Hid (σ.equals = σ.num.val.map fun n => ⟨σ.ops, ⟨σ.op.k, n, σ.op.v⟩, 2, num0⟩) := Lib.hid (by unfold St.equals; rw [if_neg h1])
    clear h1
    go_enter Tryd.func64, Tryd.ntmps64
    go_wp2_with (go_at_call 67; refine (endAddr_any b v σ.op 2 σ.num _ H2.out HS.out).mono ?_; rintro e w1 ⟨rfl, ho1, ha1⟩)
    go_ret
    have ho : Only b w w1 := ((Only.refl _ _).set 4 _).trans ho1
    refine ⟨by rw [HE.out]; simp, ho.kept _, fun τ hτ => ?_⟩
    rw [HE.out] at hτ
    obtain ⟨q, hq, rfl⟩ := Option.map_eq_some_iff.1 hτ
    rw [hq] at ha1
    exact ⟨v, ha1, own_only HO.out ho hb⟩

end Go.Proofs.YtjnbpohjdgnknaaDoor
