/-
  Which lines owe, and what an operation makes of that. No program is spoken of here.
-/
import Derived.Test.YtcfcgejeiihgnaaMhM
namespace Go.Proofs.Ytcfcgejeiihgnaa
open Go Go.RowKit

/-- Does a line owe? -/
def owB (l : List Ms) (y : Int) : Bool := l.any fun x => x.ln == y && x.os
theorem owB_nil (y : Int) : owB [] y = false := rfl
theorem owB_none {l : List Ms} {y : Int} (h : fnd l y = none) : owB l y = false := by
  unfold owB
  rw [List.any_eq_false]
  intro x hx
  have := fnd_none h x hx
  simp [this]
theorem owB_cons (x : Ms) (l : List Ms) (y : Int) : owB (x :: l) y = ((x.ln == y && x.os) || owB l y) := by simp [owB]
theorem owB_append (l m : List Ms) (y : Int) : owB (l ++ m) y = (owB l y || owB m y) := by simp [owB]
/-- The others say nothing of a line. -/
theorem split_at {l : List Ms} {i : Nat} {x : Ms} (hx : l[i]? = some x) : l = l.take i ++ x :: l.drop (i + 1) := by
  obtain ⟨hi, rfl⟩ := List.getElem?_eq_some_iff.1 hx
  conv => lhs; rw [← List.take_append_drop i l, List.drop_eq_getElem_cons hi]
theorem owB_far {l : List Ms} {y : Int} (h : ∀ x ∈ l, x.ln ≠ y) : owB l y = false := by
  unfold owB
  rw [List.any_eq_false]
  intro x hx
  have := h x hx
  simp [this]
theorem nd_split {l : List Ms} (hn : (l.map Ms.ln).Nodup) {i : Nat} {x : Ms} (hx : l[i]? = some x) : (∀ z ∈ l.take i, z.ln ≠ x.ln) ∧ (∀ z ∈ l.drop (i + 1), z.ln ≠ x.ln) := by
  rw [split_at hx, List.map_append, List.map_cons, List.nodup_append] at hn
  obtain ⟨_, h2, h3⟩ := hn
  obtain ⟨h4, _⟩ := List.nodup_cons.1 h2
  exact ⟨fun z hz => h3 _ (List.mem_map.2 ⟨z, hz, rfl⟩) _ (List.mem_cons_self ..), fun z hz e => h4 (List.mem_map.2 ⟨z, hz, e⟩)⟩
theorem owB_at {l : List Ms} (hn : (l.map Ms.ln).Nodup) {i : Nat} {x : Ms} (hx : l[i]? = some x) : owB l x.ln = x.os := by
  obtain ⟨h1, h2⟩ := nd_split hn hx
  rw [split_at hx, owB_append, owB_cons, owB_far h1, owB_far h2]
  simp
theorem owB_set {l : List Ms} (hn : (l.map Ms.ln).Nodup) {i : Nat} {x y : Ms} (hx : l[i]? = some x) (hl : y.ln = x.ln) (z : Int) : owB (l.set i y) z = if z = x.ln then y.os else owB l z := by
  obtain ⟨h1, h2⟩ := nd_split hn hx
  have hi := (List.getElem?_eq_some_iff.1 hx).1
  have e : l.set i y = l.take i ++ y :: l.drop (i + 1) := by rw [List.set_eq_take_append_cons_drop, if_pos hi]
  rw [e, owB_append, owB_cons, hl]
  by_cases hz : z = x.ln
  · subst hz
    rw [if_pos rfl, owB_far h1, owB_far h2]
    simp
  · rw [if_neg hz]
    conv => rhs; rw [split_at hx, owB_append, owB_cons]
    have : (x.ln == z) = false := by simpa using fun e => hz e.symm
    rw [this]
    simp
theorem owB_erase {l : List Ms} (hn : (l.map Ms.ln).Nodup) {i : Nat} {x : Ms} (hx : l[i]? = some x) (z : Int) : owB (l.eraseIdx i) z = if z = x.ln then false else owB l z := by
  obtain ⟨h1, h2⟩ := nd_split hn hx
  rw [List.eraseIdx_eq_take_drop_succ, owB_append]
  by_cases hz : z = x.ln
  · subst hz
    rw [if_pos rfl, owB_far h1, owB_far h2]
    rfl
  · rw [if_neg hz]
    conv => rhs; rw [split_at hx, owB_append, owB_cons]
    have : (x.ln == z) = false := by simpa using fun e => hz e.symm
    rw [this]
    simp
theorem owB_keep {l : List Ms} (hn : (l.map Ms.ln).Nodup) {i : Nat} {x y : Ms} (hx : l[i]? = some x) (hl : y.ln = x.ln) (ho : y.os = x.os) (z : Int) : owB (l.set i y) z = owB l z := by
  rw [owB_set hn hx hl]
  split
  · rename_i e
    rw [e, owB_at hn hx, ho]
  · rfl

/-! The calls. -/
theorem owB_open {room k : Int} {l : List Ms} (_ : Good room k l) (line kind : Int) (z : Int) : owB (openP room l line kind).2 z = owB l z := by
  unfold openP
  split
  · rfl
  · split
    · rfl
    · split
      · rfl
      · rw [owB_append]
        simp [owB, newM]
theorem owB_chg {room k : Int} {l : List Ms} (g : Good room k l) (line : Int) {f : Ms → Option Ms} (hf : ∀ x y, f x = some y → y.ln = x.ln ∧ y.os = x.os) (z : Int) : owB (chg l line f).2 z = owB l z := by
  rcases hp : fnd l line with _ | i
  · rw [chg_none f hp]
  · obtain ⟨x, hx, _, _⟩ := fnd_some hp
    rcases hq : f x with _ | y
    · rw [chg_no hp hx hq]
    · rw [chg_yes hp hx hq]
      exact owB_keep g.uq hx (hf x y hq).1 (hf x y hq).2 z
theorem dataF_keep {acks own : Int} {d : Wd} : ∀ x y, dataF acks own d x = some y → y.ln = x.ln ∧ y.os = x.os := fun x y h => by
  unfold dataF at h
  split at h
  · cases h; exact ⟨rfl, rfl⟩
  · cases h
theorem grantF_keep {acks : Int} : ∀ x y, grantF acks x = some y → y.ln = x.ln ∧ y.os = x.os := fun x y h => by
  unfold grantF at h
  split at h
  · cases h; exact ⟨rfl, rfl⟩
  · cases h
theorem ackF_keep : ∀ x y, ackF x = some y → y.ln = x.ln ∧ y.os = x.os := fun x y h => by
  unfold ackF at h
  split at h
  · cases h
  · cases h; exact ⟨rfl, rfl⟩
/-- What an operation that owes says. -/
structure Owes1 (l m : List Ms) (line : Int) (y : Ms) : Prop where
  got : getP l line = (y, true)
  not_ : owB l line = false
  eq : y.nd = y.gt
  n0 : 0 ≤ y.nd
  os : y.os = false
  ow : ∀ z, owB m z = (z == line || owB l z)
theorem owe_tell {room k : Int} {l : List Ms} (g : Good room k l) (line : Int) :
    ((oweP l line).1.2 = true → Owes1 l (oweP l line).2 line (oweP l line).1.1) ∧ ((oweP l line).1.2 = false → ∀ z, owB (oweP l line).2 z = owB l z) := by
  rcases hp : fnd l line with _ | i
  · rw [oweP_none hp]
    exact ⟨(fun h => nomatch h), fun _ _ => rfl⟩
  · obtain ⟨x, hx, hl, _⟩ := fnd_some hp
    rcases Bool.eq_false_or_eq_true (x.os || !came x) with ht | ht
    · rw [oweP_no hp hx ht]
      exact ⟨(fun h => nomatch h), fun _ _ => rfl⟩
    · rw [oweP_yes hp hx ht]
      refine ⟨fun _ => ?_, (fun h => nomatch h)⟩
      simp at ht
      obtain ⟨h1, h2⟩ := ht
      simp [came, knw] at h2
      obtain ⟨h2, h3⟩ := h2
      have ho := g.at hx
      have hnd := ho.nd
      refine ⟨getP_yes hp hx, by rw [← hl, owB_at g.uq hx, h1], h3.symm, (by show 0 ≤ x.nd; omega), h1, fun z => ?_⟩
      show owB (l.set i (owesY x)) z = _
      rw [owB_set g.uq hx (y := owesY x) rfl, hl]
      by_cases hz : z = line
      · rw [if_pos hz, hz]; simp [owesY]
      · rw [if_neg hz]
        have : (z == line) = false := by simpa using hz
        rw [this, Bool.false_or]
theorem close_tell {room k : Int} {l : List Ms} (g : Good room k l) (line : Int) :
    ((closeP l line).1 == 0) = owB l line ∧ ∀ z, owB (closeP l line).2 z = if z = line then false else owB l z := by
  have hno : owB l line = false → ∀ z, owB l z = if z = line then false else owB l z := fun h z => by
    split
    · rename_i e; rw [e, h]
    · rfl
  rcases hp : fnd l line with _ | i
  · rw [closeP_none hp]
    have := owB_none hp
    exact ⟨by rw [this]; rfl, hno this⟩
  · obtain ⟨x, hx, hl, _⟩ := fnd_some hp
    have ha := owB_at g.uq hx
    rw [hl] at ha
    rcases Bool.eq_false_or_eq_true x.os with ht | ht
    · rw [closeP_yes hp hx ht]
      refine ⟨by rw [ha, ht]; rfl, fun z => ?_⟩
      rw [owB_erase g.uq hx, hl]
    · rw [closeP_no hp hx ht]
      rw [ht] at ha
      exact ⟨by rw [ha]; rfl, hno ha⟩

/-- An operation that owes. -/
theorem doP_owes {room k : Int} {l m : List Ms} (g : Good room k l) {x : Mo} {y : Ms} {n : Int} (e : doP room l x = ((y, true, n), m)) : x.k = 4 ∧ Owes1 l m x.ln y := by
  unfold doP at e
  split at e
  · cases e
  · split at e
    · cases e
    · split at e
      · cases e
      · split at e
        · cases e
        · split at e
          · rename_i h4
            have h := (owe_tell g x.ln).1
            simp only [Prod.mk.injEq] at e
            obtain ⟨⟨rfl, e2, _⟩, rfl⟩ := e
            exact ⟨h4, h e2⟩
          · cases e
theorem doP_not {room k : Int} {l m : List Ms} (g : Good room k l) {x : Mo} (hk : 0 ≤ x.k ∧ x.k ≤ 4) {y : Ms} {n : Int} (e : doP room l x = ((y, false, n), m)) : ∀ z, owB m z = owB l z := by
  unfold doP at e
  split at e
  · obtain ⟨_, rfl⟩ := (by simpa only [Prod.mk.injEq] using e : (_ ∧ _))
    exact owB_open g _ _
  · split at e
    · obtain ⟨_, rfl⟩ := (by simpa only [Prod.mk.injEq] using e : (_ ∧ _))
      exact owB_chg g _ dataF_keep
    · split at e
      · obtain ⟨_, rfl⟩ := (by simpa only [Prod.mk.injEq] using e : (_ ∧ _))
        exact owB_chg g _ grantF_keep
      · split at e
        · obtain ⟨_, rfl⟩ := (by simpa only [Prod.mk.injEq] using e : (_ ∧ _))
          exact owB_chg g _ ackF_keep
        · split at e
          · have h := (owe_tell g x.ln).2
            simp only [Prod.mk.injEq] at e
            obtain ⟨⟨_, e2, _⟩, rfl⟩ := e
            exact h e2
          · omega
theorem doP_close {room k : Int} {l m : List Ms} (g : Good room k l) {x : Mo} (hk : x.k < 0 ∨ 4 < x.k) {y : Ms} {q : Bool} {n : Int} (e : doP room l x = ((y, q, n), m)) : q = false ∧ (n == 0) = owB l x.ln ∧ ∀ z, owB m z = if z = x.ln then false else owB l z := by
  unfold doP at e
  rw [if_neg (by omega), if_neg (by omega), if_neg (by omega), if_neg (by omega), if_neg (by omega)] at e
  have h := close_tell g x.ln
  simp only [Prod.mk.injEq] at e
  obtain ⟨⟨_, rfl, rfl⟩, rfl⟩ := e
  exact ⟨rfl, h⟩

/-! Which lines there are. -/
def LnIn (l m : List Ms) (line : Int) : Prop := ∀ z ∈ m, z.ln = line ∨ ∃ u ∈ l, u.ln = z.ln
theorem LnIn.refl (l : List Ms) (line : Int) : LnIn l l line := fun z hz => .inr ⟨z, hz, rfl⟩
theorem LnIn.set {l : List Ms} {i : Nat} {x y : Ms} (hx : l[i]? = some x) (hl : y.ln = x.ln) (line : Int) : LnIn l (l.set i y) line := fun z hz => by
  rcases List.mem_or_eq_of_mem_set hz with h1 | rfl
  · exact .inr ⟨z, h1, rfl⟩
  · exact .inr ⟨x, List.mem_of_getElem? hx, hl.symm⟩
theorem lnIn_chg {l : List Ms} (line : Int) {f : Ms → Option Ms} (hf : ∀ x y, f x = some y → y.ln = x.ln ∧ y.os = x.os) : LnIn l (chg l line f).2 line := by
  rcases hp : fnd l line with _ | i
  · rw [chg_none f hp]; exact .refl _ _
  · obtain ⟨x, hx, _, _⟩ := fnd_some hp
    rcases hq : f x with _ | y
    · rw [chg_no hp hx hq]; exact .refl _ _
    · rw [chg_yes hp hx hq]
      exact .set hx (hf x y hq).1 _
theorem lnIn_doP {room : Int} {l m : List Ms} {x : Mo} {r : Ms × Bool × Int} (e : doP room l x = (r, m)) : LnIn l m x.ln := by
  have h : LnIn l (doP room l x).2 x.ln := by
    unfold doP
    split
    · show LnIn l (openP room l x.ln x.n).2 x.ln
      unfold openP
      split
      · exact .refl _ _
      · split
        · exact .refl _ _
        · split
          · exact .refl _ _
          · intro z hz
            rcases List.mem_append.1 hz with h | h
            · exact .inr ⟨z, h, rfl⟩
            · obtain rfl : z = newM x.ln x.n := by simpa using h
              exact .inl rfl
    · split
      · exact lnIn_chg _ dataF_keep
      · split
        · exact lnIn_chg _ grantF_keep
        · split
          · exact lnIn_chg _ ackF_keep
          · split
            · show LnIn l (oweP l x.ln).2 x.ln
              rcases hp : fnd l x.ln with _ | i
              · rw [oweP_none hp]; exact .refl _ _
              · obtain ⟨u, hu, _, _⟩ := fnd_some hp
                rcases Bool.eq_false_or_eq_true (u.os || !came u) with ht | ht
                · rw [oweP_no hp hu ht]; exact .refl _ _
                · rw [oweP_yes hp hu ht]; exact LnIn.set (y := owesY u) hu rfl _
            · show LnIn l (closeP l x.ln).2 x.ln
              rcases hp : fnd l x.ln with _ | i
              · rw [closeP_none hp]; exact .refl _ _
              · obtain ⟨u, hu, _, _⟩ := fnd_some hp
                rcases Bool.eq_false_or_eq_true u.os with ht | ht
                · rw [closeP_yes hp hu ht]
                  exact fun z hz => .inr ⟨z, (List.eraseIdx_sublist l i).subset hz, rfl⟩
                · rw [closeP_no hp hu ht]; exact .refl _ _
  rw [e] at h
  exact h

end Go.Proofs.Ytcfcgejeiihgnaa
