/-
  A slice of operations; what is set is told, in plain words.
-/
import Derived.Test.YtldbepaclddgmaaDoorArK
namespace Go.Proofs.YtldbepaclddgmaaDoor
open Go Go.RowKit Go.Sort

def oc (x : Ao) : List Value := (ocells x).toList
theorem oc_len (x : Ao) : (oc x).length = 11 := rfl
/-- Where a slice's operations lie. -/
def OpsA (w : World) (p : Option Addr) (l : List Ao) : Prop := ∀ i x, l[i]? = some x → ∃ g off, p = some ⟨g, off, none⟩ ∧ g < w.heap.size ∧ w.rangeAt g (off + i * 11) (oc x)
theorem OpsA.step {w w' : World} {p : Option Addr} {l : List Ao} (h : OpsA w p l) (hb : Below w.heap.size w w') : OpsA w' p l := fun i x hx => by
  obtain ⟨g, off, e, hg, hr⟩ := h i x hx
  exact ⟨g, off, e, Nat.lt_of_lt_of_le hg hb.size, fun j v hv => (hb.cell (p := ⟨g, off + i * 11 + j, none⟩) hg).trans (hr j v hv)⟩

theorem set_bad {c : Cfg} {L M : List Wy} {line st : Int} {d : Wd} {e : Int} (h : setP c L line st d = (e, M)) (he : e ≠ 0) : M = L := by
  unfold setP at h
  split at h
  · exact (Prod.mk.inj h).2.symm
  · split at h
    · exact absurd (Prod.mk.inj h).1.symm he
    · exact (Prod.mk.inj h).2.symm
theorem set_err {c : Cfg} {L M : List Wy} {line st : Int} {d : Wd} {e : Int} (h : setP c L line st d = (e, M)) : e = 0 ∨ e = 1 ∨ e = 5 := by
  unfold setP at h
  split at h
  · exact .inr (.inr (Prod.mk.inj h).1.symm)
  · split at h
    · exact .inl (Prod.mk.inj h).1.symm
    · exact .inr (.inl (Prod.mk.inj h).1.symm)
/-- What is set is told. -/
theorem set_good {c : Cfg} {L M : List Wy} (g : Good c L) (sz : Sized c L) {line st : Int} {d : Wd} (h : setP c L line st d = (0, M)) :
    ∃ (k : Nat) (x : Wy), fnd c L line = (x, (k : Int), true) ∧ fnd c M line = if (st != 0 || x.lk) = true then (⟨st, line, wd2 st d, x.lk⟩, (k : Int), true) else (y0, 0, false) := by
  rcases hp : plc c L line with _ | k
  · rw [setP_no st d hp] at h
    cases (Prod.mk.inj h).1
  · obtain ⟨_, hk, x, hx, hx'⟩ := sz.plc_some hp
    by_cases hs : stOk st = true ∧ wOk c d = true
    · rw [setP_yes st d hp hs hx] at h
      obtain ⟨-, rfl⟩ := Prod.mk.inj h
      refine ⟨k, x, fnd_some hp hx, ?_⟩
      have e : setY st d x = ⟨st, line, wd2 st d, x.lk⟩ := by
        obtain ⟨e1, -⟩ := isL_iff.1 hx'
        subst e1
        rfl
      rw [fnd_set_self g sz (setY st d x) hp hx (by rw [e]), e]
      rfl
    · rw [setP_bad st d hp hs] at h
      cases (Prod.mk.inj h).1
/-- Let go: it is there no more, if it is Invalid. -/
theorem lock_tell {c : Cfg} {L : List Wy} (g : Good c L) (sz : Sized c L) {line : Int} {z : Wy} {k : Int} {q : Bool} (h : fnd c L line = (z, k, q)) :
    (fnd c (lockP c L line false).2 line).2.2 = (q && z.st != 0) := by
  rcases hp : plc c L line with _ | m
  · rw [fnd_none hp] at h
    rw [lockP_no false hp, fnd_none hp]
    simp only [Prod.mk.injEq] at h
    obtain ⟨e1, e2, e3⟩ := h
    subst e1 e2 e3
    rfl
  · obtain ⟨_, hk, x, hx, hx'⟩ := sz.plc_some hp
    rw [fnd_some hp hx] at h
    simp only [Prod.mk.injEq] at h
    obtain ⟨e1, e2, e3⟩ := h
    subst e1 e2 e3
    rw [lockP_yes false hp hx, fnd_set_self g sz (lockY false x) hp hx (isL_iff.1 hx').1]
    have e : tk (lockY false x) = (x.st != 0) := by simp [tk, lockY]
    rw [e]
    rcases Bool.eq_false_or_eq_true (x.st != 0) with h0 | h0 <;> simp [h0]

end Go.Proofs.YtldbepaclddgmaaDoor
