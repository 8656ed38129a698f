/-
  Who may have the line behind a request, in plain words.
-/
import Derived.Test.YtfnemldjhfcalaaTbP
namespace Go.Proofs.Ytfnemldjhfcalaa
open Go Go.RowKit Go.Sort

def hasE (e : En) (y : Int) : Bool := hasAll e.s.c e.s.m e.s.l e.s.al y
/-- May a core have the line? -/
def wasB (e : En) (y : Int) : Bool := decide (0 ≤ y) && (e.ow == y || hasE e y)
/-- Is it told to let the line go? -/
def toldX (y : Int) (x : Msg) : Bool := x.to == y && (x.kd == 5 || x.kd == 6)
def toldM (y : Int) (l : List Msg) : Bool := l.any (toldX y)
theorem was_iff {e : En} {y : Int} : wasB e y = true ↔ 0 ≤ y ∧ (e.ow = y ∨ hasE e y = true) := by simp [wasB]

theorem next_take {e : En} {m : Msg} (v : W8) (hg : goodQ e m = true) (hk : m.kd = 2) : ∃ X, nextT e m v = (takeT e m ((baseT e).send m X), 0) ∧ (e.ow ≠ -1 → e.ow ≠ m.fr → X = fwdM e m) := by
  have h0 : ¬ goodQ e m = false := by rw [hg]; simp
  unfold nextT
  rw [if_neg h0, if_neg (by omega), if_pos hk]
  by_cases h1 : e.ow = -1
  · rw [if_pos h1]
    exact ⟨_, rfl, fun h => absurd h1 h⟩
  rw [if_neg h1]
  by_cases h2 : e.ow = m.fr
  · rw [if_pos h2]
    exact ⟨_, rfl, fun _ h => absurd h2 h⟩
  · rw [if_neg h2]
    exact ⟨_, rfl, fun _ _ => rfl⟩
theorem next_share {e : En} {m : Msg} {v : W8} {t : Tn} (hg : goodQ e m = true) (hk : m.kd = 1) (ht : nextT e m v = (t, 0)) : ∃ X, t = shareT e m ((baseT e).send m X) := by
  have h0 : ¬ goodQ e m = false := by rw [hg]; simp
  unfold nextT at ht
  rw [if_neg h0, if_pos hk] at ht
  split at ht
  · exact ⟨_, (Prod.ext_iff.1 ht).1.symm⟩
  · split at ht
    · have := (Prod.ext_iff.1 ht).2
      simp at this
    · exact ⟨_, (Prod.ext_iff.1 ht).1.symm⟩
theorem next_leave {e : En} {m : Msg} {v : W8} (hg : goodQ e m = true) (hk1 : m.kd ≠ 1) (hk2 : m.kd ≠ 2) : nextT e m v = (leaveT e m ((baseT e).send m (ackM m)), 0) := by
  have h0 : ¬ goodQ e m = false := by rw [hg]; simp
  unfold nextT
  rw [if_neg h0, if_neg hk1, if_neg hk2]

theorem alone_take {e : En} {m : Msg} {v : W8} {t : Tn} (hg : goodQ e m = true) (hk : m.kd = 2) (ht : nextT e m v = (t, 0)) (y : Int) :
    wasB t.e y = (y == m.fr) ∧ (wasB e y = true → (y == m.fr) = false → toldM y t.sent = true) ∧ t.e.ow = m.fr := by
  obtain ⟨hm, -, hr⟩ := good_all hg
  obtain ⟨hs, -, -⟩ := may_parts hm
  obtain ⟨hr0, hrc⟩ := hasB_iff.1 hr
  obtain ⟨X, hX, hF⟩ := next_take v hg hk
  have e1 := (Prod.ext_iff.1 (ht.symm.trans hX)).1
  simp only at e1
  subst e1
  obtain ⟨h1, h2⟩ := new_fine hs
  have ho := others_fine hs m.fr
  refine ⟨?_, fun hw hne => ?_, rfl⟩
  · rw [Bool.eq_iff_iff, was_iff, beq_iff_eq]
    have hno : hasE (takeT e m ((baseT e).send m X)).e y = false := by
      simp only [hasE, takeT, h1, hasAll, toldB, List.contains_nil, Bool.or_self, Bool.and_false]
    rw [hno]
    simp only [takeT]
    constructor
    · rintro ⟨_, h | h⟩
      · exact h.symm
      · cases h
    · rintro rfl
      exact ⟨hr0, .inl rfl⟩
  · obtain ⟨hy0, h⟩ := was_iff.1 hw
    have hne' : y ≠ m.fr := by simpa using hne
    unfold toldM
    rw [List.any_eq_true]
    by_cases hy : e.ow = y
    · have hX' := hF (by omega) (by omega)
      refine ⟨sendM m X, by simp [takeT, Tn.send, baseT], ?_⟩
      rw [hX']
      simp [toldX, sendM, fwdM, bareM, hy]
    · have hh : hasE e y = true := by
        rcases h with h | h
        · exact absurd h hy
        · exact h
      have hin := ho.any y hh hne' (fun e => hy e.symm)
      refine ⟨sendM m (invM m y), ?_, ?_⟩
      · simp only [takeT, List.mem_append]
        right
        exact List.mem_map.2 ⟨y, hin, rfl⟩
      · simp [toldX, sendM, invM, bareM]
theorem alone_share {e : En} {m : Msg} {v : W8} {t : Tn} (hg : goodQ e m = true) (hk : m.kd = 1) (ht : nextT e m v = (t, 0)) (y : Int) :
    (wasB e y = true → wasB t.e y = true) ∧ (y = m.fr → wasB t.e y = true) := by
  obtain ⟨hm, -, hr⟩ := good_all hg
  obtain ⟨hs, -, -⟩ := may_parts hm
  obtain ⟨hr0, hrc⟩ := hasB_iff.1 hr
  obtain ⟨X, rfl⟩ := next_share hg hk ht
  rcases Bool.eq_false_or_eq_true e.free with hf | hf
  · obtain ⟨h1, -⟩ := free_fine hs hf
    have e1 : (shareT e m ((baseT e).send m X)).e = ⟨m.fr, e.s⟩ := by unfold shareT; rw [if_pos hf]; rfl
    rw [e1]
    refine ⟨fun hw => ?_, fun hy => was_iff.2 ⟨by omega, .inl hy.symm⟩⟩
    obtain ⟨hy0, h⟩ := was_iff.1 hw
    rcases h with h | h
    · omega
    · exact was_iff.2 ⟨hy0, .inr h⟩
  · obtain ⟨w1, w2, w3, w4⟩ := with_fine hs hr
    have e1 : (shareT e m ((baseT e).send m X)).e = ⟨e.ow, withS e.s m.fr⟩ := by unfold shareT; rw [if_neg (by rw [hf]; simp), add_fine hs hr]; rfl
    rw [e1]
    have key : ∀ y, hasB e.s.c y = true → toldB (withS e.s m.fr).l (withS e.s m.fr).al y = true → hasE ⟨e.ow, withS e.s m.fr⟩ y = true := fun y h1 h2 => by
      unfold hasE hasAll
      rw [show mayB (withS e.s m.fr).c (withS e.s m.fr).m (withS e.s m.fr).l (withS e.s m.fr).al = true from w1, h2, w2, h1]
      rfl
    refine ⟨fun hw => ?_, fun hy => was_iff.2 ⟨by omega, .inr (by rw [hy]; exact key _ hr w4)⟩⟩
    obtain ⟨hy0, h⟩ := was_iff.1 hw
    rcases h with h | h
    · exact was_iff.2 ⟨hy0, .inl h⟩
    · simp only [hasE, hasAll, Bool.and_eq_true] at h
      exact was_iff.2 ⟨hy0, .inr (key y h.1.2 (w3 y h.2))⟩
theorem alone_leave {e : En} {m : Msg} {v : W8} {t : Tn} (hg : goodQ e m = true) (hk1 : m.kd ≠ 1) (hk2 : m.kd ≠ 2) (ht : nextT e m v = (t, 0)) :
    t.wr = (e.ow == m.fr) ∧ (t.e.ow != m.fr) = true ∧ t.e.s = e.s := by
  obtain ⟨-, -, hr⟩ := good_all hg
  obtain ⟨hr0, -⟩ := hasB_iff.1 hr
  have e1 := (Prod.ext_iff.1 (ht.symm.trans (next_leave hg hk1 hk2))).1
  simp only at e1
  subst e1
  by_cases h : e.ow = m.fr
  · have e2 : leaveT e m ((baseT e).send m (ackM m)) = ⟨⟨-1, e.s⟩, ((baseT e).send m (ackM m)).sent, true⟩ := by unfold leaveT; rw [if_pos h]; rfl
    rw [e2]
    exact ⟨by simp [h], by simp; omega, rfl⟩
  · have e2 : leaveT e m ((baseT e).send m (ackM m)) = (baseT e).send m (ackM m) := by unfold leaveT; rw [if_neg h]
    rw [e2]
    exact ⟨by simp [baseT, Tn.send, h], by simpa [baseT, Tn.send] using h, rfl⟩
theorem told_more (y : Int) (l : List Msg) (k : Nat) (x : Msg) (hx : l[k]? = some x) : toldM y (l.take (k + 1)) = (toldM y (l.take k) || toldX y x) := by
  unfold toldM
  rw [List.take_add_one, hx]
  simp

end Go.Proofs.Ytfnemldjhfcalaa
