/-
  What follows of what a home does with a request, in plain words.
-/
import Derived.Test.YtfnemldjhfcalaaTbE
import Derived.Test.YtfnemldjhfcalaaShU
namespace Go.Proofs.Ytfnemldjhfcalaa
open Go Go.RowKit Go.Sort

theorem ins_mem (l : List Int) (i : Nat) (x y : Int) : (insAt l i x).contains y = (l.contains y || y == x) := by
  rw [Bool.eq_iff_iff, List.contains_iff_mem, Bool.or_eq_true, List.contains_iff_mem, beq_iff_eq]
  unfold insAt
  rw [List.mem_append, List.mem_cons]
  constructor
  · rintro (h | h | h)
    · exact .inl (List.mem_of_mem_take h)
    · exact .inr h
    · exact .inl (List.mem_of_mem_drop h)
  · rintro (h | h)
    · rw [← List.take_append_drop i l, List.mem_append] at h
      rcases h with h | h
      · exact .inl h
      · exact .inr (.inr h)
    · exact .inr (.inl h)
/-- A set with a core more. -/
theorem with_fine {s : St} {x : Int} (hm : s.may = true) (hx : hasB s.c x = true) : (withS s x).may = true ∧ (withS s x).c = s.c ∧ (∀ y, toldB s.l s.al y = true → toldB (withS s x).l (withS s x).al y = true) ∧ toldB (withS s x).l (withS s x).al x = true := by
  rcases Bool.eq_false_or_eq_true (toldB s.l s.al x) with ht | ht
  · have e : withS s x = s := by unfold withS; rw [if_pos ht]
    rw [e]
    exact ⟨hm, rfl, fun _ h => h, ht⟩
  by_cases hf : (s.l.length : Int) = s.m
  · have e : withS s x = ⟨s.c, s.m, [], true⟩ := by unfold withS; rw [if_neg (by rw [ht]; simp), if_pos hf]
    rw [e]
    obtain ⟨h1, h2, h3, h4, -⟩ := may_bounds hm
    refine ⟨?_, rfl, fun _ _ => rfl, rfl⟩
    simp [St.may, mayB, h1, h2, h3, h4, risesB]
  · have e : withS s x = ⟨s.c, s.m, insAt s.l (less s.l x) x, s.al⟩ := by unfold withS; rw [if_neg (by rw [ht]; simp), if_neg hf]
    rw [e]
    obtain ⟨h1, h2, h3, h4, -⟩ := may_bounds hm
    obtain ⟨hx0, hxc⟩ := hasB_iff.1 hx
    have hal : s.al = false := by cases h : s.al with | false => rfl | true => rw [h] at ht; simp [toldB] at ht
    have hnc : s.l.contains x = false := by rw [hal] at ht; simpa [toldB] using ht
    have hri := may_rises hm
    obtain ⟨cn, hcn⟩ : ∃ cn : Nat, s.c = cn := ⟨s.c.toNat, by omega⟩
    have hin := moreL_ins (by rw [← hcn]; exact hri) hx0 (by omega) hnc
    have hle : (s.l.length : Int) ≤ s.m := by
      have := hm
      simp only [St.may, mayB, hal, Bool.and_eq_true, decide_eq_true_eq, Bool.false_eq_true, if_false] at this
      exact this.1.2
    refine ⟨?_, rfl, fun y hy => ?_, ?_⟩
    · have hr : risesB s.c 0 (insAt s.l (less s.l x) x) = true := by
        rw [← hin, hcn]
        exact canon_rises _ _
      simp only [St.may, mayB, hal, Bool.and_eq_true, decide_eq_true_eq, Bool.false_eq_true, if_false]
      rw [insAt_len _ _ _ (less_le _ _)]
      refine ⟨⟨⟨⟨⟨h1, h2⟩, h3⟩, h4⟩, ?_⟩, hr⟩
      push_cast
      omega
    · rw [hal] at hy
      have : s.l.contains y = true := by simpa [toldB] using hy
      simp only [toldB, ins_mem, this, Bool.true_or, Bool.or_true]
    · simp only [toldB, ins_mem, beq_self_eq_true, Bool.or_true]
theorem add_fine {s : St} {x : Int} (hm : s.may = true) (hx : hasB s.c x = true) : (addS s x).1 = withS s x := by unfold addS; rw [if_pos hm, if_pos hx]
theorem new_fine {s : St} (hm : s.may = true) : (newS s.c s.m).1 = ⟨s.c, s.m, [], false⟩ ∧ (St.mk s.c s.m [] false).may = true := by
  obtain ⟨h1, h2, h3, h4, -⟩ := may_bounds hm
  have := may_new.2 ⟨h1, h2, h3, h4⟩
  exact ⟨by unfold newS; rw [if_pos this], this⟩
/-- Nobody shares it: then there is no pointer. -/
theorem free_fine {e : En} (hm : e.s.may = true) (hf : e.free = true) : e.ow = -1 ∧ e.s = ⟨e.s.c, e.s.m, [], false⟩ := by
  simp only [En.free, Bool.and_eq_true, beq_iff_eq] at hf
  obtain ⟨h0, hl⟩ := hf
  have hlen : (targetsS e.s []).length = 0 := by omega
  have hnil := List.eq_nil_of_length_eq_zero hlen
  unfold targetsS at hnil
  rw [if_pos hm] at hnil
  obtain ⟨h1, h2, h3, h4, -⟩ := may_bounds hm
  have hno : ∀ x : Int, 0 ≤ x → x < e.s.c → toldB e.s.l e.s.al x = false := fun x hx0 hxc => by
    rcases Bool.eq_false_or_eq_true (toldB e.s.l e.s.al x) with h | h
    · exfalso
      have : x ∈ pickS e.s.l e.s.al [] e.s.c.toNat := by
        unfold pickS
        rw [List.mem_filter, mem_upTo]
        exact ⟨⟨hx0, by omega⟩, by simp [h]⟩
      rw [hnil] at this
      simp at this
    · exact h
  have hal : e.s.al = false := by
    cases h : e.s.al with
    | false => rfl
    | true => have := hno 0 (by omega) (by omega); rw [h] at this; simp [toldB] at this
  have hll : e.s.l = [] := by
    cases h : e.s.l with
    | nil => rfl
    | cons y t =>
      have hr := may_rises hm
      obtain ⟨-, ha⟩ := rises_all hr
      have hy := ha y (by rw [h]; simp)
      have := hno y hy.2.1 hy.2.2
      rw [h, hal] at this
      simp [toldB] at this
  refine ⟨h0, ?_⟩
  cases hs : e.s with
  | mk c m l al => rw [hs] at hal hll; simp only at hal hll; rw [hal, hll]

/-- The others: rising, from 0 on, sharers, neither who asked nor the owner. -/
structure Oth (e : En) (r : Int) (L : List Int) : Prop where
  up : L.Pairwise (· < ·)
  all : ∀ y ∈ L, 0 ≤ y ∧ y < e.s.c ∧ y ≠ r ∧ y ≠ e.ow ∧ hasAll e.s.c e.s.m e.s.l e.s.al y = true
  any : ∀ y, hasAll e.s.c e.s.m e.s.l e.s.al y = true → y ≠ r → y ≠ e.ow → y ∈ L
theorem others_fine {e : En} (hm : e.s.may = true) (r : Int) : Oth e r (e.others r) := by
  have ho : e.others r = pickS e.s.l e.s.al [r, e.ow] e.s.c.toNat := by unfold En.others targetsS; rw [if_pos hm]
  obtain ⟨h1, h2, h3, h4, -⟩ := may_bounds hm
  have hmem : ∀ y, y ∈ pickS e.s.l e.s.al [r, e.ow] e.s.c.toNat ↔ (0 ≤ y ∧ y < e.s.c) ∧ toldB e.s.l e.s.al y = true ∧ y ≠ r ∧ y ≠ e.ow := fun y => by
    unfold pickS
    rw [List.mem_filter, mem_upTo, Bool.and_eq_true]
    have e1 : (y < (e.s.c.toNat : Int)) ↔ y < e.s.c := by omega
    rw [e1]
    refine and_congr_right fun _ => and_congr_right fun _ => ?_
    simp
  rw [ho]
  refine ⟨(upTo_sorted _).filter _, fun y hy => ?_, fun y hy hr hw => ?_⟩
  · obtain ⟨⟨hy0, hyc⟩, ht, hr, hw⟩ := (hmem y).1 hy
    exact ⟨hy0, hyc, hr, hw, by unfold hasAll; rw [show mayB e.s.c e.s.m e.s.l e.s.al = true from hm, hasB_iff.2 ⟨hy0, hyc⟩, ht]; rfl⟩
  · simp only [hasAll, Bool.and_eq_true] at hy
    exact (hmem y).2 ⟨hasB_iff.1 hy.1.2, hy.2, hr, hw⟩

/-- A turn of a request that was answered: what is sent first, and then. -/
structure Fine (e : En) (m : Msg) (t : Tn) (X : Msg) (L : List Int) : Prop where
  sent : t.sent = sendM m X :: invs m L
  may : t.e.may = true
  kd : X.kd ≠ 6
  to : X.to = m.fr ∨ (X.wh = m.fr ∧ X.to = e.ow)
  ac : X.ac = L.length
  oth : ∀ y ∈ L, 0 ≤ y ∧ y ≠ m.fr ∧ y ≠ e.ow ∧ hasAll e.s.c e.s.m e.s.l e.s.al y = true
  up : L.Pairwise (· < ·)
  len : L.length ≤ 64
theorem share_fine {e : En} {m : Msg} (hg : goodQ e m = true) (X : Msg) (hk : X.kd ≠ 6) (ht : X.to = m.fr ∨ (X.wh = m.fr ∧ X.to = e.ow)) (ha : X.ac = 0) : Fine e m (shareT e m ((baseT e).send m X)) X [] := by
  obtain ⟨hm, -, hr⟩ := good_all hg
  obtain ⟨hs, -, -⟩ := may_parts hm
  refine ⟨?_, ?_, hk, ht, by simpa using ha, fun y hy => (by cases hy), List.Pairwise.nil, by simp⟩
  · unfold shareT; split <;> rfl
  · unfold shareT
    split
    · simp only [En.may, baseT, Tn.send, hs, hr, Bool.or_true, Bool.and_true]
    · rw [add_fine hs hr]
      obtain ⟨h1, h2, -, -⟩ := with_fine hs hr
      simp only [En.may, baseT, Tn.send, h1, h2, Bool.true_and]
      simp only [En.may, Bool.and_eq_true] at hm
      exact hm.2
theorem take_fine {e : En} {m : Msg} (hg : goodQ e m = true) (X : Msg) (hk : X.kd ≠ 6) (ht : X.to = m.fr ∨ (X.wh = m.fr ∧ X.to = e.ow)) (ha : X.ac = (e.others m.fr).length) : Fine e m (takeT e m ((baseT e).send m X)) X (e.others m.fr) := by
  obtain ⟨hm, -, hr⟩ := good_all hg
  obtain ⟨hs, -, -⟩ := may_parts hm
  have ho := others_fine hs m.fr
  obtain ⟨h1, h2⟩ := new_fine hs
  refine ⟨rfl, ?_, hk, ht, ha, fun y hy => ⟨(ho.all y hy).1, (ho.all y hy).2.2.1, (ho.all y hy).2.2.2.1, (ho.all y hy).2.2.2.2⟩, ho.up, others_len e m.fr⟩
  simp only [takeT, En.may, h1, h2, hr, Bool.or_true, Bool.and_true]
theorem leave_fine {e : En} {m : Msg} (hg : goodQ e m = true) : Fine e m (leaveT e m ((baseT e).send m (ackM m))) (ackM m) [] := by
  obtain ⟨hm, -, hr⟩ := good_all hg
  obtain ⟨hs, -, -⟩ := may_parts hm
  refine ⟨?_, ?_, by simp [ackM, bareM], .inl rfl, rfl, fun y hy => (by cases hy), List.Pairwise.nil, by simp⟩
  · unfold leaveT; split <;> rfl
  · unfold leaveT
    split
    · simp only [En.may, baseT, Tn.send, hs]
      rfl
    · exact hm
/-- Either nothing comes of it, or what is sent is as it should be. -/
theorem next_fine (e : En) (m : Msg) (v : W8) : (∃ err, nextT e m v = (zT, err) ∧ err ≠ 0) ∨ (goodQ e m = true ∧ ∃ t X L, nextT e m v = (t, 0) ∧ Fine e m t X L) := by
  rcases Bool.eq_false_or_eq_true (goodQ e m) with hg | hg
  · have h0 : ¬ goodQ e m = false := by rw [hg]; simp
    unfold nextT
    rw [if_neg h0]
    by_cases k1 : m.kd = 1
    · rw [if_pos k1]
      by_cases h1 : e.ow = -1
      · rw [if_pos h1]
        exact .inr ⟨hg, _, _, _, rfl, share_fine hg _ (by simp [readM, fullM]) (.inl rfl) rfl⟩
      rw [if_neg h1]
      by_cases h2 : e.ow = m.fr
      · rw [if_pos h2]
        exact .inl ⟨7, rfl, by decide⟩
      · rw [if_neg h2]
        exact .inr ⟨hg, _, _, _, rfl, share_fine hg _ (by simp [fwdS, bareM]) (.inr ⟨rfl, rfl⟩) rfl⟩
    rw [if_neg k1]
    by_cases k2 : m.kd = 2
    · rw [if_pos k2]
      by_cases h1 : e.ow = -1
      · rw [if_pos h1]
        exact .inr ⟨hg, _, _, _, rfl, take_fine hg _ (by simp [wrtM, fullM]) (.inl rfl) rfl⟩
      rw [if_neg h1]
      by_cases h2 : e.ow = m.fr
      · rw [if_pos h2]
        exact .inr ⟨hg, _, _, _, rfl, take_fine hg _ (by simp [grtM, bareM]) (.inl rfl) rfl⟩
      · rw [if_neg h2]
        exact .inr ⟨hg, _, _, _, rfl, take_fine hg _ (by simp [fwdM, bareM]) (.inr ⟨rfl, rfl⟩) rfl⟩
    · rw [if_neg k2]
      exact .inr ⟨hg, _, _, _, rfl, leave_fine hg⟩
  · exact .inl ⟨1, by unfold nextT; rw [if_pos hg], by decide⟩

end Go.Proofs.Ytfnemldjhfcalaa
