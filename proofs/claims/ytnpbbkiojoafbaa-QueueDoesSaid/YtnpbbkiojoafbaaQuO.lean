/-
  What follows of a queue's calls, in plain words: who is started is the first of its line; an operation changes one entry at most. No program is spoken of here.
-/
import Derived.Test.YtnpbbkiojoafbaaQuM
namespace Go.Proofs.Ytnpbbkiojoafbaa
open Go Go.RowKit

/-- Who is started is the first of its line. -/
def Fs (l : List En) : Prop := l.Pairwise (fun y x => x.st = true → y.m.ln ≠ x.m.ln)
def seenF (l : List En) (y : Int) : Bool := l.any (isL y)
theorem find_first {l : List En} {i : Nat} {x : En} (hx : l[i]? = some x) : (l.findIdx? (isL x.m.ln) == some i) = !seenF (l.take i) x.m.ln := by
  have hs : isL x.m.ln x = true := by simp [isL]
  cases hq : seenF (l.take i) x.m.ln with
  | false =>
    have : l.findIdx? (isL x.m.ln) = some i := find_some hx hs fun j y hj hy => by
      have h1 : (l.take i).any (isL x.m.ln) = false := hq
      rw [List.any_eq_false] at h1
      have := h1 y (List.mem_of_getElem? (i := j) (by rw [List.getElem?_take, if_pos hj]; exact hy))
      simpa using this
    rw [this]
    simp
  | true =>
    have h1 : (l.take i).any (isL x.m.ln) = true := hq
    rw [List.any_eq_true] at h1
    obtain ⟨y, hy, hp⟩ := h1
    obtain ⟨j, hj, rfl⟩ := List.getElem_of_mem hy
    rw [List.length_take] at hj
    rw [List.getElem_take] at hp
    cases hf : l.findIdx? (isL x.m.ln) with
    | none => simp
    | some k =>
      obtain ⟨hk, _, hlt⟩ := List.findIdx?_eq_some_iff_getElem.1 hf
      have : k ≤ j := by
        rcases Nat.lt_or_ge j k with h | h
        · exact absurd hp (hlt j h)
        · exact h
      simp
      omega
theorem rdy_first {l : List En} {i : Nat} {x : En} (hx : l[i]? = some x) : rdy l i = (!x.st && !seenF (l.take i) x.m.ln) := by rw [rdy_at hx, find_first hx]
theorem Fs.at_ {l : List En} (h : Fs l) {i : Nat} {x : En} (hx : l[i]? = some x) (hs : x.st = true) : seenF (l.take i) x.m.ln = false := by
  unfold seenF
  rw [List.any_eq_false]
  intro y hy
  obtain ⟨j, hj, rfl⟩ := List.getElem_of_mem hy
  rw [List.length_take] at hj
  obtain ⟨hi, rfl⟩ := List.getElem?_eq_some_iff.1 hx
  rw [List.getElem_take]
  have := List.pairwise_iff_getElem.1 h j i (by omega) hi (by omega) hs
  simpa [isL] using this
theorem Fs.erase {l : List En} (h : Fs l) (i : Nat) : Fs (l.eraseIdx i) := List.Pairwise.sublist (List.eraseIdx_sublist l i) h
theorem Fs.add {l : List En} (h : Fs l) (m : Msg) : Fs (l ++ [⟨m, false, []⟩]) := by
  unfold Fs
  rw [List.pairwise_append]
  refine ⟨h, by simp, fun a _ b hb hs => ?_⟩
  obtain rfl : b = ⟨m, false, []⟩ := by simpa using hb
  cases hs
theorem Fs.set {l : List En} (h : Fs l) {i : Nat} {x y : En} (hx : l[i]? = some x) (hm : y.m = x.m) (hs : y.st = true → x.st = true ∨ seenF (l.take i) x.m.ln = false) : Fs (l.set i y) := by
  obtain ⟨hi, rfl⟩ := List.getElem?_eq_some_iff.1 hx
  refine List.pairwise_iff_getElem.2 fun a b ha hb hab hst => ?_
  rw [List.length_set] at ha hb
  have hP := List.pairwise_iff_getElem.1 h a b ha hb hab
  rw [List.getElem_set] at hst ⊢
  rw [List.getElem_set]
  by_cases hib : i = b
  · subst hib
    rw [if_pos rfl] at hst ⊢
    rw [if_neg (by omega), hm]
    rcases hs hst with h1 | h1
    · exact hP h1
    · intro e
      have h2 : (l.take i).any (isL l[i].m.ln) = false := h1
      rw [List.any_eq_false] at h2
      have := h2 l[a] (List.mem_of_getElem? (i := a) (by rw [List.getElem?_take, if_pos hab]; exact List.getElem?_eq_getElem ha))
      simp [isL, e] at this
  · rw [if_neg hib] at hst ⊢
    by_cases hia : i = a
    · subst hia
      rw [if_pos rfl, hm]
      exact hP hst
    · rw [if_neg hia]
      exact hP hst
/-- What an operation makes of a queue. -/
theorem doP_ways {room : Int} {l : List En} (gd : Good room l) (x : Qo) {y : Msg} {q : Bool} {n : Int} {m : List En} (e : doP room l x = ((y, q, n), m)) :
    (n ≠ 0 ∧ m = l) ∨ (n = 0 ∧ x.k = 0 ∧ m = l ++ [⟨x.m, false, []⟩]) ∨ (n = 0 ∧ x.k ≠ 0 ∧ x.k ≠ 1 ∧ ∃ i, i < l.length ∧ m = l.eraseIdx i) ∨
    (n = 0 ∧ (x.k = 1 ∨ x.k = 2) ∧ ∃ (i : Nat) (z z' : En), x.n = i ∧ l[i]? = some z ∧ m = l.set i z' ∧ z'.m = z.m ∧ z'.st = true ∧ z' ≠ z ∧ (z.st = true ∨ seenF (l.take i) z.m.ln = false)) := by
  unfold doP at e
  by_cases k0 : x.k = 0
  · rw [if_pos k0] at e
    obtain ⟨⟨-, -, rfl⟩, rfl⟩ := (by simpa only [Prod.mk.injEq] using e : ((_ ∧ _ ∧ _) ∧ _))
    cases hk : rq x.m.kd with
    | false => rw [addP_kind hk]; exact .inl ⟨by simp, rfl⟩
    | true =>
      by_cases hl : (l.length : Int) = room
      · rw [addP_full hk hl]; exact .inl ⟨by simp, rfl⟩
      · rw [addP_yes hk hl]; exact .inr (.inl ⟨rfl, k0, rfl⟩)
  · rw [if_neg k0] at e
    by_cases k1 : x.k = 1
    · rw [if_pos k1] at e
      obtain ⟨⟨-, -, rfl⟩, rfl⟩ := (by simpa only [Prod.mk.injEq] using e : ((_ ∧ _ ∧ _) ∧ _))
      rcases inn_cases l x.n with ho | ⟨i, z, hi, hz⟩
      · rw [startP_out ho]; exact .inl ⟨by simp, rfl⟩
      · rw [hi]
        by_cases hr : rdy l i = false ∨ x.l = []
        · rw [startP_no hz hr]; exact .inl ⟨by simp, rfl⟩
        · simp only [not_or, Bool.not_eq_false] at hr
          rw [startP_yes hz hr.1 hr.2]
          have hf := hr.1
          rw [rdy_first hz] at hf
          simp only [Bool.and_eq_true, Bool.not_eq_true'] at hf
          refine .inr (.inr (.inr ⟨rfl, .inl k1, i, z, _, rfl, hz, rfl, rfl, rfl, fun e => ?_, .inr hf.2⟩))
          have := congrArg En.st e
          rw [hf.1] at this
          cases this
    · rw [if_neg k1] at e
      by_cases k2 : x.k = 2
      · rw [if_pos k2] at e
        obtain ⟨⟨-, -, rfl⟩, rfl⟩ := (by simpa only [Prod.mk.injEq] using e : ((_ ∧ _ ∧ _) ∧ _))
        rcases inn_cases l x.n with ho | ⟨i, z, hi, hz⟩
        · rw [sentP_out ho]; exact .inl ⟨by simp, rfl⟩
        · rw [hi]
          rcases hs : z.l with _ | ⟨a, r⟩
          · rw [sentP_no hz hs]; exact .inl ⟨by simp, rfl⟩
          · have hst := gd.off z (List.mem_of_getElem? hz) (by simp [hs])
            by_cases hk : r = [] ∧ z.m.kd = 3
            · obtain ⟨rfl, hk⟩ := hk
              rw [sentP_gone hz hs hk]
              exact .inr (.inr (.inl ⟨rfl, k0, k1, i, (List.getElem?_eq_some_iff.1 hz).1, rfl⟩))
            · rw [sentP_yes hz hs hk]
              refine .inr (.inr (.inr ⟨rfl, .inr k2, i, z, _, rfl, hz, rfl, rfl, hst, fun e => ?_, .inl hst⟩))
              have := congrArg (fun u : En => u.l.length) e
              simp [hs] at this
      · rw [if_neg k2] at e
        obtain ⟨⟨-, -, rfl⟩, rfl⟩ := (by simpa only [Prod.mk.injEq] using e : ((_ ∧ _ ∧ _) ∧ _))
        rcases hp : l.findIdx? (isF x.m.ln x.m.fr) with _ | i
        · rw [finP_none hp]; exact .inl ⟨by simp, rfl⟩
        · rw [finP_some hp]
          obtain ⟨z, hz, _, hi⟩ := find_at hp
          exact .inr (.inr (.inl ⟨rfl, k0, k1, i, hi, rfl⟩))
theorem Fs.doP {room : Int} {l : List En} (h : Fs l) (gd : Good room l) (x : Qo) {y : Msg} {q : Bool} {n : Int} {m : List En} (e : doP room l x = ((y, q, n), m)) : Fs m := by
  rcases doP_ways gd x e with ⟨_, rfl⟩ | ⟨_, _, rfl⟩ | ⟨_, _, _, i, _, rfl⟩ | ⟨_, _, i, z, z', _, hz, rfl, hm, hs, _, hw⟩
  · exact h
  · exact h.add _
  · exact h.erase i
  · exact h.set hz hm fun _ => hw
/-- What is asked of each entry, in the order of the list. -/
theorem first_ways {room : Int} {l : List En} (h : Fs l) (gd : Good room l) {i : Nat} {x : En} (hx : l[i]? = some x) :
    (seenF (l.take i) x.m.ln = false ∧ x.st = false ∧ rdy l i = true ∧ x.l = []) ∨ (seenF (l.take i) x.m.ln = false ∧ x.st = true ∧ rdy l i = false) ∨ (seenF (l.take i) x.m.ln = true ∧ x.st = false ∧ rdy l i = false ∧ x.l = [] ∧ 0 < i) := by
  have hr := rdy_first hx
  cases hs : x.st with
  | true =>
    have hq := h.at_ hx hs
    rw [hs, hq] at hr
    exact .inr (.inl ⟨hq, rfl, hr⟩)
  | false =>
    have hl : x.l = [] := by
      by_cases hn : x.l = []
      · exact hn
      · have := gd.off x (List.mem_of_getElem? hx) hn
        rw [hs] at this
        cases this
    cases hq : seenF (l.take i) x.m.ln with
    | false =>
      rw [hs, hq] at hr
      exact .inl ⟨rfl, rfl, hr, hl⟩
    | true =>
      rw [hs, hq] at hr
      refine .inr (.inr ⟨rfl, rfl, hr, hl, ?_⟩)
      rcases Nat.eq_zero_or_pos i with h0 | h0
      · subst h0
        simp [seenF] at hq
      · exact h0
theorem seen_take {l : List En} {i : Nat} {x : En} (hx : l[i]? = some x) (y : Int) : seenF (l.take (i + 1)) y = if y = x.m.ln then true else seenF (l.take i) y := by
  unfold seenF
  rw [List.take_add_one, hx, List.any_append]
  simp only [Option.toList_some, List.any_cons, List.any_nil, Bool.or_false, isL]
  split
  · rename_i h
    simp [h]
  · rename_i h
    have : (x.m.ln == y) = false := by simpa using fun e => h e.symm
    simp [this]

end Go.Proofs.Ytnpbbkiojoafbaa
