/-
  What is known of a line behind each call, in plain words.
-/
import Derived.Test.YtlhecliamhjobaaWbM
namespace Go.Proofs.Ytlhecliamhjobaa
open Go Go.RowKit

abbrev wdF (l : List En) (y : Int) : Wd := (getP l y).1.wd
abbrev lvF (l : List En) (y : Int) : Bool := (getP l y).1.lv
abbrev hsF (l : List En) (y : Int) : Bool := (getP l y).2
theorem get_cases (l : List En) (y : Int) : (∃ x ∈ l, x.ln = y ∧ getP l y = (x, true)) ∨ ((∀ x ∈ l, x.ln ≠ y) ∧ getP l y = (m0, false)) := by
  rcases hp : fnd l y with _ | i
  · exact .inr ⟨fnd_none hp, getP_none hp⟩
  · obtain ⟨x, hx, e, _⟩ := fnd_some hp
    exact .inl ⟨x, List.mem_of_getElem? hx, e, getP_yes hp hx⟩
theorem get_mem {l : List En} (hn : (l.map En.ln).Nodup) {x : En} (hx : x ∈ l) : getP l x.ln = (x, true) := by
  obtain ⟨i, hi, rfl⟩ := List.getElem_of_mem hx
  have h := List.getElem?_eq_getElem hi
  exact getP_yes (fnd_at hn h) h
theorem get_not {l : List En} {y : Int} (h : ∀ x ∈ l, x.ln ≠ y) : getP l y = (m0, false) := by
  rcases get_cases l y with ⟨x, hx, e, _⟩ | ⟨_, e⟩
  · exact absurd e (h x hx)
  · exact e
theorem get_put {l : List En} {e : En} (hn : ((l ++ [e]).map En.ln).Nodup) (y : Int) : getP (l ++ [e]) y = if y = e.ln then (e, true) else getP l y := by
  by_cases hy : y = e.ln
  · rw [if_pos hy, hy]
    exact get_mem hn (by simp)
  · rw [if_neg hy]
    rcases get_cases l y with ⟨x, hx, h1, h2⟩ | ⟨h1, h2⟩
    · rw [h2, ← h1]
      exact get_mem hn (by simp [hx])
    · rw [h2]
      refine get_not fun z hz => ?_
      rcases List.mem_append.1 hz with hz | hz
      · exact h1 z hz
      · obtain rfl : z = e := by simpa using hz
        exact fun e => hy e.symm
theorem mem_other {l : List En} {i : Nat} {x z : En} (hx : l[i]? = some x) (hz : z ∈ l) (h : z.ln ≠ x.ln) : ∃ j, j ≠ i ∧ l[j]? = some z := by
  obtain ⟨j, hj, rfl⟩ := List.getElem_of_mem hz
  refine ⟨j, fun e => h ?_, List.getElem?_eq_getElem hj⟩
  subst e
  have : l[j]? = some l[j] := List.getElem?_eq_getElem hj
  rw [hx] at this
  rw [Option.some.inj this]
theorem get_set {l : List En} {i : Nat} {x z : En} (hx : l[i]? = some x) (hl : z.ln = x.ln) (hn : ((l.set i z).map En.ln).Nodup) (y : Int) : getP (l.set i z) y = if y = x.ln then (z, true) else getP l y := by
  have hi := (List.getElem?_eq_some_iff.1 hx).1
  by_cases hy : y = x.ln
  · rw [if_pos hy, hy, ← hl]
    exact get_mem hn (List.mem_of_getElem? (i := i) (by simp [hi]))
  · rw [if_neg hy]
    rcases get_cases l y with ⟨u, hu, h1, h2⟩ | ⟨h1, h2⟩
    · rw [h2, ← h1]
      obtain ⟨j, hj, hu'⟩ := mem_other hx hu (by rw [h1]; exact hy)
      exact get_mem hn (List.mem_of_getElem? (i := j) (by rw [List.getElem?_set_ne (by omega)]; exact hu'))
    · rw [h2]
      refine get_not fun u hu => ?_
      rcases List.mem_or_eq_of_mem_set hu with hu | rfl
      · exact h1 u hu
      · rw [hl]; exact fun e => hy e.symm
theorem get_erase {l : List En} {i : Nat} {x : En} (hx : l[i]? = some x) (hn : (l.map En.ln).Nodup) (y : Int) : getP (l.eraseIdx i) y = if y = x.ln then (m0, false) else getP l y := by
  have hs := List.eraseIdx_sublist l i
  by_cases hy : y = x.ln
  · rw [if_pos hy]
    refine get_not fun u hu => ?_
    obtain ⟨j, hji, hu'⟩ := List.mem_eraseIdx_iff_getElem?.1 hu
    rw [hy]
    intro e
    have h1 := fnd_at hn hu'
    have h2 := fnd_at hn hx
    rw [e, h2] at h1
    exact hji (Option.some.inj h1).symm
  · rw [if_neg hy]
    rcases get_cases l y with ⟨u, hu, h1, h2⟩ | ⟨h1, h2⟩
    · rw [h2, ← h1]
      obtain ⟨j, hj, hu'⟩ := mem_other hx hu (by rw [h1]; exact hy)
      exact get_mem (hn.sublist (hs.map _)) (List.mem_eraseIdx_iff_getElem?.2 ⟨j, hj, hu'⟩)
    · rw [h2]
      exact get_not fun u hu => h1 u (hs.subset hu)

/-! What each call answers, and what is known behind it. -/
theorem once_put {room : Int} {l m : List En} {line n : Int} {d : Wd} {y0 : En} {q0 : Bool} (gd : Good room l) (hG : getP l line = (y0, q0)) (e : putP room l line d = (n, m)) :
    (n = 0 ∧ q0 = false ∧ ((l.length : Int) == room) = false ∧ m.length = l.length + 1 ∧ ∀ y, getP m y = if y = line then (newE line d, true) else getP l y) ∨ ((n = 6 ∧ q0 = true ∨ n = 4 ∧ q0 = false ∧ ((l.length : Int) == room) = true) ∧ m = l) := by
  have hg := gd.put line d
  rcases hp : fnd l line with _ | i
  · rw [getP_none hp] at hG
    obtain ⟨rfl, rfl⟩ := Prod.mk.inj hG
    by_cases hl : (l.length : Int) = room
    · rw [putP_full d hp hl] at e
      obtain ⟨rfl, rfl⟩ := Prod.mk.inj e
      exact .inr ⟨.inr ⟨rfl, rfl, by simpa using hl⟩, rfl⟩
    · rw [putP_yes d hp hl] at e hg
      obtain ⟨rfl, rfl⟩ := Prod.mk.inj e
      exact .inl ⟨rfl, rfl, by simpa using hl, by simp, fun y => get_put hg.uq y⟩
  · obtain ⟨x, hx, _, _⟩ := fnd_some hp
    rw [getP_yes hp hx] at hG
    obtain ⟨rfl, rfl⟩ := Prod.mk.inj hG
    rw [putP_twice d hp] at e
    obtain ⟨rfl, rfl⟩ := Prod.mk.inj e
    exact .inr ⟨.inl ⟨rfl, rfl⟩, rfl⟩
theorem once_ans {room : Int} {l m : List En} {line n : Int} {d : Wd} {y0 : En} {q0 : Bool} (f : En → En) (hf : ∀ x, (f x).ln = x.ln) (gd : Good room l) (hG : getP l line = (y0, q0)) (e : ansP f l line = ((d, n), m)) :
    (n = 0 ∧ y0.lv = true ∧ d = y0.wd ∧ m.length = l.length ∧ q0 = true ∧ ∀ y, getP m y = if y = line then (f y0, true) else getP l y) ∨ ((n = 5 ∨ n = 7) ∧ y0.lv = false ∧ m = l) := by
  have hg := gd.ans f hf line
  rcases hp : fnd l line with _ | i
  · rw [getP_none hp] at hG
    obtain ⟨rfl, rfl⟩ := Prod.mk.inj hG
    rw [ansP_none f hp] at e
    obtain ⟨e1, rfl⟩ := Prod.mk.inj e
    obtain ⟨rfl, rfl⟩ := Prod.mk.inj e1
    exact .inr ⟨.inl rfl, rfl, rfl⟩
  · obtain ⟨x, hx, hln, _⟩ := fnd_some hp
    rw [getP_yes hp hx] at hG
    obtain ⟨rfl, rfl⟩ := Prod.mk.inj hG
    rcases Bool.eq_false_or_eq_true x.lv with ht | ht
    · rw [ansP_yes f hp hx ht] at e hg
      obtain ⟨e1, rfl⟩ := Prod.mk.inj e
      obtain ⟨rfl, rfl⟩ := Prod.mk.inj e1
      refine .inl ⟨rfl, ht, rfl, by simp, rfl, fun y => ?_⟩
      rw [← hln]
      exact get_set hx (hf x) hg.uq y
    · rw [ansP_no f hp hx ht] at e
      obtain ⟨e1, rfl⟩ := Prod.mk.inj e
      obtain ⟨rfl, rfl⟩ := Prod.mk.inj e1
      exact .inr ⟨.inr rfl, ht, rfl⟩
theorem once_drop {room : Int} {l m : List En} {line n : Int} {y0 : En} {q0 : Bool} (gd : Good room l) (hG : getP l line = (y0, q0)) (e : dropP l line = (n, m)) :
    (n = 0 ∧ q0 = true ∧ m.length + 1 = l.length ∧ ∀ y, getP m y = if y = line then (m0, false) else getP l y) ∨ (n = 5 ∧ q0 = false ∧ y0 = m0 ∧ m = l) := by
  rcases hp : fnd l line with _ | i
  · rw [getP_none hp] at hG
    obtain ⟨rfl, rfl⟩ := Prod.mk.inj hG
    rw [dropP_none hp] at e
    obtain ⟨rfl, rfl⟩ := Prod.mk.inj e
    exact .inr ⟨rfl, rfl, rfl, rfl⟩
  · obtain ⟨x, hx, hln, hi⟩ := fnd_some hp
    rw [getP_yes hp hx] at hG
    obtain ⟨rfl, rfl⟩ := Prod.mk.inj hG
    rw [dropP_yes hp] at e
    obtain ⟨rfl, rfl⟩ := Prod.mk.inj e
    refine .inl ⟨rfl, rfl, ?_, fun y => ?_⟩
    · rw [List.length_eraseIdx_of_lt hi]; omega
    · rw [← hln]
      exact get_erase hx gd.uq y

/-! The same, as the law's ways want it. -/
theorem once_do {room : Int} {l m : List En} {x : Wo} {n : Int} {d : Wd} (h : doP room l x = ((d, n), m)) :
    (x.k == 0) = true ∧ putP room l x.ln x.wd = (n, m) ∨ ((x.k == 0) = false ∧ (x.k == 1) = true ∧ (x.k == 2) = false) ∧ ansP id l x.ln = ((d, n), m) ∨ ((x.k == 0) = false ∧ (x.k == 1) = false ∧ (x.k == 2) = true) ∧ ansP gone l x.ln = ((d, n), m) ∨ ((x.k == 0) = false ∧ (x.k == 1) = false ∧ (x.k == 2) = false) ∧ dropP l x.ln = (n, m) := by
  unfold doP at h
  by_cases k0 : x.k = 0
  · rw [if_pos k0] at h
    obtain ⟨⟨_, rfl⟩, rfl⟩ := (by simpa only [Prod.mk.injEq] using h : ((_ ∧ _) ∧ _))
    exact .inl ⟨by simpa using k0, rfl⟩
  · rw [if_neg k0] at h
    by_cases k1 : x.k = 1
    · rw [if_pos k1] at h
      exact .inr (.inl ⟨⟨by simpa using k0, by simpa using k1, by rw [k1]; rfl⟩, h⟩)
    · rw [if_neg k1] at h
      by_cases k2 : x.k = 2
      · rw [if_pos k2] at h
        exact .inr (.inr (.inl ⟨⟨by simpa using k0, by simpa using k1, by simpa using k2⟩, h⟩))
      · rw [if_neg k2] at h
        obtain ⟨⟨_, rfl⟩, rfl⟩ := (by simpa only [Prod.mk.injEq] using h : ((_ ∧ _) ∧ _))
        exact .inr (.inr (.inr ⟨⟨by simpa using k0, by simpa using k1, by simpa using k2⟩, rfl⟩))
theorem once1 {room : Int} {l m : List En} {line n : Int} {d : Wd} {y0 : En} {q0 : Bool} (gd : Good room l) (hG : getP l line = (y0, q0)) (e : ansP id l line = ((d, n), m)) :
    (n = 0 ∧ y0.lv = true ∧ d = y0.wd ∨ (n = 5 ∨ n = 7) ∧ y0.lv = false) ∧ m.length = l.length ∧ ∀ y, getP m y = getP l y := by
  rcases once_ans id (fun _ => rfl) gd hG e with ⟨h1, h2, h3, h4, h5, h6⟩ | ⟨h1, h2, rfl⟩
  · refine ⟨.inl ⟨h1, h2, h3⟩, h4, fun y => ?_⟩
    rw [h6]
    split
    · rename_i hy
      rw [hy, hG, h5]
      rfl
    · rfl
  · exact ⟨.inr ⟨h1, h2⟩, rfl, fun _ => rfl⟩
theorem gone_of {x : En} (h : x.lv = false) : gone x = x := by
  obtain ⟨a, b, c⟩ := x
  cases h
  rfl
theorem once2 {room : Int} {l m : List En} {line n : Int} {d : Wd} {y0 : En} {q0 : Bool} (gd : Good room l) (hG : getP l line = (y0, q0)) (e : ansP gone l line = ((d, n), m)) :
    (n = 0 ∧ y0.lv = true ∧ d = y0.wd ∨ (n = 5 ∨ n = 7) ∧ y0.lv = false) ∧ m.length = l.length ∧ ∀ y, getP m y = if y = line then (gone y0, q0) else getP l y := by
  rcases once_ans gone (fun _ => rfl) gd hG e with ⟨h1, h2, h3, h4, h5, h6⟩ | ⟨h1, h2, rfl⟩
  · exact ⟨.inl ⟨h1, h2, h3⟩, h4, fun y => by rw [h6, h5]⟩
  · refine ⟨.inr ⟨h1, h2⟩, rfl, fun y => ?_⟩
    split
    · rename_i hy
      rw [hy, hG, gone_of h2]
    · rfl
theorem once3 {room : Int} {l m : List En} {line n : Int} {y0 : En} {q0 : Bool} (gd : Good room l) (hG : getP l line = (y0, q0)) (e : dropP l line = (n, m)) :
    (n = 0 ∧ q0 = true ∧ m.length + 1 = l.length ∨ n = 5 ∧ q0 = false ∧ m.length = l.length) ∧ ∀ y, getP m y = if y = line then (m0, false) else getP l y := by
  rcases once_drop gd hG e with ⟨h1, h2, h3, h4⟩ | ⟨h1, h2, h3, rfl⟩
  · exact ⟨.inl ⟨h1, h2, h3⟩, h4⟩
  · refine ⟨.inr ⟨h1, h2, rfl⟩, fun y => ?_⟩
    split
    · rename_i hy
      rw [hy, hG, h2, h3]
    · rfl

end Go.Proofs.Ytlhecliamhjobaa
