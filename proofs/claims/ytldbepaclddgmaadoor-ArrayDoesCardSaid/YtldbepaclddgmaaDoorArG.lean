/-
  An array in plain words, further: what stays true of its ways behind Lay, Set and Lock (each line that is there lies in its set, and once); what Find tells behind an operation on it, or on another line; which lines are there.
-/
import Derived.Test.YtldbepaclddgmaaDoorArM
namespace Go.Proofs.YtldbepaclddgmaaDoor
open Go Go.RowKit

/-- Each line that is there is one of the machine's, lies in its set, and once. -/
structure Good (c : Cfg) (L : List Wy) : Prop where
  ins : ∀ (i : Nat) (x : Wy), L[i]? = some x → tk x = true → lnOk c x.ln = true ∧ soN c x.ln ≤ i ∧ i < soN c x.ln + c.wa.toNat
  uq : ∀ (i j : Nat) (x y : Wy), L[i]? = some x → L[j]? = some y → tk x = true → tk y = true → x.ln = y.ln → i = j
theorem good_new (c : Cfg) (n : Nat) : Good c (List.replicate n y0) := by
  have h : ∀ (i : Nat) (x : Wy), (List.replicate n y0)[i]? = some x → tk x = true → False := by
    intro i x hx ht
    obtain ⟨hi, rfl⟩ := List.getElem?_eq_some_iff.1 hx
    simp [tk, y0] at ht
  exact ⟨fun i x hx ht => (h i x hx ht).elim, fun i j x y hx _ ht => (h i x hx ht).elim⟩
theorem set_at {L : List Wy} {i j : Nat} {x y : Wy} (h : (L.set i y)[j]? = some x) : (j = i ∧ x = y) ∨ (j ≠ i ∧ L[j]? = some x) := by
  rw [List.getElem?_set] at h
  by_cases e : i = j
  · rw [if_pos e] at h
    split at h
    · exact .inl ⟨e.symm, (Option.some.inj h).symm⟩
    · cases h
  · rw [if_neg e] at h
    exact .inr ⟨fun e' => e e'.symm, h⟩
theorem Good.same {c : Cfg} {L : List Wy} (h : Good c L) {i : Nat} {x y : Wy} (hx : L[i]? = some x) (ht : tk x = true) (hy : y.ln = x.ln) : Good c (L.set i y) := by
  refine ⟨fun j z hz hz' => ?_, fun j k z u hz hu hz' hu' e => ?_⟩
  · rcases set_at hz with ⟨rfl, rfl⟩ | ⟨_, hz⟩
    · rw [hy]
      exact h.ins j x hx ht
    · exact h.ins j z hz hz'
  · rcases set_at hz with ⟨rfl, rfl⟩ | ⟨_, hz⟩
    · rcases set_at hu with ⟨rfl, rfl⟩ | ⟨_, hu⟩
      · rfl
      · exact h.uq _ _ x u hx hu ht hu' (hy.symm.trans e)
    · rcases set_at hu with ⟨e1, e2⟩ | ⟨_, hu⟩
      · rw [e1]
        exact h.uq _ _ z x hz hx hz' ht (by rw [e, e2, hy])
      · exact h.uq _ _ z u hz hu hz' hu' e

/-- A line that isn't there is in no way of its set. -/
theorem Sized.none_at {c : Cfg} {L : List Wy} (sz : Sized c L) {line : Int} (hl : lnOk c line = true) (hp : plc c L line = none) {j : Nat} {x : Wy} (h1 : soN c line ≤ j) (h2 : j < soN c line + c.wa.toNat) (hx : L[j]? = some x) : isL line x = false := by
  unfold plc at hp
  rw [if_pos hl, List.findIdx?_eq_none_iff] at hp
  refine hp x ?_
  have := sz.pt_at line (j - soN c line) (by omega)
  rw [show soN c line + (j - soN c line) = j by omega, hx] at this
  exact List.mem_of_getElem? this
theorem isL_iff {line : Int} {x : Wy} : isL line x = true ↔ x.ln = line ∧ tk x = true := by simp [isL]
theorem Good.lay {c : Cfg} {L : List Wy} (h : Good c L) (sz : Sized c L) {line : Int} {k : Nat} (hl : lnOk c line = true) (hk : k < c.wa.toNat) (hp : plc c L line = none) : Good c (L.set (soN c line + k) (newY line)) := by
  have no : ∀ (j : Nat) (z : Wy), L[j]? = some z → tk z = true → z.ln = line → False := by
    intro j z hz ht e
    have hi := h.ins j z hz ht
    rw [e] at hi
    have := sz.none_at hl hp hi.2.1 hi.2.2 hz
    rw [isL_iff.2 ⟨e, ht⟩] at this
    cases this
  refine ⟨fun j z hz hz' => ?_, fun j m z u hz hu hz' hu' e => ?_⟩
  · rcases set_at hz with ⟨rfl, rfl⟩ | ⟨_, hz⟩
    · exact ⟨hl, by show soN c line ≤ _; omega, by show _ < soN c line + _; omega⟩
    · exact h.ins j z hz hz'
  · rcases set_at hz with ⟨rfl, rfl⟩ | ⟨_, hz⟩
    · rcases set_at hu with ⟨rfl, rfl⟩ | ⟨_, hu⟩
      · rfl
      · exact (no _ u hu hu' e.symm).elim
    · rcases set_at hu with ⟨rfl, rfl⟩ | ⟨_, hu⟩
      · exact (no _ z hz hz' e).elim
      · exact h.uq _ _ z u hz hu hz' hu' e
/-- Where a line is that lies there. -/
theorem Good.plc_of {c : Cfg} {L : List Wy} (h : Good c L) (sz : Sized c L) {i : Nat} {x : Wy} (hx : L[i]? = some x) (ht : tk x = true) : plc c L x.ln = some (i - soN c x.ln) := by
  obtain ⟨hl, h1, h2⟩ := h.ins i x hx ht
  rcases hp : plc c L x.ln with _ | k
  · have := sz.none_at hl hp h1 h2 hx
    rw [isL_iff.2 ⟨rfl, ht⟩] at this
    cases this
  · obtain ⟨_, hk, y, hy, hy'⟩ := sz.plc_some hp
    obtain ⟨e1, e2⟩ := isL_iff.1 hy'
    have := h.uq _ _ y x hy hx e2 ht e1
    congr 1
    omega

/-! What an operation makes of the ways. -/
theorem Good.layP {c : Cfg} {L : List Wy} (h : Good c L) (sz : Sized c L) (line way : Int) : Good c (layP c L line way).2 ∧ Sized c (Go.Proofs.YtldbepaclddgmaaDoor.layP c L line way).2 := by
  unfold Go.Proofs.YtldbepaclddgmaaDoor.layP
  split
  · exact ⟨h, sz⟩
  · rename_i h1
    split
    · exact ⟨h, sz⟩
    · rename_i h2
      split
      · exact ⟨h, sz⟩
      · have h3 : lnOk c line = true := by simpa using fun e => h1 (.inl e)
        have h4 : ¬ way < 0 := fun e => h1 (.inr (.inl e))
        have h5 : ¬ c.wa ≤ way := fun e => h1 (.inr (.inr e))
        exact ⟨h.lay sz h3 (by omega) (by simpa using h2), sz.set _ _⟩
theorem Good.setP {c : Cfg} {L : List Wy} (h : Good c L) (sz : Sized c L) (line st : Int) (d : Wd) : Good c (setP c L line st d).2 ∧ Sized c (Go.Proofs.YtldbepaclddgmaaDoor.setP c L line st d).2 := by
  unfold Go.Proofs.YtldbepaclddgmaaDoor.setP
  rcases hp : plc c L line with _ | k
  · exact ⟨h, sz⟩
  · obtain ⟨_, hk, y, hy, hy'⟩ := sz.plc_some hp
    show Good c (if _ then _ else _ : Int × List Wy).2 ∧ Sized c (if _ then _ else _ : Int × List Wy).2
    split
    · exact ⟨by rw [show ((0 : Int), upd L (soN c line + k) (setY st d)).2 = upd L (soN c line + k) (setY st d) from rfl, upd_some _ hy]; exact h.same hy (isL_iff.1 hy').2 rfl, sz.upd _ _⟩
    · exact ⟨h, sz⟩
theorem Good.lockP {c : Cfg} {L : List Wy} (h : Good c L) (sz : Sized c L) (line : Int) (b : Bool) : Good c (lockP c L line b).2 ∧ Sized c (Go.Proofs.YtldbepaclddgmaaDoor.lockP c L line b).2 := by
  unfold Go.Proofs.YtldbepaclddgmaaDoor.lockP
  rcases hp : plc c L line with _ | k
  · exact ⟨h, sz⟩
  · obtain ⟨_, hk, y, hy, hy'⟩ := sz.plc_some hp
    show Good c (upd L (soN c line + k) (lockY b)) ∧ Sized c (upd L (soN c line + k) (lockY b))
    exact ⟨by rw [upd_some _ hy]; exact h.same hy (isL_iff.1 hy').2 rfl, sz.upd _ _⟩

/-- What Find tells. -/
def fnd (c : Cfg) (L : List Wy) (line : Int) : Wy × Int × Bool := match plc c L line with
  | none => (y0, 0, false)
  | some k => match L[soN c line + k]? with
    | some x => (x, k, true)
    | none => (y0, 0, false)
theorem fnd_none {c : Cfg} {L : List Wy} {line : Int} (h : plc c L line = none) : fnd c L line = (y0, 0, false) := by unfold fnd; rw [h]
theorem fnd_some {c : Cfg} {L : List Wy} {line : Int} {k : Nat} {x : Wy} (h : plc c L line = some k) (hx : L[soN c line + k]? = some x) : fnd c L line = (x, (k : Int), true) := by unfold fnd; rw [h]; simp only [hx]

theorem findIdx?_of_map {p : Wy → Bool} {l m : List Wy} (h : l.map p = m.map p) : l.findIdx? p = m.findIdx? p := by
  have e : ∀ l : List Wy, l.findIdx? p = (l.map p).findIdx? id := fun l => by rw [List.findIdx?_map]; rfl
  rw [e l, e m, h]
theorem plc_congr {c : Cfg} {L M : List Wy} {line : Int} (h : ∀ i : Nat, (L[i]?).map (isL line) = (M[i]?).map (isL line)) : plc c L line = plc c M line := by
  unfold plc pt
  split
  · refine findIdx?_of_map (List.ext_getElem? fun i => ?_)
    rw [List.getElem?_map, List.getElem?_map, List.getElem?_take, List.getElem?_take]
    split
    · rw [List.getElem?_drop, List.getElem?_drop]
      exact h _
    · rfl
  · rfl
theorem map_set_same {L : List Wy} {line : Int} {i : Nat} {x y : Wy} (hx : L[i]? = some x) (h : isL line y = isL line x) (j : Nat) : ((L.set i y)[j]?).map (isL line) = (L[j]?).map (isL line) := by
  rw [List.getElem?_set]
  split
  · rename_i e
    subst e
    have := (List.getElem?_eq_some_iff.1 hx).1
    rw [if_pos this, hx]
    simp [h]
  · rfl
theorem fnd_set_other {c : Cfg} {L : List Wy} (sz : Sized c L) {line : Int} {i : Nat} {x y : Wy} (hx : L[i]? = some x) (h1 : isL line x = false) (h2 : isL line y = false) : fnd c (L.set i y) line = fnd c L line := by
  have e : plc c (L.set i y) line = plc c L line := plc_congr (map_set_same hx (h2.trans h1.symm))
  rcases hp : plc c L line with _ | k
  · rw [fnd_none hp, fnd_none (e.trans hp)]
  · obtain ⟨_, hk, z, hz, hz'⟩ := sz.plc_some hp
    have hne : ¬ i = soN c line + k := by
      intro e'
      rw [e', hz] at hx
      obtain rfl := Option.some.inj hx
      rw [hz'] at h1
      cases h1
    rw [fnd_some hp hz, fnd_some (e.trans hp) (by rw [List.getElem?_set, if_neg hne]; exact hz)]

/-- Set and Lock, of a line that is there. -/
theorem fnd_set_self {c : Cfg} {L : List Wy} (g : Good c L) (sz : Sized c L) {line : Int} {k : Nat} {x : Wy} (y : Wy) (hp : plc c L line = some k) (hx : L[soN c line + k]? = some x) (hy : y.ln = line) :
    fnd c (L.set (soN c line + k) y) line = if tk y = true then (y, (k : Int), true) else (y0, 0, false) := by
  have hi := (List.getElem?_eq_some_iff.1 hx).1
  obtain ⟨hl, hk, z, hz, hz'⟩ := sz.plc_some hp
  obtain rfl : x = z := Option.some.inj (hx.symm.trans hz)
  obtain ⟨hx1, hx2⟩ := isL_iff.1 hz'
  by_cases ht : tk y = true
  · rw [if_pos ht]
    refine fnd_some ((plc_congr (map_set_same hx ?_)).trans hp) (by rw [List.getElem?_set, if_pos rfl, if_pos hi])
    rw [hz']
    exact isL_iff.2 ⟨hy, ht⟩
  · rw [if_neg ht]
    refine fnd_none ?_
    rcases hq : plc c (L.set (soN c line + k) y) line with _ | m
    · rfl
    · obtain ⟨_, _, u, hu, hu'⟩ := (sz.set (soN c line + k) y).plc_some hq
      obtain ⟨e1, e2⟩ := isL_iff.1 hu'
      rcases set_at hu with ⟨_, rfl⟩ | ⟨hne, hu⟩
      · exact absurd e2 ht
      · exact absurd (g.uq _ _ u x hu hx e2 hx2 (e1.trans hx1.symm)) hne

/-- An operation: what kind, which line, a number, words. -/
structure Ao where
  k : Int
  ln : Int
  n : Int
  wd : Wd
def doP (c : Cfg) (L : List Wy) (x : Ao) : Int × List Wy :=
  if x.k = 0 then layP c L x.ln x.n else if x.k = 1 then setP c L x.ln x.n x.wd else if x.k = 2 then lockP c L x.ln (x.n != 0) else (0, L)
theorem Good.doP {c : Cfg} {L : List Wy} (h : Good c L) (sz : Sized c L) (x : Ao) : Good c (doP c L x).2 ∧ Sized c (Go.Proofs.YtldbepaclddgmaaDoor.doP c L x).2 := by
  unfold Go.Proofs.YtldbepaclddgmaaDoor.doP
  split
  · exact h.layP sz _ _
  · split
    · exact h.setP sz _ _ _
    · split
      · exact h.lockP sz _ _
      · exact ⟨h, sz⟩
theorem isL_other {line : Int} {x : Wy} (h : x.ln ≠ line) : isL line x = false := by
  rcases Bool.eq_false_or_eq_true (isL line x) with h' | h'
  · exact absurd (isL_iff.1 h').1 h
  · exact h'
theorem fnd_doP_other {c : Cfg} {L : List Wy} (sz : Sized c L) (x : Ao) {line : Int} (h : x.ln ≠ line) : fnd c (doP c L x).2 line = fnd c L line := by
  unfold doP
  split
  · unfold layP
    split
    · rfl
    · rename_i h1
      split
      · rfl
      · split
        · rfl
        · rename_i h3
          have h4 : ¬ x.n < 0 := fun e => h1 (.inr (.inl e))
          have h5 : ¬ c.wa ≤ x.n := fun e => h1 (.inr (.inr e))
          obtain ⟨y, hy⟩ := sz.at_some (line := x.ln) (j := x.n.toNat) (by omega)
          rw [tkAt_some hy] at h3
          refine fnd_set_other sz hy ?_ (isL_other h)
          simp [isL, h3]
  · split
    · unfold setP
      rcases hp : plc c L x.ln with _ | k
      · rfl
      · obtain ⟨_, hk, y, hy, hy'⟩ := sz.plc_some hp
        obtain ⟨e1, e2⟩ := isL_iff.1 hy'
        show fnd c (if _ then _ else _ : Int × List Wy).2 line = _
        split
        · show fnd c (upd L (soN c x.ln + k) (setY x.n x.wd)) line = _
          rw [upd_some _ hy]
          exact fnd_set_other sz hy (isL_other (e1 ▸ h)) (isL_other (show (setY x.n x.wd y).ln ≠ line from e1 ▸ h))
        · rfl
    · split
      · unfold lockP
        rcases hp : plc c L x.ln with _ | k
        · rfl
        · obtain ⟨_, hk, y, hy, hy'⟩ := sz.plc_some hp
          obtain ⟨e1, e2⟩ := isL_iff.1 hy'
          show fnd c (upd L (soN c x.ln + k) (lockY (x.n != 0))) line = _
          rw [upd_some _ hy]
          exact fnd_set_other sz hy (isL_other (e1 ▸ h)) (isL_other (show (lockY (x.n != 0) y).ln ≠ line from e1 ▸ h))
      · rfl

/-! Which lines are there. -/
def linesU (L : List Wy) : List Int := (L.filter tk).map (·.ln)
def linesP (L : List Wy) : List Int := (linesU L).mergeSort fun x y => decide (x ≤ y)
/-- Where a line is among all ways, as the document looks for it. -/
def plcR (L : List Wy) (line : Int) : Option Nat := L.findIdx? (isL line)
def refL (L : List Wy) (n : Nat) : List Int := ((List.range n).map fun i : Nat => (i : Int)).filter fun l => (plcR L l).isSome
theorem Good.plcR {c : Cfg} {L : List Wy} (g : Good c L) (sz : Sized c L) (line : Int) : plcR L line = (plc c L line).map (soN c line + ·) := by
  unfold Go.Proofs.YtldbepaclddgmaaDoor.plcR
  rcases hp : plc c L line with _ | k
  · show List.findIdx? (isL line) L = none
    rw [List.findIdx?_eq_none_iff]
    intro x hx
    obtain ⟨j, hj, rfl⟩ := List.getElem_of_mem hx
    rcases Bool.eq_false_or_eq_true (isL line L[j]) with h' | h'
    · obtain ⟨e1, e2⟩ := isL_iff.1 h'
      have := g.plc_of sz (List.getElem?_eq_getElem hj) e2
      rw [e1, hp] at this
      cases this
    · exact h'
  · obtain ⟨_, hk, y, hy, hy'⟩ := sz.plc_some hp
    obtain ⟨e1, e2⟩ := isL_iff.1 hy'
    obtain ⟨hi, hy2⟩ := List.getElem?_eq_some_iff.1 hy
    show List.findIdx? (isL line) L = some (soN c line + k)
    rw [List.findIdx?_eq_some_iff_getElem]
    refine ⟨hi, by rw [hy2]; exact hy', fun j hj h' => ?_⟩
    obtain ⟨e3, e4⟩ := isL_iff.1 h'
    have := g.uq _ _ _ _ (List.getElem?_eq_getElem (by omega)) hy e4 e2 (e3.trans e1.symm)
    omega
theorem sorted_ext : ∀ {l m : List Int}, l.Pairwise (· < ·) → m.Pairwise (· < ·) → (∀ y, y ∈ l ↔ y ∈ m) → l = m
  | [], [], _, _, _ => rfl
  | [], y :: m, _, _, h => absurd ((h y).2 (List.mem_cons_self ..)) (by simp)
  | x :: l, [], _, _, h => absurd ((h x).1 (List.mem_cons_self ..)) (by simp)
  | x :: l, y :: m, hl, hm, h => by
    rw [List.pairwise_cons] at hl hm
    have e : x = y := by
      rcases List.mem_cons.1 ((h x).1 (List.mem_cons_self ..)) with e | hx
      · exact e
      · rcases List.mem_cons.1 ((h y).2 (List.mem_cons_self ..)) with e | hy
        · exact e.symm
        · have h1 := hl.1 y hy
          have h2 := hm.1 x hx
          omega
    subst e
    congr 1
    refine sorted_ext hl.2 hm.2 fun z => ⟨fun hz => ?_, fun hz => ?_⟩
    · rcases List.mem_cons.1 ((h z).1 (List.mem_cons_of_mem _ hz)) with e | hz'
      · have := hl.1 z hz
        omega
      · exact hz'
    · rcases List.mem_cons.1 ((h z).2 (List.mem_cons_of_mem _ hz)) with e | hz'
      · have := hm.1 z hz
        omega
      · exact hz'
theorem filter_pair {R : Int → Int → Prop} : ∀ (L : List Wy), (∀ (i j : Nat) (x y : Wy), i < j → L[i]? = some x → L[j]? = some y → tk x = true → tk y = true → R x.ln y.ln) → (linesU L).Pairwise R
  | [], _ => .nil
  | x :: L, h => by
    have ih := filter_pair L fun i j y z hij hy hz => h (i + 1) (j + 1) y z (by omega) hy hz
    unfold linesU at ih ⊢
    by_cases ht : tk x = true
    · rw [List.filter_cons_of_pos ht, List.map_cons, List.pairwise_cons]
      refine ⟨fun v hv => ?_, ih⟩
      obtain ⟨y, hy, rfl⟩ := List.mem_map.1 hv
      obtain ⟨hy1, hy2⟩ := List.mem_filter.1 hy
      obtain ⟨j, hj, rfl⟩ := List.getElem_of_mem hy1
      exact h 0 (j + 1) x L[j] (by omega) rfl (List.getElem?_eq_getElem hj) ht hy2
    · rw [List.filter_cons_of_neg ht]
      exact ih
theorem Good.linesP {c : Cfg} {L : List Wy} (g : Good c L) (sz : Sized c L) : linesP L = refL L c.li.toNat := by
  have hp : (Go.Proofs.YtldbepaclddgmaaDoor.linesP L).Perm (linesU L) := List.mergeSort_perm _ _
  have hn : (linesU L).Nodup := filter_pair L fun i j x y hij hx hy h1 h2 e => by
    have := g.uq i j x y hx hy h1 h2 e
    omega
  have hs : (Go.Proofs.YtldbepaclddgmaaDoor.linesP L).Pairwise (fun x y => decide (x ≤ y) = true) := List.pairwise_mergeSort (by simp; omega) (by simp; omega) _
  refine sorted_ext ?_ ?_ ?_
  · refine (hs.and (hp.nodup_iff.2 hn)).imp ?_
    rintro a b ⟨h1, h2⟩
    simp at h1
    omega
  · unfold refL
    refine List.Pairwise.filter _ ?_
    rw [List.pairwise_map]
    exact List.pairwise_lt_range.imp (by intro a b h; omega)
  · intro y
    rw [hp.mem_iff]
    unfold refL linesU
    rw [List.mem_filter, g.plcR sz y, List.mem_map]
    constructor
    · rintro ⟨x, hx, rfl⟩
      obtain ⟨hx1, hx2⟩ := List.mem_filter.1 hx
      obtain ⟨j, hj, rfl⟩ := List.getElem_of_mem hx1
      have hx := List.getElem?_eq_getElem hj
      have hl := (ok_of_lnOk (g.ins j _ hx hx2).1).2
      rw [g.plc_of sz hx hx2]
      refine ⟨List.mem_map.2 ⟨(L[j]).ln.toNat, List.mem_range.2 (by omega), by omega⟩, rfl⟩
    · rintro ⟨_, h2⟩
      rcases hq : plc c L y with _ | k
      · rw [hq] at h2
        cases h2
      · obtain ⟨_, hk, x, hx, hx'⟩ := sz.plc_some hq
        obtain ⟨e1, e2⟩ := isL_iff.1 hx'
        exact ⟨x, List.mem_filter.2 ⟨List.mem_of_getElem? hx, e2⟩, e1⟩
theorem linesP_len (L : List Wy) : (linesP L).length = (L.filter tk).length := by unfold linesP linesU; rw [List.length_mergeSort, List.length_map]

end Go.Proofs.YtldbepaclddgmaaDoor
