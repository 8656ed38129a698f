/-
  What holds of a cache behind whatever steps: a line is locked just as long as there is a miss of it; none is here and in the buffer at once; words fit. No program is spoken of here.
-/
import Derived.Test.YtlfhkjjjocmpbaaGreatDoorCcM
import Derived.Test.YtlfhkjjjocmpbaaGreatDoorLayAr
namespace Go.Proofs.YtlfhkjjjocmpbaaGreatDoor.Cc
open Go Go.RowKit

/-- The lines of ways that are locked. -/
def lkd (A : List Ar.Wy) : List Int := (A.filter fun x => x.lk).map fun x => x.ln
def one (x : Ar.Wy) : List Int := if x.lk = true then [x.ln] else []
structure Inv (c : Cfg) (s : St) : Prop where
  gA : Ar.Good c s.A
  sA : Ar.Sized c s.A
  uF : (s.F.map Mh.Ms.ln).Nodup
  uB : (s.B.map Wb.En.ln).Nodup
  stA : ∀ x ∈ s.A, Ar.stOk x.st = true ∧ Ar.wOk c x.wd = true
  okF : ∀ m ∈ s.F, Ar.stOk m.ow = true ∧ Ar.wOk c m.wd = true
  pm : (lkd s.A).Perm (s.F.map Mh.Ms.ln)
  nFB : ∀ m ∈ s.F, ∀ b ∈ s.B, m.ln ≠ b.ln
  nAB : ∀ x ∈ s.A, Ar.tk x = true → ∀ b ∈ s.B, x.ln ≠ b.ln
variable {c : Cfg} {s : St}

theorem lkd_cons (x : Ar.Wy) (A : List Ar.Wy) : lkd (x :: A) = one x ++ lkd A := by
  unfold lkd one
  rw [List.filter_cons]
  split <;> simp_all
theorem lkd_append (A B : List Ar.Wy) : lkd (A ++ B) = lkd A ++ lkd B := by unfold lkd; rw [List.filter_append, List.map_append]
theorem two_front (a b r : List Int) : (a ++ (b ++ r)).Perm (b ++ (a ++ r)) := by
  rw [← List.append_assoc, ← List.append_assoc]
  exact List.perm_append_comm.append_right r
theorem lkd_set {A : List Ar.Wy} {i : Nat} {x : Ar.Wy} (y : Ar.Wy) (h : A[i]? = some x) : ∃ r, (lkd A).Perm (one x ++ r) ∧ (lkd (A.set i y)).Perm (one y ++ r) := by
  obtain ⟨hi, rfl⟩ := List.getElem?_eq_some_iff.1 h
  refine ⟨lkd (A.take i) ++ lkd (A.drop (i + 1)), ?_, ?_⟩
  · have e : A = A.take i ++ A[i] :: A.drop (i + 1) := by rw [← List.drop_eq_getElem_cons hi, List.take_append_drop]
    rw [show lkd A = lkd (A.take i ++ A[i] :: A.drop (i + 1)) from congrArg lkd e, lkd_append, lkd_cons]
    exact two_front _ _ _
  · rw [List.set_eq_take_append_cons_drop, if_pos hi, lkd_append, lkd_cons]
    exact two_front _ _ _
theorem lkd_same {A : List Ar.Wy} {i : Nat} {x y : Ar.Wy} (h : A[i]? = some x) (h1 : y.ln = x.ln) (h2 : y.lk = x.lk) : (lkd (A.set i y)).Perm (lkd A) := by
  obtain ⟨r, p1, p2⟩ := lkd_set y h
  have e : one y = one x := by unfold one; rw [h1, h2]
  rw [e] at p2
  exact p2.trans p1.symm
theorem mem_lkd {A : List Ar.Wy} {line : Int} : line ∈ lkd A ↔ ∃ x ∈ A, x.lk = true ∧ x.ln = line := by
  unfold lkd
  rw [List.mem_map]
  constructor
  · rintro ⟨x, hx, e⟩
    rw [List.mem_filter] at hx
    exact ⟨x, hx.1, hx.2, e⟩
  · rintro ⟨x, hx, h1, h2⟩
    exact ⟨x, List.mem_filter.2 ⟨hx, h1⟩, h2⟩
theorem tk_lk {x : Ar.Wy} (h : x.lk = true) : Ar.tk x = true := by simp [Ar.tk, h]
theorem tk_st {x : Ar.Wy} (h : x.st ≠ 0) : Ar.tk x = true := by simp [Ar.tk, h]
theorem d0_fit (c : Cfg) : Ar.wOk c d0 = true := by
  unfold Ar.wOk
  rw [List.all_eq_true]
  intro k hk
  have : k = 0 ∨ k = 1 ∨ k = 2 ∨ k = 3 ∨ k = 4 ∨ k = 5 ∨ k = 6 ∨ k = 7 := by have := List.mem_range.1 hk; omega
  rcases this with rfl | rfl | rfl | rfl | rfl | rfl | rfl | rfl <;> simp [d0, Wd.at]

/-! Where a line is. -/
theorem fnd_cases (sz : Ar.Sized c s.A) (line : Int) : (Ar.plc c s.A line = none ∧ look c s line = Ar.y0 ∧ there c s line = false) ∨
    ∃ k, Ar.plc c s.A line = some k ∧ s.A[Ar.soN c line + k]? = some (look c s line) ∧ (look c s line).ln = line ∧ Ar.tk (look c s line) = true ∧ there c s line = true ∧ k < c.wa.toNat := by
  rcases hp : Ar.plc c s.A line with _ | k
  · left
    unfold look there
    rw [Ar.fnd_none hp]
    exact ⟨rfl, rfl, rfl⟩
  · right
    obtain ⟨_, hk, x, hx, hl⟩ := sz.plc_some hp
    unfold look there
    rw [Ar.fnd_some hp hx]
    exact ⟨k, rfl, hx, (Ar.isL_iff.1 hl).1, (Ar.isL_iff.1 hl).2, rfl, hk⟩
theorem Inv.st (h : Inv c s) (line : Int) : Ar.stOk (look c s line).st = true ∧ Ar.wOk c (look c s line).wd = true := by
  rcases fnd_cases h.sA line with ⟨_, e, _⟩ | ⟨k, _, hx, _⟩
  · rw [e]
    exact ⟨by decide, d0_fit c⟩
  · exact h.stA _ (List.mem_of_getElem? hx)
/-- A way that is taken is where its line is looked for. -/
theorem Inv.look_of (h : Inv c s) {i : Nat} {x : Ar.Wy} (hx : s.A[i]? = some x) (ht : Ar.tk x = true) : look c s x.ln = x ∧ there c s x.ln = true ∧ ∃ k, Ar.plc c s.A x.ln = some k ∧ i = Ar.soN c x.ln + k := by
  have hp := h.gA.plc_of h.sA hx ht
  have hi := (h.gA.ins i x hx ht).2.1
  have hx' : s.A[Ar.soN c x.ln + (i - Ar.soN c x.ln)]? = some x := by rw [show Ar.soN c x.ln + (i - Ar.soN c x.ln) = i by omega]; exact hx
  unfold look there
  rw [Ar.fnd_some hp hx']
  exact ⟨rfl, rfl, _, hp, by omega⟩
theorem Inv.look_mem (h : Inv c s) {x : Ar.Wy} (hx : x ∈ s.A) (ht : Ar.tk x = true) : look c s x.ln = x := by
  obtain ⟨i, hi, rfl⟩ := List.getElem_of_mem hx
  exact (h.look_of (List.getElem?_eq_getElem hi) ht).1
/-- A line with a miss is locked, and the other way round. -/
theorem Inv.locked (h : Inv c s) {line : Int} : (∃ m ∈ s.F, m.ln = line) ↔ (there c s line = true ∧ (look c s line).lk = true) := by
  have h1 : (∃ m ∈ s.F, m.ln = line) ↔ line ∈ lkd s.A := by
    rw [h.pm.mem_iff, List.mem_map]
  rw [h1, mem_lkd]
  constructor
  · rintro ⟨x, hx, hl, rfl⟩
    obtain ⟨i, hi, rfl⟩ := List.getElem_of_mem hx
    have := h.look_of (List.getElem?_eq_getElem hi) (tk_lk hl)
    rw [this.1]
    exact ⟨this.2.1, hl⟩
  · rintro ⟨ht, hl⟩
    rcases fnd_cases h.sA line with ⟨_, _, e⟩ | ⟨k, _, hx, hln, _⟩
    · rw [e] at ht; cases ht
    · exact ⟨_, List.mem_of_getElem? hx, hl, hln⟩
/-- A line in the buffer is not there. -/
theorem Inv.apart (h : Inv c s) {b : Wb.En} (hb : b ∈ s.B) : look c s b.ln = Ar.y0 := by
  rcases fnd_cases h.sA b.ln with ⟨_, e, _⟩ | ⟨k, _, hx, hln, ht, _⟩
  · exact e
  · exact absurd hln (h.nAB _ (List.mem_of_getElem? hx) ht b hb)

/-! Set. -/
theorem setA_there {line st : Int} {d : Wd} {k : Nat} {x : Ar.Wy} (hp : Ar.plc c s.A line = some k) (hx : s.A[Ar.soN c line + k]? = some x) (hs : Ar.stOk st = true) (hd : Ar.wOk c d = true) : setA c s line st d = { s with A := s.A.set (Ar.soN c line + k) (Ar.setY st d x) } := by
  unfold setA
  rw [Ar.setP_yes st d hp ⟨hs, hd⟩ hx]
theorem setA_none {line st : Int} {d : Wd} (hp : Ar.plc c s.A line = none) : setA c s line st d = s := by
  unfold setA
  rw [Ar.setP_no st d hp]
theorem Inv.setA (h : Inv c s) (line st : Int) (d : Wd) : Inv c (setA c s line st d) := by
  rcases hp : Ar.plc c s.A line with _ | k
  · rw [setA_none hp]; exact h
  · by_cases hs : Ar.stOk st = true ∧ Ar.wOk c d = true
    · obtain ⟨_, hk, x, hx, hl⟩ := h.sA.plc_some hp
      have g := h.gA.setP h.sA line st d
      rw [Ar.setP_yes st d hp hs hx] at g
      rw [setA_there hp hx hs.1 hs.2]
      have hl := Ar.isL_iff.1 hl
      refine ⟨g.1, g.2, h.uF, h.uB, fun y hy => ?_, h.okF, (lkd_same (y := Ar.setY st d x) hx rfl rfl).trans h.pm, h.nFB, fun y hy ht => ?_⟩
      · rcases List.mem_or_eq_of_mem_set hy with hy | rfl
        · exact h.stA y hy
        · refine ⟨hs.1, ?_⟩
          show Ar.wOk c (if st = 0 then d0 else d) = true
          split
          · exact d0_fit c
          · exact hs.2
      · rcases List.mem_or_eq_of_mem_set hy with hy | rfl
        · exact h.nAB y hy ht
        · exact h.nAB x (List.mem_of_getElem? hx) hl.2
    · have e : Cc.setA c s line st d = s := by
        unfold Cc.setA
        rw [Ar.setP_bad st d hp hs]
      rw [e]; exact h
/-- What a line is behind it. -/
theorem Inv.set_look (h : Inv c s) {line st : Int} {d : Wd} (ht : there c s line = true) (hs : Ar.stOk st = true) (hd : Ar.wOk c d = true) :
    (look c (Cc.setA c s line st d) line).st = st ∧ (st ≠ 0 → look c (Cc.setA c s line st d) line = ⟨st, line, d, (look c s line).lk⟩ ∧ there c (Cc.setA c s line st d) line = true) := by
  rcases fnd_cases h.sA line with ⟨_, _, e⟩ | ⟨k, hp, hx, hln, htk, _⟩
  · rw [e] at ht; cases ht
  · rw [setA_there hp hx hs hd]
    have := Ar.fnd_set_self h.gA h.sA (Ar.setY st d (look c s line)) hp hx hln
    generalize look c s line = x at *
    show (Ar.fnd c (s.A.set _ _) line).1.st = st ∧ (st ≠ 0 → (Ar.fnd c (s.A.set _ _) line).1 = _ ∧ (Ar.fnd c (s.A.set _ _) line).2.2 = true)
    rw [this]
    by_cases ht : Ar.tk (Ar.setY st d x) = true
    · rw [if_pos ht]
      refine ⟨rfl, fun h0 => ⟨?_, rfl⟩⟩
      show ({ x with st := st, wd := if st = 0 then d0 else d } : Ar.Wy) = _
      rw [if_neg h0]
      subst hln
      rfl
    · rw [if_neg ht]
      have h0 : st = 0 := by
        by_cases h0 : st = 0
        · exact h0
        · exact absurd (tk_st (x := Ar.setY st d x) h0) ht
      exact ⟨h0.symm, fun q => absurd h0 q⟩

end Go.Proofs.YtlfhkjjjocmpbaaGreatDoor.Cc
