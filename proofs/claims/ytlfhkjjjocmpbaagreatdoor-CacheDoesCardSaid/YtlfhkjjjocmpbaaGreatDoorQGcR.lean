import Derived.Test.YtlfhkjjjocmpbaaGreatDoorSx
import Derived.Test.YtlfhkjjjocmpbaaGreatDoorQGcA
import Derived.Test.YtlfhkjjjocmpbaaGreatDoorQCcO
import Derived.Test.YtlfhkjjjocmpbaaGreatDoorQCcN

namespace Go.Proofs.YtlfhkjjjocmpbaaGreatDoor.Cc
open Go Go.RowKit

variable {c : Cfg} {s : St} {core : Int}

theorem Inv.withF (h : Inv c s) {F : List Mh.Ms} (hl : F.map Mh.Ms.ln = s.F.map Mh.Ms.ln) (ok : ∀ m ∈ F, Ar.stOk m.ow = true ∧ Ar.wOk c m.wd = true) : Inv c { s with F := F } :=
   ⟨h.gA, h.sA, by rw [hl]; exact h.uF, h.uB, h.stA, ok, by rw [hl]; exact h.pm, fun m hm b hb => by
  have : m.ln ∈ s.F.map Mh.Ms.ln := hl ▸ List.mem_map.2 ⟨m, hm, rfl⟩
  obtain ⟨m', hm', e⟩ := List.mem_map.1 this
  rw [← e]
  exact h.nFB m' hm' b hb, h.nAB⟩
theorem Inv.withB (h : Inv c s) {B : List Wb.En} (hu : (B.map Wb.En.ln).Nodup) (hl : ∀ b ∈ B, ∃ b' ∈ s.B, b'.ln = b.ln) : Inv c { s with B := B } :=
   ⟨h.gA, h.sA, h.uF, hu, h.stA, h.okF, h.pm, fun m hm b hb => by
  obtain ⟨b', hb', e⟩ := hl b hb
  rw [← e]; exact h.nFB m hm b' hb', fun x hx ht b hb => by
  obtain ⟨b', hb', e⟩ := hl b hb
  rw [← e]; exact h.nAB x hx ht b' hb'⟩
theorem map_set {α : Type} {f : α → Int} {l : List α} {i : Nat} {x y : α} (hx : l[i]? = some x) (h : f y = f x) : (l.set i y).map f = l.map f := by
 obtain ⟨hi, rfl⟩ := List.getElem?_eq_some_iff.1 hx
 rw [List.map_set, h, ← List.getElem_map (f := f) (h := by simpa using hi), List.set_getElem_self]
theorem chg_cases (F : List Mh.Ms) (line : Int) (f : Mh.Ms → Option Mh.Ms) : ((Mh.chg F line f).1 ≠ 0 ∧ (Mh.chg F line f).2 = F) ∨ ∃ i x y, F[i]? = some x ∧ x.ln = line ∧ f x = some y ∧ Mh.chg F line f = (0, F.set i y) := by
 unfold Mh.chg
 rcases hp : Mh.fnd F line with _ | i
 ·exact .inl ⟨by simp, rfl⟩
 ·obtain ⟨x, hx, hl, _⟩ := Mh.fnd_some hp
  simp only [hx, Option.bind_some]
  rcases hf : f x with _ | y
  ·exact .inl ⟨by simp, rfl⟩
  ·exact .inr ⟨i, x, y, hx, hl, hf, rfl⟩
theorem Inv.chg (h : Inv c s) (line : Int) (f : Mh.Ms → Option Mh.Ms) (hf : ∀ x ∈ s.F, ∀ y, f x = some y → y.ln = x.ln ∧ Ar.stOk y.ow = true ∧ Ar.wOk c y.wd = true) : Inv c { s with F := (Mh.chg s.F line f).2 } := by
 rcases chg_cases s.F line f with ⟨_, e⟩ | ⟨i, x, y, hx, _, hy, e⟩
 ·rw [e]; exact h
 ·rw [e]
  have := hf x (List.mem_of_getElem? hx) y hy
  refine h.withF (map_set hx this.1) fun m hm => ?_
  rcases List.mem_or_eq_of_mem_set hm with hm | rfl
  ·exact h.okF m hm
  ·exact this.2
theorem owe_cases (F : List Mh.Ms) (line : Int) : Mh.oweP F line = ((Mh.m0, false), F) ∨ ∃ i x, F[i]? = some x ∧ x.ln = line ∧ x.os = false ∧ Mh.came x = true ∧ Mh.oweP F line = ((x, true), F.set i (Mh.owesY x)) := by
 unfold Mh.oweP
 rcases hp : Mh.fnd F line with _ | i
 ·exact .inl rfl
 ·obtain ⟨x, hx, hl, _⟩ := Mh.fnd_some hp
  simp only [hx]
  by_cases hc : (x.os || !Mh.came x) = true
  ·rw [if_pos hc]; exact .inl rfl
  ·rw [if_neg hc]
   simp at hc
   exact .inr ⟨i, x, hx, hl, hc.1, hc.2, rfl⟩
theorem Inv.owe (h : Inv c s) (line : Int) : Inv c { s with F := (Mh.oweP s.F line).2 } := by
 rcases owe_cases s.F line with e | ⟨i, x, hx, _, _, _, e⟩
 ·rw [e]; exact h
 ·rw [e]
  refine h.withF (map_set (f := Mh.Ms.ln) (y := Mh.owesY x) hx rfl) fun m hm => ?_
  rcases List.mem_or_eq_of_mem_set hm with hm | rfl
  ·exact h.okF m hm
  ·exact h.okF x (List.mem_of_getElem? hx)
theorem ans_cases (f : Wb.En → Wb.En) (B : List Wb.En) (line : Int) : ((Wb.ansP f B line).1.2 ≠ 0 ∧ (Wb.ansP f B line).2 = B) ∨ ∃ i x, B[i]? = some x ∧ x.ln = line ∧ x.lv = true ∧ Wb.ansP f B line = ((x.wd, 0), B.set i (f x)) := by
 rcases hp : Wb.fnd B line with _ | i
 ·rw [Wb.ansP_none f hp]; exact .inl ⟨by simp, rfl⟩
 ·obtain ⟨x, hx, hl, _⟩ := Wb.fnd_some hp
  rcases Bool.eq_false_or_eq_true x.lv with hv | hv
  ·rw [Wb.ansP_yes f hp hx hv]; exact .inr ⟨i, x, hx, hl, hv, rfl⟩
  ·rw [Wb.ansP_no f hp hx hv]; exact .inl ⟨by simp, rfl⟩
theorem Inv.ans (h : Inv c s) (f : Wb.En → Wb.En) (hf : ∀ x, (f x).ln = x.ln) (line : Int) : Inv c { s with B := (Wb.ansP f s.B line).2 } := by
 rcases ans_cases f s.B line with ⟨_, e⟩ | ⟨i, x, hx, _, _, e⟩
 ·rw [e]; exact h
 ·rw [e]
  refine h.withB (by rw [map_set hx (hf x)]; exact h.uB) fun b hb => ?_
  rcases List.mem_or_eq_of_mem_set hb with hb | rfl
  ·exact ⟨b, hb, rfl⟩
  ·exact ⟨x, List.mem_of_getElem? hx, (hf x).symm⟩
theorem Inv.drop (h : Inv c s) (line : Int) : Inv c { s with B := (Wb.dropP s.B line).2 } := by
 rcases hp : Wb.fnd s.B line with _ | i
 ·rw [Wb.dropP_none hp]; exact h
 ·rw [Wb.dropP_yes hp]
  refine h.withB ?_ fun b hb => ⟨b, (List.eraseIdx_sublist s.B i).mem hb, rfl⟩
  exact h.uB.sublist ((List.eraseIdx_sublist s.B i).map _)

theorem Inv.leave (h : Inv c s) (f : Wb.En → Wb.En) (hf : ∀ x, (f x).ln = x.ln) (line st : Int) : Inv c (leaveP c s f line st).2 := by
 unfold leaveP
 dsimp only
 split
 ·exact h.setA _ _ _
 ·exact h.ans f hf line
theorem Inv.tell (h : Inv c s) (f : Wb.En → Wb.En) (hf : ∀ x, (f x).ln = x.ln) (m : Msg) (left own : Int) : Inv c (tellP c core s f m left own).2 := by
 unfold tellP
 dsimp only
 split
 ·exact h.leave f hf _ _
 ·exact h.leave f hf _ _
theorem Inv.came (h : Inv c s) (line er : Int) : Inv c (cameP c s line er).2 := by
 unfold cameP
 dsimp only
 split
 ·exact h
 ·split
  ·exact (h.setA line _ _).owe line
  ·exact h.owe line
theorem words_fit {m : Msg} (hm : mayM c m = true) (hk : m.kd = 7) : Ar.wOk c (words m) = true := by
 have hw := (may_all hm).2.2.2.2
 have e : nw c m.kd = c.wo := by unfold nw; rw [if_pos (.inr hk)]
 rw [e] at hw
 unfold Ar.wOk
 rw [List.all_eq_true]
 intro k hk
 have hk8 := List.mem_range.1 hk
 have := word_all hw k hk8
 have e2 : (words m).at k = m.wd k := rfl
 rw [e2]
 simp only [Bool.or_eq_true, decide_eq_true_eq, beq_iff_eq]
 omega
theorem Inv.take (h : Inv c s) (m : Msg) : Inv c (takeP c core s m).2 := by
 unfold takeP
 split
 ·rename_i hm
  unfold becomeP
  split
  ·exact h.tell id (fun _ => rfl) _ _ _
  split
  ·exact h.tell Wb.gone (fun _ => rfl) _ _ _
  split
  ·unfold forgetP
   dsimp only
   split
   ·exact h
   ·split
    ·exact h.setA _ _ _
    ·exact h
  split
  ·rename_i h7
   unfold fillP
   refine Inv.came (h.chg m.ln _ fun x hx y hy => ?_) _ _
   unfold Mh.dataF at hy
   split at hy
   ·rename_i ht
    cases hy
    have := (Mh.tkes_iff ht).2.2
    refine ⟨rfl, ?_, words_fit hm.2.2.1 h7⟩
    show Ar.stOk m.ow = true
    simp only [Ar.stOk, Bool.and_eq_true, decide_eq_true_eq]
    omega
   ·cases hy
  split
  ·unfold grantP
   split
   ·exact h
   ·refine Inv.came (h.chg m.ln _ fun x hx y hy => ?_) _ _
    unfold Mh.grantF at hy
    split at hy
    ·cases hy
     exact ⟨rfl, (by decide : Ar.stOk 4 = true), (h.okF x hx).2⟩
    ·cases hy
  split
  ·unfold countP
   refine Inv.came (h.chg m.ln _ fun x hx y hy => ?_) _ _
   unfold Mh.ackF at hy
   split at hy
   ·cases hy
   ·cases hy
    exact ⟨rfl, h.okF x hx⟩
  ·unfold dropP
   dsimp only
   split
   ·exact h.drop _
   ·exact h.drop _
 ·exact h

theorem ap_ok {d : Wd} {x : Pg.Op} (h : (Me.apP c d x).2.2 = 0) : adOk c x.a = true ∧ Pg.mayB x = true ∧ x.k ≠ 4 ∧ Me.apP c d x = (d.put (x.a % c.wo).toNat (Me.lft (d.at (x.a % c.wo).toNat) x), Me.tld (d.at (x.a % c.wo).toNat) x, 0) := by
 unfold Me.apP at h ⊢
 by_cases e : adOk c x.a = true ∧ Pg.mayB x = true ∧ x.k ≠ 4
 ·rw [if_pos e]
  exact ⟨e.1, e.2.1, e.2.2, rfl⟩
 ·rw [if_neg e] at h
  cases h
theorem Inv.doX (h : Inv c s) (x : Pg.Op) : Inv c (doP c s x).2 := by
 unfold doP
 dsimp only
 split
 ·exact h
 split
 ·exact h
 ·split
  ·exact h.setA _ _ _
  ·exact h

theorem mget_no {F : List Mh.Ms} {line : Int} (h : (Mh.getP F line).2 = false) : Mh.fnd F line = none := by
 rcases hp : Mh.fnd F line with _ | i
 ·rfl
 ·obtain ⟨x, hx, _, _⟩ := Mh.fnd_some hp
  unfold Mh.getP at h
  rw [hp] at h
  simp only [hx] at h
  cases h
theorem bget_no {B : List Wb.En} {line : Int} (h : (Wb.getP B line).2 = false) : Wb.fnd B line = none := by
 rcases hp : Wb.fnd B line with _ | i
 ·rfl
 ·obtain ⟨x, hx, _, _⟩ := Wb.fnd_some hp
  unfold Wb.getP at h
  rw [hp] at h
  simp only [hx] at h
  cases h
theorem ref_zero {line kind : Int} (h : refP c s line kind = 0) : lnOk c line = true ∧ (kind = 1 ∨ kind = 2) ∧ Mh.fnd s.F line = none ∧ Wb.fnd s.B line = none ∧ letsB (look c s line) (kind == 2) = false ∧ (s.F.length : Int) ≠ c.ms ∧ (there c s line = true ∨ 0 ≤ Ar.oi (Ar.fre c s.A line)) := by
 unfold refP at h
 split at h
 ·cases h
 ·rename_i h1
  split at h
  ·cases h
  ·rename_i h2
   split at h
   ·cases h
   ·rename_i h3
    split at h
    ·cases h
    ·rename_i h4
     simp only [busyB, Bool.or_eq_true, not_or, Bool.not_eq_true] at h1 h2
     refine ⟨?_, ?_, mget_no (by simpa using h2.1.1), bget_no (by simpa using h2.1.2), h2.2, h3, ?_⟩
     ·rcases Bool.eq_false_or_eq_true (lnOk c line) with e | e
      ·exact e
      ·have := h1.1; simp [lnE, e] at this
     ·have := h1.2
      simp at this
      omega
     ·rcases Bool.eq_false_or_eq_true (there c s line) with e | e
      ·exact .inl e
      ·right
       simp [e] at h4
       exact h4
theorem open_yes {room line kind : Int} {F : List Mh.Ms} (hk : kind = 1 ∨ kind = 2) (hf : Mh.fnd F line = none) (hl : (F.length : Int) ≠ room) : Mh.openP room F line kind = (0, F ++ [Mh.newM line kind]) := by
 unfold Mh.openP
 rw [if_neg (by rcases hk with rfl | rfl <;> simp), if_neg (by rw [hf]; simp), if_neg hl]
theorem Inv.asked (h : Inv c s) {line kind : Int} {A : List Ar.Wy} (hf : Mh.fnd s.F line = none) (hb : Wb.fnd s.B line = none) (gA : Ar.Good c A) (sA : Ar.Sized c A) (pm : (lkd A).Perm (line :: lkd s.A)) (hA : ∀ x ∈ A, x ∈ s.A ∨ x.ln = line ∧ Ar.stOk x.st = true ∧ Ar.wOk c x.wd = true) : Inv c ⟨A, s.F ++ [Mh.newM line kind], s.B⟩ := by
 have nf := Mh.fnd_none hf
 have nb := Wb.fnd_none hb
 refine ⟨gA, sA, ?_, h.uB, fun x hx => ?_, fun m hm => ?_, ?_, fun m hm b hb => ?_, fun x hx ht b hb => ?_⟩
 ·show ((s.F ++ [Mh.newM line kind]).map Mh.Ms.ln).Nodup
  rw [List.map_append, List.nodup_append]
  refine ⟨h.uF, by simp, fun a ha b hb e => ?_⟩
  obtain ⟨m, hm, rfl⟩ := List.mem_map.1 ha
  have : b = line := by simpa [Mh.newM] using hb
  exact nf m hm (e.trans this)
 ·rcases hA x hx with hx | hx
  ·exact h.stA x hx
  ·exact hx.2
 ·rcases List.mem_append.1 hm with hm | hm
  ·exact h.okF m hm
  ·obtain rfl := List.mem_singleton.1 hm
   exact ⟨(by decide : Ar.stOk 0 = true), d0_fit c⟩
 ·show (lkd A).Perm ((s.F ++ [Mh.newM line kind]).map Mh.Ms.ln)
  rw [List.map_append]
  refine pm.trans ((h.pm.cons line).trans ?_)
  exact (List.perm_append_comm (l₁ := [line]) (l₂ := s.F.map Mh.Ms.ln))
 ·rcases List.mem_append.1 hm with hm | hm
  ·exact h.nFB m hm b hb
  ·obtain rfl := List.mem_singleton.1 hm
   exact fun e => nb b hb e.symm
 ·rcases hA x hx with hx | hx
  ·exact h.nAB x hx ht b hb
  ·rw [hx.1]
   exact fun e => nb b hb e.symm
theorem Inv.unlocked (h : Inv c s) {line : Int} (hf : Mh.fnd s.F line = none) (ht : there c s line = true) : (look c s line).lk = false := by
 rcases Bool.eq_false_or_eq_true (look c s line).lk with e | e
 ·obtain ⟨m, hm, e2⟩ := h.locked.2 ⟨ht, e⟩
  exact absurd e2 (Mh.fnd_none hf m hm)
 ·exact e

theorem Inv.ask_there (h : Inv c s) {line : Int} (hf : Mh.fnd s.F line = none) (ht : there c s line = true) :
  ∃ k, Ar.plc c s.A line = some k ∧ s.A[Ar.soN c line + k]? = some (look c s line) ∧ (Ar.lockP c s.A line true).2 = s.A.set (Ar.soN c line + k) (Ar.lockY true (look c s line)) ∧ (lkd (Ar.lockP c s.A line true).2).Perm (line :: lkd s.A) := by
 rcases fnd_cases h.sA line with ⟨_, _, e⟩ | ⟨k, hp, hx, hln, _⟩
 ·rw [e] at ht; cases ht
 ·refine ⟨k, hp, hx, ?_, ?_⟩
  ·rw [Ar.lockP_yes true hp hx]
  ·rw [Ar.lockP_yes true hp hx]
   obtain ⟨r, p1, p2⟩ := lkd_set (Ar.lockY true (look c s line)) hx
   have e1 : one (look c s line) = [] := by unfold one; rw [h.unlocked hf ht]; rfl
   have e2 : one (Ar.lockY true (look c s line)) = [line] := by show [(look c s line).ln] = _; rw [hln]
   rw [e1] at p1
   rw [e2] at p2
   exact p2.trans (p1.symm.cons line)

theorem Inv.ask_lay (h : Inv c s) {line : Int} (hl : lnOk c line = true) (ht : there c s line = false) (hr : 0 ≤ Ar.oi (Ar.fre c s.A line)) :
  ∃ k x, k < c.wa.toNat ∧ s.A[Ar.soN c line + k]? = some x ∧ Ar.tk x = false ∧ (Ar.lockP c (Ar.layP c s.A line (Ar.oi (Ar.fre c s.A line))).2 line true).2 = s.A.set (Ar.soN c line + k) (Ar.newY line) ∧ Ar.plc c s.A line = none := by
 have hpn : Ar.plc c s.A line = none := by
  rcases fnd_cases h.sA line with ⟨e, _⟩ | ⟨k, _, _, _, _, e, _⟩
  ·exact e
  ·rw [e] at ht; cases ht
 rcases hf : Ar.fre c s.A line with _ | k
 ·rw [hf] at hr; exact absurd hr (by decide)
 ·have hf' := hf
  unfold Ar.fre at hf'
  rw [if_pos hl] at hf'
  obtain ⟨hk, hx, _⟩ := List.findIdx?_eq_some_iff_getElem.1 hf'
  have hk' := hk
  rw [h.sA.pt_len] at hk'
  have hx2 : s.A[Ar.soN c line + k]? = some (Ar.pt c s.A line)[k] := by rw [← h.sA.pt_at line k hk', List.getElem?_eq_getElem hk]
  have htk : Ar.tk (Ar.pt c s.A line)[k] = false := by simpa using hx
  refine ⟨k, _, hk', hx2, htk, ?_, hpn⟩
  have e1 : (Ar.layP c s.A line (Ar.oi (some k))).2 = s.A.set (Ar.soN c line + k) (Ar.newY line) := by
   show (Ar.layP c s.A line (k : Int)).2 = _
   rw [Ar.layP_yes (by simp [hl]; omega) hpn (by rw [Int.toNat_natCast, Ar.tkAt_some hx2]; exact htk), Int.toNat_natCast]
  rw [e1]
  have g := h.gA.lay h.sA hl hk' hpn
  have sz := h.sA.set (Ar.soN c line + k) (Ar.newY line)
  have hi : Ar.soN c line + k < s.A.length := (List.getElem?_eq_some_iff.1 hx2).1
  have hy : (s.A.set (Ar.soN c line + k) (Ar.newY line))[Ar.soN c line + k]? = some (Ar.newY line) := by rw [List.getElem?_set, if_pos rfl, if_pos hi]
  have hp2 := g.plc_of sz hy (show Ar.tk (Ar.newY line) = true from rfl)
  have e2 : Ar.soN c line + k - Ar.soN c (Ar.newY line).ln = k := by show Ar.soN c line + k - Ar.soN c line = k; omega
  rw [e2] at hp2
  rw [Ar.lockP_yes true (show Ar.plc c _ line = some k from hp2) hy]
  show (s.A.set _ (Ar.newY line)).set _ (Ar.newY line) = _
  rw [List.set_set]
theorem Inv.ask (h : Inv c s) (line kind : Int) : Inv c (askP c core s line kind).2 := by
 unfold askP
 by_cases hr : refP c s line kind = 0
 ·rw [if_neg (by simpa using hr)]
  obtain ⟨hl, hk, hf, hb, _, hlen, ht⟩ := ref_zero hr
  dsimp only
  rw [open_yes hk hf hlen]
  unfold layA
  rcases Bool.eq_false_or_eq_true (there c s line) with hq | hq
  ·rw [if_pos hq]
   obtain ⟨k, hp, hx, e, pm⟩ := h.ask_there hf hq
   have g := h.gA.lockP h.sA line true
   refine h.asked hf hb g.1 g.2 pm fun y hy => ?_
   rw [e] at hy
   rcases List.mem_or_eq_of_mem_set hy with hy | rfl
   ·exact .inl hy
   ·have := h.stA _ (List.mem_of_getElem? hx)
    refine .inr ⟨?_, this⟩
    rcases fnd_cases h.sA line with ⟨e, _⟩ | ⟨_, _, _, hln, _⟩
    ·rw [hp] at e; cases e
    ·exact hln
  ·rw [if_neg (by simp [hq])]
   obtain ⟨k, x, hk', hx, htk, e, hpn⟩ := h.ask_lay hl hq (ht.resolve_left (by simp [hq]))
   rw [e]
   have g := h.gA.lay h.sA hl hk' hpn
   refine h.asked hf hb g (h.sA.set _ _) ?_ fun y hy => ?_
   ·obtain ⟨r, p1, p2⟩ := lkd_set (Ar.newY line) hx
    have e1 : one x = [] := by
     unfold one
     rw [if_neg fun q => by rw [tk_lk q] at htk; cases htk]
    rw [e1] at p1
    exact p2.trans (p1.symm.cons line)
   ·rcases List.mem_or_eq_of_mem_set hy with hy | rfl
    ·exact .inl hy
    ·exact .inr ⟨rfl, (by decide : Ar.stOk 0 = true), d0_fit c⟩
 ·rw [if_pos hr]
  exact h

theorem at_some {set way : Int} {x : Ar.Wy} (sA : Ar.Sized c s.A) (h : atP c s set way = (x, true)) : 0 ≤ set ∧ set < c.se ∧ 0 ≤ way ∧ way < c.wa ∧ s.A[set.toNat * c.wa.toNat + way.toNat]? = some x := by
 unfold atP at h
 split at h
 ·rename_i hq
  obtain ⟨q1, q2, q3, q4⟩ := hq
  simp only [Prod.mk.injEq, and_true] at h
  refine ⟨q1, q2, q3, q4, ?_⟩
  have hlt : set.toNat * c.wa.toNat + way.toNat < s.A.length := by
   rw [sA.len]
   have := Nat.mul_le_mul_right c.wa.toNat (show set.toNat + 1 ≤ c.se.toNat by omega)
   rw [Nat.add_mul, Nat.one_mul] at this
   omega
  rw [List.getD_eq_getElem?_getD, List.getElem?_eq_getElem hlt] at h
  rw [List.getElem?_eq_getElem hlt]
  exact congrArg some h
 ·cases h
theorem bput_yes {room line : Int} {d : Wd} {B : List Wb.En} (hf : Wb.fnd B line = none) (hl : (B.length : Int) ≠ room) : Wb.putP room B line d = (0, B ++ [Wb.newE line d]) := Wb.putP_yes d hf hl
theorem Inv.bfnd (h : Inv c s) {x : Ar.Wy} (hx : x ∈ s.A) (ht : Ar.tk x = true) : Wb.fnd s.B x.ln = none := by
 rcases hp : Wb.fnd s.B x.ln with _ | i
 ·rfl
 ·obtain ⟨b, hb, hl, _⟩ := Wb.fnd_some hp
  exact absurd hl.symm (h.nAB x hx ht b (List.mem_of_getElem? hb))

theorem Inv.goes (h : Inv c s) {i : Nat} {x : Ar.Wy} (hx : s.A[i]? = some x) (h0 : x.st ≠ 0) (hl : x.lk = false) : Cc.setA c s x.ln 0 d0 = { s with A := s.A.set i (Ar.setY 0 d0 x) } ∧ Inv c ⟨s.A.set i (Ar.setY 0 d0 x), s.F, s.B ++ [Wb.newE x.ln x.wd]⟩ := by
 obtain ⟨_, _, k, hp, hi⟩ := h.look_of hx (tk_st h0)
 have e : Cc.setA c s x.ln 0 d0 = { s with A := s.A.set i (Ar.setY 0 d0 x) } := by
  rw [setA_there hp (by rw [← hi]; exact hx) (by decide) (d0_fit c), hi]
 have g := h.setA x.ln 0 d0
 rw [e] at g
 refine ⟨e, g.gA, g.sA, g.uF, ?_, g.stA, g.okF, g.pm, fun m hm b hb => ?_, fun y hy ht b hb => ?_⟩
 ·show ((s.B ++ [Wb.newE x.ln x.wd]).map Wb.En.ln).Nodup
  rw [List.map_append, List.nodup_append]
  refine ⟨h.uB, by simp, fun a ha b hb e => ?_⟩
  obtain ⟨b', hb', rfl⟩ := List.mem_map.1 ha
  have : b = x.ln := by simpa [Wb.newE] using hb
  exact h.nAB x (List.mem_of_getElem? hx) (tk_st h0) b' hb' (e.trans this).symm
 ·rcases List.mem_append.1 hb with hb | hb
  ·exact h.nFB m hm b hb
  ·obtain rfl := List.mem_singleton.1 hb
   intro e
   have := h.locked.1 ⟨m, hm, e⟩
   have e2 : look c s (Wb.newE x.ln x.wd).ln = x := (h.look_of hx (tk_st h0)).1
   rw [e2, hl] at this
   cases this.2
 ·rcases List.mem_append.1 hb with hb | hb
  ·exact g.nAB y hy ht b hb
  ·obtain rfl := List.mem_singleton.1 hb
   intro e
   obtain ⟨j, hj, rfl⟩ := List.getElem_of_mem hy
   have hj2 : (s.A.set i (Ar.setY 0 d0 x))[j]? = some _ := List.getElem?_eq_getElem hj
   rcases Ar.set_at hj2 with ⟨_, e1⟩ | ⟨hne, hj3⟩
   ·rw [e1] at ht
    have : Ar.tk (Ar.setY 0 d0 x) = false := by simp [Ar.tk, Ar.setY, hl]
    rw [this] at ht; cases ht
   ·exact hne (h.gA.uq j i _ x hj3 hx ht (tk_st h0) e)
theorem Inv.evict (h : Inv c s) (set way : Int) : Inv c (evictP c core s set way).2 := by
 unfold evictP
 rcases hx : atP c s set way with ⟨⟨st, ln, wd, lk⟩, q⟩
 dsimp only
 split
 ·exact h
 ·rename_i h1
  split
  ·exact h
  ·rename_i h2
   split
   ·exact h
   ·rename_i h3
    split
    ·exact h.setA _ _ _
    ·rename_i h4
     simp at h1 h2 h3
     obtain ⟨rfl, h0⟩ := h1
     subst h2
     obtain ⟨_, _, _, _, hx⟩ := at_some h.sA hx
     obtain ⟨e, g⟩ := h.goes hx h0 rfl
     have hlen : (s.B.length : Int) ≠ c.wb := by have := h3 h4; omega
     rw [bput_yes (h.bfnd (List.mem_of_getElem? hx) (tk_st h0)) hlen, e]
     exact g

theorem owing_some {F : List Mh.Ms} (h : (Mh.owingP F).2 = true) : ∃ (i : Nat) (x : Mh.Ms), F[i]? = some x ∧ x.os = true ∧ (Mh.owingP F).1 = x.ln := by
 unfold Mh.owingP at h ⊢
 rcases hp : F.findIdx? Mh.Ms.os with _ | i
 ·rw [hp] at h; cases h
 ·obtain ⟨hi, hx, _⟩ := List.findIdx?_eq_some_iff_getElem.1 hp
  have hg : F[i]? = some F[i] := List.getElem?_eq_getElem hi
  simp only [hg]
  exact ⟨i, _, hg, hx, rfl⟩
theorem erase_perm {α : Type} {l : List α} {i : Nat} {x : α} (h : l[i]? = some x) : l.Perm (x :: l.eraseIdx i) := by
 obtain ⟨hi, rfl⟩ := List.getElem?_eq_some_iff.1 h
 have e : l = l.take i ++ l[i] :: l.drop (i + 1) := by rw [← List.drop_eq_getElem_cons hi, List.take_append_drop]
 rw [List.eraseIdx_eq_take_drop_succ]
 exact (List.Perm.of_eq e).trans List.perm_middle
theorem Inv.finish (h : Inv c s) : Inv c (finishP c core s).2 := by
 unfold finishP
 split
 ·rename_i hq
  obtain ⟨i, m, hm, hos, e⟩ := owing_some hq
  rw [e]
  have hmm := List.mem_of_getElem? hm
  have hfn := Mh.fnd_at h.uF hm
  have hcl : Mh.closeP s.F m.ln = (0, s.F.eraseIdx i) := by
   unfold Mh.closeP
   rw [hfn]
   simp only [hm]
   rw [if_pos hos]
  dsimp only
  rw [hcl]
  obtain ⟨ht, hlk⟩ := h.locked.1 ⟨m, hmm, rfl⟩
  rcases fnd_cases h.sA m.ln with ⟨_, _, e1⟩ | ⟨k, hp, hx, hln, htk, _⟩
  ·rw [e1] at ht; cases ht
  ·have g := h.gA.lockP h.sA m.ln false
   rw [Ar.lockP_yes false hp hx] at g ⊢
   have sub : ∀ m' ∈ s.F.eraseIdx i, m' ∈ s.F := fun m' hm' => (List.eraseIdx_sublist s.F i).mem hm'
   have hfp := erase_perm hm
   refine ⟨g.1, g.2, h.uF.sublist ((List.eraseIdx_sublist s.F i).map _), h.uB, fun y hy => ?_, fun m' hm' => h.okF m' (sub m' hm'), ?_, fun m' hm' b hb => h.nFB m' (sub m' hm') b hb, fun y hy hty b hb => ?_⟩
   ·rcases List.mem_or_eq_of_mem_set hy with hy | rfl
    ·exact h.stA y hy
    ·have q := h.stA _ (List.mem_of_getElem? hx)
     exact q
   ·obtain ⟨r, p1, p2⟩ := lkd_set (Ar.lockY false (look c s m.ln)) hx
    have e1 : one (look c s m.ln) = [m.ln] := by unfold one; rw [if_pos hlk, hln]
    have e2 : one (Ar.lockY false (look c s m.ln)) = [] := rfl
    rw [e1] at p1
    rw [e2] at p2
    have p3 : (m.ln :: r).Perm (m.ln :: (s.F.eraseIdx i).map Mh.Ms.ln) := p1.symm.trans (h.pm.trans (hfp.map Mh.Ms.ln))
    exact p2.trans ((List.perm_cons m.ln).1 p3)
   ·rcases List.mem_or_eq_of_mem_set hy with hy | rfl
    ·exact h.nAB y hy hty b hb
    ·have q := h.nAB _ (List.mem_of_getElem? hx) htk b hb
     exact q
 ·exact h

theorem Inv.stp (h : Inv c s) (x : Stp) : Inv c (doS c core s x).2 := by
 unfold doS
 split
 ·exact h.ask _ _
 split
 ·exact h.evict _ _
 split
 ·exact h.take _
 split
 ·exact h.finish
 ·exact h.doX _
theorem Inv.new (ok : okC c = true) : Inv c (emp c) := by
 refine ⟨Ar.good_new _ _, ⟨ok, by simp [emp]⟩, by simp [emp], by simp [emp], fun x hx => ?_, fun m hm => (by cases hm), ?_, fun m hm => (by cases hm), fun x hx ht b hb => (by cases hb)⟩
 ·have : x = Ar.y0 := (List.mem_replicate.1 hx).2
  rw [this]
  exact ⟨by decide, d0_fit c⟩
 ·have : lkd (emp c).A = [] := by
   unfold lkd emp
   rw [List.filter_eq_nil_iff.2 fun x hx => by rw [(List.mem_replicate.1 hx).2]; decide]
   rfl
  rw [this]
  exact List.Perm.refl _

end Go.Proofs.YtlfhkjjjocmpbaaGreatDoor.Cc

namespace Go.Proofs.YtlfhkjjjocmpbaaGreatDoor.Cc
open Go Go.RowKit

variable {c : Cfg} {s : St} {core : Int}

theorem owns_st {x : Ar.Wy} : ownsB x = true ↔ x.st = 3 ∨ x.st = 2 ∨ x.st = 4 := by simp [ownsB, letsB]
end Go.Proofs.YtlfhkjjjocmpbaaGreatDoor.Cc

namespace Go.Proofs.YtlfhkjjjocmpbaaGreatDoor.Cc
open Go Go.RowKit

variable {w w1 w' : World} {bx : Bx} {K : Kb} {c : Cfg} {core n : Int} {s : St}

theorem Own.rebase {ty : Tys} (h : Own ty w1 K c core n s [] w') (hs : Sp w bx w1) (tb : Tb w) : Own ty w K c core n s bx w' := by
 obtain ⟨xa, xf, xb, h1, ⟨⟨v, e2, h2⟩, g2⟩, ⟨⟨u, e3, h3⟩, g3⟩, h4⟩ := h.ex
 have hsz := hs.bl.size
 refine ⟨⟨xa, xf, xb, h1, ⟨⟨v, e2, fun W hW => ?_⟩, g2⟩, ⟨⟨u, e3, fun W hW => ?_⟩, g3⟩, ?_⟩, tb⟩
 ·have q := h2 W hW
  exact ⟨q.blk, Mh.own_base q.row fun k hk => Nat.le_trans hsz (q.row.lt k hk).1, q.off, Nat.le_trans hsz q.big⟩
 ·have q := h3 W hW
  exact ⟨q.blk, Wb.own_base q.row fun k hk => Nat.le_trans hsz (q.row.lt k hk).1, q.off, Nat.le_trans hsz q.big⟩
 ·have e : xa ++ (xf ++ (xb ++ ((K.k, Obj.cells (kcells c core K) ty.t) :: bx))) = (xa ++ (xf ++ (xb ++ [(K.k, Obj.cells (kcells c core K) ty.t)]))) ++ bx := by simp
  rw [e]
  refine ⟨fun p hp => ?_, ?_, hs.bl.trans (h4.bl.mono hsz)⟩
  ·rcases List.mem_append.1 hp with hp | hp
   ·exact ⟨(h4.ok p hp).1, Nat.le_trans hsz (h4.ok p hp).2⟩
   ·exact ⟨(h4.bl.block p.1 (lt_blk (hs.ok p hp).1)).trans (hs.ok p hp).1, (hs.ok p hp).2⟩
  ·rw [List.map_append, List.nodup_append]
   refine ⟨h4.nd, hs.nd, fun a ha b hb e => ?_⟩
   obtain ⟨p, hp, rfl⟩ := List.mem_map.1 ha
   obtain ⟨q, hq, rfl⟩ := List.mem_map.1 hb
   have := (h4.ok p hp).2
   have := lt_blk (hs.ok q hq).1
   omega

def stc (x : Stp) : List Value := (scells x).toList
theorem stc_len (x : Stp) : (stc x).length = 21 := rfl

def StpsA (w : World) (p : Option Addr) (l : List Stp) : Prop := ∀ i x, l[i]? = some x → ∃ g off, p = some ⟨g, off, none⟩ ∧ g < w.heap.size ∧ w.rangeAt g (off + i * 21) (stc x)
theorem StpsA.step {p : Option Addr} {l : List Stp} (h : StpsA w p l) (hb : Below w.heap.size w w') : StpsA w' p l := fun i x hx => by
 obtain ⟨g, off, e, hg, hr⟩ := h i x hx
 exact ⟨g, off, e, Nat.lt_of_lt_of_le hg hb.size, fun j v hv => (hb.cell (p := ⟨g, off + i * 21 + j, none⟩) hg).trans (hr j v hv)⟩
end Go.Proofs.YtlfhkjjjocmpbaaGreatDoor.Cc

namespace Go.Proofs.YtlfhkjjjocmpbaaGreatDoor.Cc
open Go Go.RowKit

abbrev wayB : TypeId := 69
abbrev missB : TypeId := 75
abbrev entB : TypeId := 77

structure Dr (w : World) (c : Cfg) (L : List Ar.Wy) (F : List Mh.Ms) (B : List Wb.En) (v1 v2 v3 : Value) (wr : World) : Prop where
 cc : wr.heap[w.heap.size]? = some (.cells (ccells c) 24 (0, 0))
 rr : wr.heap[w.heap.size + 1]? = some (.cells #[.slice none 0 0, .slice none 0 0, .slice none 0 0] 51 (0, 0))
 pp : wr.heap[w.heap.size + 2]? = some (.cells #[v1, v2, v3] 51 (0, 0))
 r1 : wr.ownsRow (w.heap.size + 3) wayB 11 v1 L.length (Mh.cellsOf Ar.yc L)
 r2 : wr.ownsRow (w.heap.size + 3) missB 15 v2 F.length (Mh.cellsOf Mh.mc F)
 r3 : wr.ownsRow (w.heap.size + 3) entB 10 v3 B.length (Mh.cellsOf Wb.mc B)
 d12 : ∀ k, v1.ownBlock = some k → v2.ownBlock = some k → False
 d13 : ∀ k, v1.ownBlock = some k → v3.ownBlock = some k → False
 d23 : ∀ k, v2.ownBlock = some k → v3.ownBlock = some k → False
 bl : Below w.heap.size w wr
variable {w wr w2 w3 : World} {c : Cfg} {L : List Ar.Wy} {F : List Mh.Ms} {B : List Wb.En} {v1 v2 v3 : Value}
theorem grown_of (hb : Below wr.heap.size wr w2) (row : Option Nat) : wr.grownBy w2 row := ⟨hb.os, hb.tape, hb.output, hb.size, fun k hk _ => hb.block k hk⟩
theorem own_step {base : Nat} {e : TypeId} {sz n : Nat} {v : Value} {xs : List Value} (h : wr.ownsRow base e sz v n xs) (hb : Below wr.heap.size wr w2) : w2.ownsRow base e sz v n xs :=
 h.kept (grown_of hb none) (by cases v.ownBlock <;> simp)
theorem Dr.step (h : Dr w c L F B v1 v2 v3 wr) (hb : Below wr.heap.size wr w2) : Dr w c L F B v1 v2 v3 w2 :=
   ⟨(hb.block _ (lt_blk h.cc)).trans h.cc, (hb.block _ (lt_blk h.rr)).trans h.rr, (hb.block _ (lt_blk h.pp)).trans h.pp, own_step h.r1 hb, own_step h.r2 hb, own_step h.r3 hb, h.d12, h.d13, h.d23, b_step h.bl hb⟩
theorem Dr.big (h : Dr w c L F B v1 v2 v3 wr) : w.heap.size + 3 ≤ wr.heap.size := lt_blk h.pp
theorem Dr.new (w : World) (c : Cfg) : Dr w c [] [] [] (.slice none 0 0) (.slice none 0 0) (.slice none 0 0) (((w.alloc (.cells (ccells c) 24)).alloc (.cells #[.slice none 0 0, .slice none 0 0, .slice none 0 0] 51)).alloc (.cells #[.slice none 0 0, .slice none 0 0, .slice none 0 0] 51)) := by
 have s1 : (w.alloc (.cells (ccells c) 24)).heap.size = w.heap.size + 1 := by simp
 have s2 : ((w.alloc (.cells (ccells c) 24)).alloc (.cells #[.slice none 0 0, .slice none 0 0, .slice none 0 0] 51)).heap.size = w.heap.size + 2 := by simp
 have n0 := heap_alloc_new w (.cells (ccells c) 24)
 have n1 := heap_alloc_new (w.alloc (.cells (ccells c) 24)) (.cells #[.slice none 0 0, .slice none 0 0, .slice none 0 0] 51)
 have n2 := heap_alloc_new ((w.alloc (.cells (ccells c) 24)).alloc (.cells #[.slice none 0 0, .slice none 0 0, .slice none 0 0] 51)) (.cells #[.slice none 0 0, .slice none 0 0, .slice none 0 0] 51)
 rw [s1] at n1
 rw [s2] at n2
 refine ⟨?_, ?_, n2, World.ownsRow_nil _ _ _ _, World.ownsRow_nil _ _ _ _, World.ownsRow_nil _ _ _ _, fun k hk => by simp [Value.ownBlock] at hk, fun k hk => by simp [Value.ownBlock] at hk, fun k hk => by simp [Value.ownBlock] at hk, (((Below.refl _ w).alloc (Nat.le_refl _) _).alloc (by omega) _).alloc (by omega) _⟩
 ·rw [heap_alloc_old _ _ (by omega), heap_alloc_old _ _ (by omega)]; exact n0
 ·rw [heap_alloc_old _ _ (by omega)]; exact n1

theorem Dr.kept (h : Dr w c L F B v1 v2 v3 wr) {row : Option Nat} (hrow : ∀ k, row = some k → w.heap.size + 3 ≤ k) (hg : wr.grownBy w2 row) (hos : w3.os = w2.os ∧ w3.tape = w2.tape ∧ w3.output = w2.output ∧ w3.heap.size = w2.heap.size) (hk : ∀ k, k ≠ w.heap.size + 2 → w3.heap[k]? = w2.heap[k]?) :
  w3.heap[w.heap.size]? = some (.cells (ccells c) 24 (0, 0)) ∧ w3.heap[w.heap.size + 1]? = some (.cells #[.slice none 0 0, .slice none 0 0, .slice none 0 0] 51 (0, 0)) ∧ Below w.heap.size w w3 ∧ w2.grownBy w3 (some (w.heap.size + 2)) := by
 have hb := h.big
 refine ⟨?_, ?_, ⟨hos.1.trans (hg.os.trans h.bl.os), hos.2.1.trans (hg.tape.trans h.bl.tape), hos.2.2.1.trans (hg.output.trans h.bl.output), ?_, fun k hk0 => ?_⟩, ⟨hos.1, hos.2.1, hos.2.2.1, by omega, fun k _ hne => hk k (fun e => hne (by rw [e]))⟩⟩
 ·exact (hk _ (by omega)).trans ((hg.block _ (lt_blk h.cc) (fun e => by have := hrow _ e.symm; omega)).trans h.cc)
 ·exact (hk _ (by omega)).trans ((hg.block _ (lt_blk h.rr) (fun e => by have := hrow _ e.symm; omega)).trans h.rr)
 ·have := hg.size; have := h.bl.size; omega
 ·exact (hk _ (by omega)).trans ((hg.block _ (by omega) (fun e => by have := hrow _ e.symm; omega)).trans (h.bl.block k hk0))
theorem own_kept2 {base : Nat} {e : TypeId} {sz n m : Nat} {v : Value} {xs : List Value} (h : w2.ownsRow base e sz v n xs) (hg : w2.grownBy w3 (some m)) (hm : m < base) : w3.ownsRow base e sz v n xs :=
 h.kept hg (by
  rcases hv : v.ownBlock with _ | k
  ·exact .inl rfl
  ·refine .inr fun e => ?_
   have := (h.lt k hv).1
   obtain rfl := Option.some.inj e
   omega)
theorem own_kept1 {base : Nat} {e : TypeId} {sz n : Nat} {v u : Value} {xs : List Value} (h : wr.ownsRow base e sz v n xs) (hg : wr.grownBy w2 u.ownBlock) (hd : ∀ k, u.ownBlock = some k → v.ownBlock = some k → False) : w2.ownsRow base e sz v n xs :=
 h.kept hg (by
  rcases hv : v.ownBlock with _ | k
  ·exact .inl rfl
  ·exact .inr fun e => hd k e.symm hv)
theorem Dr.put1 (h : Dr w c L F B v1 v2 v3 wr) {x : Ar.Wy} {u : Value} (hg : wr.grownBy w2 v1.ownBlock) (hown : w2.ownsRow (w.heap.size + 3) wayB 11 u (L.length + 1) (Mh.cellsOf Ar.yc L ++ Ar.yc x)) (hat : ∀ k, u.ownBlock = some k → v1.ownBlock = some k ∨ k = wr.heap.size)
  (hp : w3.heap[w.heap.size + 2]? = some (.cells #[u, v2, v3] 51 (0, 0))) (hos : w3.os = w2.os ∧ w3.tape = w2.tape ∧ w3.output = w2.output ∧ w3.heap.size = w2.heap.size) (hk : ∀ k, k ≠ w.heap.size + 2 → w3.heap[k]? = w2.heap[k]?) : Dr w c (L ++ [x]) F B u v2 v3 w3 := by
 obtain ⟨k1, k2, k3, k4⟩ := h.kept (fun k hk => (h.r1.lt k hk).1) hg hos hk
 exact ⟨k1, k2, hp, by rw [List.length_append, List.length_singleton, Mh.cellsOf_append]; simpa [Mh.cellsOf] using own_kept2 hown k4 (by omega), own_kept2 (own_kept1 h.r2 hg h.d12) k4 (by omega), own_kept2 (own_kept1 h.r3 hg h.d13) k4 (by omega), fun k q1 q2 => by rcases hat k q1 with e | e; exact h.d12 k e q2; have := (h.r2.lt k q2).2; omega, fun k q1 q2 => by rcases hat k q1 with e | e; exact h.d13 k e q2; have := (h.r3.lt k q2).2; omega, h.d23, k3⟩
theorem Dr.put2 (h : Dr w c L F B v1 v2 v3 wr) {x : Mh.Ms} {u : Value} (hg : wr.grownBy w2 v2.ownBlock) (hown : w2.ownsRow (w.heap.size + 3) missB 15 u (F.length + 1) (Mh.cellsOf Mh.mc F ++ Mh.mc x)) (hat : ∀ k, u.ownBlock = some k → v2.ownBlock = some k ∨ k = wr.heap.size)
  (hp : w3.heap[w.heap.size + 2]? = some (.cells #[v1, u, v3] 51 (0, 0))) (hos : w3.os = w2.os ∧ w3.tape = w2.tape ∧ w3.output = w2.output ∧ w3.heap.size = w2.heap.size) (hk : ∀ k, k ≠ w.heap.size + 2 → w3.heap[k]? = w2.heap[k]?) : Dr w c L (F ++ [x]) B v1 u v3 w3 := by
 obtain ⟨k1, k2, k3, k4⟩ := h.kept (fun k hk => (h.r2.lt k hk).1) hg hos hk
 exact ⟨k1, k2, hp, own_kept2 (own_kept1 h.r1 hg (fun k q1 q2 => h.d12 k q2 q1)) k4 (by omega), by rw [List.length_append, List.length_singleton, Mh.cellsOf_append]; simpa [Mh.cellsOf] using own_kept2 hown k4 (by omega), own_kept2 (own_kept1 h.r3 hg h.d23) k4 (by omega), fun k q1 q2 => by rcases hat k q2 with e | e; exact h.d12 k q1 e; have := (h.r1.lt k q1).2; omega, h.d13, fun k q1 q2 => by rcases hat k q1 with e | e; exact h.d23 k e q2; have := (h.r3.lt k q2).2; omega, k3⟩
theorem Dr.put3 (h : Dr w c L F B v1 v2 v3 wr) {x : Wb.En} {u : Value} (hg : wr.grownBy w2 v3.ownBlock) (hown : w2.ownsRow (w.heap.size + 3) entB 10 u (B.length + 1) (Mh.cellsOf Wb.mc B ++ Wb.mc x)) (hat : ∀ k, u.ownBlock = some k → v3.ownBlock = some k ∨ k = wr.heap.size)
  (hp : w3.heap[w.heap.size + 2]? = some (.cells #[v1, v2, u] 51 (0, 0))) (hos : w3.os = w2.os ∧ w3.tape = w2.tape ∧ w3.output = w2.output ∧ w3.heap.size = w2.heap.size) (hk : ∀ k, k ≠ w.heap.size + 2 → w3.heap[k]? = w2.heap[k]?) : Dr w c L F (B ++ [x]) v1 v2 u w3 := by
 obtain ⟨k1, k2, k3, k4⟩ := h.kept (fun k hk => (h.r3.lt k hk).1) hg hos hk
 exact ⟨k1, k2, hp, own_kept2 (own_kept1 h.r1 hg (fun k q1 q2 => h.d13 k q2 q1)) k4 (by omega), own_kept2 (own_kept1 h.r2 hg (fun k q1 q2 => h.d23 k q2 q1)) k4 (by omega), by rw [List.length_append, List.length_singleton, Mh.cellsOf_append]; simpa [Mh.cellsOf] using own_kept2 hown k4 (by omega), h.d12, fun k q1 q2 => by rcases hat k q2 with e | e; exact h.d13 k q1 e; have := (h.r1.lt k q1).2; omega, fun k q1 q2 => by rcases hat k q2 with e | e; exact h.d23 k q1 e; have := (h.r2.lt k q1).2; omega, k3⟩

def Fr (w w3 wr : World) : Prop := (∀ k, k < w3.heap.size → k ≠ w.heap.size + 2 → wr.heap[k]? = w3.heap[k]?) ∧ w3.heap.size ≤ wr.heap.size
theorem Fr.refl (w w3 : World) : Fr w w3 w3 := ⟨fun _ _ _ => rfl, Nat.le_refl _⟩
theorem Fr.step {w4 : World} (h : Fr w w4 wr) (hb : Below wr.heap.size wr w2) : Fr w w4 w2 := ⟨fun k h1 h2 => (hb.block k (Nat.lt_of_lt_of_le h1 h.2)).trans (h.1 k h1 h2), Nat.le_trans h.2 hb.size⟩
theorem Fr.put {w4 : World} {row : Option Nat} (h : Fr w w4 wr) (hrow : ∀ k, row = some k → w4.heap.size ≤ k) (hg : wr.grownBy w2 row) (hsz : w3.heap.size = w2.heap.size) (hk : ∀ k, k ≠ w.heap.size + 2 → w3.heap[k]? = w2.heap[k]?) : Fr w w4 w3 :=
   ⟨fun k h1 h2 => (hk k h2).trans ((hg.block k (Nat.lt_of_lt_of_le h1 h.2) (fun e => by have := hrow k e.symm; omega)).trans (h.1 k h1 h2)), by have := hg.size; have := h.2; omega⟩
theorem own_isSlice {base : Nat} {e : TypeId} {sz n : Nat} {v : Value} {xs : List Value} (h : wr.ownsRow base e sz v n xs) (k : IntKind) (i : Int) : v ≠ .int k i := by
 rcases h.2 with ⟨rfl, _⟩ | ⟨_, _, _, rfl, _⟩ <;> simp

theorem MsIn.fr {w4 : World} {p : Option Addr} {l : List Mh.Ms} (h : Mh.MsIn w4 p l) (hd : Dr w c L F B v1 v2 v3 w4) (hf : Fr w w4 wr) : Mh.MsIn wr p l := fun i x hx => by
 obtain ⟨g, e, hg, hr⟩ := h i x hx
 have hl := (List.getElem?_eq_some_iff.1 hx).1
 have hne : g ≠ w.heap.size + 2 := fun q => by
  obtain ⟨y, hy⟩ : ∃ y, l[0]? = some y := ⟨_, List.getElem?_eq_getElem (by omega)⟩
  obtain ⟨g', e', _, hr'⟩ := h 0 y hy
  obtain rfl : g = g' := by rw [e] at e'; simpa using e'
  have q1 := hr' 0 (.int .i64 y.ln) rfl
  rw [q, c_cell hd.pp] at q1
  exact own_isSlice hd.r1 _ _ (Option.some.inj q1)
 exact ⟨g, e, Nat.lt_of_lt_of_le hg hf.2, fun j v hv => (World.cell?_of_block (a := ⟨g, i * 15 + j, none⟩) (hf.1 g hg hne)).trans (hr j v hv)⟩
theorem EnIn.fr {w4 : World} {p : Option Addr} {l : List Wb.En} (h : Wb.EnIn w4 p l) (hd : Dr w c L F B v1 v2 v3 w4) (hf : Fr w w4 wr) : Wb.EnIn wr p l := fun i x hx => by
 obtain ⟨g, e, hg, hr⟩ := h i x hx
 have hl := (List.getElem?_eq_some_iff.1 hx).1
 have hne : g ≠ w.heap.size + 2 := fun q => by
  obtain ⟨y, hy⟩ : ∃ y, l[0]? = some y := ⟨_, List.getElem?_eq_getElem (by omega)⟩
  obtain ⟨g', e', _, hr'⟩ := h 0 y hy
  obtain rfl : g = g' := by rw [e] at e'; simpa using e'
  have q1 := hr' 0 (.int .i64 y.ln) rfl
  rw [q, c_cell hd.pp] at q1
  exact own_isSlice hd.r1 _ _ (Option.some.inj q1)
 exact ⟨g, e, Nat.lt_of_lt_of_le hg hf.2, fun j v hv => (World.cell?_of_block (a := ⟨g, i * 10 + j, none⟩) (hf.1 g hg hne)).trans (hr j v hv)⟩

end Go.Proofs.YtlfhkjjjocmpbaaGreatDoor.Cc

namespace Go.Proofs.YtlfhkjjjocmpbaaGreatDoor.Cc
open Go Go.RowKit

variable {c : Cfg} {s : St} {core line fr v : Int} {n a i : Nat} {d : Wd} {A : List Ar.Wy} {F : List Mh.Ms} {B : List Wb.En} {x y : Mh.Ms}

theorem sp_two (w : World) (o1 o2 : Obj) : Sp w [(w.heap.size + 1, o2), (w.heap.size, o1)] ((w.alloc o1).alloc o2) := by
 have q := Sp.add (Sp.add (bx := []) (w0 := w) (w := w) ⟨fun p hp => (by cases hp), List.Pairwise.nil, Below.refl _ _⟩ o1) o2
 rwa [show (w.alloc o1).heap.size = w.heap.size + 1 by simp] at q

end Go.Proofs.YtlfhkjjjocmpbaaGreatDoor.Cc

namespace Go.Proofs.YtlfhkjjjocmpbaaGreatDoor.Cc
open Go Go.RowKit

variable {w0 w w' : World} {bx : Bx} {K : Kb} {c : Cfg} {core n : Int} {s : St}

end Go.Proofs.YtlfhkjjjocmpbaaGreatDoor.Cc
