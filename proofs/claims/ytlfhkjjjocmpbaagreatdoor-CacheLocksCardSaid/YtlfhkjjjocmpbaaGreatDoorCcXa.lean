/-
  How a miss is filled, in plain words. No program is spoken of here.
-/
import Derived.Test.YtlfhkjjjocmpbaaGreatDoorCcS
namespace Go.Proofs.YtlfhkjjjocmpbaaGreatDoor.Cc
open Go Go.RowKit

variable {c : Cfg} {s : St} {core line fr v : Int} {n a i : Nat} {d : Wd} {A : List Ar.Wy} {F : List Mh.Ms} {B : List Wb.En} {x y : Mh.Ms}
/-! The last miss. -/
theorem fnd_last (hf : Mh.fnd F line = none) (hx : x.ln = line) : Mh.fnd (F ++ [x]) line = some F.length := by
  refine Mh.find_some (x := x) (by simp) (by simp [Mh.isL, hx]) fun j y hj hy => ?_
  rw [List.getElem?_append_left hj] at hy
  simpa [Mh.isL] using Mh.fnd_none hf y (List.mem_of_getElem? hy)
theorem set_last : (F ++ [x]).set F.length y = F ++ [y] := by simp
theorem at_last : (F ++ [x])[F.length]? = some x := by simp
theorem chg_last {f : Mh.Ms → Option Mh.Ms} (hf : Mh.fnd F line = none) (hx : x.ln = line) (h : f x = some y) : Mh.chg (F ++ [x]) line f = (0, F ++ [y]) := by
  rw [Mh.chg_yes (fnd_last hf hx) at_last h, set_last]
theorem owe_last_no (hf : Mh.fnd F line = none) (hx : x.ln = line) (h : (x.os || !Mh.came x) = true) : Mh.oweP (F ++ [x]) line = ((Mh.m0, false), F ++ [x]) := Mh.oweP_no (fnd_last hf hx) at_last h
theorem owe_last_yes (hf : Mh.fnd F line = none) (hx : x.ln = line) (h : (x.os || !Mh.came x) = false) : Mh.oweP (F ++ [x]) line = ((x, true), F ++ [Mh.owesY x]) := by
  rw [Mh.oweP_yes (fnd_last hf hx) at_last h, set_last]

/-! What the miss is behind so many rounds. -/
def stt (line : Int) (n a : Nat) (d : Wd) (i : Nat) : Mh.Ms := if i ≤ a then ⟨line, 2, -1, i, 0, d0, false, false⟩ else ⟨line, 2, n, (i : Int) - 1, 4, d, false, false⟩
theorem stt_ln : (stt line n a d i).ln = line := by unfold stt; split <;> rfl
theorem stt_le (h : i ≤ a) : stt line n a d i = ⟨line, 2, -1, i, 0, d0, false, false⟩ := if_pos h
theorem stt_gt (h : a < i) : stt line n a d i = ⟨line, 2, n, (i : Int) - 1, 4, d, false, false⟩ := if_neg (by omega)
theorem stt_wait (h : i ≤ n) : ((stt line n a d i).os || !Mh.came (stt line n a d i)) = true := by
  by_cases ha : i ≤ a
  · rw [stt_le ha]; simp [Mh.came, Mh.knw]
  · rw [stt_gt (by omega)]
    simp [Mh.came, Mh.knw]
    try omega
theorem stt_ack (h : i ≤ n) (hne : i ≠ a) : Mh.ackF (stt line n a d i) = some (stt line n a d (i + 1)) := by
  by_cases ha : i < a
  · rw [stt_le (by omega), stt_le (by omega), Mh.ackF_yes (by simp [Mh.came, Mh.knw])]
    simp [Mh.ackY]
  · rw [stt_gt (by omega), stt_gt (by omega), Mh.ackF_yes (by simp [Mh.came, Mh.knw]; omega)]
    simp [Mh.ackY]
    try omega
theorem stt_data (h : a ≤ n) : Mh.dataF n 4 d (stt line n a d a) = some (stt line n a d (a + 1)) := by
  rw [stt_le (Nat.le_refl _), stt_gt (by omega), Mh.dataF_yes _ (by simp [Mh.tkes, Mh.knw]; omega)]
  simp [Mh.dataY]
theorem stt_end (h : a ≤ n) : stt line n a d (n + 1) = ⟨line, 2, n, n, 4, d, false, false⟩ := by
  rw [stt_gt (by omega)]
  simp

/-- A cache behind so many rounds. -/
def rnd (c : Cfg) (A : List Ar.Wy) (F : List Mh.Ms) (B : List Wb.En) (line : Int) (n a : Nat) (d : Wd) (i : Nat) : St :=
  if i ≤ n then ⟨A, F ++ [stt line n a d i], B⟩ else ⟨(Ar.setP c A line 4 d).2, F ++ [Mh.owesY (stt line n a d (n + 1))], B⟩
theorem came_rnd (hf : Mh.fnd F line = none) (ha : a ≤ n) (h : i ≤ n) : cameP c ⟨A, F ++ [stt line n a d (i + 1)], B⟩ line 0 = ((m0, false, 0), rnd c A F B line n a d (i + 1)) := by
  unfold cameP rnd
  rw [if_neg (by simp)]
  by_cases hi : i + 1 ≤ n
  · rw [if_pos hi]
    dsimp only
    rw [owe_last_no hf stt_ln (stt_wait hi)]
    rfl
  · have e : i = n := by omega
    subst e
    rw [if_neg hi]
    dsimp only
    rw [owe_last_yes hf stt_ln (by rw [stt_end ha]; simp [Mh.came, Mh.knw]; try omega), stt_end ha]
    rfl

/-! The messages. -/
theorem word_zero {n : Int} {m : Msg} {k : Nat} (h : m.wd k = 0) : wordB n m k = true := by unfold wordB; rw [h]; rfl
theorem may_ack (hl : lnOk c line = true) (h1 : 0 ≤ core) (h2 : core < c.co) (h3 : 0 ≤ fr) (h4 : fr < c.co) (h5 : fr ≠ core) : mayM c (msg 9 line fr core 0 0 0 d0) = true := by
  obtain ⟨hok, l0, l1⟩ := ok_of_lnOk hl
  have hh : holdsB c (msg 9 line fr core 0 0 0 d0) = true := by
    unfold holdsB
    rw [if_neg (by show ¬ ((9 : Int) ≤ 3 ∨ (9 : Int) = 11); decide), if_pos (show (msg 9 line fr core 0 0 0 d0).kd = 9 from rfl)]
    show ((isin core c.co && (isin fr c.co && fr != core)) && bare (msg 9 line fr core 0 0 0 d0)) = true
    rw [isin_yes h1 h2, isin_yes h3 h4]
    simp [h5, bare, msg]
  unfold mayM
  rw [hok, show isin (msg 9 line fr core 0 0 0 d0).ln c.li = true from isin_yes l0 l1, show isKind (msg 9 line fr core 0 0 0 d0).kd = true from rfl, hh]
  simp only [Bool.true_and]
  refine words_yes fun k hk => word_zero ?_
  rcases (show k = 0 ∨ k = 1 ∨ k = 2 ∨ k = 3 ∨ k = 4 ∨ k = 5 ∨ k = 6 ∨ k = 7 by omega) with rfl | rfl | rfl | rfl | rfl | rfl | rfl | rfl <;> rfl
theorem may_data (hl : lnOk c line = true) (h1 : 0 ≤ core) (h2 : core < c.co) (hn : (n : Int) < c.co) (hv : -2147483648 ≤ v ∧ v ≤ 2147483647) : mayM c (msg 7 line (line % c.ho) core 0 n 4 ⟨v, 0, 0, 0, 0, 0, 0, 0⟩) = true := by
  obtain ⟨hok, l0, l1⟩ := ok_of_lnOk hl
  have hw := (ok_pows c hok).1.2
  have hh : holdsB c (msg 7 line (line % c.ho) core 0 n 4 ⟨v, 0, 0, 0, 0, 0, 0, 0⟩) = true := by
    unfold holdsB
    rw [if_neg (by show ¬ ((7 : Int) ≤ 3 ∨ (7 : Int) = 11); decide), if_neg (by show ¬ ((7 : Int) = 9); decide), if_pos (show (msg 7 line (line % c.ho) core 0 n 4 ⟨v, 0, 0, 0, 0, 0, 0, 0⟩).kd = 7 from rfl)]
    show ((line % c.ho == line % c.ho && isin core c.co) && (isin n c.co && given 4)) = true
    rw [isin_yes h1 h2, isin_yes (by omega) hn]
    simp [given]
  unfold mayM
  rw [hok, show isin (msg 7 line (line % c.ho) core 0 n 4 ⟨v, 0, 0, 0, 0, 0, 0, 0⟩).ln c.li = true from isin_yes l0 l1, show isKind (msg 7 line (line % c.ho) core 0 n 4 ⟨v, 0, 0, 0, 0, 0, 0, 0⟩).kd = true from rfl, hh]
  simp only [Bool.true_and]
  refine words_yes fun k hk => ?_
  rcases (show k = 0 ∨ k = 1 ∨ k = 2 ∨ k = 3 ∨ k = 4 ∨ k = 5 ∨ k = 6 ∨ k = 7 by omega) with rfl | rfl | rfl | rfl | rfl | rfl | rfl | rfl
  · have e : (msg 7 line (line % c.ho) core 0 n 4 ⟨v, 0, 0, 0, 0, 0, 0, 0⟩).wd 0 = v := rfl
    have e2 : nw c (msg 7 line (line % c.ho) core 0 n 4 ⟨v, 0, 0, 0, 0, 0, 0, 0⟩).kd = c.wo := by unfold nw; rw [if_pos (.inr rfl)]
    unfold wordB
    rw [e, e2]
    simp only [Bool.and_eq_true, Bool.or_eq_true, decide_eq_true_eq]
    exact ⟨hv.1, hv.2, .inr (by omega)⟩
  all_goals exact word_zero rfl
theorem take_ack (hm : mayM c (msg 9 line fr core 0 0 0 d0) = true) (hf : Mh.fnd F line = none) (ha : a ≤ n) (h : i ≤ n) (hne : i ≠ a) : takeP c core (rnd c A F B line n a d i) (msg 9 line fr core 0 0 0 d0) = ((m0, false, 0), rnd c A F B line n a d (i + 1)) := by
  rw [← came_rnd hf ha h]
  have e : rnd c A F B line n a d i = ⟨A, F ++ [stt line n a d i], B⟩ := if_pos h
  rw [e]
  unfold takeP
  rw [if_pos ⟨by show (4 : Int) ≤ 9; decide, by show (9 : Int) ≤ 10; decide, hm, rfl⟩]
  show countP c ⟨A, F ++ [stt line n a d i], B⟩ (msg 9 line fr core 0 0 0 d0) = _
  unfold countP
  dsimp only [msg]
  rw [chg_last hf stt_ln (stt_ack h hne)]
theorem take_data (hm : mayM c (msg 7 line (line % c.ho) core 0 n 4 d) = true) (hf : Mh.fnd F line = none) (ha : a ≤ n) : takeP c core (rnd c A F B line n a d a) (msg 7 line (line % c.ho) core 0 n 4 d) = ((m0, false, 0), rnd c A F B line n a d (a + 1)) := by
  rw [← came_rnd hf ha ha]
  have e : rnd c A F B line n a d a = ⟨A, F ++ [stt line n a d a], B⟩ := if_pos ha
  rw [e]
  unfold takeP
  rw [if_pos ⟨by show (4 : Int) ≤ 7; decide, by show (7 : Int) ≤ 10; decide, hm, rfl⟩]
  show fillP c ⟨A, F ++ [stt line n a d a], B⟩ (msg 7 line (line % c.ho) core 0 n 4 d) = _
  unfold fillP
  have e2 : words (msg 7 line (line % c.ho) core 0 n 4 d) = d := rfl
  rw [e2]
  dsimp only [msg]
  rw [chg_last hf stt_ln (stt_data ha)]

/-! Ahead of the last, and behind it. -/
theorem do_wait (hl : lnOk c line = true) (hn : letsB (Ar.fnd c A line).1 true = false) (h : i ≤ n) : doP c (rnd c A F B line n a d i) ⟨3, line * c.wo, 3⟩ = ((0, 5), rnd c A F B line n a d i) := by
  have e : rnd c A F B line n a d i = ⟨A, F ++ [stt line n a d i], B⟩ := if_pos h
  rw [do_swap_at hl (by omega), if_neg (by rw [e]; show ¬ letsB (Ar.fnd c A line).1 true = true; rw [hn]; simp)]
theorem fit_one (hl : lnOk c line = true) (v : Int) : Ar.wOk c ⟨v, 0, 0, 0, 0, 0, 0, 0⟩ = true := by
  obtain ⟨hok, _, _⟩ := ok_of_lnOk hl
  have hw := (ok_pows c hok).1.2
  unfold Ar.wOk
  rw [List.all_eq_true]
  intro k hk
  have := List.mem_range.1 hk
  rcases (show k = 0 ∨ k = 1 ∨ k = 2 ∨ k = 3 ∨ k = 4 ∨ k = 5 ∨ k = 6 ∨ k = 7 by omega) with rfl | rfl | rfl | rfl | rfl | rfl | rfl | rfl
  · simp; omega
  all_goals simp [Wd.at]
/-- The operation goes through. -/
theorem do_through (h : Inv c ⟨A, F ++ [x], B⟩) (hl : lnOk c line = true) (ht : (Ar.fnd c A line).2.2 = true) (hk : (Ar.fnd c A line).1.lk = true) :
    ∃ s2, doP c (rnd c A F B line n a ⟨v, 0, 0, 0, 0, 0, 0, 0⟩ (n + 1)) ⟨3, line * c.wo, 3⟩ = ((v, 0), s2) ∧ look c s2 line = ⟨4, line, ⟨3, 0, 0, 0, 0, 0, 0, 0⟩, true⟩ ∧ there c s2 line = true := by
  have h1 := (h.set_look (line := line) (st := 4) (d := ⟨v, 0, 0, 0, 0, 0, 0, 0⟩) ht (by decide) (fit_one hl v)).2 (by decide)
  have hi := h.setA line 4 ⟨v, 0, 0, 0, 0, 0, 0, 0⟩
  have h2 := (hi.set_look (line := line) (st := 4) (d := ⟨3, 0, 0, 0, 0, 0, 0, 0⟩) h1.2 (by decide) (fit_one hl 3)).2 (by decide)
  have e : rnd c A F B line n a ⟨v, 0, 0, 0, 0, 0, 0, 0⟩ (n + 1) = ⟨(Ar.setP c A line 4 ⟨v, 0, 0, 0, 0, 0, 0, 0⟩).2, F ++ [Mh.owesY (stt line n a ⟨v, 0, 0, 0, 0, 0, 0, 0⟩ (n + 1))], B⟩ := if_neg (by omega)
  have e1 : look c (rnd c A F B line n a ⟨v, 0, 0, 0, 0, 0, 0, 0⟩ (n + 1)) line = ⟨4, line, ⟨v, 0, 0, 0, 0, 0, 0, 0⟩, true⟩ := by
    rw [e]
    refine Eq.trans (show _ = look c (Cc.setA c ⟨A, F ++ [x], B⟩ line 4 ⟨v, 0, 0, 0, 0, 0, 0, 0⟩) line from rfl) ?_
    rw [h1.1]
    have : (look c ⟨A, F ++ [x], B⟩ line).lk = true := hk
    rw [this]
  refine ⟨Cc.setA c (rnd c A F B line n a ⟨v, 0, 0, 0, 0, 0, 0, 0⟩ (n + 1)) line 4 ⟨3, 0, 0, 0, 0, 0, 0, 0⟩, ?_, ?_, ?_⟩
  · rw [do_swap_at hl (by omega), e1, if_pos (by rfl)]
    rfl
  · rw [e]
    refine Eq.trans (show _ = look c (Cc.setA c (Cc.setA c ⟨A, F ++ [x], B⟩ line 4 ⟨v, 0, 0, 0, 0, 0, 0, 0⟩) line 4 ⟨3, 0, 0, 0, 0, 0, 0, 0⟩) line from rfl) ?_
    rw [h2.1, h1.1]
    have : (look c ⟨A, F ++ [x], B⟩ line).lk = true := hk
    rw [this]
  · rw [e]
    exact h2.2
/-- What Ask of the line leaves. -/
theorem Inv.ask_fill (h : Inv c s) (hr : refP c s line 2 = 0) (n a : Nat) (d : Wd) (core : Int) : ∃ A, askP c core s line 2 = ((toHomeP c core 2 line, 0), ⟨A, s.F ++ [stt line n a d 0], s.B⟩) ∧ (Ar.fnd c A line).2.2 = true ∧ (Ar.fnd c A line).1.lk = true ∧ letsB (Ar.fnd c A line).1 true = false ∧ Inv c ⟨A, s.F ++ [stt line n a d 0], s.B⟩ ∧ lnOk c line = true ∧ Mh.fnd s.F line = none := by
  obtain ⟨hl, hk, hf, hb, hn, hlen, ht⟩ := ref_zero hr
  have hi := h.ask (core := core) line 2
  have e : askP c core s line 2 = ((toHomeP c core 2 line, 0), ⟨(Ar.lockP c (layA c s line) line true).2, s.F ++ [stt line n a d 0], s.B⟩) := by
    unfold askP
    rw [if_neg (by simpa using hr), open_yes (.inr rfl) hf hlen]
    rfl
  rw [e] at hi
  refine ⟨_, e, ?_⟩
  obtain ⟨ht2, hk2⟩ := hi.locked.1 ⟨_, List.mem_append_right _ (List.mem_singleton.2 rfl), (stt_ln (line := line) (n := n) (a := a) (d := d) (i := 0))⟩
  refine ⟨ht2, hk2, ?_, hi, hl, hf⟩
  have key : ∀ (y : Ar.Wy) (j : Nat), (Ar.lockP c (layA c s line) line true).2[j]? = some y → Ar.tk y = true → y.ln = line → letsB y true = false → letsB (Ar.fnd c (Ar.lockP c (layA c s line) line true).2 line).1 true = false := by
    intro y j hy hty hyl hyn
    have q := (hi.look_of (i := j) (x := y) hy hty).1
    rw [hyl] at q
    have q2 : (Ar.fnd c (Ar.lockP c (layA c s line) line true).2 line).1 = y := q
    rw [q2]; exact hyn
  rcases Bool.eq_false_or_eq_true (there c s line) with hq | hq
  · obtain ⟨k, hp, hx, e1, _⟩ := h.ask_there hf hq
    have el : layA c s line = s.A := by unfold layA; rw [if_pos hq]
    have hln : (look c s line).ln = line := by
      rcases fnd_cases h.sA line with ⟨e, _⟩ | ⟨_, _, _, hln, _⟩
      · rw [hp] at e; cases e
      · exact hln
    refine key (Ar.lockY true (look c s line)) (Ar.soN c line + k) ?_ (by simp [Ar.tk, Ar.lockY]) hln ?_
    · rw [el, e1, List.getElem?_set, if_pos rfl, if_pos (List.getElem?_eq_some_iff.1 hx).1]
    · have : letsB (Ar.lockY true (look c s line)) true = letsB (look c s line) true := rfl
      rw [this]; exact hn
  · obtain ⟨k, y, hk', hx, htk, e1, hpn⟩ := h.ask_lay hl hq (ht.resolve_left (by simp [hq]))
    have el : layA c s line = (Ar.layP c s.A line (Ar.oi (Ar.fre c s.A line))).2 := by unfold layA; rw [if_neg (by simp [hq])]
    refine key (Ar.newY line) (Ar.soN c line + k) ?_ (by rfl) rfl (by rfl)
    rw [el, e1, List.getElem?_set, if_pos rfl, if_pos (List.getElem?_eq_some_iff.1 hx).1]

/-- All of it. -/
theorem Inv.fills (h : Inv c s) (hr : refP c s line 2 = 0) (h1 : 0 ≤ core) (h2 : core < c.co) (hn : c.co - 1 = (n : Int)) (ha : a ≤ n) (hv : -2147483648 ≤ v ∧ v ≤ 2147483647) :
    ∃ (R : Nat → St) (s2 : St), askP c core s line 2 = ((toHomeP c core 2 line, 0), R 0) ∧
      (∀ k, k ≤ n → doP c (R k) ⟨3, line * c.wo, 3⟩ = ((0, 5), R k)) ∧
      (∀ k, k ≤ n → k ≠ a → ∀ fr, 0 ≤ fr → fr < c.co → fr ≠ core → takeP c core (R k) (msg 9 line fr core 0 0 0 d0) = ((m0, false, 0), R (k + 1))) ∧
      takeP c core (R a) (msg 7 line (line % c.ho) core 0 (c.co - 1) 4 ⟨v, 0, 0, 0, 0, 0, 0, 0⟩) = ((m0, false, 0), R (a + 1)) ∧
      doP c (R (n + 1)) ⟨3, line * c.wo, 3⟩ = ((v, 0), s2) ∧ look c s2 line = ⟨4, line, ⟨3, 0, 0, 0, 0, 0, 0, 0⟩, true⟩ ∧ there c s2 line = true ∧ lnOk c line = true := by
  obtain ⟨A, e, ht, hk, hlt, hi, hl, hf⟩ := h.ask_fill hr n a ⟨v, 0, 0, 0, 0, 0, 0, 0⟩ core
  obtain ⟨s2, d1, d2, d3⟩ := do_through (n := n) (a := a) (v := v) hi hl ht hk
  refine ⟨rnd c A s.F s.B line n a ⟨v, 0, 0, 0, 0, 0, 0, 0⟩, s2, ?_, fun k hk => do_wait hl hlt hk, fun k hk hne fr f1 f2 f3 => take_ack (may_ack hl h1 h2 f1 f2 f3) hf ha hk hne, ?_, d1, d2, d3, hl⟩
  · rw [e]
    unfold rnd
    rw [if_pos (Nat.zero_le _)]
  · rw [hn]
    exact take_data (may_data hl h1 h2 (by omega) hv) hf ha

/-! Who sends the next ack. -/
def fromI (core : Int) (a k : Nat) : Int := if (if k ≤ a then (k : Int) else (k : Int) - 1) ≤ core then (if k ≤ a then (k : Int) else (k : Int) - 1) else (if k ≤ a then (k : Int) else (k : Int) - 1) + 1
theorem from_same : fromI core a (a + 1) = fromI core a a := by
  unfold fromI
  rw [if_pos (Nat.le_refl a), if_neg (show ¬ a + 1 ≤ a by omega), show ((a + 1 : Nat) : Int) - 1 = a by omega]
theorem from_zero (h : 0 ≤ core) : fromI core a 0 = 0 := by
  unfold fromI
  rw [if_pos (Nat.zero_le a), if_pos (by simpa using h)]
  rfl
theorem from_core {k : Nat} (hk : k ≤ n) (hne : k ≠ a) (ha : a ≤ n) (hn : c.co - 1 = (n : Int)) (h : fromI core a k = core) : core + 1 < c.co ∧ fromI core a (k + 1) = core + 1 + 1 := by
  unfold fromI at h ⊢
  split at h <;> split at h <;> split <;> split <;> omega
theorem from_other {k : Nat} (hk : k ≤ n) (hne : k ≠ a) (ha : a ≤ n) (hn : c.co - 1 = (n : Int)) (h : fromI core a k ≠ core) : 0 ≤ fromI core a k ∧ fromI core a k < c.co ∧ fromI core a (k + 1) = fromI core a k + 1 := by
  unfold fromI at h ⊢
  split at h <;> split at h <;> split <;> (try split) <;> (try split) <;> (try split) <;> omega
theorem sp_two (w : World) (o1 o2 : Obj) : Sp w [(w.heap.size + 1, o2), (w.heap.size, o1)] ((w.alloc o1).alloc o2) := by
  have q := Sp.add (Sp.add (bx := []) (w0 := w) (w := w) ⟨fun p hp => (by cases hp), List.Pairwise.nil, Below.refl _ _⟩ o1) o2
  rwa [show (w.alloc o1).heap.size = w.heap.size + 1 by simp] at q

end Go.Proofs.YtlfhkjjjocmpbaaGreatDoor.Cc
