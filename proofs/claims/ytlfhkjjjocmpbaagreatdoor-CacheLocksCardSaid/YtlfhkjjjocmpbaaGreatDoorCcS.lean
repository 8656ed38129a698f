/-
  What has an error changes nothing; behind a forward, and behind Inv, a line is let go. No program is spoken of here.
-/
import Derived.Test.YtlfhkjjjocmpbaaGreatDoorCcR
namespace Go.Proofs.YtlfhkjjjocmpbaaGreatDoor.Cc
open Go Go.RowKit

variable {c : Cfg} {s : St} {core : Int}
/-! What has an error changes nothing, and answers nothing else. -/
theorem leave_err {f : Wb.En → Wb.En} {line st : Int} (h : (leaveP c s f line st).1.2 ≠ 0) : (leaveP c s f line st).2 = s := by
  unfold leaveP at h ⊢
  dsimp only at h ⊢
  split at h
  · exact absurd rfl h
  · rename_i h1
    rw [if_neg h1]
    rcases ans_cases f s.B line with ⟨_, e⟩ | ⟨i, x, _, _, _, e⟩
    · rw [e]
    · rw [e] at h; exact absurd rfl h
theorem tell_err {f : Wb.En → Wb.En} {m : Msg} {left own : Int} (h : (tellP c core s f m left own).1.2.2 ≠ 0) : tellP c core s f m left own = ((m0, false, 7), s) := by
  unfold tellP at h ⊢
  dsimp only at h ⊢
  split at h
  · rename_i h1
    rw [if_pos h1, leave_err h1]
  · exact absurd rfl h
theorem came_err {line er : Int} (h : (cameP c s line er).1.2.2 ≠ 0) : cameP c s line er = ((m0, false, 7), s) ∧ er ≠ 0 := by
  unfold cameP at h ⊢
  dsimp only at h ⊢
  split at h
  · rename_i h1
    rw [if_pos h1]; exact ⟨rfl, h1⟩
  · exact absurd rfl h
theorem chg_err {F : List Mh.Ms} {line : Int} {f : Mh.Ms → Option Mh.Ms} (h : (Mh.chg F line f).1 ≠ 0) : (Mh.chg F line f).2 = F := by
  rcases chg_cases F line f with ⟨_, e⟩ | ⟨i, x, y, _, _, _, e⟩
  · exact e
  · rw [e] at h; exact absurd rfl h
theorem become_err {m : Msg} (h : (becomeP c core s m).1.2.2 ≠ 0) : becomeP c core s m = ((m0, false, 7), s) := by
  unfold becomeP at h ⊢
  split at h
  · rename_i e; rw [if_pos e]; exact tell_err h
  rename_i e4; rw [if_neg e4]
  split at h
  · rename_i e; rw [if_pos e]; exact tell_err h
  rename_i e5; rw [if_neg e5]
  split at h
  · rename_i e; rw [if_pos e]
    unfold forgetP at h ⊢
    dsimp only at h ⊢
    split at h
    · rename_i h1; rw [if_pos h1]
    · exact absurd rfl h
  rename_i e6; rw [if_neg e6]
  split at h
  · rename_i e; rw [if_pos e]
    unfold fillP at h ⊢
    obtain ⟨e1, e2⟩ := came_err h
    dsimp only at e1 e2 ⊢
    rw [e1, chg_err e2]
  rename_i e7; rw [if_neg e7]
  split at h
  · rename_i e; rw [if_pos e]
    unfold grantP at h ⊢
    split at h
    · rename_i h1; rw [if_pos h1]
    · rename_i h1; rw [if_neg h1]
      obtain ⟨e1, e2⟩ := came_err h
      dsimp only at e1 e2 ⊢
      rw [e1, chg_err e2]
  rename_i e8; rw [if_neg e8]
  split at h
  · rename_i e; rw [if_pos e]
    unfold countP at h ⊢
    obtain ⟨e1, e2⟩ := came_err h
    dsimp only at e1 e2 ⊢
    rw [e1, chg_err e2]
  rename_i e9; rw [if_neg e9]
  unfold dropP at h ⊢
  dsimp only at h ⊢
  split at h
  · rename_i h1
    rw [if_pos h1]
    rcases hp : Wb.fnd s.B m.ln with _ | i
    · rw [Wb.dropP_none hp]
    · rw [Wb.dropP_yes hp] at h1; exact absurd rfl h1
  · exact absurd rfl h
theorem take_err {m : Msg} (h : (takeP c core s m).1.2.2 ≠ 0) : ∃ e, takeP c core s m = ((m0, false, e), s) := by
  unfold takeP at h ⊢
  split at h
  · rename_i h1; rw [if_pos h1]; exact ⟨_, become_err h⟩
  · rename_i h1; rw [if_neg h1]; exact ⟨_, rfl⟩
theorem stp_err {x : Stp} (h : (doS c core s x).1.er ≠ 0) : (doS c core s x).2 = s ∧ (doS c core s x).1.m = m0 ∧ (doS c core s x).1.is = false ∧ (doS c core s x).1.n = 0 := by
  unfold doS at h ⊢
  split at h
  · rename_i e; rw [if_pos e]
    unfold askP at h ⊢
    split at h
    · rename_i h1; rw [if_pos h1]; exact ⟨rfl, rfl, rfl, rfl⟩
    · exact absurd rfl h
  rename_i e0; rw [if_neg e0]
  split at h
  · rename_i e; rw [if_pos e]
    unfold evictP at h ⊢
    dsimp only at h ⊢
    split at h
    · rename_i h1; rw [if_pos h1]; exact ⟨rfl, rfl, rfl, rfl⟩
    rename_i h1; rw [if_neg h1]
    split at h
    · rename_i h2; rw [if_pos h2]; exact ⟨rfl, rfl, rfl, rfl⟩
    rename_i h2; rw [if_neg h2]
    split at h
    · rename_i h3; rw [if_pos h3]; exact ⟨rfl, rfl, rfl, rfl⟩
    split at h
    · exact absurd rfl h
    · exact absurd rfl h
  rename_i e1; rw [if_neg e1]
  split at h
  · rename_i e; rw [if_pos e]
    obtain ⟨er, e2⟩ := take_err h
    rw [e2]; exact ⟨rfl, rfl, rfl, rfl⟩
  rename_i e2; rw [if_neg e2]
  split at h
  · exact absurd rfl h
  rename_i e3; rw [if_neg e3]
  unfold doP at h ⊢
  dsimp only at h ⊢
  split at h
  · rename_i h1; rw [if_pos h1]; exact ⟨rfl, rfl, rfl, rfl⟩
  rename_i h1; rw [if_neg h1]
  split at h
  · rename_i h2; rw [if_pos h2]; exact ⟨rfl, rfl, rfl, rfl⟩
  · exact absurd rfl h

/-! An address, and operations of it. -/
theorem line_addr {line : Int} (hl : lnOk c line = true) : adOk c (line * c.wo) = true ∧ adL c (line * c.wo) = line ∧ line * c.wo % c.wo = 0 ∧ 0 ≤ line * c.wo ∧ line * c.wo ≤ 8191 ∧ joA c line 0 = line * c.wo ∧ joE c line 0 = 0 := by
  obtain ⟨hok, h0, h1⟩ := ok_of_lnOk hl
  have hp := ok_pows c hok
  have hw := hp.1.2
  have hli := hp.2.2.2.2
  have m0 : 0 ≤ line * c.wo := Int.mul_nonneg h0 (by omega)
  have m1 : (line + 1) * c.wo ≤ c.li * c.wo := Int.mul_le_mul_of_nonneg_right (by omega) (by omega)
  have m2 : c.li * c.wo ≤ 1024 * c.wo := Int.mul_le_mul_of_nonneg_right (by omega) (by omega)
  rw [Int.add_mul, Int.one_mul] at m1
  have ha : adOk c (line * c.wo) = true := by
    unfold adOk sz
    rw [if_pos hok, Int.mul_comm c.wo]
    simp only [inR, Bool.and_eq_true, decide_eq_true_eq]
    omega
  have hj : inR 0 c.wo = true := by simp only [inR, Bool.and_eq_true, decide_eq_true_eq]; omega
  have hjo := joOk_yes hl hj
  refine ⟨ha, ?_, Int.mul_emod_left _ _, m0, by omega, by rw [hjo.1]; omega, hjo.2⟩
  unfold adL
  rw [if_pos ha]
  exact Int.mul_ediv_cancel _ (by omega)
theorem ap_at {line : Int} (hl : lnOk c line = true) (d : Wd) (k v : Int) (hk : k = 1 ∧ v = 0 ∨ k = 3 ∧ -2147483648 ≤ v ∧ v ≤ 2147483647) : Me.apP c d ⟨k, line * c.wo, v⟩ = (d.put 0 (Me.lft (d.at 0) ⟨k, line * c.wo, v⟩), Me.tld (d.at 0) ⟨k, line * c.wo, v⟩, 0) := by
  obtain ⟨h1, _, h3, h4, h5, _⟩ := line_addr hl
  unfold Me.apP
  rw [if_pos ⟨h1, Pg.may_iff.2 (by show _ ∧ _ ∧ _ ∧ _ ∧ _; dsimp only; omega), by dsimp only; omega⟩]
  dsimp only
  rw [h3]
  rfl
theorem do_load_at {line : Int} (hl : lnOk c line = true) : doP c s ⟨1, line * c.wo, 0⟩ = (if letsB (look c s line) false = true then ((look c s line).wd.at 0, 0) else (0, 5), s) := by
  unfold doP
  dsimp only
  rw [(line_addr hl).2.1, ap_at hl _ 1 0 (.inl ⟨rfl, rfl⟩)]
  dsimp only
  rw [if_neg (by simp)]
  rcases Bool.eq_false_or_eq_true (letsB (look c s line) false) with h | h
  · rw [if_neg (by show ¬ letsB _ ((1 : Int) != 1) = false; rw [show ((1 : Int) != 1) = false by decide, h]; simp), if_pos h, if_neg (by decide)]
    rfl
  · rw [if_pos (by show letsB _ ((1 : Int) != 1) = false; rw [show ((1 : Int) != 1) = false by decide, h]), if_neg (by rw [h]; simp)]
theorem do_swap_at {line v : Int} (hl : lnOk c line = true) (hv : -2147483648 ≤ v ∧ v ≤ 2147483647) : doP c s ⟨3, line * c.wo, v⟩ = if letsB (look c s line) true = true then (((look c s line).wd.at 0, 0), setA c s line 4 ((look c s line).wd.put 0 v)) else ((0, 5), s) := by
  unfold doP
  dsimp only
  rw [(line_addr hl).2.1, ap_at hl _ 3 v (.inr ⟨rfl, hv⟩)]
  dsimp only
  rw [if_neg (by simp)]
  rcases Bool.eq_false_or_eq_true (letsB (look c s line) true) with h | h
  · rw [if_neg (by show ¬ letsB _ ((3 : Int) != 1) = false; rw [show ((3 : Int) != 1) = true by decide, h]; simp), if_pos h, if_pos (by decide)]
    rfl
  · rw [if_pos (by show letsB _ ((3 : Int) != 1) = false; rw [show ((3 : Int) != 1) = true by decide, h]), if_neg (by rw [h]; simp)]

/-! Forwards and Inv. -/
theorem owns_st {x : Ar.Wy} : ownsB x = true ↔ x.st = 3 ∨ x.st = 2 ∨ x.st = 4 := by simp [ownsB, letsB]
theorem Inv.owned_there (h : Inv c s) {line : Int} (ho : ownsB (look c s line) = true) : there c s line = true := by
  rcases fnd_cases h.sA line with ⟨_, e, _⟩ | ⟨k, _, _, _, _, e, _⟩
  · rw [e] at ho; cases ho
  · exact e
/-- What a forward that went through leaves. -/
theorem Inv.tell_ok (h : Inv c s) {f : Wb.En → Wb.En} {m : Msg} {left own : Int} (hl : left = 3 ∨ left = 0) (he : (tellP c core s f m left own).1.2.2 = 0) :
    (look c (tellP c core s f m left own).2 m.ln).st = left ∧ (left = 3 → (look c (tellP c core s f m left own).2 m.ln).wd = (look c s m.ln).wd ∧ (look c s m.ln).st ≠ 0) ∧ ownsB (look c s m.ln) = true ∨
    look c s m.ln = Ar.y0 ∧ ownsB (look c s m.ln) = false ∧ ∃ i x, s.B[i]? = some x ∧ x.ln = m.ln ∧ x.lv = true ∧ (tellP c core s f m left own).2 = { s with B := s.B.set i (f x) } := by
  unfold tellP at he ⊢
  dsimp only at he ⊢
  split at he
  · cases he
  · rename_i h1
    rw [if_neg h1]
    unfold leaveP at h1 ⊢
    dsimp only at h1 ⊢
    rcases Bool.eq_false_or_eq_true (ownsB (look c s m.ln)) with ho | ho
    · left
      rw [if_pos ho]
      have st := h.st m.ln
      have q := h.set_look (h.owned_there ho) (st := left) (d := (look c s m.ln).wd) (by rcases hl with e | e <;> rw [e] <;> decide) st.2
      refine ⟨q.1, fun h3 => ⟨?_, ?_⟩, ho⟩
      · rw [(q.2 (by omega)).1]
      · have := owns_st.1 ho; omega
    · right
      rw [if_neg (by rw [ho]; simp)] at h1 ⊢
      rcases ans_cases f s.B m.ln with ⟨e, _⟩ | ⟨i, x, hx, hln, hlv, e⟩
      · exact absurd e h1
      · refine ⟨?_, ho, i, x, hx, hln, hlv, by rw [e]⟩
        rw [← hln]
        exact h.apart (List.mem_of_getElem? hx)
theorem Inv.forget_ok (h : Inv c s) {m : Msg} (he : (forgetP c core s m).1.2.2 = 0) : (look c (forgetP c core s m).2 m.ln).st = 0 := by
  unfold forgetP at he ⊢
  dsimp only at he ⊢
  split at he
  · cases he
  · rename_i h1
    rw [if_neg h1]
    dsimp only
    have st := h.st m.ln
    split
    · rename_i h2
      have ht : there c s m.ln = true := by
        rcases fnd_cases h.sA m.ln with ⟨_, e, _⟩ | ⟨k, _, _, _, _, e, _⟩
        · rw [e] at h2; cases h2
        · exact e
      exact (h.set_look ht (by decide) (d0_fit c)).1
    · rename_i h2
      have h3 : ¬ ((look c s m.ln).st = 3 ∨ (look c s m.ln).st = 2 ∨ (look c s m.ln).st = 4) := fun q => h1 (owns_st.2 q)
      have := st.1
      simp only [Ar.stOk, Bool.and_eq_true, decide_eq_true_eq] at this
      omega
theorem lets_no {x : Ar.Wy} (h : x.st = 0) : letsB x false = false ∧ letsB x true = false := by simp [letsB, h]
/-- What the law asks of a line, and of who tells it. -/
theorem Inv.lets (h : Inv c s) {line who kind : Int} (hl : lnOk c line = true) (hk : 4 ≤ kind ∧ kind ≤ 6) (fr : Int) :
    ((takeP c core s (msg kind line fr core who 0 0 d0)).1.2.2 ≠ 0 → (doP c (takeP c core s (msg kind line fr core who 0 0 d0)).2 ⟨1, line * c.wo, 0⟩).1 = (doP c s ⟨1, line * c.wo, 0⟩).1) ∧
    ((takeP c core s (msg kind line fr core who 0 0 d0)).1.2.2 = 0 → kind ≠ 4 → (doP c (takeP c core s (msg kind line fr core who 0 0 d0)).2 ⟨1, line * c.wo, 0⟩).1.2 = 5) ∧
    ((takeP c core s (msg kind line fr core who 0 0 d0)).1.2.2 = 0 → kind = 4 → (doP c (takeP c core s (msg kind line fr core who 0 0 d0)).2 ⟨1, line * c.wo, 0⟩).1 = (doP c s ⟨1, line * c.wo, 0⟩).1 ∧ (doP c (takeP c core s (msg kind line fr core who 0 0 d0)).2 ⟨3, line * c.wo, 0⟩).1.2 = 5) := by
  rw [do_load_at hl, do_load_at hl, do_swap_at hl (by omega)]
  refine ⟨fun he => ?_, fun he h4 => ?_, fun he h4 => ?_⟩
  · obtain ⟨e, q⟩ := take_err he
    rw [q]
  · have hs : (look c (takeP c core s (msg kind line fr core who 0 0 d0)).2 line).st = 0 := by
      unfold takeP at he ⊢
      split at he
      · rename_i h1
        rw [if_pos h1]
        unfold becomeP at he ⊢
        have k4 : ¬ (msg kind line fr core who 0 0 d0).kd = 4 := h4
        rw [if_neg k4] at he ⊢
        rcases (show kind = 5 ∨ kind = 6 by omega) with rfl | rfl
        · rw [if_pos (show (msg 5 line fr core who 0 0 d0).kd = 5 from rfl)] at he ⊢
          rcases h.tell_ok (.inr rfl) he with ⟨e, _⟩ | ⟨e, _, i, x, _, _, _, e2⟩
          · exact e
          · rw [e2]
            exact congrArg Ar.Wy.st e
        · rw [if_neg (show ¬ (msg 6 line fr core who 0 0 d0).kd = 5 from by show ¬ (6 : Int) = 5; decide), if_pos (show (msg 6 line fr core who 0 0 d0).kd = 6 from rfl)] at he ⊢
          exact h.forget_ok he
      · cases he
    rw [if_neg (by rw [(lets_no hs).1]; simp)]
  · subst h4
    unfold takeP at he ⊢
    split at he
    · rename_i h1
      rw [if_pos h1]
      unfold becomeP at he ⊢
      rw [if_pos (show (msg 4 line fr core who 0 0 d0).kd = 4 from rfl)] at he ⊢
      rcases h.tell_ok (.inl rfl) he with ⟨e, e2, _⟩ | ⟨e, _, i, x, hx, _, _, e2⟩
      · obtain ⟨e3, e4⟩ := e2 rfl
        replace e : (look c (tellP c core s id (msg 4 line fr core who 0 0 d0) 3 1).2 line).st = 3 := e
        replace e3 : (look c (tellP c core s id (msg 4 line fr core who 0 0 d0) 3 1).2 line).wd = (look c s line).wd := e3
        replace e4 : (look c s line).st ≠ 0 := e4
        have a1 : letsB (look c (tellP c core s id (msg 4 line fr core who 0 0 d0) 3 1).2 line) false = true := by simp [letsB, e]
        have a2 : letsB (look c s line) false = true := by simp [letsB, e4]
        have a3 : letsB (look c (tellP c core s id (msg 4 line fr core who 0 0 d0) 3 1).2 line) true = false := by simp [letsB, e]
        rw [if_pos a1, if_pos a2, if_neg (by rw [a3]; simp), e3]
        exact ⟨rfl, rfl⟩
      · have e5 : (tellP c core s id (msg 4 line fr core who 0 0 d0) 3 1).2 = s := by
          rw [e2]
          have : s.B.set i (id x) = s.B := by
            obtain ⟨hi, rfl⟩ := List.getElem?_eq_some_iff.1 hx
            exact List.set_getElem_self hi
          rw [this]
        replace e : look c s line = Ar.y0 := e
        rw [e5, e]
        exact ⟨rfl, rfl⟩
    · cases he

end Go.Proofs.YtlfhkjjjocmpbaaGreatDoor.Cc
