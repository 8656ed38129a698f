/-
  What is told of a line is what was written last, in plain words. No program is spoken of here.
-/
import Derived.Test.YtlfhkjjjocmpbaaGreatDoorCcXa
namespace Go.Proofs.YtlfhkjjjocmpbaaGreatDoor.Cc
open Go Go.RowKit

variable {c : Cfg} {s : St} {core line who left own : Int} {want : Wd} {m : Msg} {f : Wb.En → Wb.En}
/-- A forward. -/
abbrev fwd (c : Cfg) (kind line core who : Int) : Msg := msg kind line (line % c.ho) core who 0 0 d0
theorem may_fwd {kind : Int} (hl : lnOk c line = true) (h1 : 0 ≤ core) (h2 : core < c.co) (h3 : 0 ≤ who) (h4 : who < c.co) (h5 : who ≠ core) (hk : kind = 4 ∨ kind = 5) : mayM c (fwd c kind line core who) = true := by
  obtain ⟨hok, l0, l1⟩ := ok_of_lnOk hl
  have hco := (ok_sizes hok).1
  have hh : holdsB c (fwd c kind line core who) = true := by
    unfold holdsB
    have e : (fwd c kind line core who).kd = kind := rfl
    rw [e, if_neg (by omega), if_neg (by omega), if_neg (by omega), if_pos (by omega)]
    show ((line % c.ho == line % c.ho && isin core c.co) && ((isin who c.co && who != core) && (acks c 0 (kind == 5) && (0 : Int) == 0))) = true
    rw [isin_yes h1 h2, isin_yes h3 h4]
    rcases hk with rfl | rfl
    · simp [h5, acks]
    · have : acks c 0 ((5 : Int) == 5) = true := by
        unfold acks
        rw [if_pos (by rfl)]
        exact isin_yes (by omega) (by omega)
      rw [this]
      simp [h5]
  unfold mayM
  rw [hok, show isin (fwd c kind line core who).ln c.li = true from isin_yes l0 l1, show isKind (fwd c kind line core who).kd = true from isKind_yes (by show 1 ≤ kind; omega) (by show kind ≤ 11; omega), hh]
  simp only [Bool.true_and]
  refine words_yes fun k hk => word_zero ?_
  rcases (show k = 0 ∨ k = 1 ∨ k = 2 ∨ k = 3 ∨ k = 4 ∨ k = 5 ∨ k = 6 ∨ k = 7 by omega) with rfl | rfl | rfl | rfl | rfl | rfl | rfl | rfl <;> rfl

/-- A line's words are here, or in the buffer. -/
def Has (c : Cfg) (s : St) (line : Int) (want : Wd) : Prop :=
  (there c s line = true ∧ 2 ≤ (look c s line).st ∧ (look c s line).wd = want) ∨ (look c s line = Ar.y0 ∧ ∃ i : Nat, s.B[i]? = some ⟨line, want, true⟩)
theorem Inv.has_evict (h : Inv c s) (hh : Has c s line want) {set way : Int} (hx : (atP c s set way).1.ln = line) : Has c (evictP c core s set way).2 line want := by
  unfold evictP
  rcases hy : atP c s set way with ⟨⟨st, ln, wd, lk⟩, q⟩
  rw [hy] at hx
  have hx' : ln = line := hx
  subst hx'
  dsimp only
  split
  · exact hh
  · rename_i h1
    split
    · exact hh
    · rename_i h2
      split
      · exact hh
      · rename_i h3
        simp at h1 h2 h3
        obtain ⟨rfl, h0⟩ := h1
        subst h2
        obtain ⟨_, _, _, _, hx⟩ := at_some h.sA hy
        have hlk := (h.look_of hx (tk_st h0)).1
        dsimp only at hlk
        have hc : 2 ≤ st ∧ wd = want := by
          rcases hh with ⟨_, h4, h5⟩ | ⟨h4, _⟩
          · rw [hlk] at h4 h5
            exact ⟨h4, h5⟩
          · rw [hlk] at h4
            exact absurd (congrArg Ar.Wy.st h4) h0
        obtain ⟨h4, rfl⟩ := hc
        split
        · omega
        · obtain ⟨e, g⟩ := h.goes hx h0 rfl
          have hlen : (s.B.length : Int) ≠ c.wb := by have := h3 (by omega); omega
          dsimp only at e g
          rw [bput_yes (h.bfnd (List.mem_of_getElem? hx) (tk_st h0)) hlen, e]
          have hm : Wb.newE ln wd ∈ s.B ++ [Wb.newE ln wd] := by simp
          exact .inr ⟨g.apart hm, s.B.length, by simp [Wb.newE]⟩

/-! Forwards. -/
theorem tell_owned (ho : ownsB (look c s m.ln) = true) : tellP c core s f m left own = ((msg 7 m.ln core m.wh 1 m.ac own (look c s m.ln).wd, true, 0), setA c s m.ln left (look c s m.ln).wd) := by
  unfold tellP leaveP
  dsimp only
  rw [if_pos ho]
  rfl
theorem tell_buf {i : Nat} {b : Wb.En} (ho : ownsB (look c s m.ln) = false) (hi : Wb.fnd s.B m.ln = some i) (hx : s.B[i]? = some b) (hv : b.lv = true) : tellP c core s f m left own = ((msg 7 m.ln core m.wh 1 m.ac own b.wd, true, 0), { s with B := s.B.set i (f b) }) := by
  unfold tellP leaveP
  simp [ho, Wb.ansP_yes f hi hx hv]
theorem tell_none (ho : ownsB (look c s m.ln) = false) (hi : (Wb.ansP f s.B m.ln).1.2 ≠ 0) : (tellP c core s f m left own).1 = (m0, false, 7) := by
  unfold tellP leaveP
  simp [ho, hi]
theorem take_4 (hm : mayM c (fwd c 4 line core who) = true) (s : St) : takeP c core s (fwd c 4 line core who) = tellP c core s id (fwd c 4 line core who) 3 1 := by
  unfold takeP
  rw [if_pos ⟨by show (4 : Int) ≤ 4; decide, by show (4 : Int) ≤ 10; decide, hm, rfl⟩]
  rfl
theorem take_5 (hm : mayM c (fwd c 5 line core who) = true) (s : St) : takeP c core s (fwd c 5 line core who) = tellP c core s Wb.gone (fwd c 5 line core who) 0 4 := by
  unfold takeP
  rw [if_pos ⟨by show (4 : Int) ≤ 5; decide, by show (5 : Int) ≤ 10; decide, hm, rfl⟩]
  rfl
theorem Inv.told (h : Inv c s) (hh : Has c s line want) (h4 : mayM c (fwd c 4 line core who) = true) (h5 : mayM c (fwd c 5 line core who) = true) :
    ∃ s1 s2 s3, takeP c core s (fwd c 4 line core who) = ((msg 7 line core who 1 0 1 want, true, 0), s1) ∧ takeP c core s1 (fwd c 5 line core who) = ((msg 7 line core who 1 0 4 want, true, 0), s2) ∧ takeP c core s2 (fwd c 4 line core who) = ((m0, false, 7), s3) := by
  rcases hh with ⟨ht, hs, hw⟩ | ⟨hy, i, hb⟩
  · have hst := h.st line
    have hle : (look c s line).st ≤ 4 := by have := hst.1; simp [Ar.stOk] at this; exact this.2
    have hfit : Ar.wOk c want = true := hw ▸ hst.2
    have ho : ownsB (look c s line) = true := owns_st.2 (by omega)
    have q1 := (h.set_look ht (st := 3) (d := want) (by decide) hfit).2 (by decide)
    have i1 := h.setA line 3 want
    have q2 := (i1.set_look q1.2 (st := 0) (d := want) (by decide) hfit).1
    have ho1 : ownsB (look c (Cc.setA c s line 3 want) line) = true := owns_st.2 (by rw [q1.1]; exact .inl rfl)
    have ho2 : ownsB (look c (Cc.setA c (Cc.setA c s line 3 want) line 0 want) line) = false := by simp [ownsB, letsB, q2]
    have hn : Wb.fnd s.B line = none := by
      rcases fnd_cases h.sA line with ⟨_, _, e⟩ | ⟨k, _, hx, hln, htk, _⟩
      · rw [e] at ht; cases ht
      · have := h.bfnd (List.mem_of_getElem? hx) htk
        rw [hln] at this
        exact this
    refine ⟨Cc.setA c s line 3 want, Cc.setA c (Cc.setA c s line 3 want) line 0 want, (takeP c core (Cc.setA c (Cc.setA c s line 3 want) line 0 want) (fwd c 4 line core who)).2, ?_, ?_, ?_⟩
    · rw [take_4 h4, tell_owned (m := fwd c 4 line core who) ho]
      show ((msg 7 line core who 1 0 1 (look c s line).wd, true, 0), Cc.setA c s line 3 (look c s line).wd) = _
      rw [hw]
    · rw [take_5 h5, tell_owned (m := fwd c 5 line core who) ho1]
      show ((msg 7 line core who 1 0 4 (look c (Cc.setA c s line 3 want) line).wd, true, 0), Cc.setA c (Cc.setA c s line 3 want) line 0 (look c (Cc.setA c s line 3 want) line).wd) = _
      rw [q1.1]
    · refine Prod.ext ?_ rfl
      rw [take_4 h4]
      refine tell_none (m := fwd c 4 line core who) ho2 ?_
      show (Wb.ansP id s.B line).1.2 ≠ 0
      rw [Wb.ansP_none id hn]
      simp
  · have hi := Wb.fnd_at h.uB hb
    dsimp only at hi
    have ho : ownsB (look c s line) = false := by rw [hy]; rfl
    have e1 : s.B.set i (id ⟨line, want, true⟩) = s.B := by
      obtain ⟨hl, e⟩ := List.getElem?_eq_some_iff.1 hb
      show s.B.set i ⟨line, want, true⟩ = s.B
      rw [← e]
      exact List.set_getElem_self hl
    have hl : i < s.B.length := (List.getElem?_eq_some_iff.1 hb).1
    have hb2 : (s.B.set i ⟨line, want, false⟩)[i]? = some ⟨line, want, false⟩ := by rw [List.getElem?_set, if_pos rfl, if_pos hl]
    have hu2 : ((s.B.set i ⟨line, want, false⟩).map Wb.En.ln).Nodup := by rw [map_set (f := Wb.En.ln) (y := ⟨line, want, false⟩) hb rfl]; exact h.uB
    have hi2 := Wb.fnd_at hu2 hb2
    dsimp only at hi2
    refine ⟨s, { s with B := s.B.set i ⟨line, want, false⟩ }, (takeP c core { s with B := s.B.set i ⟨line, want, false⟩ } (fwd c 4 line core who)).2, ?_, ?_, ?_⟩
    · rw [take_4 h4, tell_buf (m := fwd c 4 line core who) ho hi hb rfl, e1]
      rfl
    · rw [take_5 h5, tell_buf (m := fwd c 5 line core who) ho hi hb rfl]
      rfl
    · refine Prod.ext ?_ rfl
      rw [take_4 h4]
      refine tell_none (m := fwd c 4 line core who) ho ?_
      show (Wb.ansP id (s.B.set i ⟨line, want, false⟩) line).1.2 ≠ 0
      rw [Wb.ansP_no id hi2 hb2 rfl]
      simp

/-! Do. -/
theorem do_bad {x : Pg.Op} (h : adE c x.a ≠ 0 ∨ (doP c s x).1.2 ≠ 0) : (doP c s x).1.1 = 0 := by
  unfold doP at h ⊢
  dsimp only at h ⊢
  split
  · rfl
  · rename_i h1
    split
    · rfl
    · rename_i h2
      rw [if_neg h1, if_neg h2] at h
      rcases h with h | h
      · have := (ap_ok (by simpa using h1)).1
        simp [adE, this] at h
      · exact absurd rfl h
/-- The words as an operation leaves them. -/
def wnt (c : Cfg) (s : St) (x : Pg.Op) : Wd := if x.k = 1 then (look c s (adL c x.a)).wd else (look c s (adL c x.a)).wd.put (x.a % c.wo).toNat x.v
theorem put_same (d : Wd) (k : Nat) : d.put k (d.at k) = d := by
  by_cases h : k < 8
  · rcases (show k = 0 ∨ k = 1 ∨ k = 2 ∨ k = 3 ∨ k = 4 ∨ k = 5 ∨ k = 6 ∨ k = 7 by omega) with rfl | rfl | rfl | rfl | rfl | rfl | rfl | rfl <;> rfl
  · have : d.toL.set k (d.at k) = d.toL := List.set_eq_of_length_le (by rw [Wd.len]; omega)
    unfold Wd.put
    rw [this]
    rfl
theorem Inv.does (h : Inv c s) {x : Pg.Op} {n : Int} {s1 : St} (hd : doP c s x = ((n, 0), s1)) :
    adOk c x.a = true ∧ (x.k = 1 ∨ x.k = 2 ∨ x.k = 3) ∧ n = (if x.k = 2 then 0 else (look c s (adL c x.a)).wd.at (x.a % c.wo).toNat) ∧ Inv c s1 ∧ there c s1 (adL c x.a) = true ∧ (look c s1 (adL c x.a)).wd = wnt c s x ∧ (x.k ≠ 1 → (look c s1 (adL c x.a)).st = 4) := by
  have hI := h.doX x
  rw [hd] at hI
  unfold doP at hd
  dsimp only at hd
  split at hd
  · rename_i h1
    exact absurd (Prod.mk.inj (Prod.mk.inj hd).1).2 h1
  · rename_i h1
    split at hd
    · cases hd
    · rename_i h2
      obtain ⟨a1, a2, a3, a4⟩ := ap_ok (show (Me.apP c (look c s (adL c x.a)).wd x).2.2 = 0 by simpa using h1)
      have hk : x.k = 1 ∨ x.k = 2 ∨ x.k = 3 := by have := Pg.may_iff.1 a2; omega
      have h2' : letsB (look c s (adL c x.a)) (x.k != 1) = true := by simpa using h2
      have hne : (look c s (adL c x.a)).st ≠ 0 := fun e => by
        rcases Bool.eq_false_or_eq_true (x.k != 1) with q | q <;> rw [q] at h2'
        · rw [(lets_no e).2] at h2'; cases h2'
        · rw [(lets_no e).1] at h2'; cases h2'
      have ht : there c s (adL c x.a) = true := by
        rcases fnd_cases h.sA (adL c x.a) with ⟨_, e, _⟩ | ⟨k, _, _, _, _, e, _⟩
        · rw [e] at hne; exact absurd rfl hne
        · exact e
      rw [a4] at hd
      dsimp only at hd
      obtain ⟨hd1, hd2⟩ := Prod.mk.inj hd
      have hd1 := (Prod.mk.inj hd1).1
      refine ⟨a1, hk, ?_, hI, ?_⟩
      · rw [← hd1]
        unfold Me.tld
        rcases hk with e | e | e <;> simp [e]
      · by_cases k1 : x.k = 1
        · rw [if_neg (by simp [k1])] at hd2
          subst hd2
          unfold wnt
          rw [if_pos k1]
          exact ⟨ht, rfl, fun q => absurd k1 q⟩
        · rw [if_pos (by simpa using k1)] at hd2
          have el : Me.lft ((look c s (adL c x.a)).wd.at (x.a % c.wo).toNat) x = x.v := by unfold Me.lft; rw [if_pos (by omega)]
          rw [el] at hd2
          have hw := word_lt a1
          have q := (h.set_look ht (st := 4) (d := (look c s (adL c x.a)).wd.put (x.a % c.wo).toNat x.v) (by decide) (put_fit (h.st _).2 hw.1 hw.2.1)).2 (by decide)
          rw [hd2] at q
          unfold wnt
          rw [if_neg k1]
          refine ⟨q.2, ?_, fun _ => ?_⟩ <;> rw [q.1]

end Go.Proofs.YtlfhkjjjocmpbaaGreatDoor.Cc
