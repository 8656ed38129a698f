/-
  A home in plain words: what it knows of its lines, its memory's words, its requests; what each call answers and makes of them, and what holds of them all. No program is spoken of here.
-/
import Derived.Test.YtpknfbgnclgpmaaGreatDoorTbPa
import Derived.Test.YtpknfbgnclgpmaaGreatDoorLayTb
import Derived.Test.YtpknfbgnclgpmaaGreatDoorLayMe
import Derived.Test.YtpknfbgnclgpmaaGreatDoorLayQu
import Derived.Test.YtpknfbgnclgpmaaGreatDoorLayMs
namespace Go.Proofs.YtpknfbgnclgpmaaGreatDoor.Ho
open Go Go.RowKit

/-- What a home has: of each line an entry, all words, requests, and how many were odd. -/
structure Hs where
  E : Int → Sh.En
  L : List Int
  Q : List Qu.En
  od : Int
abbrev wdOf (m : Msg) : Me.Wd := ⟨m.w0, m.w1, m.w2, m.w3, m.w4, m.w5, m.w6, m.w7⟩
abbrev w8Of (d : Me.Wd) : Sh.W8 := ⟨d.a0, d.a1, d.a2, d.a3, d.a4, d.a5, d.a6, d.a7⟩
abbrev mz : Msg := ⟨0, 0, 0, 0, 0, 0, 0, 0, 0, 0, 0, 0, 0, 0, 0⟩
/-- Is a line its own? -/
def ownB (c : Cfg) (n y : Int) : Bool := inR y c.li && y % c.ho == n
def upd (E : Int → Sh.En) (y : Int) (e : Sh.En) : Int → Sh.En := fun z => if z = y then e else E z
/-- What comes of a request. -/
def turnP (c : Cfg) (s : Hs) (x : Msg) : Sh.Tn × Int := Sh.nextT (s.E x.ln) x (w8Of (Me.lnP c s.L x.ln).1)
def dropQ (l : List Qu.En) (a : Int) (x : Msg) : List Qu.En := (Qu.finP (Qu.sentP (Qu.startP l a [x]).2 a).2 x.ln x.fr).2
def beginX (c : Cfg) (s : Hs) (a : Int) (x : Msg) : Hs :=
  if (turnP c s x).2 ≠ 0 then ⟨s.E, s.L, dropQ s.Q a x, wrap64 (s.od + 1)⟩
  else ⟨upd s.E x.ln (turnP c s x).1.e, if (turnP c s x).1.wr = true then (Me.wrP c s.L x.ln (wdOf x)).2 else s.L, (Qu.startP s.Q a (turnP c s x).1.sent).2, s.od⟩
def beginP (c : Cfg) (s : Hs) (a : Int) : Hs := beginX c s a (Qu.getP s.Q a).1.m
/-- How much room there is on a network. -/
def leftP (a b d n : Int) : Int := if n = 0 then a else if n = 1 then b else d
/-- A step, as a law tells it. -/
structure Sp where
  k : Int
  n : Int
  a : Int
  b : Int
  d : Int
  m : Msg
/-- What a step answers: a message, whether it is to be sent, whether something was done, an error's number. -/
abbrev Rp := Msg × Bool × Bool × Int
def goesB (s : Hs) (at_ a b d : Int) : Bool := (Qu.nextP s.Q at_).2 && decide (0 < leftP a b d (net (Qu.nextP s.Q at_).1.kd))
def workP (c : Cfg) (s : Hs) (at_ a b d : Int) : (Msg × Bool × Bool) × Hs :=
  if Qu.rdy s.Q at_ = true then ((mz, false, true), beginP c s at_)
  else if goesB s at_ a b d = false then ((mz, false, false), s)
  else (((Qu.nextP s.Q at_).1, true, true), { s with Q := (Qu.sentP s.Q at_).2 })
def meantB (c : Cfg) (n : Int) (m : Msg) : Bool := mayM c m && m.to == n
def acceptP (c : Cfg) (n : Int) (s : Hs) (m : Msg) : Int × Hs :=
  if (meantB c n m && net m.kd == 0) = true then ((Qu.addP c.bu s.Q m).1, { s with Q := (Qu.addP c.bu s.Q m).2 }) else (1, s)
def doneP (c : Cfg) (n : Int) (s : Hs) (m : Msg) : Int × Hs :=
  if (meantB c n m && m.kd == 11) = true then ((Qu.finP s.Q m.ln m.fr).1, { s with Q := (Qu.finP s.Q m.ln m.fr).2 }) else (1, s)
def doP (c : Cfg) (n : Int) (s : Hs) (x : Sp) : Rp × Hs :=
  if x.k = 0 then ((mz, false, false, (acceptP c n s x.m).1), (acceptP c n s x.m).2)
  else if x.k = 1 then (((workP c s x.n x.a x.b x.d).1.1, (workP c s x.n x.a x.b x.d).1.2.1, (workP c s x.n x.a x.b x.d).1.2.2, 0), (workP c s x.n x.a x.b x.d).2)
  else ((mz, false, false, (doneP c n s x.m).1), (doneP c n s x.m).2)

/-! What holds of a request that waits, of a message that is to be sent for one, and of a line's entry. -/
structure Rq (c : Cfg) (n : Int) (m : Msg) : Prop where
  ln : ownB c n m.ln = true
  kd : m.kd = 1 ∨ m.kd = 2 ∨ m.kd = 3
  fr : 0 ≤ m.fr ∧ m.fr < c.co
  to : m.to = n
structure Sd (n ln : Int) (m : Msg) : Prop where
  fr : m.fr = n
  ln : m.ln = ln
  kd : m.kd = 4 ∨ m.kd = 5 ∨ m.kd = 6 ∨ m.kd = 7 ∨ m.kd = 8 ∨ m.kd = 10
structure Et (c : Cfg) (e : Sh.En) : Prop where
  may : e.may = true
  sc : e.s.c = c.co
  sm : e.s.m = c.po
/-- Of a home. -/
structure Good (c : Cfg) (n : Int) (s : Hs) : Prop where
  ok : okC c = true
  n0 : 0 ≤ n
  n1 : n < c.ho
  q : Qu.Good c.bu s.Q
  rq : ∀ x ∈ s.Q, Rq c n x.m
  sd : ∀ x ∈ s.Q, ∀ m ∈ x.l, Sd n x.m.ln m
  en : ∀ y, ownB c n y = true → Et c (s.E y)

theorem sizes {c : Cfg} (h : okC c = true) : (1 ≤ c.co ∧ c.co ≤ 64) ∧ (1 ≤ c.ho ∧ c.ho ≤ 16) ∧ (1 ≤ c.li ∧ c.li ≤ 1024) ∧ (0 ≤ c.po ∧ c.po ≤ 8) ∧ (1 ≤ c.bu ∧ c.bu ≤ 16) := by
  have h1 := ok_sizes h
  rw [okC_eq] at h
  simp only [Bool.and_eq_true] at h
  obtain ⟨⟨⟨⟨⟨⟨⟨⟨⟨⟨h0, h1⟩, h2⟩, h3⟩, h4⟩, h5⟩, h6⟩, h7⟩, h8⟩, h9⟩, ⟨h10, h11⟩, h12⟩ := h
  have g6 := inB_of h6; have g8 := inB_of h8
  refine ⟨by omega, by omega, by omega, by omega, by omega⟩
theorem own_of {c : Cfg} {n y : Int} (h : ownB c n y = true) : 0 ≤ y ∧ y < c.li ∧ y % c.ho = n := by
  unfold ownB at h
  simp only [Bool.and_eq_true, beq_iff_eq] at h
  obtain ⟨g0, g1⟩ := inR_of h.1
  exact ⟨g0, g1, h.2⟩
theorem own_yes {c : Cfg} {n y : Int} (h0 : 0 ≤ y) (h1 : y < c.li) (h2 : y % c.ho = n) : ownB c n y = true := by
  unfold ownB
  simp [inR, h0, h1, h2]
theorem own_lnOk {c : Cfg} {n y : Int} (hk : okC c = true) (h : ownB c n y = true) : lnOk c y = true := by
  unfold ownB at h
  simp only [Bool.and_eq_true] at h
  unfold lnOk
  rw [hk, h.1]; rfl
theorem own_wf {c : Cfg} {n y : Int} (hk : okC c = true) (h : ownB c n y = true) : (Lit.int .i64 y).wf = true := by
  have h1 := own_of h
  have h2 := sizes hk
  have e : IntKind.i64.min = -9223372036854775808 := by decide
  have e2 : IntKind.i64.max = 9223372036854775807 := by decide
  simp only [Lit.wf, Bool.and_eq_true, decide_eq_true_eq]
  omega
/-- A message that is accepted is a request to the home. -/
theorem rq_of {c : Cfg} {n : Int} {m : Msg} (h : (meantB c n m && net m.kd == 0) = true) : Rq c n m := by
  unfold meantB at h
  simp only [Bool.and_eq_true, beq_iff_eq] at h
  obtain ⟨⟨hm, ht⟩, hn⟩ := h
  obtain ⟨hc, hl, hk, hh, -⟩ := may_all hm
  have hl := isin_of hl
  have hk3 : m.kd ≤ 3 := by
    have := isKind_of hk
    unfold net at hn
    rw [if_pos hk] at hn
    split at hn
    · assumption
    · split at hn <;> omega
  have hk1 := (isKind_of hk).1
  unfold holdsB at hh
  rw [if_pos (.inl hk3)] at hh
  simp only [Bool.and_eq_true, cth, beq_iff_eq] at hh
  have hf := isin_of hh.1.1
  exact ⟨own_yes hl.1 hl.2 (by rw [← hh.1.2]; exact ht), by omega, hf, ht⟩
/-- A turn of a request that may be, of an entry that may be. -/
theorem next_plain {c : Cfg} {n : Int} {e : Sh.En} {m : Msg} {v : Sh.W8} (he : Et c e) (hm : Rq c n m) :
    (Sh.nextT e m v = (Sh.zT, 7) ∧ m.kd ≠ 3) ∨ ∃ t, Sh.nextT e m v = (t, 0) ∧ Et c t.e ∧ t.sent ≠ [] ∧ t.sent.length ≤ 65 ∧ ∀ x ∈ t.sent, Sd n m.ln x := by
  have hc : Sh.hasB e.s.c m.fr = true := by rw [he.sc]; exact Sh.hasB_iff.2 hm.fr
  have hg : Sh.goodQ e m = true := by
    unfold Sh.goodQ
    rw [he.may, hc]
    have := hm.kd
    have hr : Sh.isReq m.kd = true := by unfold Sh.isReq; rcases this with h | h | h <;> rw [h] <;> rfl
    rw [hr]; rfl
  obtain ⟨hs, hw0, hw1⟩ := Sh.may_parts he.may
  have hto := hm.to
  have share : ∀ X : Msg, (X.kd = 4 ∨ X.kd = 5 ∨ X.kd = 6 ∨ X.kd = 7 ∨ X.kd = 8 ∨ X.kd = 10) → Et c (Sh.shareT e m ((Sh.baseT e).send m X)).e ∧ (Sh.shareT e m ((Sh.baseT e).send m X)).sent ≠ [] ∧ (Sh.shareT e m ((Sh.baseT e).send m X)).sent.length ≤ 65 ∧ ∀ x ∈ (Sh.shareT e m ((Sh.baseT e).send m X)).sent, Sd n m.ln x := by
    intro X hX
    have hsn : (Sh.shareT e m ((Sh.baseT e).send m X)).sent = [Sh.sendM m X] := by unfold Sh.shareT; split <;> rfl
    refine ⟨?_, by rw [hsn]; simp, by rw [hsn]; simp, fun x hx => ?_⟩
    · unfold Sh.shareT
      split
      · exact ⟨by simp only [Sh.En.may, Sh.baseT, Sh.Tn.send, hs, hc, Bool.or_true, Bool.and_true], he.sc, he.sm⟩
      · rw [Sh.add_fine hs hc]
        obtain ⟨h1, h2, -, -⟩ := Sh.with_fine hs hc
        have h3 : (Sh.withS e.s m.fr).m = e.s.m := by unfold Sh.withS; split; rfl; split <;> rfl
        refine ⟨?_, h2.trans he.sc, h3.trans he.sm⟩
        have hme := he.may
        simp only [Sh.En.may, Sh.baseT, Sh.Tn.send, h1, h2, Bool.true_and]
        simp only [Sh.En.may, Bool.and_eq_true] at hme
        exact hme.2
    · rw [hsn] at hx
      obtain rfl := List.mem_singleton.1 hx
      exact ⟨hto, rfl, hX⟩
  have take : ∀ X : Msg, (X.kd = 4 ∨ X.kd = 5 ∨ X.kd = 6 ∨ X.kd = 7 ∨ X.kd = 8 ∨ X.kd = 10) → Et c (Sh.takeT e m ((Sh.baseT e).send m X)).e ∧ (Sh.takeT e m ((Sh.baseT e).send m X)).sent ≠ [] ∧ (Sh.takeT e m ((Sh.baseT e).send m X)).sent.length ≤ 65 ∧ ∀ x ∈ (Sh.takeT e m ((Sh.baseT e).send m X)).sent, Sd n m.ln x := by
    intro X hX
    obtain ⟨h1, h2⟩ := Sh.new_fine hs
    refine ⟨⟨?_, ?_, ?_⟩, by simp [Sh.takeT, Sh.Tn.send, Sh.baseT], ?_, fun x hx => ?_⟩
    · simp only [Sh.takeT, Sh.En.may, h1, h2, hc, Bool.or_true, Bool.and_true]
    · simp only [Sh.takeT, h1]; exact he.sc
    · simp only [Sh.takeT, h1]; exact he.sm
    · have := Sh.others_len e m.fr
      simp [Sh.takeT, Sh.Tn.send, Sh.baseT]
      omega
    · simp only [Sh.takeT, Sh.Tn.send, Sh.baseT, List.nil_append, List.cons_append, List.mem_cons, List.mem_map] at hx
      rcases hx with rfl | ⟨y, _, rfl⟩
      · exact ⟨hto, rfl, hX⟩
      · exact ⟨hto, rfl, .inr (.inr (.inl rfl))⟩
  unfold Sh.nextT
  rw [if_neg (by rw [hg]; simp)]
  rcases hm.kd with hk | hk | hk
  · rw [if_pos hk]
    by_cases h1 : e.ow = -1
    · rw [if_pos h1]
      exact .inr ⟨_, rfl, share _ (.inr (.inr (.inr (.inl rfl))))⟩
    rw [if_neg h1]
    by_cases h2 : e.ow = m.fr
    · rw [if_pos h2]
      exact .inl ⟨rfl, by omega⟩
    · rw [if_neg h2]
      exact .inr ⟨_, rfl, share _ (.inl rfl)⟩
  · rw [if_neg (by omega), if_pos hk]
    by_cases h1 : e.ow = -1
    · rw [if_pos h1]
      exact .inr ⟨_, rfl, take _ (.inr (.inr (.inr (.inl rfl))))⟩
    rw [if_neg h1]
    by_cases h2 : e.ow = m.fr
    · rw [if_pos h2]
      exact .inr ⟨_, rfl, take _ (.inr (.inr (.inr (.inr (.inl rfl)))))⟩
    · rw [if_neg h2]
      exact .inr ⟨_, rfl, take _ (.inr (.inl rfl))⟩
  · rw [if_neg (by omega), if_neg (by omega)]
    have hl : (Sh.leaveT e m ((Sh.baseT e).send m (Sh.ackM m))).sent = [Sh.sendM m (Sh.ackM m)] := by unfold Sh.leaveT; split <;> rfl
    refine .inr ⟨_, rfl, ?_, by rw [hl]; simp, by rw [hl]; simp, fun x hx => ?_⟩
    · unfold Sh.leaveT
      split
      · refine ⟨?_, he.sc, he.sm⟩
        simp only [Sh.En.may, Sh.baseT, Sh.Tn.send, hs]
        rfl
      · exact he
    · rw [hl] at hx
      obtain rfl := List.mem_singleton.1 hx
      exact ⟨hto, rfl, .inr (.inr (.inr (.inr (.inr rfl))))⟩
theorem net_sd {n ln : Int} {m : Msg} (h : Sd n ln m) : net m.kd = if m.kd = 4 ∨ m.kd = 5 ∨ m.kd = 6 then 1 else 2 := by
  rcases h.kd with e | e | e | e | e | e <;> rw [e] <;> rfl

end Go.Proofs.YtpknfbgnclgpmaaGreatDoor.Ho
