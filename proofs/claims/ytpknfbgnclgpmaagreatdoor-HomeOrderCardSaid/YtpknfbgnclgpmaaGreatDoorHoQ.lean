/-
  What a line's requests make of it, in the order in which they came, in plain words.
-/
import Derived.Test.YtpknfbgnclgpmaaGreatDoorHoN
import Derived.Test.YtpknfbgnclgpmaaGreatDoorHoH
namespace Go.Proofs.YtpknfbgnclgpmaaGreatDoor.Ho
open Go Go.RowKit

/-- Of a line: the requests that aren't started yet; what is still to be sent. -/
def unst (line : Int) (l : List Qu.En) : List Msg := (l.filter fun x => x.m.ln == line && !x.st).map (·.m)
def rem (line : Int) (l : List Qu.En) : List Msg := (l.filter fun x => x.m.ln == line).flatMap (·.l)
/-- What is started is the first of its line. -/
abbrev First (l : List Qu.En) : Prop := l.Pairwise fun y x => x.st = true → y.m.ln ≠ x.m.ln
theorem unst_append (line : Int) (A B : List Qu.En) : unst line (A ++ B) = unst line A ++ unst line B := by simp [unst]
theorem rem_append (line : Int) (A B : List Qu.En) : rem line (A ++ B) = rem line A ++ rem line B := by simp [rem]
theorem unst_cons (line : Int) (x : Qu.En) (B : List Qu.En) : unst line (x :: B) = (if (x.m.ln == line && !x.st) = true then [x.m] else []) ++ unst line B := by
  unfold unst
  rw [List.filter_cons]
  split <;> simp
theorem rem_cons (line : Int) (x : Qu.En) (B : List Qu.En) : rem line (x :: B) = (if (x.m.ln == line) = true then x.l else []) ++ rem line B := by
  unfold rem
  rw [List.filter_cons]
  split <;> simp
/-- A list around one place. -/
theorem around {l : List Qu.En} {i : Nat} {x : Qu.En} (h : l[i]? = some x) : ∃ A B, l = A ++ x :: B ∧ A.length = i ∧ (∀ y, l.set i y = A ++ y :: B) ∧ l.eraseIdx i = A ++ B := by
  obtain ⟨hi, rfl⟩ := List.getElem?_eq_some_iff.1 h
  refine ⟨l.take i, l.drop (i + 1), ?_, by rw [List.length_take]; omega, fun y => ?_, ?_⟩
  · rw [List.getElem_cons_drop, List.take_append_drop]
  · rw [List.set_eq_take_append_cons_drop, if_pos hi]
  · rw [List.eraseIdx_eq_take_drop_succ]
/-- One entry alone may count for a line: none ahead of it is of the line, none behind it is started. -/
theorem rem_none {line : Int} {A : List Qu.En} (h : ∀ y ∈ A, y.m.ln ≠ line) : rem line A = [] := by
  unfold rem
  rw [List.filter_eq_nil_iff.2 (fun y hy => by simpa using h y hy)]
  rfl
theorem unst_none {line : Int} {A : List Qu.En} (h : ∀ y ∈ A, y.m.ln ≠ line) : unst line A = [] := by
  unfold unst
  rw [List.filter_eq_nil_iff.2 (fun y hy => by simp [h y hy])]
  rfl
theorem rem_off {line : Int} {B : List Qu.En} (h : ∀ y ∈ B, y.m.ln = line → y.l = []) : rem line B = [] := by
  unfold rem
  rw [List.flatMap_eq_nil_iff]
  intro y hy
  rw [List.mem_filter] at hy
  exact h y hy.1 (by simpa using hy.2)
section
variable {line : Int} {A B : List Qu.En} {x : Qu.En}
theorem behind_off (hf : First (A ++ x :: B)) (ho : ∀ y ∈ A ++ x :: B, y.l ≠ [] → y.st = true) (hx : x.m.ln = line) : rem line B = [] := by
  refine rem_off fun y hy hl => ?_
  by_cases h : y.l = []
  · exact h
  · have hst := ho y (by simp [hy]) h
    have := (List.pairwise_cons.1 (List.pairwise_append.1 hf).2.1).1 y hy hst
    exact absurd (hx.trans hl.symm) this
theorem ahead_none (hf : First (A ++ x :: B)) (hst : x.st = true) (hx : x.m.ln = line) : ∀ y ∈ A, y.m.ln ≠ line := fun y hy => by
  have := (List.pairwise_append.1 hf).2.2 y hy x (List.mem_cons_self ..) hst
  rwa [hx] at this
end
/-- Which words a message of a line may bring: those that a line has. -/
def wv (c : Cfg) (m : Msg) : Prop := Me.lay ((wdOf m).toL.take c.wo.toNat) = wdOf m
theorem wv_of {c : Cfg} {m : Msg} (h : mayM c m = true) : wv c m := by
  obtain ⟨hc, -, -, -, hw⟩ := may_all h
  have hs := ok_sizes hc
  have hz : ∀ k : Nat, k < 8 → c.wo ≤ (k : Int) → m.wd k = 0 := fun k hk hle => by
    rcases (word_all hw k hk).2.2 with e | e
    · exact e
    · unfold nw at e
      split at e <;> omega
  obtain ⟨N, hN⟩ : ∃ N : Nat, c.wo = N := ⟨c.wo.toNat, by omega⟩
  unfold wv
  rw [hN, Int.toNat_natCast]
  rw [hN] at hz
  have z1 : (N : Int) ≤ 1 → m.w1 = 0 := fun q => hz 1 (by omega) q
  have z2 : (N : Int) ≤ 2 → m.w2 = 0 := fun q => hz 2 (by omega) q
  have z3 : (N : Int) ≤ 3 → m.w3 = 0 := fun q => hz 3 (by omega) q
  have z4 : (N : Int) ≤ 4 → m.w4 = 0 := fun q => hz 4 (by omega) q
  have z5 : (N : Int) ≤ 5 → m.w5 = 0 := fun q => hz 5 (by omega) q
  have z6 : (N : Int) ≤ 6 → m.w6 = 0 := fun q => hz 6 (by omega) q
  have z7 : (N : Int) ≤ 7 → m.w7 = 0 := fun q => hz 7 (by omega) q
  rcases (show N = 1 ∨ N = 2 ∨ N = 3 ∨ N = 4 ∨ N = 5 ∨ N = 6 ∨ N = 7 ∨ N = 8 by omega) with rfl | rfl | rfl | rfl | rfl | rfl | rfl | rfl
  all_goals simp [Me.lay, Me.Wd.toL, z1, z2, z3, z4, z5, z6, z7]
/-- What was written to a line is what it has. -/
theorem line_same {c : Cfg} {L : List Int} (sz : Me.Sized c L) {ln : Int} (hl : lnOk c ln = true) {d : Me.Wd} (hd : Me.lay (d.toL.take c.wo.toNat) = d) : (Me.lnP c (Me.wrP c L ln d).2 ln).1 = d := by
  obtain ⟨F, N, e1, e2, e3, h1, h8, hF, hn⟩ := Me.line_in sz hl
  unfold Me.wrP
  rw [if_pos ⟨hl, hd⟩]
  unfold Me.lnP
  rw [if_pos hl]
  simp only
  have hlen : (d.toL.take c.wo.toNat).length = N := by rw [List.length_take, Me.Wd.len, e3, Int.toNat_natCast]; omega
  have hp : Me.pt c (Me.over L (ln * c.wo).toNat (d.toL.take c.wo.toNat)) ln = d.toL.take c.wo.toNat := by
    unfold Me.pt Me.over
    rw [e1]
    have h2 : (L.take F).length = F := by rw [List.length_take]; omega
    rw [List.drop_append_of_le_length (by omega), List.drop_of_length_le (by omega), List.nil_append]
    rw [List.take_append_of_le_length (by rw [hlen, e3, Int.toNat_natCast]; exact Nat.le_refl _), List.take_take, Nat.min_self]
  rw [hp, hd]

/-- What holds of the lists that the law keeps of a line, behind so many steps. -/
structure OInv (c : Cfg) (n line : Int) (k : Nat) (s : Hs) (cm sd st : List Msg) (e : Sh.En) (d : Me.Wd) : Prop where
  first : First s.Q
  vw : ∀ x ∈ s.Q, wv c x.m
  hcm : cm = unst line s.Q
  hsd : sd = st ++ rem line s.Q
  he : e = s.E line
  hd : d = (Me.lnP c s.L line).1
  o0 : 0 ≤ s.od
  o1 : s.od ≤ k
  few : sd.length ≤ 65 * k
section
variable {c : Cfg} {n line : Int} {k : Nat} {s : Hs} {cm sd st : List Msg} {e : Sh.En} {d : Me.Wd}
theorem OInv.zero (c : Cfg) (n line : Int) : OInv c n line 0 (s0 c) [] [] [] (e0 c) Me.d0 := by
  refine ⟨List.Pairwise.nil, fun x hx => (by cases hx), rfl, rfl, rfl, ?_, Int.le_refl _, Int.le_refl _, Nat.le_refl _⟩
  unfold Me.lnP
  split
  · have hz : ∀ m : Nat, Me.lay (List.replicate m (0 : Int)) = Me.d0 := fun m => by
      simp [Me.lay, List.getElem?_replicate]
      refine ⟨?_, ?_, ?_, ?_, ?_, ?_, ?_, ?_⟩ <;> split <;> rfl
    show Me.d0 = Me.lay (Me.pt c (List.replicate _ 0) line)
    unfold Me.pt
    rw [List.drop_replicate, List.take_replicate, hz]
  · rfl
/-- Nothing that counts for the line has changed. -/
theorem OInv.same (h : OInv c n line k s cm sd st e d) {s2 : Hs} (h1 : First s2.Q) (h2 : ∀ x ∈ s2.Q, wv c x.m) (h3 : unst line s2.Q = unst line s.Q) (h4 : rem line s2.Q = rem line s.Q) (h5 : s2.E line = s.E line) (h6 : (Me.lnP c s2.L line).1 = (Me.lnP c s.L line).1) (h7 : 0 ≤ s2.od) (h8 : s2.od ≤ (k + 1 : Nat)) : OInv c n line (k + 1) s2 cm sd st e d :=
  ⟨h1, h2, by rw [h3]; exact h.hcm, by rw [h4]; exact h.hsd, by rw [h5]; exact h.he, by rw [h6]; exact h.hd, h7, h8, by have := h.few; omega⟩
theorem first_erase {l : List Qu.En} (h : First l) (i : Nat) : First (l.eraseIdx i) := h.sublist (List.eraseIdx_sublist l i)
theorem wrap_small {v : Int} (h0 : 0 ≤ v) (h1 : v ≤ 1000) : wrap64 (v + 1) = v + 1 := by
  unfold wrap64
  omega
/-- A request that is let go changes nothing of another line. -/
theorem begin_inv (h : OInv c n line k s cm sd st e d) (g : Good c n s) (hk : k ≤ 100) {i : Nat} {x : Qu.En} (hx : s.Q[i]? = some x) (hr : Qu.rdy s.Q i = true) (sz : Me.Sized c s.L) (hl : ownB c n line = true) :
    (x.m.ln ≠ line ∧ OInv c n line (k + 1) (beginX c s i x.m) cm sd st e d) ∨
    (x.m.ln = line ∧ ∃ rest, cm = x.m :: rest ∧ (unst line (beginX c s i x.m).Q).length = rest.length ∧ ((∃ t, Sh.nextT e x.m (w8Of d) = (t, 7) ∧ 0 < (beginX c s i x.m).od) ∨ ∃ t, Sh.nextT e x.m (w8Of d) = (t, 0) ∧ Et c t.e ∧ OInv c n line (k + 1) (beginX c s i x.m) rest (sd ++ t.sent) st t.e (if t.wr = true then wdOf x.m else d))) := by
  obtain ⟨A, B, hQ, hlen, hset, hers⟩ := around hx
  have hrq := g.rq x (List.mem_of_getElem? hx)
  have hff : First (A ++ x :: B) := hQ ▸ h.first
  have hoff : ∀ y ∈ A ++ x :: B, y.l ≠ [] → y.st = true := hQ ▸ g.q.off
  have hrd := hr
  rw [Qu.rdy_at hx] at hrd
  simp only [Bool.and_eq_true, beq_iff_eq, Bool.not_eq_true'] at hrd
  obtain ⟨hst, hfi⟩ := hrd
  have hA : ∀ y ∈ A, y.m.ln ≠ x.m.ln := fun y hy => by
    rw [List.findIdx?_eq_some_iff_getElem] at hfi
    obtain ⟨_, _, hlt⟩ := hfi
    obtain ⟨j, hj, rfl⟩ := List.getElem_of_mem hy
    have := hlt j (by omega)
    have e1 : s.Q[j]'(by rw [hQ, List.length_append]; omega) = A[j] := by
      simp only [hQ]
      exact List.getElem_append_left hj
    rw [e1] at this
    simpa [Qu.isL] using this
  have hs2 : ∀ l' : List Msg, First (A ++ (⟨x.m, true, l'⟩ : Qu.En) :: B) := fun l' => by
    rw [First, List.pairwise_append, List.pairwise_cons] at hff ⊢
    refine ⟨hff.1, ⟨hff.2.1.1, hff.2.1.2⟩, fun y hy z hz => ?_⟩
    rcases List.mem_cons.1 hz with rfl | hz
    · exact fun _ => hA y hy
    · exact hff.2.2 y hy z (List.mem_cons_of_mem _ hz)
  have hxl : x.l = [] := by
    by_cases q : x.l = []
    · exact q
    · have := hoff x (by simp) q
      rw [hst] at this; cases this
  have hd' : ∀ d', (Me.lnP c s.L x.m.ln).1 = d' → turnP c s x.m = Sh.nextT (s.E x.m.ln) x.m (w8Of d') := fun d' q => by unfold turnP; rw [q]
  -- the two ways of a turn
  rcases next_plain (v := w8Of (Me.lnP c s.L x.m.ln).1) (g.en _ hrq.ln) hrq with ⟨t1, t2⟩ | ⟨t, t1, t2, t3, t4, t5⟩
  · have hb : beginX c s i x.m = ⟨s.E, s.L, s.Q.eraseIdx i, s.od + 1⟩ := by
      unfold beginX
      rw [hd' _ rfl, t1, if_pos (by decide), dropQ_erase hx hr t2, wrap_small h.o0 (by have := h.o1; omega)]
    rw [hb]
    by_cases hln : x.m.ln = line
    · right
      refine ⟨hln, unst line B, ?_, ?_, .inl ⟨Sh.zT, ?_, ?_⟩⟩
      · rw [h.hcm, hQ, unst_append, unst_cons, unst_none (fun y hy => hln ▸ hA y hy), if_pos (by simp [hln, hst])]
        rfl
      · simp only
        rw [hers, unst_append, unst_none (fun y hy => hln ▸ hA y hy)]
        rfl
      · rw [h.he, h.hd, ← hln]; exact t1
      · have := h.o0; simp only; omega
    · left
      refine ⟨hln, h.same (first_erase h.first i) (fun y hy => h.vw y (List.mem_of_mem_eraseIdx hy)) ?_ ?_ rfl rfl (by have := h.o0; simp only; omega) (by have := h.o1; simp only; omega)⟩
      · simp only
        rw [hers, hQ, unst_append, unst_append, unst_cons, if_neg (by simp [hln])]
        rfl
      · simp only
        rw [hers, hQ, rem_append, rem_append, rem_cons, if_neg (by simp [hln])]
        rfl
  · have hb : beginX c s i x.m = ⟨upd s.E x.m.ln t.e, if t.wr = true then (Me.wrP c s.L x.m.ln (wdOf x.m)).2 else s.L, s.Q.set i ⟨x.m, true, t.sent⟩, s.od⟩ := by
      unfold beginX
      rw [hd' _ rfl, t1, if_neg (by simp), Qu.startP_yes hx hr t3]
    rw [hb]
    have hvw : ∀ y ∈ s.Q.set i ⟨x.m, true, t.sent⟩, wv c y.m := fun y hy => by
      rcases List.mem_or_eq_of_mem_set hy with hy | rfl
      · exact h.vw y hy
      · exact h.vw x (List.mem_of_getElem? hx)
    by_cases hln : x.m.ln = line
    · right
      have hcm : cm = x.m :: unst line B := by
        rw [h.hcm, hQ, unst_append, unst_cons, unst_none (fun y hy => hln ▸ hA y hy), if_pos (by simp [hln, hst])]
        rfl
      have hun : unst line (s.Q.set i ⟨x.m, true, t.sent⟩) = unst line B := by
        rw [hset, unst_append, unst_cons, unst_none (fun y hy => hln ▸ hA y hy), if_neg (by simp)]
        rfl
      have hrB := behind_off hff hoff hln
      have hr0 : rem line s.Q = [] := by
        rw [hQ, rem_append, rem_cons, rem_none (fun y hy => hln ▸ hA y hy), hrB, hxl]
        simp
      have hr1 : rem line (s.Q.set i ⟨x.m, true, t.sent⟩) = t.sent := by
        rw [hset, rem_append, rem_cons, rem_none (fun y hy => hln ▸ hA y hy), hrB, if_pos (by simp [hln])]
        simp
      refine ⟨hln, unst line B, hcm, by simp only; rw [hun], .inr ⟨t, by rw [h.he, h.hd, ← hln]; exact t1, t2, ⟨?_, hvw, ?_, ?_, ?_, ?_, h.o0, by have := h.o1; simp only; omega, ?_⟩⟩⟩
      · simp only; rw [hset]; exact hs2 _
      · simp only; rw [hun]
      · simp only; rw [hr1, h.hsd, hr0, List.append_nil]
      · simp only [upd]; rw [if_pos hln.symm]
      · simp only
        split
        · rw [hln]
          exact (line_same sz (own_lnOk g.ok hl) (h.vw x (List.mem_of_getElem? hx))).symm
        · exact h.hd
      · rw [List.length_append]; have := h.few; omega
    · left
      refine ⟨hln, h.same (by simp only; rw [hset]; exact hs2 _) hvw ?_ ?_ ?_ ?_ h.o0 (by have := h.o1; simp only; omega)⟩
      · simp only
        rw [hset, hQ, unst_append, unst_append, unst_cons, unst_cons, if_neg (by simp), if_neg (by simp [hln])]
      · simp only
        rw [hset, hQ, rem_append, rem_append, rem_cons, rem_cons, if_neg (by simp [hln]), if_neg (by simp [hln])]
      · simp only [upd]; rw [if_neg (fun q => hln q.symm)]
      · simp only
        split
        · rw [line_other sz _ _ (fun q => hln q.symm)]
        · rfl
/-- What is sent for a line's request was told first. -/
theorem sent_inv (h : OInv c n line k s cm sd st e d) (g : Good c n s) {i : Nat} {x : Qu.En} {m : Msg} {r : List Msg} (hx : s.Q[i]? = some x) (hs : x.l = m :: r) :
    OInv c n line (k + 1) { s with Q := (Qu.sentP s.Q i).2 } cm sd (if m.ln = line then st ++ [m] else st) e d := by
  obtain ⟨A, B, hQ, hlen, hset, hers⟩ := around hx
  have hff : First (A ++ x :: B) := hQ ▸ h.first
  have hoff : ∀ y ∈ A ++ x :: B, y.l ≠ [] → y.st = true := hQ ▸ g.q.off
  have hst : x.st = true := hoff x (by simp) (by rw [hs]; simp)
  have hml : m.ln = x.m.ln := (g.sd x (List.mem_of_getElem? hx) m (by rw [hs]; exact List.mem_cons_self ..)).ln
  have hdo : (Qu.sentP s.Q i).2 = A ++ B ∧ r = [] ∨ (Qu.sentP s.Q i).2 = A ++ (⟨x.m, x.st, r⟩ : Qu.En) :: B := by
    by_cases hk : r = [] ∧ x.m.kd = 3
    · left
      rw [Qu.sentP_gone hx (m := m) (by rw [hs, hk.1]) hk.2]
      exact ⟨hers, hk.1⟩
    · right
      rw [Qu.sentP_yes hx hs hk]
      exact hset _
  have hu : unst line (Qu.sentP s.Q i).2 = unst line s.Q := by
    rcases hdo with ⟨e1, -⟩ | e1 <;> rw [e1, hQ]
    · rw [unst_append, unst_append, unst_cons, if_neg (by simp [hst])]; rfl
    · rw [unst_append, unst_append, unst_cons, unst_cons, if_neg (by simp [hst])]
  have hf : First (Qu.sentP s.Q i).2 := by
    rcases hdo with ⟨e1, -⟩ | e1 <;> rw [e1]
    · exact hff.sublist ((List.append_sublist_append_left _).2 (List.sublist_cons_self ..))
    · rw [First, List.pairwise_append, List.pairwise_cons] at hff ⊢
      refine ⟨hff.1, ⟨hff.2.1.1, hff.2.1.2⟩, fun y hy z hz => ?_⟩
      rcases List.mem_cons.1 hz with rfl | hz
      · exact hff.2.2 y hy x (List.mem_cons_self ..)
      · exact hff.2.2 y hy z (List.mem_cons_of_mem _ hz)
  have hv : ∀ y ∈ (Qu.sentP s.Q i).2, wv c y.m := fun y hy => by
    rcases sent_mem hy with hy | ⟨z, m', r', hz, -, rfl⟩
    · exact h.vw y hy
    · exact h.vw z hz
  refine ⟨hf, hv, by simp only; rw [hu]; exact h.hcm, ?_, h.he, h.hd, h.o0, by have := h.o1; simp only; omega, by have := h.few; omega⟩
  simp only
  rw [h.hsd]
  by_cases hln : m.ln = line
  · rw [if_pos hln]
    have hxl : x.m.ln = line := by rw [← hml]; exact hln
    have hA := ahead_none hff hst hxl
    have hB := behind_off hff hoff hxl
    have e0 : rem line s.Q = m :: r := by
      rw [hQ, rem_append, rem_cons, rem_none hA, hB, if_pos (by simp [hxl]), hs]; simp
    have e1 : rem line (Qu.sentP s.Q i).2 = r := by
      rcases hdo with ⟨q, hr⟩ | q <;> rw [q]
      · rw [rem_append, rem_none hA, hB, hr]; rfl
      · rw [rem_append, rem_cons, rem_none hA, hB, if_pos (by simp [hxl])]; simp
    rw [e0, e1]
    simp
  · rw [if_neg hln]
    have hxl : x.m.ln ≠ line := by rw [← hml]; exact hln
    congr 1
    rcases hdo with ⟨q, -⟩ | q <;> rw [q, hQ]
    · rw [rem_append, rem_append, rem_cons, if_neg (by simp [hxl])]; rfl
    · rw [rem_append, rem_append, rem_cons, rem_cons, if_neg (by simp [hxl]), if_neg (by simp [hxl])]
theorem OInv.more (h : OInv c n line k s cm sd st e d) : OInv c n line (k + 1) s cm sd st e d := h.same h.first h.vw rfl rfl rfl rfl h.o0 (by have := h.o1; omega)
theorem fin_inv (h : OInv c n line k s cm sd st e d) (ln fr : Int) : OInv c n line (k + 1) { s with Q := (Qu.finP s.Q ln fr).2 } cm sd st e d := by
  rcases hp : s.Q.findIdx? (Qu.isF ln fr) with _ | i
  · rw [Qu.finP_none hp]; exact h.more
  · rw [Qu.finP_some hp]
    obtain ⟨x, hx, hf, -⟩ := Qu.find_at hp
    obtain ⟨A, B, hQ, hlen, hset, hers⟩ := around hx
    simp only [Qu.isF, Qu.sentAll, Bool.and_eq_true, List.isEmpty_iff] at hf
    refine h.same (first_erase h.first i) (fun y hy => h.vw y (List.mem_of_mem_eraseIdx hy)) ?_ ?_ rfl rfl h.o0 (by have := h.o1; simp only; omega)
    · simp only
      rw [hers, hQ, unst_append, unst_append, unst_cons, if_neg (by simp [hf.2.1])]; rfl
    · simp only
      rw [hers, hQ, rem_append, rem_append, rem_cons, hf.2.2]; simp
theorem add_inv (h : OInv c n line k s cm sd st e d) (m : Msg) (hm : wv c m) : OInv c n line (k + 1) { s with Q := (Qu.addP c.bu s.Q m).2 } (if (Qu.addP c.bu s.Q m).1 = 0 ∧ m.ln = line then cm ++ [m] else cm) sd st e d := by
  rcases Bool.eq_false_or_eq_true (Qu.rq m.kd) with hk | hk
  · by_cases hf : (s.Q.length : Int) = c.bu
    · rw [Qu.addP_full hk hf, if_neg (by simp)]; exact h.more
    · rw [Qu.addP_yes hk hf]
      have hfst : First (s.Q ++ [(⟨m, false, []⟩ : Qu.En)]) := by
        rw [First, List.pairwise_append]
        refine ⟨h.first, by simp, fun y hy z hz => ?_⟩
        obtain rfl := List.mem_singleton.1 hz
        simp
      have hv : ∀ y ∈ s.Q ++ [(⟨m, false, []⟩ : Qu.En)], wv c y.m := fun y hy => by
        rcases List.mem_append.1 hy with hy | hy
        · exact h.vw y hy
        · obtain rfl := List.mem_singleton.1 hy; exact hm
      have hr : rem line (s.Q ++ [(⟨m, false, []⟩ : Qu.En)]) = rem line s.Q := by rw [rem_append, rem_cons]; simp [rem]
      by_cases hl : m.ln = line
      · rw [if_pos ⟨rfl, hl⟩]
        refine ⟨hfst, hv, ?_, by simp only; rw [hr]; exact h.hsd, h.he, h.hd, h.o0, by have := h.o1; simp only; omega, by have := h.few; omega⟩
        simp only
        rw [unst_append, unst_cons, if_pos (by simp [hl]), ← h.hcm]
        simp [unst]
      · rw [if_neg (fun q => hl q.2)]
        refine h.same hfst hv ?_ hr rfl rfl h.o0 (by have := h.o1; simp only; omega)
        simp only
        rw [unst_append, unst_cons, if_neg (by simp [hl])]
        simp [unst]
  · rw [Qu.addP_kind hk, if_neg (by simp)]; exact h.more
theorem OInv.waits (h : OInv c n line k s cm sd st e d) : cm.length = (unst line s.Q).length := by rw [h.hcm]
/-- A step. -/
theorem step_inv (h : OInv c n line k s cm sd st e d) (g : Good c n s) (hk : k ≤ 100) (sz : Me.Sized c s.L) (hl : ownB c n line = true) (x : Sp) {r : Rp × Hs} (hr : doP c n s x = r) {cm1 st1 : List Msg}
    (h1 : cm1 = if x.k = 0 ∧ r.1.2.2.2 = 0 ∧ x.m.ln = line then cm ++ [x.m] else cm) (h2 : st1 = if r.1.2.1 = true ∧ r.1.1.ln = line then st ++ [r.1.1] else st) :
    (cm1.length = (unst line r.2.Q).length ∧ OInv c n line (k + 1) r.2 cm1 sd st1 e d) ∨ ∃ m rest, cm1 = m :: rest ∧ (unst line r.2.Q).length = rest.length ∧ ((∃ t, Sh.nextT e m (w8Of d) = (t, 7) ∧ 0 < r.2.od) ∨ ∃ t, Sh.nextT e m (w8Of d) = (t, 0) ∧ Et c t.e ∧ OInv c n line (k + 1) r.2 rest (sd ++ t.sent) st1 t.e (if t.wr = true then wdOf m else d)) := by
  subst hr
  unfold doP at *
  by_cases k0 : x.k = 0
  · rw [if_pos k0] at h1 h2 ⊢
    left
    simp only at h1 h2 ⊢
    rw [if_neg (by simp)] at h2
    subst h2
    unfold acceptP at *
    split at h1
    · rename_i hq
      rw [if_pos hq]
      simp only at h1 ⊢
      have hm : mayM c x.m = true := by
        unfold meantB at hq
        simp only [Bool.and_eq_true] at hq
        exact hq.1.1
      have := add_inv h x.m (wv_of hm)
      have e1 : cm1 = if (Qu.addP c.bu s.Q x.m).1 = 0 ∧ x.m.ln = line then cm ++ [x.m] else cm := by rw [h1]; simp [k0]
      rw [← e1] at this
      exact ⟨this.waits, this⟩
    · rename_i hq
      rw [if_neg hq]
      simp only at h1 ⊢
      rw [if_neg (by simp)] at h1
      subst h1
      exact ⟨h.more.waits, h.more⟩
  rw [if_neg k0] at h1 h2 ⊢
  rw [if_neg (fun q => k0 q.1)] at h1
  subst h1
  by_cases k1 : x.k = 1
  · rw [if_pos k1] at h2 ⊢
    simp only at h2 ⊢
    unfold workP at *
    split at h2
    · rename_i hrd
      rw [if_pos hrd]
      simp only at h2 ⊢
      rw [if_neg (by simp)] at h2
      subst h2
      rcases Qu.inn_cases s.Q x.n with ho | ⟨i, y, hi, hy⟩
      · rw [Qu.rdy_out ho] at hrd; cases hrd
      · rw [hi] at hrd ⊢
        have hb : beginP c s i = beginX c s i y.m := by unfold beginP; rw [Qu.getP_at hy]
        rw [hb]
        rcases begin_inv h g hk hy hrd sz hl with ⟨-, q⟩ | ⟨-, rest, q1, q2, q3⟩
        · exact .inl ⟨q.waits, q⟩
        · exact .inr ⟨y.m, rest, q1, q2, q3⟩
    · rename_i hrd
      rw [if_neg hrd]
      split at h2
      · rename_i hg
        rw [if_pos hg]
        simp only at h2 ⊢
        rw [if_neg (by simp)] at h2
        subst h2
        exact .inl ⟨h.more.waits, h.more⟩
      · rename_i hg
        rw [if_neg hg]
        simp only at h2 ⊢
        have hg' : goesB s x.n x.a x.b x.d = true := by simpa using hg
        unfold goesB at hg'
        simp only [Bool.and_eq_true] at hg'
        obtain ⟨i, y, m, r, hi, hy, hs, hm, -, -⟩ := g.next hg'.1
        have := sent_inv h g hy hs
        rw [hm] at h2
        have e1 : st1 = if m.ln = line then st ++ [m] else st := by rw [h2]; simp
        rw [← e1, ← hi] at this
        exact .inl ⟨this.waits, this⟩
  · rw [if_neg k1] at h2 ⊢
    left
    simp only at h2 ⊢
    rw [if_neg (by simp)] at h2
    subst h2
    unfold doneP at *
    split
    · have := fin_inv h x.m.ln x.m.fr
      exact ⟨this.waits, this⟩
    · exact ⟨h.more.waits, h.more⟩
end

end Go.Proofs.YtpknfbgnclgpmaaGreatDoor.Ho
