/-
  What one step makes of a home, in plain words: what is told of other lines, what is sent and for which request.
-/
import Derived.Test.YtpknfbgnclgpmaaGreatDoorHoG
namespace Go.Proofs.YtpknfbgnclgpmaaGreatDoor.Ho
open Go Go.RowKit

/-- Of which line is the request at a step's place? -/
def ofP (s : Hs) (x : Sp) : Int := if x.k = 1 then (match Qu.inn s.Q x.n with | some (_, e) => e.m.ln | none => -1) else -1
/-- Of which line a step may change what is known. -/
theorem pt_other {c : Cfg} {L : List Int} {l : List Int} {ln y : Int} (hN : (l.length : Int) ≤ c.wo) (h0 : 0 ≤ ln) (hy : 0 ≤ y) (hne : y ≠ ln) (hw : 1 ≤ c.wo) (hfit : (ln * c.wo).toNat + l.length ≤ L.length) : Me.pt c (Me.over L (ln * c.wo).toNat l) y = Me.pt c L y := by
  obtain ⟨N, hN'⟩ : ∃ N : Nat, c.wo = N := ⟨c.wo.toNat, by omega⟩
  obtain ⟨a, rfl⟩ : ∃ a : Nat, ln = a := ⟨ln.toNat, by omega⟩
  obtain ⟨b, rfl⟩ : ∃ b : Nat, y = b := ⟨y.toNat, by omega⟩
  unfold Me.pt Me.over
  have e1 : ((a : Int) * c.wo).toNat = a * N := by rw [hN']; norm_cast
  have e2 : ((b : Int) * c.wo).toNat = b * N := by rw [hN']; norm_cast
  have e3 : c.wo.toNat = N := by omega
  rw [e1, e2, e3]
  rw [e1] at hfit
  have hlN : l.length ≤ N := by omega
  apply List.ext_getElem?
  intro j
  rw [List.getElem?_take, List.getElem?_take]
  by_cases hj : j < N
  · rw [if_pos hj, if_pos hj, List.getElem?_drop, List.getElem?_drop]
    rcases Nat.lt_or_gt_of_ne (show b ≠ a by omega) with hlt | hlt
    · have : (b + 1) * N ≤ a * N := Nat.mul_le_mul_right _ hlt
      rw [Nat.add_mul, Nat.one_mul] at this
      rw [List.getElem?_append_left (by rw [List.length_take]; omega), List.getElem?_take, if_pos (by omega)]
    · have : (a + 1) * N ≤ b * N := Nat.mul_le_mul_right _ hlt
      rw [Nat.add_mul, Nat.one_mul] at this
      have hlt1 : (L.take (a * N)).length = a * N := by rw [List.length_take]; omega
      rw [List.getElem?_append_right (by omega), hlt1, List.getElem?_append_right (by omega), List.getElem?_drop]
      congr 1
      omega
  · rw [if_neg hj, if_neg hj]
theorem line_other {c : Cfg} {L : List Int} (sz : Me.Sized c L) (ln : Int) (d : Me.Wd) {y : Int} (hne : y ≠ ln) : Me.lnP c (Me.wrP c L ln d).2 y = Me.lnP c L y := by
  unfold Me.wrP
  split
  · rename_i h
    obtain ⟨F, N, e1, e2, e3, h1, h8, hF, hl⟩ := Me.line_in sz h.1
    obtain ⟨-, q0, q1⟩ := ok_of_lnOk h.1
    unfold Me.lnP
    by_cases hy : lnOk c y = true
    · obtain ⟨-, y0, y1⟩ := ok_of_lnOk hy
      rw [if_pos hy, if_pos hy]
      have hlen : (d.toL.take c.wo.toNat).length = N := by rw [List.length_take, Me.Wd.len, e3, Int.toNat_natCast]; omega
      rw [pt_other (by rw [hlen, e3]; exact Int.le_refl _) q0 y0 hne (by omega) (by rw [e1, hlen]; exact hF)]
    · rw [if_neg hy, if_neg hy]
  · rfl
variable {c : Cfg} {n : Int} {s : Hs}
/-- What is known of a line is the same behind a request of another one. -/
theorem begin_other (sz : Me.Sized c s.L) (a : Int) (x : Msg) {y : Int} (hne : y ≠ x.ln) : tellE c n (beginX c s a x) y = tellE c n s y ∧ tellL c n (beginX c s a x) y = tellL c n s y := by
  unfold beginX
  split
  · exact ⟨rfl, rfl⟩
  · refine ⟨?_, ?_⟩
    · unfold tellE
      simp only [upd, hne, if_false]
    · unfold tellL
      simp only
      split
      · split
        · rw [line_other sz _ _ hne]
        · rfl
      · rfl
/-- A step leaves what is known of all lines but one as it is. -/
theorem do_other (sz : Me.Sized c s.L) (x : Sp) {y : Int} (hne : y ≠ ofP s x) : tellE c n (doP c n s x).2 y = tellE c n s y ∧ tellL c n (doP c n s x).2 y = tellL c n s y := by
  unfold doP
  by_cases h0 : x.k = 0
  · rw [if_pos h0]
    unfold acceptP
    split <;> exact ⟨rfl, rfl⟩
  rw [if_neg h0]
  by_cases h1 : x.k = 1
  · rw [if_pos h1]
    unfold ofP at hne
    rw [if_pos h1] at hne
    unfold workP
    split
    · rename_i hr
      rcases Qu.inn_cases s.Q x.n with ho | ⟨i, e, hi, hx⟩
      · rw [Qu.rdy_out ho] at hr; cases hr
      · rw [hi, Qu.inn_at hx] at hne
        simp only at hne
        simp only
        unfold beginP
        rw [hi, Qu.getP_at hx]
        exact begin_other sz i e.m hne
    · split
      · exact ⟨rfl, rfl⟩
      · exact ⟨rfl, rfl⟩
  · rw [if_neg h1]
    unfold doneP
    split <;> exact ⟨rfl, rfl⟩
/-- What a step sends. -/
theorem do_sends (g : Good c n s) (x : Sp) : ((doP c n s x).1.2.1 = false ∧ (doP c n s x).1.1 = mz) ∨ ((doP c n s x).1.2.1 = true ∧ (doP c n s x).1.2.2.1 = true ∧ Sd n (ofP s x) (doP c n s x).1.1 ∧ 1 ≤ leftP x.a x.b x.d (net (doP c n s x).1.1.kd)) := by
  unfold doP
  by_cases h0 : x.k = 0
  · rw [if_pos h0]; exact .inl ⟨rfl, rfl⟩
  rw [if_neg h0]
  by_cases h1 : x.k = 1
  · rw [if_pos h1]
    unfold workP
    split
    · exact .inl ⟨rfl, rfl⟩
    · split
      · exact .inl ⟨rfl, rfl⟩
      · rename_i hg
        right
        have hg' : goesB s x.n x.a x.b x.d = true := by simpa using hg
        unfold goesB at hg'
        simp only [Bool.and_eq_true, decide_eq_true_eq] at hg'
        obtain ⟨i, e, m, r, hi, hx, hs, hm, hd, -⟩ := g.next hg'.1
        refine ⟨rfl, rfl, ?_, by simp only; omega⟩
        simp only
        unfold ofP
        rw [if_pos h1, hi, Qu.inn_at hx, ← hi, hm]
        exact hd
  · rw [if_neg h1]; exact .inl ⟨rfl, rfl⟩

end Go.Proofs.YtpknfbgnclgpmaaGreatDoor.Ho
