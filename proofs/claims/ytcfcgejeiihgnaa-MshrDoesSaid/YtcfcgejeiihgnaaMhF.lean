/-
  Ack: its closure, change with it, and the call.
-/
import Derived.Test.YtcfcgejeiihgnaaMhE
namespace Go.Proofs.Ytcfcgejeiihgnaa
open Go Go.RowKit

/-- A miss that may be written. -/
structure At1 (w : World) (g i : Nat) (x : Ms) : Prop where
  lt : g < w.heap.size
  row : w.rangeAt g (i * 15) (mc x)
  fz : ∀ o, w.frozen? ⟨g, o, none⟩ = false
theorem Bg.at1 {T e : TypeId} {w : World} {B b : Nat} {room : Int} {l : List Ms} {g cap : Nat} (h : Bg T e 15 mc w B b room l (.slice (some ⟨g, 0, none⟩) l.length cap)) {i : Nat} {x : Ms} (hx : l[i]? = some x) : At1 w g i x := by
  obtain ⟨g', cap', e0, _, hg, _, hr, hf, _, _⟩ := h.one hx
  obtain ⟨rfl, rfl⟩ : g = g' ∧ cap = cap' := by simpa using e0
  exact ⟨hg, hr, hf⟩
theorem At1.load {w : World} {g i : Nat} {x : Ms} (h : At1 w g i x) : (Instr.loadAt 34 (.pointer (some ⟨g, i * 15, none⟩))).run Try.prog w = .ok (.agg (mcells x)) w :=
  run_loadAt_mid w g (i * 15) 34 (mc x) _ h.row Try.underlying34 rfl (by kernel_rfl)
theorem At1.cells {w : World} {g i : Nat} {x : Ms} (h : At1 w g i x) : w.cell? ⟨g, i * 15, none⟩ = some (.int .i64 x.ln) ∧ w.cell? ⟨g, i * 15 + 1, none⟩ = some (.int .i64 x.kd) ∧ w.cell? ⟨g, i * 15 + 2, none⟩ = some (.int .i64 x.nd) ∧ w.cell? ⟨g, i * 15 + 3, none⟩ = some (.int .i64 x.gt) ∧ w.cell? ⟨g, i * 15 + 4, none⟩ = some (.int .i64 x.ow) ∧ w.cell? ⟨g, i * 15 + 5, none⟩ = some (.int .i64 x.wd.w0) ∧ w.cell? ⟨g, i * 15 + 6, none⟩ = some (.int .i64 x.wd.w1) ∧ w.cell? ⟨g, i * 15 + 7, none⟩ = some (.int .i64 x.wd.w2) ∧ w.cell? ⟨g, i * 15 + 8, none⟩ = some (.int .i64 x.wd.w3) ∧ w.cell? ⟨g, i * 15 + 9, none⟩ = some (.int .i64 x.wd.w4) ∧ w.cell? ⟨g, i * 15 + 10, none⟩ = some (.int .i64 x.wd.w5) ∧ w.cell? ⟨g, i * 15 + 11, none⟩ = some (.int .i64 x.wd.w6) ∧ w.cell? ⟨g, i * 15 + 12, none⟩ = some (.int .i64 x.wd.w7) ∧ w.cell? ⟨g, i * 15 + 13, none⟩ = some (.bool x.gr) ∧ w.cell? ⟨g, i * 15 + 14, none⟩ = some (.bool x.os) :=
  ⟨h.row 0 _ rfl, h.row 1 _ rfl, h.row 2 _ rfl, h.row 3 _ rfl, h.row 4 _ rfl, h.row 5 _ rfl, h.row 6 _ rfl, h.row 7 _ rfl, h.row 8 _ rfl, h.row 9 _ rfl, h.row 10 _ rfl, h.row 11 _ rfl, h.row 12 _ rfl, h.row 13 _ rfl, h.row 14 _ rfl⟩
theorem PutGave.after {T e : TypeId} {w w1 w2 : World} {B b : Nat} {room : Int} {l : List Ms} {v : Value} (h : PutGave T e 15 mc w1 B b room l v w2) (hb : Below w.heap.size w w1) : PutGave T e 15 mc w B b room l v w2 := by
  obtain ⟨v', h1, h2, h3⟩ := h
  exact ⟨v', h1, (Turn.of_below hb).trans h2 (Fresh.refl _ _), fun k hk => (h3 k hk).imp id fun h4 => Nat.le_trans hb.size h4⟩

/-! Ack. -/
set_option maxHeartbeats 1000000 in
theorem ack1_no (g i : Nat) (x : Ms) (w : World) (h : At1 w g i x) (hx : (x.kd == 1 || came x) = true) :
    Calls Try.prog 38 #[.pointer (some ⟨g, i * 15, none⟩)] w fun e w' => e = .returned (.bool false) ∧ Below w.heap.size w w' := by
  obtain ⟨q0, q1, q2, q3, q4, q5, q6, q7, q8, q9, q10, q11, q12, q13, q14⟩ := h.cells
  clear h
  rcases Bool.eq_false_or_eq_true (x.kd == 1) with hk | hk
  · clear hx
    go_enter Try.func38, Try.ntmps38
    go_wp2
    go_ret
    exact ⟨rfl, Below.refl _ _⟩
  · have hc : came x = true := by simpa [hk] using hx
    clear hx
    have HC := Lib.hid hc
    clear hc
    go_enter Try.func38, Try.ntmps38
    go_wp2_with (go_at_call 33; refine (came_any x _).mono ?_; rintro e w1 ⟨rfl, hb1⟩; rw [HC.out])
    go_ret
    exact ⟨rfl, hb1⟩
set_option maxHeartbeats 1000000 in
theorem ack1_yes {w : World} {B b : Nat} {room : Int} {l : List Ms} {g cap : Nat} (h : BgP w B b room l (.slice (some ⟨g, 0, none⟩) l.length cap)) {i : Nat} {x : Ms} (hx : l[i]? = some x) (hc : (x.kd == 1 || came x) = false) (h0 : 0 ≤ x.gt) (h1 : x.gt ≤ 1000) :
    Calls Try.prog 38 #[.pointer (some ⟨g, i * 15, none⟩)] w fun e w' => e = .returned (.bool true) ∧ PutGave 60 34 15 mc w B b room (l.set i (ackY x)) (.slice (some ⟨g, 0, none⟩) l.length cap) w' := by
  have ha := h.at1 hx
  obtain ⟨q0, q1, q2, q3, q4, q5, q6, q7, q8, q9, q10, q11, q12, q13, q14⟩ := ha.cells
  have hgl := ha.lt
  have HA := Lib.hid ha
  have hk : (x.kd == 1) = false := by simp at hc; simpa using hc.1
  have hcm : came x = false := by simp at hc; exact hc.2
  have HC := Lib.hid hcm
  have HE : Hid (∀ w1, Below w.heap.size w w1 → PutGave 60 34 15 mc w B b room (l.set i (ackY x)) (.slice (some ⟨g, 0, none⟩) l.length cap) (w1.setCell ⟨g, i * 15 + 3, none⟩ (.int .i64 (x.gt + 1)))) := Lib.hid (fun w1 hb =>
    gave_store h hb hx (ackY x) 3 [.int .i64 (x.gt + 1)] (by simp) (fun m hm => by simp at hm; subst hm; rfl) (fun m hm hm2 => by
      simp at hm2
      have : m = 0 ∨ m = 1 ∨ m = 2 ∨ m = 4 ∨ m = 5 ∨ m = 6 ∨ m = 7 ∨ m = 8 ∨ m = 9 ∨ m = 10 ∨ m = 11 ∨ m = 12 ∨ m = 13 ∨ m = 14 := by omega
      rcases this with rfl | rfl | rfl | rfl | rfl | rfl | rfl | rfl | rfl | rfl | rfl | rfl | rfl | rfl
      all_goals rfl))
  have HR : Hid (∀ w1, Below w.heap.size w w1 → w1.cell? ⟨g, i * 15 + 3, none⟩ = some (.int .i64 x.gt) ∧ w1.frozen? ⟨g, i * 15 + 3, none⟩ = false) := Lib.hid (fun w1 hb => ⟨(hb.cell (p := ⟨g, i * 15 + 3, none⟩) hgl).trans (HA.out.row 3 _ rfl), (hb.frozen (p := ⟨g, i * 15 + 3, none⟩) hgl).trans (HA.out.fz _)⟩)
  clear h hx hc ha hcm HA
  go_enter Try.func38, Try.ntmps38
  go_wp2_with (go_at_call 33; refine (came_any x _).mono ?_; rintro e w1 ⟨rfl, hb1⟩; rw [HC.out]; obtain ⟨c3, f3⟩ := HR.out w1 hb1)
  go_ret
  exact ⟨rfl, HE.out _ hb1⟩

abbrev ackV : Value := .func (.func 38) #[] #[]
set_option maxHeartbeats 1000000 in
theorem changeA {w : World} {B b : Nat} {room : Int} {l : List Ms} {v : Value} (h : BgP w B b room l v) (line : Int) (hl : l.length ≤ 5000) (hg : ∀ x ∈ l, 0 ≤ x.gt ∧ x.gt ≤ 1000) :
    Calls Try.prog 34 #[.pointer (some ⟨b, 0, none⟩), .int .i64 line, ackV] w (GaveP w B b room v (chg l line ackF)) := by
  have HEl : ∀ n, chg l line ackF = (n, l) → Hid (∀ w', Below w.heap.size w w' → GaveP w B b room v (chg l line ackF) (.returned (.int .i64 n)) w') := fun n e => Lib.hid (fun w' hb => by
    rw [e]
    exact ⟨rfl, gave_same h hb⟩)
  have hbx := balloc w (.cells #[.int .i64 line] 3)
  rcases hp : fnd l line with _ | i
  · have HP := Lib.hid (firstL_no (h.below hbx) ⟨w.heap.size, 0, none⟩ line hl (by simp) (by simp) hp)
    have HE := HEl 5 (chg_none _ hp)
    clear h HEl hp
    go_enter Try.func34, Try.ntmps34
    go_wp2_with fail
    refine (ofLine_any line _).mono ?_
    rintro e w1 ⟨rfl, rfl⟩
    go_wp2_with fail
    refine HP.out.mono ?_
    rintro e w1 ⟨rfl, hb1⟩
    go_wp2
    go_ret
    exact HE.out _ (bbox hb1)
  · obtain ⟨x, hx, _, hi⟩ := fnd_some hp
    obtain ⟨g, cap, rfl, hbg, hgl, hBg, hr, hfz, _, _⟩ := h.one hx
    have HP := Lib.hid (firstL_yes (h.below hbx) ⟨w.heap.size, 0, none⟩ line hl (by simp) (by simp) hp hi)
    obtain ⟨g0, g1⟩ := hg x (List.mem_of_getElem? hx)
    rcases Bool.eq_false_or_eq_true (x.kd == 1 || came x) with ht | ht
    · have HE := HEl 7 (chg_no hp hx (ackF_no ht))
      have HC := Lib.hid (fun w1 (hb : Below w.heap.size w w1) => ack1_no g i x w1 ((h.below hb).at1 hx) ht)
      clear h HEl hp hx hr hfz ht hg
      go_enter Try.func34, Try.ntmps34
      go_wp2_with fail
      refine (ofLine_any line _).mono ?_
      rintro e w1 ⟨rfl, rfl⟩
      go_wp2_with fail
      refine HP.out.mono ?_
      rintro e w1 ⟨rfl, hb1⟩
      have hb2 := bbox hb1
      clear hb1
      go_wp2_with fail
      refine (HC.out _ hb2).mono ?_
      rintro e w3 ⟨rfl, hb3⟩
      go_wp2
      go_ret
      exact HE.out _ (bstep hb2 hb3)
    · have HZ := Lib.hid (chg_yes hp hx (ackF_yes ht))
      have HC := Lib.hid (fun w1 (hb : Below w.heap.size w w1) => ack1_yes (h.below hb) hx ht g0 g1)
      clear h HEl hp hx hr hfz ht hg
      go_enter Try.func34, Try.ntmps34
      go_wp2_with fail
      refine (ofLine_any line _).mono ?_
      rintro e w1 ⟨rfl, rfl⟩
      go_wp2_with fail
      refine HP.out.mono ?_
      rintro e w1 ⟨rfl, hb1⟩
      have hb2 := bbox hb1
      clear hb1
      go_wp2_with fail
      refine (HC.out _ hb2).mono ?_
      rintro e w3 ⟨rfl, R⟩
      have R := Lib.hid (R.after hb2)
      go_wp2
      go_ret
      rw [HZ.out]
      exact ⟨rfl, R.out⟩
/-- Ack. -/
theorem ack_any {w : World} {B b : Nat} {room : Int} {l : List Ms} {v : Value} (h : BgP w B b room l v) (line : Int) (hl : l.length ≤ 5000) (hg : ∀ x ∈ l, 0 ≤ x.gt ∧ x.gt ≤ 1000) :
    Calls Try.prog 20 #[.pointer (some ⟨b, 0, none⟩), .int .i64 line] w (GaveP w B b room v (chg l line ackF)) := by
  have HC := Lib.hid (changeA h line hl hg)
  clear h hg
  go_enter Try.func20, Try.ntmps20
  go_wp2_with fail
  refine HC.out.mono ?_
  rintro e w1 ⟨rfl, R⟩
  have R := Lib.hid R
  go_wp2
  go_ret
  exact ⟨rfl, R.out⟩
end Go.Proofs.Ytcfcgejeiihgnaa
