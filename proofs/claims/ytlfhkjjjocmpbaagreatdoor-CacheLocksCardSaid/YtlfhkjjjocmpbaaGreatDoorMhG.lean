/-
  Data and Grant: their closures, change with each, and the calls.
-/
import Derived.Test.YtlfhkjjjocmpbaaGreatDoorLayMh
import Derived.StillTailTactics
namespace Go.Proofs.YtlfhkjjjocmpbaaGreatDoor.Mh
open Go Go.RowKit

theorem At1.step {w w' : World} {g i : Nat} {x : Ms} (h : At1 w g i x) (hb : Below w.heap.size w w') : At1 w' g i x :=
  ⟨Nat.lt_of_lt_of_le h.lt hb.size, fun j u hu => (hb.cell (p := ⟨g, i * 15 + j, none⟩) h.lt).trans (h.row j u hu), fun o => (hb.frozen (p := ⟨g, o, none⟩) h.lt).trans (h.fz o)⟩
theorem Bg.drew1 {T e : TypeId} {w : World} {B b : Nat} {room : Int} {l : List Ms} {v : Value} (h : Bg T e 15 mc w B b room l v) : Bg T e 15 mc w.drew B b room l v := h.keep rfl fun _ _ => rfl
theorem PutGave.drew1 {T e : TypeId} {w w' : World} {B b : Nat} {room : Int} {l : List Ms} {v : Value} (h : PutGave T e 15 mc w B b room l v w') : PutGave T e 15 mc w B b room l v w'.drew := by
  obtain ⟨v', h1, h2, h3⟩ := h
  exact ⟨v', h1.drew1, ⟨h2.os, h2.tape, h2.output, h2.size, h2.other⟩, h3⟩
/-- One store more. -/
theorem PutGave.store {T e : TypeId} {w w1 : World} {B b : Nat} {room : Int} {l : List Ms} {g cap : Nat} (h : Bg T e 15 mc w1 B b room l (.slice (some ⟨g, 0, none⟩) l.length cap) ∧ Turn b (.slice (some ⟨g, 0, none⟩) l.length cap) w w1) {i : Nat} {x : Ms} (hx : l[i]? = some x) (y : Ms) (j : Nat) (vs : List Value) (hj : j + vs.length ≤ 15)
    (hin : ∀ m, m < vs.length → (mc y)[j + m]? = vs[m]?) (hout : ∀ m, m < 15 → m < j ∨ j + vs.length ≤ m → (mc y)[m]? = (mc x)[m]?) :
    Bg T e 15 mc (w1.setCells g (i * 15 + j) vs) B b room (l.set i y) (.slice (some ⟨g, 0, none⟩) (l.set i y).length cap) ∧ Turn b (.slice (some ⟨g, 0, none⟩) (l.set i y).length cap) w (w1.setCells g (i * 15 + j) vs) := by
  have hs := h.1.store hx y j vs hj hin hout
  have ht := h.2.trans (turn_setCells (b := b) (g := g) (n := l.length) (cap := cap) (i * 15 + j) vs w1) (Fresh.refl _ _)
  rw [List.length_set]
  exact ⟨hs, ht⟩
theorem set_at {l : List Ms} {i : Nat} {x : Ms} (hx : l[i]? = some x) (y : Ms) : (l.set i y)[i]? = some y := by
  have := (List.getElem?_eq_some_iff.1 hx).1
  rw [List.getElem?_set, if_pos rfl, if_pos this]
theorem PutGave.of {T e : TypeId} {w w1 : World} {B b : Nat} {room : Int} {l : List Ms} {n g cap : Nat} (hn : n = l.length) (h : Bg T e 15 mc w1 B b room l (.slice (some ⟨g, 0, none⟩) l.length cap) ∧ Turn b (.slice (some ⟨g, 0, none⟩) l.length cap) w w1) : PutGave T e 15 mc w B b room l (.slice (some ⟨g, 0, none⟩) n cap) w1 := by
  subst hn
  exact ⟨_, h.1, h.2, Fresh.refl _ _⟩
theorem out15 {P : Nat → Prop} (j n : Nat) (h : ∀ m, m < 15 → P m) : ∀ m, m < 15 → m < j ∨ j + n ≤ m → P m := fun m hm _ => h m hm

theorem data_gave {T e : TypeId} {w w1 : World} {B b : Nat} {room : Int} {l : List Ms} {g cap : Nat} (h : Bg T e 15 mc w B b room l (.slice (some ⟨g, 0, none⟩) l.length cap)) (hb : Below w.heap.size w w1) {i : Nat} {x : Ms} (hx : l[i]? = some x) (acks own : Int) (d : Wd) :
    PutGave T e 15 mc w B b room (l.set i (dataY acks own d x)) (.slice (some ⟨g, 0, none⟩) l.length cap) (((w1.setCells g (i * 15 + 2) [.int .i64 acks]).setCells g (i * 15 + 4) [.int .i64 own]).setCells g (i * 15 + 5) (dcells d).toList) := by
  have h1 := PutGave.store ⟨h.below hb, Turn.of_below hb⟩ hx { x with nd := acks } 2 [.int .i64 acks] (by simp) (fun m hm => by simp at hm; subst hm; rfl) (fun m hm hm2 => by
    simp at hm2
    rcases (show m = 0 ∨ m = 1 ∨ m = 3 ∨ m = 4 ∨ m = 5 ∨ m = 6 ∨ m = 7 ∨ m = 8 ∨ m = 9 ∨ m = 10 ∨ m = 11 ∨ m = 12 ∨ m = 13 ∨ m = 14 by omega) with rfl | rfl | rfl | rfl | rfl | rfl | rfl | rfl | rfl | rfl | rfl | rfl | rfl | rfl
    all_goals rfl)
  have h2 := PutGave.store h1 (set_at hx _) { x with nd := acks, ow := own } 4 [.int .i64 own] (by simp) (fun m hm => by simp at hm; subst hm; rfl) (fun m hm hm2 => by
    simp at hm2
    rcases (show m = 0 ∨ m = 1 ∨ m = 2 ∨ m = 3 ∨ m = 5 ∨ m = 6 ∨ m = 7 ∨ m = 8 ∨ m = 9 ∨ m = 10 ∨ m = 11 ∨ m = 12 ∨ m = 13 ∨ m = 14 by omega) with rfl | rfl | rfl | rfl | rfl | rfl | rfl | rfl | rfl | rfl | rfl | rfl | rfl | rfl
    all_goals rfl)
  rw [List.set_set] at h2
  have h3 := PutGave.store h2 (set_at hx _) (dataY acks own d x) 5 (dcells d).toList (by simp) (fun m hm => by
    simp at hm
    rcases (show m = 0 ∨ m = 1 ∨ m = 2 ∨ m = 3 ∨ m = 4 ∨ m = 5 ∨ m = 6 ∨ m = 7 by omega) with rfl | rfl | rfl | rfl | rfl | rfl | rfl | rfl
    all_goals rfl) (fun m hm hm2 => by
    simp at hm2
    rcases (show m = 0 ∨ m = 1 ∨ m = 2 ∨ m = 3 ∨ m = 4 ∨ m = 13 ∨ m = 14 by omega) with rfl | rfl | rfl | rfl | rfl | rfl | rfl
    all_goals rfl)
  rw [List.set_set] at h3
  exact .of (by simp) h3
theorem grant_gave {T e : TypeId} {w w1 : World} {B b : Nat} {room : Int} {l : List Ms} {g cap : Nat} (h : Bg T e 15 mc w B b room l (.slice (some ⟨g, 0, none⟩) l.length cap)) (hb : Below w.heap.size w w1) {i : Nat} {x : Ms} (hx : l[i]? = some x) (acks : Int) :
    PutGave T e 15 mc w B b room (l.set i (grantY acks x)) (.slice (some ⟨g, 0, none⟩) l.length cap) (((w1.setCells g (i * 15 + 2) [.int .i64 acks]).setCells g (i * 15 + 4) [.int .i64 4]).setCells g (i * 15 + 13) [.bool true]) := by
  have h1 := PutGave.store ⟨h.below hb, Turn.of_below hb⟩ hx { x with nd := acks } 2 [.int .i64 acks] (by simp) (fun m hm => by simp at hm; subst hm; rfl) (fun m hm hm2 => by
    simp at hm2
    rcases (show m = 0 ∨ m = 1 ∨ m = 3 ∨ m = 4 ∨ m = 5 ∨ m = 6 ∨ m = 7 ∨ m = 8 ∨ m = 9 ∨ m = 10 ∨ m = 11 ∨ m = 12 ∨ m = 13 ∨ m = 14 by omega) with rfl | rfl | rfl | rfl | rfl | rfl | rfl | rfl | rfl | rfl | rfl | rfl | rfl | rfl
    all_goals rfl)
  have h2 := PutGave.store h1 (set_at hx _) { x with nd := acks, ow := 4 } 4 [.int .i64 4] (by simp) (fun m hm => by simp at hm; subst hm; rfl) (fun m hm hm2 => by
    simp at hm2
    rcases (show m = 0 ∨ m = 1 ∨ m = 2 ∨ m = 3 ∨ m = 5 ∨ m = 6 ∨ m = 7 ∨ m = 8 ∨ m = 9 ∨ m = 10 ∨ m = 11 ∨ m = 12 ∨ m = 13 ∨ m = 14 by omega) with rfl | rfl | rfl | rfl | rfl | rfl | rfl | rfl | rfl | rfl | rfl | rfl | rfl | rfl
    all_goals rfl)
  rw [List.set_set] at h2
  have h3 := PutGave.store h2 (set_at hx _) (grantY acks x) 13 [.bool true] (by simp) (fun m hm => by simp at hm; subst hm; rfl) (fun m hm hm2 => by
    simp at hm2
    rcases (show m = 0 ∨ m = 1 ∨ m = 2 ∨ m = 3 ∨ m = 4 ∨ m = 5 ∨ m = 6 ∨ m = 7 ∨ m = 8 ∨ m = 9 ∨ m = 10 ∨ m = 11 ∨ m = 12 ∨ m = 14 by omega) with rfl | rfl | rfl | rfl | rfl | rfl | rfl | rfl | rfl | rfl | rfl | rfl | rfl | rfl
    all_goals rfl)
  rw [List.set_set] at h3
  exact .of (by simp) h3

/-! Grant. -/
set_option maxRecDepth 100000 in
set_option maxHeartbeats 1000000 in
theorem grant1_no (g i : Nat) (x : Ms) (p : Addr) (acks : Int) (w : World) (h : At1 w g i x) (hp : w.cell? p = some (.int .i64 acks)) (hx : tkes x acks 4 = false) :
    Calls Tryz.prog 161 #[.pointer (some ⟨g, i * 15, none⟩), .pointer (some p)] w fun e w' => e = .returned (.bool false) ∧ Below w.heap.size w w' := by
  obtain ⟨q0, q1, q2, q3, q4, q5, q6, q7, q8, q9, q10, q11, q12, q13, q14⟩ := h.cells
  have HC := Lib.hid hx
  clear h hx
  go_enter Tryz.func161, Tryz.ntmps161
  go_wp2
  go_still_tail 4, (by kernel_rfl)
  change wpList _ _ _ _ _ w.drew
  go_wp2_with fail
  refine (takes_any x acks 4 _).mono ?_
  rintro e w1 ⟨rfl, hb1⟩
  rw [HC.out]
  go_wp2
  go_ret
  exact ⟨rfl, bstep (Below.refl _ _).drew hb1⟩
set_option maxRecDepth 100000 in
set_option maxHeartbeats 1000000 in
theorem grant1_yes {w : World} {B b : Nat} {room : Int} {l : List Ms} {g cap : Nat} (h : BgP w B b room l (.slice (some ⟨g, 0, none⟩) l.length cap)) {i : Nat} {x : Ms} (hx : l[i]? = some x) (a : Nat) (acks : Int) (ha : w.cell? ⟨a, 0, none⟩ = some (.int .i64 acks)) (hal : a < w.heap.size) (ht : tkes x acks 4 = true) :
    Calls Tryz.prog 161 #[.pointer (some ⟨g, i * 15, none⟩), .pointer (some ⟨a, 0, none⟩)] w fun e w' => e = .returned (.bool true) ∧ PutGave 151 117 15 mc w B b room (l.set i (grantY acks x)) (.slice (some ⟨g, 0, none⟩) l.length cap) w' := by
  have H1 := h.at1 hx
  obtain ⟨q0, q1, q2, q3, q4, q5, q6, q7, q8, q9, q10, q11, q12, q13, q14⟩ := H1.cells
  have HA := Lib.hid H1
  have HC := Lib.hid ht
  have HD := Lib.hid ha
  have HE := Lib.hid (fun w1 (hb : Below w.heap.size w w1) => grant_gave h hb hx acks)
  clear h hx ht H1
  go_enter Tryz.func161, Tryz.ntmps161
  go_wp2
  go_still_tail 4, (by kernel_rfl)
  change wpList _ _ _ _ _ w.drew
  go_wp2_with fail
  refine (takes_any x acks 4 _).mono ?_
  rintro e w1 ⟨rfl, hb1⟩
  rw [HC.out]
  have hb2 := bstep (Below.refl _ _).drew hb1
  clear hb1 ha q0 q1 q2 q3 q4 q5 q6 q7 q8 q9 q10 q11 q12 q13 q14
  have ha := (hb2.cell (p := ⟨a, 0, none⟩) hal).trans HD.out
  have H2 := HA.out.step hb2
  have r2 := H2.row 2 _ rfl
  have r4 := H2.row 4 _ rfl
  have r13 := H2.row 13 _ rfl
  have hf := H2.fz
  clear H2
  go_wp2
  go_ret
  exact ⟨rfl, HE.out _ hb2⟩

/-! Data. -/
set_option maxRecDepth 100000 in
set_option maxHeartbeats 1000000 in
theorem data1_no (g i : Nat) (x : Ms) (p q r : Addr) (acks own : Int) (w : World) (h : At1 w g i x) (hp : w.cell? p = some (.int .i64 acks)) (hq : w.cell? q = some (.int .i64 own)) (hx : tkes x acks own = false) :
    Calls Tryz.prog 159 #[.pointer (some ⟨g, i * 15, none⟩), .pointer (some p), .pointer (some q), .pointer (some r)] w fun e w' => e = .returned (.bool false) ∧ Below w.heap.size w w' := by
  obtain ⟨q0, q1, q2, q3, q4, q5, q6, q7, q8, q9, q10, q11, q12, q13, q14⟩ := h.cells
  have HC := Lib.hid hx
  clear h hx
  go_enter Tryz.func159, Tryz.ntmps159
  go_wp2
  go_still_tail 5, (by kernel_rfl)
  change wpList _ _ _ _ _ w.drew
  go_wp2_with fail
  refine (takes_any x acks own _).mono ?_
  rintro e w1 ⟨rfl, hb1⟩
  rw [HC.out]
  go_wp2
  go_ret
  exact ⟨rfl, bstep (Below.refl _ _).drew hb1⟩
set_option maxRecDepth 100000 in
set_option maxHeartbeats 4000000 in
theorem data1_yes {w : World} {B k : Nat} {room : Int} {l : List Ms} {g cap : Nat} (h : BgP w B k room l (.slice (some ⟨g, 0, none⟩) l.length cap)) {i : Nat} {x : Ms} (hx : l[i]? = some x) (a b c : Nat) (acks own : Int) (d : Wd) (ha : w.cell? ⟨a, 0, none⟩ = some (.int .i64 acks)) (hb : w.cell? ⟨b, 0, none⟩ = some (.int .i64 own)) (hc : w.heap[c]? = some (.cells (dcells d) 36 (0, 0)))
    (la : a < w.heap.size) (lb : b < w.heap.size) (_ : a ≠ g) (_ : b ≠ g) (nc : c ≠ g) (ht : tkes x acks own = true) :
    Calls Tryz.prog 159 #[.pointer (some ⟨g, i * 15, none⟩), .pointer (some ⟨a, 0, none⟩), .pointer (some ⟨b, 0, none⟩), .pointer (some ⟨c, 0, none⟩)] w fun e w' => e = .returned (.bool true) ∧ PutGave 151 117 15 mc w B k room (l.set i (dataY acks own d x)) (.slice (some ⟨g, 0, none⟩) l.length cap) w' := by
  have H1 := h.at1 hx
  obtain ⟨q0, q1, q2, q3, q4, q5, q6, q7, q8, q9, q10, q11, q12, q13, q14⟩ := H1.cells
  have HA := Lib.hid H1
  have HC := Lib.hid ht
  have HD := Lib.hid ha
  have HB := Lib.hid hb
  have HW := Lib.hid hc
  have HE : Hid (∀ w1, Below w.heap.size w w1 → PutGave 151 117 15 mc w B k room (l.set i (dataY acks own d x)) (.slice (some ⟨g, 0, none⟩) l.length cap) ((((((((((w1.setCell ⟨g, i * 15 + 2, none⟩ (.int .i64 acks)).setCell ⟨g, i * 15 + 4, none⟩ (.int .i64 own)).setCell ⟨g, i * 15 + 5, none⟩ (.int .i64 d.w0)).setCell ⟨g, i * 15 + 5 + 1, none⟩ (.int .i64 d.w1)).setCell ⟨g, i * 15 + 5 + 2, none⟩ (.int .i64 d.w2)).setCell ⟨g, i * 15 + 5 + 3, none⟩ (.int .i64 d.w3)).setCell ⟨g, i * 15 + 5 + 4, none⟩ (.int .i64 d.w4)).setCell ⟨g, i * 15 + 5 + 5, none⟩ (.int .i64 d.w5)).setCell ⟨g, i * 15 + 5 + 6, none⟩ (.int .i64 d.w6)).setCell ⟨g, i * 15 + 5 + 7, none⟩ (.int .i64 d.w7)).drew) := Lib.hid (fun w1 hb => (data_gave h hb hx acks own d).drew1)
  clear h hx ht H1 hc
  go_enter Tryz.func159, Tryz.ntmps159
  go_wp2
  go_still_tail 5, (by kernel_rfl)
  change wpList _ _ _ _ _ w.drew
  go_wp2_with fail
  refine (takes_any x acks own _).mono ?_
  rintro e w1 ⟨rfl, hb1⟩
  rw [HC.out]
  have hb2 := bstep (Below.refl _ _).drew hb1
  clear hb1 ha hb q0 q1 q2 q3 q4 q5 q6 q7 q8 q9 q10 q11 q12 q13 q14
  have ha := (hb2.cell (p := ⟨a, 0, none⟩) la).trans HD.out
  have hb := (hb2.cell (p := ⟨b, 0, none⟩) lb).trans HB.out
  have hcc := blk_cell ((hb2.block c (lt_of_block HW.out)).trans HW.out)
  have e0 := hcc 0
  have e1 := hcc 1
  have e2 := hcc 2
  have e3 := hcc 3
  have e4 := hcc 4
  have e5 := hcc 5
  have e6 := hcc 6
  have e7 := hcc 7
  simp at e0 e1 e2 e3 e4 e5 e6 e7
  have H2 := HA.out.step hb2
  obtain ⟨q0, q1, q2, q3, q4, q5, q6, q7, q8, q9, q10, q11, q12, q13, q14⟩ := H2.cells
  have hf := H2.fz
  clear H2 hcc q0 q1 q3 q13 q14
  go_wp2
  go_region
  as_aux_lemma =>
  clear ha hb e0 e1 e2 e3 e4 e5 e6 e7 q2 q4 q5 q6 q7 q8 q9 q10 q11 q12 hf
  go_wp2
  go_ret
  exact ⟨rfl, HE.out _ hb2⟩

abbrev grantV (p : Addr) : Value := .func (.func 161) #[] #[.pointer (some p)]
abbrev dataV (p q r : Addr) : Value := .func (.func 159) #[] #[.pointer (some p), .pointer (some q), .pointer (some r)]
set_option maxRecDepth 100000 in
set_option maxHeartbeats 1000000 in
theorem changeG {w : World} {B b : Nat} {room : Int} {l : List Ms} {v : Value} (h : BgP w B b room l v) (line : Int) (hl : l.length ≤ 5000) (a : Nat) (acks : Int) (ha : w.cell? ⟨a, 0, none⟩ = some (.int .i64 acks)) (la : a < w.heap.size) :
    Calls Tryz.prog 158 #[.pointer (some ⟨b, 0, none⟩), .int .i64 line, (grantV ⟨a, 0, none⟩)] w (GaveP w B b room v (chg l line (grantF acks))) := by
  have HEl : ∀ n, chg l line (grantF acks) = (n, l) → Hid (∀ w', Below w.heap.size w w' → GaveP w B b room v (chg l line (grantF acks)) (.returned (.int .i64 n)) w') := fun n e => Lib.hid (fun w' hb => by
    rw [e]
    exact ⟨rfl, gave_same h hb⟩)
  have hbx := balloc w (.cells #[.int .i64 line] 3)
  rcases hp : fnd l line with _ | i
  · have HP := Lib.hid (firstL_no (h.below hbx) ⟨w.heap.size, 0, none⟩ line hl (by simp) (by simp) hp)
    have HE := HEl 5 (chg_none _ hp)
    clear h HEl hp ha la
    go_enter Tryz.func158, Tryz.ntmps158
    go_wp2_with fail
    refine (ofLine_any line _).mono ?_
    rintro e w1 ⟨rfl, rfl⟩
    go_wp2_with fail
    refine HP.out.mono ?_
    rintro e w1 ⟨rfl, hb1⟩
    go_wp2
    go_ret
    exact HE.out _ (bbox hb1)
  · obtain ⟨x, hx, _, hi⟩ := fnd_some hp
    obtain ⟨g, cap, rfl, hbg, hgl, hBg, hr, hfz, _, _⟩ := h.one hx
    have HP := Lib.hid (firstL_yes (h.below hbx) ⟨w.heap.size, 0, none⟩ line hl (by simp) (by simp) hp hi)
    rcases Bool.eq_false_or_eq_true (tkes x acks 4) with ht | ht
    · have HZ := Lib.hid (chg_yes hp hx (grantF_yes ht))
      have HC := Lib.hid (fun w1 (hb : Below w.heap.size w w1) => grant1_yes (h.below hb) hx a acks ((hb.cell (p := ⟨a, 0, none⟩) la).trans ha) (Nat.lt_of_lt_of_le la hb.size) ht)
      clear h HEl hp hx hr hfz ht ha la
      go_enter Tryz.func158, Tryz.ntmps158
      go_wp2_with fail
      refine (ofLine_any line _).mono ?_
      rintro e w1 ⟨rfl, rfl⟩
      go_wp2_with fail
      refine HP.out.mono ?_
      rintro e w1 ⟨rfl, hb1⟩
      have hb2 := bbox hb1
      clear hb1
      go_wp2_with fail
      refine (HC.out _ hb2).mono ?_
      rintro e w3 ⟨rfl, R⟩
      have R := Lib.hid (R.after hb2)
      go_wp2
      go_ret
      rw [HZ.out]
      exact ⟨rfl, R.out⟩
    · have HE := HEl 7 (chg_no hp hx (grantF_no ht))
      have HC := Lib.hid (fun w1 (hb : Below w.heap.size w w1) => grant1_no g i x ⟨a, 0, none⟩ acks w1 ((h.below hb).at1 hx) ((hb.cell (p := ⟨a, 0, none⟩) la).trans ha) ht)
      clear h HEl hp hx hr hfz ht ha la
      go_enter Tryz.func158, Tryz.ntmps158
      go_wp2_with fail
      refine (ofLine_any line _).mono ?_
      rintro e w1 ⟨rfl, rfl⟩
      go_wp2_with fail
      refine HP.out.mono ?_
      rintro e w1 ⟨rfl, hb1⟩
      have hb2 := bbox hb1
      clear hb1
      go_wp2_with fail
      refine (HC.out _ hb2).mono ?_
      rintro e w3 ⟨rfl, hb3⟩
      go_wp2
      go_ret
      exact HE.out _ (bstep hb2 hb3)
set_option maxRecDepth 100000 in
set_option maxHeartbeats 1000000 in
theorem changeD {w : World} {B b : Nat} {room : Int} {l : List Ms} {v : Value} (h : BgP w B b room l v) (line : Int) (hl : l.length ≤ 5000) (a c k : Nat) (acks own : Int) (d : Wd) (ha : w.cell? ⟨a, 0, none⟩ = some (.int .i64 acks)) (hc : w.cell? ⟨c, 0, none⟩ = some (.int .i64 own)) (hk : w.heap[k]? = some (.cells (dcells d) 36 (0, 0))) (la : a < w.heap.size) (lc : c < w.heap.size) (na : v.ownBlock ≠ some a) (nc : v.ownBlock ≠ some c) (nk : v.ownBlock ≠ some k) :
    Calls Tryz.prog 158 #[.pointer (some ⟨b, 0, none⟩), .int .i64 line, (dataV ⟨a, 0, none⟩ ⟨c, 0, none⟩ ⟨k, 0, none⟩)] w (GaveP w B b room v (chg l line (dataF acks own d))) := by
  have HEl : ∀ n, chg l line (dataF acks own d) = (n, l) → Hid (∀ w', Below w.heap.size w w' → GaveP w B b room v (chg l line (dataF acks own d)) (.returned (.int .i64 n)) w') := fun n e => Lib.hid (fun w' hb => by
    rw [e]
    exact ⟨rfl, gave_same h hb⟩)
  have hbx := balloc w (.cells #[.int .i64 line] 3)
  rcases hp : fnd l line with _ | i
  · have HP := Lib.hid (firstL_no (h.below hbx) ⟨w.heap.size, 0, none⟩ line hl (by simp) (by simp) hp)
    have HE := HEl 5 (chg_none _ hp)
    clear h HEl hp ha hc hk la lc na nc nk
    go_enter Tryz.func158, Tryz.ntmps158
    go_wp2_with fail
    refine (ofLine_any line _).mono ?_
    rintro e w1 ⟨rfl, rfl⟩
    go_wp2_with fail
    refine HP.out.mono ?_
    rintro e w1 ⟨rfl, hb1⟩
    go_wp2
    go_ret
    exact HE.out _ (bbox hb1)
  · obtain ⟨x, hx, _, hi⟩ := fnd_some hp
    obtain ⟨g, cap, rfl, hbg, hgl, hBg, hr, hfz, _, _⟩ := h.one hx
    have HP := Lib.hid (firstL_yes (h.below hbx) ⟨w.heap.size, 0, none⟩ line hl (by simp) (by simp) hp hi)
    rcases Bool.eq_false_or_eq_true (tkes x acks own) with ht | ht
    · have HZ := Lib.hid (chg_yes hp hx (dataF_yes d ht))
      have HC := Lib.hid (fun w1 (hb : Below w.heap.size w w1) => data1_yes (h.below hb) hx a c k acks own d ((hb.cell (p := ⟨a, 0, none⟩) la).trans ha) ((hb.cell (p := ⟨c, 0, none⟩) lc).trans hc) ((hb.block k (lt_of_block hk)).trans hk) (Nat.lt_of_lt_of_le la hb.size) (Nat.lt_of_lt_of_le lc hb.size) (fun e => na (by rw [e]; rfl)) (fun e => nc (by rw [e]; rfl)) (fun e => nk (by rw [e]; rfl)) ht)
      clear h HEl hp hx hr hfz ht ha hc hk la lc na nc nk
      go_enter Tryz.func158, Tryz.ntmps158
      go_wp2_with fail
      refine (ofLine_any line _).mono ?_
      rintro e w1 ⟨rfl, rfl⟩
      go_wp2_with fail
      refine HP.out.mono ?_
      rintro e w1 ⟨rfl, hb1⟩
      have hb2 := bbox hb1
      clear hb1
      go_wp2_with fail
      refine (HC.out _ hb2).mono ?_
      rintro e w3 ⟨rfl, R⟩
      have R := Lib.hid (R.after hb2)
      go_wp2
      go_ret
      rw [HZ.out]
      exact ⟨rfl, R.out⟩
    · have HE := HEl 7 (chg_no hp hx (dataF_no d ht))
      have HC := Lib.hid (fun w1 (hb : Below w.heap.size w w1) => data1_no g i x ⟨a, 0, none⟩ ⟨c, 0, none⟩ ⟨k, 0, none⟩ acks own w1 ((h.below hb).at1 hx) ((hb.cell (p := ⟨a, 0, none⟩) la).trans ha) ((hb.cell (p := ⟨c, 0, none⟩) lc).trans hc) ht)
      clear h HEl hp hx hr hfz ht ha hc hk la lc na nc nk
      go_enter Tryz.func158, Tryz.ntmps158
      go_wp2_with fail
      refine (ofLine_any line _).mono ?_
      rintro e w1 ⟨rfl, rfl⟩
      go_wp2_with fail
      refine HP.out.mono ?_
      rintro e w1 ⟨rfl, hb1⟩
      have hb2 := bbox hb1
      clear hb1
      go_wp2_with fail
      refine (HC.out _ hb2).mono ?_
      rintro e w3 ⟨rfl, hb3⟩
      go_wp2
      go_ret
      exact HE.out _ (bstep hb2 hb3)

theorem Bg.own_lt {T e : TypeId} {w : World} {B b : Nat} {room : Int} {l : List Ms} {v : Value} (h : Bg T e 15 mc w B b room l v) {k : Nat} (hk : w.heap.size ≤ k) : v.ownBlock ≠ some k := fun e => by have := (h.row.lt k e).2; omega
set_option maxRecDepth 100000 in
/-- Grant. -/
theorem grant_any {w : World} {B b : Nat} {room : Int} {l : List Ms} {v : Value} (h : BgP w B b room l v) (line acks : Int) (hl : l.length ≤ 5000) :
    Calls Tryz.prog 143 #[.pointer (some ⟨b, 0, none⟩), .int .i64 line, .int .i64 acks] w (GaveP w B b room v (chg l line (grantF acks))) := by
  have hmf : ∀ (fn : Fn) (first cap : Array Value) (w : World), (Instr.makeFunc fn first cap).run Tryz.prog w = .ok (.func fn first cap) w := fun _ _ _ _ => rfl
  have hbx := balloc w (.cells #[.int .i64 acks] 3)
  have HC := Lib.hid (changeG (h.below hbx) line hl w.heap.size acks (by simp) (by simp))
  have HB := Lib.hid hbx
  clear h hbx
  go_enter Tryz.func143, Tryz.ntmps143
  go_wp2_with fail
  refine HC.out.mono ?_
  rintro e w1 ⟨rfl, R⟩
  have R := Lib.hid (R.after HB.out)
  go_wp2
  go_ret
  exact ⟨rfl, R.out⟩
set_option maxRecDepth 100000 in
/-- Data. -/
theorem data_any {w : World} {B b : Nat} {room : Int} {l : List Ms} {v : Value} (h : BgP w B b room l v) (line acks own : Int) (d : Wd) (hl : l.length ≤ 5000) :
    Calls Tryz.prog 142 #[.pointer (some ⟨b, 0, none⟩), .int .i64 line, .int .i64 acks, .int .i64 own, .agg (dcells d)] w (GaveP w B b room v (chg l line (dataF acks own d))) := by
  have hmf : ∀ (fn : Fn) (first cap : Array Value) (w : World), (Instr.makeFunc fn first cap).run Tryz.prog w = .ok (.func fn first cap) w := fun _ _ _ _ => rfl
  have hb1 := balloc2 w (.cells #[.int .i64 acks] 3) (.cells #[.int .i64 own] 3)
  have hbx := bstep hb1 (balloc _ (.cells (dcells d) 36))
  have hk : (((w.alloc (.cells #[.int .i64 acks] 3)).alloc (.cells #[.int .i64 own] 3)).alloc (.cells (dcells d) 36)).heap[w.heap.size + 1 + 1]? = some (.cells (dcells d) 36 (0, 0)) := by
    have := heap_alloc_new ((w.alloc (.cells #[.int .i64 acks] 3)).alloc (.cells #[.int .i64 own] 3)) (.cells (dcells d) 36)
    rwa [show ((w.alloc (.cells #[.int .i64 acks] 3)).alloc (.cells #[.int .i64 own] 3)).heap.size = w.heap.size + 1 + 1 by simp] at this
  have hk0 := Lib.cell?_alloc_some (.cells (dcells d) 36) (Lib.cell?_alloc_some (.cells #[.int .i64 own] 3) (World.cell?_alloc_mark w #[.int .i64 acks] 3 (0, 0) 0))
  have hk1 : (((w.alloc (.cells #[.int .i64 acks] 3)).alloc (.cells #[.int .i64 own] 3)).alloc (.cells (dcells d) 36)).cell? ⟨w.heap.size + 1, 0, none⟩ = some (.int .i64 own) := Lib.cell?_alloc_some _ (by
    have := World.cell?_alloc_mark (w.alloc (.cells #[.int .i64 acks] 3)) #[.int .i64 own] 3 (0, 0) 0
    rwa [show (w.alloc (.cells #[.int .i64 acks] 3)).heap.size = w.heap.size + 1 by simp] at this)
  have HC := Lib.hid (changeD (h.below hbx) line hl w.heap.size (w.heap.size + 1) (w.heap.size + 1 + 1) acks own d hk0 hk1 hk (by simp; omega) (by simp) (h.own_lt (by omega)) (h.own_lt (by omega)) (h.own_lt (by omega)))
  have HB := Lib.hid hbx
  clear h hbx hb1 hk hk0 hk1
  go_enter Tryz.func142, Tryz.ntmps142
  go_wp2_with fail
  refine HC.out.mono ?_
  rintro e w1 ⟨rfl, R⟩
  have R := Lib.hid (R.after HB.out)
  go_wp2
  go_ret
  exact ⟨rfl, R.out⟩

end Go.Proofs.YtlfhkjjjocmpbaaGreatDoor.Mh
