import Derived.Test.YtlfhkjjjocmpbaaGreatDoorQLayMh
import Derived.StillTailTactics

namespace Go.Proofs.YtlfhkjjjocmpbaaGreatDoor.Mh
open Go Go.RowKit

theorem At1.step {w w' : World} {g i : Nat} {x : Ms} (h : At1 w g i x) (hb : Below w.heap.size w w') : At1 w' g i x :=
   ⟨Nat.lt_of_lt_of_le h.lt hb.size, fun j u hu => (hb.cell (p := ⟨g, i * 15 + j, none⟩) h.lt).trans (h.row j u hu), fun o => (hb.frozen (p := ⟨g, o, none⟩) h.lt).trans (h.fz o)⟩
theorem Bg.drew1 {T e : TypeId} {w : World} {B b : Nat} {room : Int} {l : List Ms} {v : Value} (h : Bg T e 15 mc w B b room l v) : Bg T e 15 mc w.drew B b room l v := h.keep rfl fun _ _ => rfl
theorem PutGave.drew1 {T e : TypeId} {w w' : World} {B b : Nat} {room : Int} {l : List Ms} {v : Value} (h : PutGave T e 15 mc w B b room l v w') : PutGave T e 15 mc w B b room l v w'.drew := by
 obtain ⟨v', h1, h2, h3⟩ := h
 exact ⟨v', h1.drew1, ⟨h2.os, h2.tape, h2.output, h2.size, h2.other⟩, h3⟩

theorem PutGave.store {T e : TypeId} {w w1 : World} {B b : Nat} {room : Int} {l : List Ms} {g cap : Nat} (h : Bg T e 15 mc w1 B b room l (.slice (some ⟨g, 0, none⟩) l.length cap) ∧ Turn b (.slice (some ⟨g, 0, none⟩) l.length cap) w w1) {i : Nat} {x : Ms} (hx : l[i]? = some x) (y : Ms) (j : Nat) (vs : List Value) (hj : j + vs.length ≤ 15)
  (hin : ∀ m, m < vs.length → (mc y)[j + m]? = vs[m]?) (hout : ∀ m, m < 15 → m < j ∨ j + vs.length ≤ m → (mc y)[m]? = (mc x)[m]?) :
  Bg T e 15 mc (w1.setCells g (i * 15 + j) vs) B b room (l.set i y) (.slice (some ⟨g, 0, none⟩) (l.set i y).length cap) ∧ Turn b (.slice (some ⟨g, 0, none⟩) (l.set i y).length cap) w (w1.setCells g (i * 15 + j) vs) := by
 have hs := h.1.store hx y j vs hj hin hout
 have ht := h.2.trans (turn_setCells (b := b) (g := g) (n := l.length) (cap := cap) (i * 15 + j) vs w1) (Fresh.refl _ _)
 rw [List.length_set]
 exact ⟨hs, ht⟩
theorem set_at {l : List Ms} {i : Nat} {x : Ms} (hx : l[i]? = some x) (y : Ms) : (l.set i y)[i]? = some y := by
 have := (List.getElem?_eq_some_iff.1 hx).1
 rw [List.getElem?_set, if_pos rfl, if_pos this]
theorem PutGave.of {T e : TypeId} {w w1 : World} {B b : Nat} {room : Int} {l : List Ms} {n g cap : Nat} (hn : n = l.length) (h : Bg T e 15 mc w1 B b room l (.slice (some ⟨g, 0, none⟩) l.length cap) ∧ Turn b (.slice (some ⟨g, 0, none⟩) l.length cap) w w1) : PutGave T e 15 mc w B b room l (.slice (some ⟨g, 0, none⟩) n cap) w1 := by
 subst hn
 exact ⟨_, h.1, h.2, Fresh.refl _ _⟩
theorem data_gave {T e : TypeId} {w w1 : World} {B b : Nat} {room : Int} {l : List Ms} {g cap : Nat} (h : Bg T e 15 mc w B b room l (.slice (some ⟨g, 0, none⟩) l.length cap)) (hb : Below w.heap.size w w1) {i : Nat} {x : Ms} (hx : l[i]? = some x) (acks own : Int) (d : Wd) :
  PutGave T e 15 mc w B b room (l.set i (dataY acks own d x)) (.slice (some ⟨g, 0, none⟩) l.length cap) (((w1.setCells g (i * 15 + 2) [.int .i64 acks]).setCells g (i * 15 + 4) [.int .i64 own]).setCells g (i * 15 + 5) (dcells d).toList) := by
 have h1 := PutGave.store ⟨h.below hb, Turn.of_below hb⟩ hx { x with nd := acks } 2 [.int .i64 acks] (by simp) (fun m hm => by simp at hm; subst hm; rfl) (fun m hm hm2 => by
  simp at hm2
  rcases (show m = 0 ∨ m = 1 ∨ m = 3 ∨ m = 4 ∨ m = 5 ∨ m = 6 ∨ m = 7 ∨ m = 8 ∨ m = 9 ∨ m = 10 ∨ m = 11 ∨ m = 12 ∨ m = 13 ∨ m = 14 by omega) with rfl | rfl | rfl | rfl | rfl | rfl | rfl | rfl | rfl | rfl | rfl | rfl | rfl | rfl
  all_goals rfl)
 have h2 := PutGave.store h1 (set_at hx _) { x with nd := acks, ow := own } 4 [.int .i64 own] (by simp) (fun m hm => by simp at hm; subst hm; rfl) (fun m hm hm2 => by
  simp at hm2
  rcases (show m = 0 ∨ m = 1 ∨ m = 2 ∨ m = 3 ∨ m = 5 ∨ m = 6 ∨ m = 7 ∨ m = 8 ∨ m = 9 ∨ m = 10 ∨ m = 11 ∨ m = 12 ∨ m = 13 ∨ m = 14 by omega) with rfl | rfl | rfl | rfl | rfl | rfl | rfl | rfl | rfl | rfl | rfl | rfl | rfl | rfl
  all_goals rfl)
 rw [List.set_set] at h2
 have h3 := PutGave.store h2 (set_at hx _) (dataY acks own d x) 5 (dcells d).toList (by simp) (fun m hm => by
  simp at hm
  rcases (show m = 0 ∨ m = 1 ∨ m = 2 ∨ m = 3 ∨ m = 4 ∨ m = 5 ∨ m = 6 ∨ m = 7 by omega) with rfl | rfl | rfl | rfl | rfl | rfl | rfl | rfl
  all_goals rfl) (fun m hm hm2 => by
  simp at hm2
  rcases (show m = 0 ∨ m = 1 ∨ m = 2 ∨ m = 3 ∨ m = 4 ∨ m = 13 ∨ m = 14 by omega) with rfl | rfl | rfl | rfl | rfl | rfl | rfl
  all_goals rfl)
 rw [List.set_set] at h3
 exact .of (by simp) h3
theorem grant_gave {T e : TypeId} {w w1 : World} {B b : Nat} {room : Int} {l : List Ms} {g cap : Nat} (h : Bg T e 15 mc w B b room l (.slice (some ⟨g, 0, none⟩) l.length cap)) (hb : Below w.heap.size w w1) {i : Nat} {x : Ms} (hx : l[i]? = some x) (acks : Int) :
  PutGave T e 15 mc w B b room (l.set i (grantY acks x)) (.slice (some ⟨g, 0, none⟩) l.length cap) (((w1.setCells g (i * 15 + 2) [.int .i64 acks]).setCells g (i * 15 + 4) [.int .i64 4]).setCells g (i * 15 + 13) [.bool true]) := by
 have h1 := PutGave.store ⟨h.below hb, Turn.of_below hb⟩ hx { x with nd := acks } 2 [.int .i64 acks] (by simp) (fun m hm => by simp at hm; subst hm; rfl) (fun m hm hm2 => by
  simp at hm2
  rcases (show m = 0 ∨ m = 1 ∨ m = 3 ∨ m = 4 ∨ m = 5 ∨ m = 6 ∨ m = 7 ∨ m = 8 ∨ m = 9 ∨ m = 10 ∨ m = 11 ∨ m = 12 ∨ m = 13 ∨ m = 14 by omega) with rfl | rfl | rfl | rfl | rfl | rfl | rfl | rfl | rfl | rfl | rfl | rfl | rfl | rfl
  all_goals rfl)
 have h2 := PutGave.store h1 (set_at hx _) { x with nd := acks, ow := 4 } 4 [.int .i64 4] (by simp) (fun m hm => by simp at hm; subst hm; rfl) (fun m hm hm2 => by
  simp at hm2
  rcases (show m = 0 ∨ m = 1 ∨ m = 2 ∨ m = 3 ∨ m = 5 ∨ m = 6 ∨ m = 7 ∨ m = 8 ∨ m = 9 ∨ m = 10 ∨ m = 11 ∨ m = 12 ∨ m = 13 ∨ m = 14 by omega) with rfl | rfl | rfl | rfl | rfl | rfl | rfl | rfl | rfl | rfl | rfl | rfl | rfl | rfl
  all_goals rfl)
 rw [List.set_set] at h2
 have h3 := PutGave.store h2 (set_at hx _) (grantY acks x) 13 [.bool true] (by simp) (fun m hm => by simp at hm; subst hm; rfl) (fun m hm hm2 => by
  simp at hm2
  rcases (show m = 0 ∨ m = 1 ∨ m = 2 ∨ m = 3 ∨ m = 4 ∨ m = 5 ∨ m = 6 ∨ m = 7 ∨ m = 8 ∨ m = 9 ∨ m = 10 ∨ m = 11 ∨ m = 12 ∨ m = 14 by omega) with rfl | rfl | rfl | rfl | rfl | rfl | rfl | rfl | rfl | rfl | rfl | rfl | rfl | rfl
  all_goals rfl)
 rw [List.set_set] at h3
 exact .of (by simp) h3

set_option maxRecDepth 100000 in
set_option maxHeartbeats 1000000 in
theorem grant1_no (g i : Nat) (x : Ms) (p : Addr) (acks : Int) (w : World) (h : At1 w g i x) (hp : w.cell? p = some (.int .i64 acks)) (hx : tkes x acks 4 = false) :
  Calls Tryz.prog 161 #[.pointer (some ⟨g, i * 15, none⟩), .pointer (some p)] w fun e w' => e = .returned (.bool false) ∧ Below w.heap.size w w' := by
 obtain ⟨q0, q1, q2, q3, q4, q5, q6, q7, q8, q9, q10, q11, q12, q13, q14⟩ := h.cells
 have HC := Lib.hid hx
 clear h hx
 go_enter Tryz.func161, Tryz.ntmps161
 go_wp2
 go_still_tail 4, (by kernel_rfl)
 change wpList _ _ _ _ _ w.drew
 go_wp2_with fail
 refine (takes_any x acks 4 _).mono ?_
 rintro e w1 ⟨rfl, hb1⟩
 rw [HC.out]
 go_wp2
 go_ret
 exact ⟨rfl, bstep (Below.refl _ _).drew hb1⟩
set_option maxRecDepth 100000 in
set_option maxHeartbeats 1000000 in
theorem grant1_yes {w : World} {B b : Nat} {room : Int} {l : List Ms} {g cap : Nat} (h : BgP w B b room l (.slice (some ⟨g, 0, none⟩) l.length cap)) {i : Nat} {x : Ms} (hx : l[i]? = some x) (a : Nat) (acks : Int) (ha : w.cell? ⟨a, 0, none⟩ = some (.int .i64 acks)) (hal : a < w.heap.size) (ht : tkes x acks 4 = true) :
  Calls Tryz.prog 161 #[.pointer (some ⟨g, i * 15, none⟩), .pointer (some ⟨a, 0, none⟩)] w fun e w' => e = .returned (.bool true) ∧ PutGave 151 117 15 mc w B b room (l.set i (grantY acks x)) (.slice (some ⟨g, 0, none⟩) l.length cap) w' := by
 have H1 := h.at1 hx
 obtain ⟨q0, q1, q2, q3, q4, q5, q6, q7, q8, q9, q10, q11, q12, q13, q14⟩ := H1.cells
 have HA := Lib.hid H1
 have HC := Lib.hid ht
 have HD := Lib.hid ha
 have HE := Lib.hid (fun w1 (hb : Below w.heap.size w w1) => grant_gave h hb hx acks)
 clear h hx ht H1
 go_enter Tryz.func161, Tryz.ntmps161
 go_wp2
 go_still_tail 4, (by kernel_rfl)
 change wpList _ _ _ _ _ w.drew
 go_wp2_with fail
 refine (takes_any x acks 4 _).mono ?_
 rintro e w1 ⟨rfl, hb1⟩
 rw [HC.out]
 have hb2 := bstep (Below.refl _ _).drew hb1
 clear hb1 ha q0 q1 q2 q3 q4 q5 q6 q7 q8 q9 q10 q11 q12 q13 q14
 have ha := (hb2.cell (p := ⟨a, 0, none⟩) hal).trans HD.out
 have H2 := HA.out.step hb2
 have r2 := H2.row 2 _ rfl
 have r4 := H2.row 4 _ rfl
 have r13 := H2.row 13 _ rfl
 have hf := H2.fz
 clear H2
 go_wp2
 go_ret
 exact ⟨rfl, HE.out _ hb2⟩

set_option maxRecDepth 100000 in
set_option maxHeartbeats 1000000 in
theorem data1_no (g i : Nat) (x : Ms) (p q r : Addr) (acks own : Int) (w : World) (h : At1 w g i x) (hp : w.cell? p = some (.int .i64 acks)) (hq : w.cell? q = some (.int .i64 own)) (hx : tkes x acks own = false) :
  Calls Tryz.prog 159 #[.pointer (some ⟨g, i * 15, none⟩), .pointer (some p), .pointer (some q), .pointer (some r)] w fun e w' => e = .returned (.bool false) ∧ Below w.heap.size w w' := by
 obtain ⟨q0, q1, q2, q3, q4, q5, q6, q7, q8, q9, q10, q11, q12, q13, q14⟩ := h.cells
 have HC := Lib.hid hx
 clear h hx
 go_enter Tryz.func159, Tryz.ntmps159
 go_wp2
 go_still_tail 5, (by kernel_rfl)
 change wpList _ _ _ _ _ w.drew
 go_wp2_with fail
 refine (takes_any x acks own _).mono ?_
 rintro e w1 ⟨rfl, hb1⟩
 rw [HC.out]
 go_wp2
 go_ret
 exact ⟨rfl, bstep (Below.refl _ _).drew hb1⟩
set_option maxRecDepth 100000 in
set_option maxHeartbeats 4000000 in
theorem data1_yes {w : World} {B k : Nat} {room : Int} {l : List Ms} {g cap : Nat} (h : BgP w B k room l (.slice (some ⟨g, 0, none⟩) l.length cap)) {i : Nat} {x : Ms} (hx : l[i]? = some x) (a b c : Nat) (acks own : Int) (d : Wd) (ha : w.cell? ⟨a, 0, none⟩ = some (.int .i64 acks)) (hb : w.cell? ⟨b, 0, none⟩ = some (.int .i64 own)) (hc : w.heap[c]? = some (.cells (dcells d) 36 (0, 0)))
  (la : a < w.heap.size) (lb : b < w.heap.size) (_ : a ≠ g) (_ : b ≠ g) (nc : c ≠ g) (ht : tkes x acks own = true) :
  Calls Tryz.prog 159 #[.pointer (some ⟨g, i * 15, none⟩), .pointer (some ⟨a, 0, none⟩), .pointer (some ⟨b, 0, none⟩), .pointer (some ⟨c, 0, none⟩)] w fun e w' => e = .returned (.bool true) ∧ PutGave 151 117 15 mc w B k room (l.set i (dataY acks own d x)) (.slice (some ⟨g, 0, none⟩) l.length cap) w' := by
 have H1 := h.at1 hx
 obtain ⟨q0, q1, q2, q3, q4, q5, q6, q7, q8, q9, q10, q11, q12, q13, q14⟩ := H1.cells
 have HA := Lib.hid H1
 have HC := Lib.hid ht
 have HD := Lib.hid ha
 have HB := Lib.hid hb
 have HW := Lib.hid hc
 have HE : Hid (∀ w1, Below w.heap.size w w1 → PutGave 151 117 15 mc w B k room (l.set i (dataY acks own d x)) (.slice (some ⟨g, 0, none⟩) l.length cap) ((((((((((w1.setCell ⟨g, i * 15 + 2, none⟩ (.int .i64 acks)).setCell ⟨g, i * 15 + 4, none⟩ (.int .i64 own)).setCell ⟨g, i * 15 + 5, none⟩ (.int .i64 d.w0)).setCell ⟨g, i * 15 + 5 + 1, none⟩ (.int .i64 d.w1)).setCell ⟨g, i * 15 + 5 + 2, none⟩ (.int .i64 d.w2)).setCell ⟨g, i * 15 + 5 + 3, none⟩ (.int .i64 d.w3)).setCell ⟨g, i * 15 + 5 + 4, none⟩ (.int .i64 d.w4)).setCell ⟨g, i * 15 + 5 + 5, none⟩ (.int .i64 d.w5)).setCell ⟨g, i * 15 + 5 + 6, none⟩ (.int .i64 d.w6)).setCell ⟨g, i * 15 + 5 + 7, none⟩ (.int .i64 d.w7)).drew) := Lib.hid (fun w1 hb => (data_gave h hb hx acks own d).drew1)
 clear h hx ht H1 hc
 go_enter Tryz.func159, Tryz.ntmps159
 go_wp2
 go_still_tail 5, (by kernel_rfl)
 change wpList _ _ _ _ _ w.drew
 go_wp2_with fail
 refine (takes_any x acks own _).mono ?_
 rintro e w1 ⟨rfl, hb1⟩
 rw [HC.out]
 have hb2 := bstep (Below.refl _ _).drew hb1
 clear hb1 ha hb q0 q1 q2 q3 q4 q5 q6 q7 q8 q9 q10 q11 q12 q13 q14
 have ha := (hb2.cell (p := ⟨a, 0, none⟩) la).trans HD.out
 have hb := (hb2.cell (p := ⟨b, 0, none⟩) lb).trans HB.out
 have hcc := blk_cell ((hb2.block c (lt_of_block HW.out)).trans HW.out)
 have e0 := hcc 0
 have e1 := hcc 1
 have e2 := hcc 2
 have e3 := hcc 3
 have e4 := hcc 4
 have e5 := hcc 5
 have e6 := hcc 6
 have e7 := hcc 7
 simp at e0 e1 e2 e3 e4 e5 e6 e7
 have H2 := HA.out.step hb2
 obtain ⟨q0, q1, q2, q3, q4, q5, q6, q7, q8, q9, q10, q11, q12, q13, q14⟩ := H2.cells
 have hf := H2.fz
 clear H2 hcc q0 q1 q3 q13 q14
 go_wp2
 go_region
 as_aux_lemma =>
 clear ha hb e0 e1 e2 e3 e4 e5 e6 e7 q2 q4 q5 q6 q7 q8 q9 q10 q11 q12 hf
 go_wp2
 go_ret
 exact ⟨rfl, HE.out _ hb2⟩

abbrev grantV (p : Addr) : Value := .func (.func 161) #[] #[.pointer (some p)]
abbrev dataV (p q r : Addr) : Value := .func (.func 159) #[] #[.pointer (some p), .pointer (some q), .pointer (some r)]
set_option maxRecDepth 100000 in
set_option maxHeartbeats 1000000 in
theorem changeG {w : World} {B b : Nat} {room : Int} {l : List Ms} {v : Value} (h : BgP w B b room l v) (line : Int) (hl : l.length ≤ 5000) (a : Nat) (acks : Int) (ha : w.cell? ⟨a, 0, none⟩ = some (.int .i64 acks)) (la : a < w.heap.size) :
  Calls Tryz.prog 158 #[.pointer (some ⟨b, 0, none⟩), .int .i64 line, (grantV ⟨a, 0, none⟩)] w (GaveP w B b room v (chg l line (grantF acks))) := by
 have HEl : ∀ n, chg l line (grantF acks) = (n, l) → Hid (∀ w', Below w.heap.size w w' → GaveP w B b room v (chg l line (grantF acks)) (.returned (.int .i64 n)) w') := fun n e => Lib.hid (fun w' hb => by
  rw [e]
  exact ⟨rfl, gave_same h hb⟩)
 have hbx := balloc w (.cells #[.int .i64 line] 3)
 rcases hp : fnd l line with _ | i
 ·have HP := Lib.hid (firstL_no (h.below hbx) ⟨w.heap.size, 0, none⟩ line hl (by simp) (by simp) hp)
  have HE := HEl 5 (chg_none _ hp)
  clear h HEl hp ha la
  go_enter Tryz.func158, Tryz.ntmps158
  go_wp2_with fail
  refine (ofLine_any line _).mono ?_
  rintro e w1 ⟨rfl, rfl⟩
  go_wp2_with fail
  refine HP.out.mono ?_
  rintro e w1 ⟨rfl, hb1⟩
  go_wp2
  go_ret
  exact HE.out _ (bbox hb1)
 ·obtain ⟨x, hx, _, hi⟩ := fnd_some hp
  obtain ⟨g, cap, rfl, hbg, hgl, hBg, hr, hfz, _, _⟩ := h.one hx
  have HP := Lib.hid (firstL_yes (h.below hbx) ⟨w.heap.size, 0, none⟩ line hl (by simp) (by simp) hp hi)
  rcases Bool.eq_false_or_eq_true (tkes x acks 4) with ht | ht
  ·have HZ := Lib.hid (chg_yes hp hx (grantF_yes ht))
   have HC := Lib.hid (fun w1 (hb : Below w.heap.size w w1) => grant1_yes (h.below hb) hx a acks ((hb.cell (p := ⟨a, 0, none⟩) la).trans ha) (Nat.lt_of_lt_of_le la hb.size) ht)
   clear h HEl hp hx hr hfz ht ha la
   go_enter Tryz.func158, Tryz.ntmps158
   go_wp2_with fail
   refine (ofLine_any line _).mono ?_
   rintro e w1 ⟨rfl, rfl⟩
   go_wp2_with fail
   refine HP.out.mono ?_
   rintro e w1 ⟨rfl, hb1⟩
   have hb2 := bbox hb1
   clear hb1
   go_wp2_with fail
   refine (HC.out _ hb2).mono ?_
   rintro e w3 ⟨rfl, R⟩
   have R := Lib.hid (R.after hb2)
   go_wp2
   go_ret
   rw [HZ.out]
   exact ⟨rfl, R.out⟩
  ·have HE := HEl 7 (chg_no hp hx (grantF_no ht))
   have HC := Lib.hid (fun w1 (hb : Below w.heap.size w w1) => grant1_no g i x ⟨a, 0, none⟩ acks w1 ((h.below hb).at1 hx) ((hb.cell (p := ⟨a, 0, none⟩) la).trans ha) ht)
   clear h HEl hp hx hr hfz ht ha la
   go_enter Tryz.func158, Tryz.ntmps158
   go_wp2_with fail
   refine (ofLine_any line _).mono ?_
   rintro e w1 ⟨rfl, rfl⟩
   go_wp2_with fail
   refine HP.out.mono ?_
   rintro e w1 ⟨rfl, hb1⟩
   have hb2 := bbox hb1
   clear hb1
   go_wp2_with fail
   refine (HC.out _ hb2).mono ?_
   rintro e w3 ⟨rfl, hb3⟩
   go_wp2
   go_ret
   exact HE.out _ (bstep hb2 hb3)
set_option maxRecDepth 100000 in
set_option maxHeartbeats 1000000 in
theorem changeD {w : World} {B b : Nat} {room : Int} {l : List Ms} {v : Value} (h : BgP w B b room l v) (line : Int) (hl : l.length ≤ 5000) (a c k : Nat) (acks own : Int) (d : Wd) (ha : w.cell? ⟨a, 0, none⟩ = some (.int .i64 acks)) (hc : w.cell? ⟨c, 0, none⟩ = some (.int .i64 own)) (hk : w.heap[k]? = some (.cells (dcells d) 36 (0, 0))) (la : a < w.heap.size) (lc : c < w.heap.size) (na : v.ownBlock ≠ some a) (nc : v.ownBlock ≠ some c) (nk : v.ownBlock ≠ some k) :
  Calls Tryz.prog 158 #[.pointer (some ⟨b, 0, none⟩), .int .i64 line, (dataV ⟨a, 0, none⟩ ⟨c, 0, none⟩ ⟨k, 0, none⟩)] w (GaveP w B b room v (chg l line (dataF acks own d))) := by
 have HEl : ∀ n, chg l line (dataF acks own d) = (n, l) → Hid (∀ w', Below w.heap.size w w' → GaveP w B b room v (chg l line (dataF acks own d)) (.returned (.int .i64 n)) w') := fun n e => Lib.hid (fun w' hb => by
  rw [e]
  exact ⟨rfl, gave_same h hb⟩)
 have hbx := balloc w (.cells #[.int .i64 line] 3)
 rcases hp : fnd l line with _ | i
 ·have HP := Lib.hid (firstL_no (h.below hbx) ⟨w.heap.size, 0, none⟩ line hl (by simp) (by simp) hp)
  have HE := HEl 5 (chg_none _ hp)
  clear h HEl hp ha hc hk la lc na nc nk
  go_enter Tryz.func158, Tryz.ntmps158
  go_wp2_with fail
  refine (ofLine_any line _).mono ?_
  rintro e w1 ⟨rfl, rfl⟩
  go_wp2_with fail
  refine HP.out.mono ?_
  rintro e w1 ⟨rfl, hb1⟩
  go_wp2
  go_ret
  exact HE.out _ (bbox hb1)
 ·obtain ⟨x, hx, _, hi⟩ := fnd_some hp
  obtain ⟨g, cap, rfl, hbg, hgl, hBg, hr, hfz, _, _⟩ := h.one hx
  have HP := Lib.hid (firstL_yes (h.below hbx) ⟨w.heap.size, 0, none⟩ line hl (by simp) (by simp) hp hi)
  rcases Bool.eq_false_or_eq_true (tkes x acks own) with ht | ht
  ·have HZ := Lib.hid (chg_yes hp hx (dataF_yes d ht))
   have HC := Lib.hid (fun w1 (hb : Below w.heap.size w w1) => data1_yes (h.below hb) hx a c k acks own d ((hb.cell (p := ⟨a, 0, none⟩) la).trans ha) ((hb.cell (p := ⟨c, 0, none⟩) lc).trans hc) ((hb.block k (lt_of_block hk)).trans hk) (Nat.lt_of_lt_of_le la hb.size) (Nat.lt_of_lt_of_le lc hb.size) (fun e => na (by rw [e]; rfl)) (fun e => nc (by rw [e]; rfl)) (fun e => nk (by rw [e]; rfl)) ht)
   clear h HEl hp hx hr hfz ht ha hc hk la lc na nc nk
   go_enter Tryz.func158, Tryz.ntmps158
   go_wp2_with fail
   refine (ofLine_any line _).mono ?_
   rintro e w1 ⟨rfl, rfl⟩
   go_wp2_with fail
   refine HP.out.mono ?_
   rintro e w1 ⟨rfl, hb1⟩
   have hb2 := bbox hb1
   clear hb1
   go_wp2_with fail
   refine (HC.out _ hb2).mono ?_
   rintro e w3 ⟨rfl, R⟩
   have R := Lib.hid (R.after hb2)
   go_wp2
   go_ret
   rw [HZ.out]
   exact ⟨rfl, R.out⟩
  ·have HE := HEl 7 (chg_no hp hx (dataF_no d ht))
   have HC := Lib.hid (fun w1 (hb : Below w.heap.size w w1) => data1_no g i x ⟨a, 0, none⟩ ⟨c, 0, none⟩ ⟨k, 0, none⟩ acks own w1 ((h.below hb).at1 hx) ((hb.cell (p := ⟨a, 0, none⟩) la).trans ha) ((hb.cell (p := ⟨c, 0, none⟩) lc).trans hc) ht)
   clear h HEl hp hx hr hfz ht ha hc hk la lc na nc nk
   go_enter Tryz.func158, Tryz.ntmps158
   go_wp2_with fail
   refine (ofLine_any line _).mono ?_
   rintro e w1 ⟨rfl, rfl⟩
   go_wp2_with fail
   refine HP.out.mono ?_
   rintro e w1 ⟨rfl, hb1⟩
   have hb2 := bbox hb1
   clear hb1
   go_wp2_with fail
   refine (HC.out _ hb2).mono ?_
   rintro e w3 ⟨rfl, hb3⟩
   go_wp2
   go_ret
   exact HE.out _ (bstep hb2 hb3)

theorem Bg.own_lt {T e : TypeId} {w : World} {B b : Nat} {room : Int} {l : List Ms} {v : Value} (h : Bg T e 15 mc w B b room l v) {k : Nat} (hk : w.heap.size ≤ k) : v.ownBlock ≠ some k := fun e => by have := (h.row.lt k e).2; omega
set_option maxRecDepth 100000 in

theorem grant_any {w : World} {B b : Nat} {room : Int} {l : List Ms} {v : Value} (h : BgP w B b room l v) (line acks : Int) (hl : l.length ≤ 5000) :
  Calls Tryz.prog 143 #[.pointer (some ⟨b, 0, none⟩), .int .i64 line, .int .i64 acks] w (GaveP w B b room v (chg l line (grantF acks))) := by
 have hmf : ∀ (fn : Fn) (first cap : Array Value) (w : World), (Instr.makeFunc fn first cap).run Tryz.prog w = .ok (.func fn first cap) w := fun _ _ _ _ => rfl
 have hbx := balloc w (.cells #[.int .i64 acks] 3)
 have HC := Lib.hid (changeG (h.below hbx) line hl w.heap.size acks (by simp) (by simp))
 have HB := Lib.hid hbx
 clear h hbx
 go_enter Tryz.func143, Tryz.ntmps143
 go_wp2_with fail
 refine HC.out.mono ?_
 rintro e w1 ⟨rfl, R⟩
 have R := Lib.hid (R.after HB.out)
 go_wp2
 go_ret
 exact ⟨rfl, R.out⟩
set_option maxRecDepth 100000 in

theorem data_any {w : World} {B b : Nat} {room : Int} {l : List Ms} {v : Value} (h : BgP w B b room l v) (line acks own : Int) (d : Wd) (hl : l.length ≤ 5000) :
  Calls Tryz.prog 142 #[.pointer (some ⟨b, 0, none⟩), .int .i64 line, .int .i64 acks, .int .i64 own, .agg (dcells d)] w (GaveP w B b room v (chg l line (dataF acks own d))) := by
 have hmf : ∀ (fn : Fn) (first cap : Array Value) (w : World), (Instr.makeFunc fn first cap).run Tryz.prog w = .ok (.func fn first cap) w := fun _ _ _ _ => rfl
 have hb1 := balloc2 w (.cells #[.int .i64 acks] 3) (.cells #[.int .i64 own] 3)
 have hbx := bstep hb1 (balloc _ (.cells (dcells d) 36))
 have hk : (((w.alloc (.cells #[.int .i64 acks] 3)).alloc (.cells #[.int .i64 own] 3)).alloc (.cells (dcells d) 36)).heap[w.heap.size + 1 + 1]? = some (.cells (dcells d) 36 (0, 0)) := by
  have := heap_alloc_new ((w.alloc (.cells #[.int .i64 acks] 3)).alloc (.cells #[.int .i64 own] 3)) (.cells (dcells d) 36)
  rwa [show ((w.alloc (.cells #[.int .i64 acks] 3)).alloc (.cells #[.int .i64 own] 3)).heap.size = w.heap.size + 1 + 1 by simp] at this
 have hk0 := Lib.cell?_alloc_some (.cells (dcells d) 36) (Lib.cell?_alloc_some (.cells #[.int .i64 own] 3) (World.cell?_alloc_mark w #[.int .i64 acks] 3 (0, 0) 0))
 have hk1 : (((w.alloc (.cells #[.int .i64 acks] 3)).alloc (.cells #[.int .i64 own] 3)).alloc (.cells (dcells d) 36)).cell? ⟨w.heap.size + 1, 0, none⟩ = some (.int .i64 own) := Lib.cell?_alloc_some _ (by
  have := World.cell?_alloc_mark (w.alloc (.cells #[.int .i64 acks] 3)) #[.int .i64 own] 3 (0, 0) 0
  rwa [show (w.alloc (.cells #[.int .i64 acks] 3)).heap.size = w.heap.size + 1 by simp] at this)
 have HC := Lib.hid (changeD (h.below hbx) line hl w.heap.size (w.heap.size + 1) (w.heap.size + 1 + 1) acks own d hk0 hk1 hk (by simp; omega) (by simp) (h.own_lt (by omega)) (h.own_lt (by omega)) (h.own_lt (by omega)))
 have HB := Lib.hid hbx
 clear h hbx hb1 hk hk0 hk1
 go_enter Tryz.func142, Tryz.ntmps142
 go_wp2_with fail
 refine HC.out.mono ?_
 rintro e w1 ⟨rfl, R⟩
 have R := Lib.hid (R.after HB.out)
 go_wp2
 go_ret
 exact ⟨rfl, R.out⟩

end Go.Proofs.YtlfhkjjjocmpbaaGreatDoor.Mh

namespace Go.Proofs.YtlfhkjjjocmpbaaGreatDoor.Mh
open Go Go.RowKit

theorem gave_store_row {T e : TypeId} {w w1 : World} {B b : Nat} {room : Int} {l : List Ms} {g cap : Nat} (h : Bg T e 15 mc w B b room l (.slice (some ⟨g, 0, none⟩) l.length cap)) (hb : Below w.heap.size w w1) {i : Nat} {x : Ms} (hx : l[i]? = some x) (y : Ms) (j : Nat) (vs : List Value) (hj : j + vs.length ≤ 15)
  (hin : ∀ m, m < vs.length → (mc y)[j + m]? = vs[m]?) (hout : ∀ m, m < 15 → m < j ∨ j + vs.length ≤ m → (mc y)[m]? = (mc x)[m]?) (k : Nat) (hk : w.heap.size ≤ k) (cs : Array Value) : PutGave T e 15 mc w B b room (l.set i y) (.slice (some ⟨g, 0, none⟩) l.length cap) ((w1.setCells g (i * 15 + j) vs).setRow k cs) := by
 have hs := (h.below hb).store hx y j vs hj hin hout
 have ht := (Turn.of_below hb).trans (turn_setCells (b := b) (g := g) (n := l.length) (cap := cap) (i * 15 + j) vs w1) (Fresh.refl _ _)
 have hbl := h.lt
 have hgl := (h.row.lt g rfl).2
 refine ⟨_, hs.keep (setRow_other _ k b cs (by omega)) (fun q hq => setRow_other _ k q cs (by simp only [Value.ownBlock, Option.some.injEq] at hq; omega)), ⟨ht.os, ht.tape, ht.output, by have := ht.size; simpa using this, fun q hq h1 h2 => (setRow_other _ k q cs (by omega)).trans (ht.other q hq h1 h2)⟩, Fresh.refl _ _⟩

theorem At1.cellsF {w : World} {g i : Nat} {ln kd nd gt ow : Int} {wd : Wd} {gr os : Bool} (h : At1 w g i ⟨ln, kd, nd, gt, ow, wd, gr, os⟩) : w.cell? ⟨g, i * 15, none⟩ = some (.int .i64 ln) ∧ w.cell? ⟨g, i * 15 + 1, none⟩ = some (.int .i64 kd) ∧ w.cell? ⟨g, i * 15 + 2, none⟩ = some (.int .i64 nd) ∧ w.cell? ⟨g, i * 15 + 3, none⟩ = some (.int .i64 gt) ∧ w.cell? ⟨g, i * 15 + 4, none⟩ = some (.int .i64 ow) ∧ w.cell? ⟨g, i * 15 + 5, none⟩ = some (.int .i64 wd.w0) ∧ w.cell? ⟨g, i * 15 + 6, none⟩ = some (.int .i64 wd.w1) ∧ w.cell? ⟨g, i * 15 + 7, none⟩ = some (.int .i64 wd.w2) ∧ w.cell? ⟨g, i * 15 + 8, none⟩ = some (.int .i64 wd.w3) ∧ w.cell? ⟨g, i * 15 + 9, none⟩ = some (.int .i64 wd.w4) ∧ w.cell? ⟨g, i * 15 + 10, none⟩ = some (.int .i64 wd.w5) ∧ w.cell? ⟨g, i * 15 + 11, none⟩ = some (.int .i64 wd.w6) ∧ w.cell? ⟨g, i * 15 + 12, none⟩ = some (.int .i64 wd.w7) ∧ w.cell? ⟨g, i * 15 + 13, none⟩ = some (.bool gr) ∧ w.cell? ⟨g, i * 15 + 14, none⟩ = some (.bool os) := h.cells

def GaveO (w : World) (B b : Nat) (room : Int) (v : Value) (r : (Ms × Bool) × List Ms) (e : Ending) (w' : World) : Prop :=
 e = .returned (.tuple #[.agg (mcells r.1.1), .bool r.1.2]) ∧ PutGave 151 117 15 mc w B b room r.2 v w'
theorem ret_of {x : Ms} {q : Bool} {P : World → Prop} {w : World} {B b : Nat} {room : Int} {v : Value} {r : (Ms × Bool) × List Ms} (e1 : r.1 = (x, q)) (h : ∀ w', P w' → PutGave 151 117 15 mc w B b room r.2 v w') : ∀ e w', RetM x q P e w' → GaveO w B b room v r e w' := fun e w' ⟨h1, h2⟩ => ⟨by rw [h1, e1], h w' h2⟩

set_option maxHeartbeats 2000000 in
theorem owe_none {w : World} {B b : Nat} {room : Int} {l : List Ms} {v : Value} (h : BgP w B b room l v) (line : Int) (hl : l.length ≤ 5000) (hp : fnd l line = none) :
  Calls Tryz.prog 156 #[.pointer (some ⟨b, 0, none⟩), .int .i64 line] w (RetM m0 false (Below w.heap.size w)) := by
 have HP := Lib.hid (fun (o : Obj) => firstL_no (h.below (balloc2 w o (.cells #[.int .i64 line] 3))) ⟨w.heap.size + 1, 0, none⟩ line hl (line_at w o line) (by simp) hp)
 clear h hp
 go_enter Tryz.func156, Tryz.ntmps156
 go_wp2_with fail
 refine (ofLine_any line _).mono ?_
 rintro e w1 ⟨rfl, rfl⟩
 go_wp2_with fail
 refine (HP.out _).mono ?_
 rintro e w1 ⟨rfl, hb1⟩
 have hb2 := bstep (balloc _ _) hb1
 clear hb1
 go_wp2_with ((with_reducible refine wpList_store_row (o := ⟨none, _, _, _, _, _⟩) rfl 117 (.tmp 4) (.tmp 27) rfl w.heap.size (mcells m0) ?sx ?sy 117 ?old ?sg ?si ?so ?s1 ?_); (case sx => rfl); (case sy => rfl); (case old => exact mcells m0); (case sg => exact box_at hb2); (case si => kernel_rfl); (case so => rfl); (case s1 => kernel_rfl))
 exact owe_ret rfl rfl rfl (setRow_heap _ _ _ _ _ _ (box_at hb2)) (below_setRow (bbox hb2) (Nat.le_refl _) _)

set_option maxHeartbeats 2000000 in
theorem owe_no {w : World} {B b : Nat} {room : Int} {l : List Ms} {g cap : Nat} (h : BgP w B b room l (.slice (some ⟨g, 0, none⟩) l.length cap)) (line : Int) (hl : l.length ≤ 5000) {i : Nat} {x : Ms} (hp : fnd l line = some i) (hx : l[i]? = some x) (ht : (x.os || !came x) = true) :
  Calls Tryz.prog 156 #[.pointer (some ⟨b, 0, none⟩), .int .i64 line] w (RetM m0 false (Below w.heap.size w)) := by
 have hi := (List.getElem?_eq_some_iff.1 hx).1
 have HP := Lib.hid (fun (o : Obj) => firstL_yes (h.below (balloc2 w o (.cells #[.int .i64 line] 3))) ⟨w.heap.size + 1, 0, none⟩ line hl (line_at w o line) (by simp) hp hi)
 have HA := Lib.hid (fun w1 (hb : Below w.heap.size w w1) => (h.below hb).at1 hx)
 have hcs : x.os = true ∨ x.os = false ∧ came x = false := by
  rcases Bool.eq_false_or_eq_true x.os with e | e
  ·exact .inl e
  ·exact .inr ⟨e, by simpa [e] using ht⟩
 clear h hp hx ht
 rcases hcs with hos | ⟨hos, hcm⟩
 ·have HO := Lib.hid hos
  clear hos
  go_enter Tryz.func156, Tryz.ntmps156
  go_wp2_with fail
  refine (ofLine_any line _).mono ?_
  rintro e w1 ⟨rfl, rfl⟩
  go_wp2_with fail
  refine (HP.out _).mono ?_
  rintro e w1 ⟨rfl, hb1⟩
  have hb2 := bstep (balloc _ _) hb1
  clear hb1
  obtain ⟨-, -, -, -, -, -, -, -, -, -, -, -, -, -, q14⟩ := (HA.out _ (bbox hb2)).cells
  rw [HO.out] at q14
  go_wp2_with ((with_reducible refine wpList_store_row (o := ⟨none, _, _, _, _, _⟩) rfl 117 (.tmp 4) (.tmp 27) rfl w.heap.size (mcells m0) ?sx ?sy 117 ?old ?sg ?si ?so ?s1 ?_); (case sx => rfl); (case sy => rfl); (case old => exact mcells m0); (case sg => exact box_at hb2); (case si => kernel_rfl); (case so => rfl); (case s1 => kernel_rfl))
  exact owe_ret rfl rfl rfl (setRow_heap _ _ _ _ _ _ (box_at hb2)) (below_setRow (bbox hb2) (Nat.le_refl _) _)
 ·obtain ⟨ln, kd, nd, gt, ow, wd, gr, os⟩ := x
  obtain rfl : os = false := hos
  have HC := Lib.hid hcm
  clear hcm
  go_enter Tryz.func156, Tryz.ntmps156
  go_wp2_with fail
  refine (ofLine_any line _).mono ?_
  rintro e w1 ⟨rfl, rfl⟩
  go_wp2_with fail
  refine (HP.out _).mono ?_
  rintro e w1 ⟨rfl, hb1⟩
  have hb2 := bstep (balloc _ _) hb1
  clear hb1
  obtain ⟨q0, q1, q2, q3, q4, q5, q6, q7, q8, q9, q10, q11, q12, q13, q14⟩ := (HA.out _ (bbox hb2)).cellsF
  go_wp2_with fail
  refine (came_any ⟨ln, kd, nd, gt, ow, wd, gr, false⟩ _).mono ?_
  rintro e w3 ⟨rfl, hb3⟩
  rw [HC.out]
  have hb4 := bstep hb2 hb3
  clear hb3 hb2 q0 q1 q2 q3 q4 q5 q6 q7 q8 q9 q10 q11 q12 q13 q14
  go_wp2_with ((with_reducible refine wpList_store_row (o := ⟨none, _, _, _, _, _⟩) rfl 117 (.tmp 4) (.tmp 27) rfl w.heap.size (mcells m0) ?sx ?sy 117 ?old ?sg ?si ?so ?s1 ?_); (case sx => rfl); (case sy => rfl); (case old => exact mcells m0); (case sg => exact box_at hb4); (case si => kernel_rfl); (case so => rfl); (case s1 => kernel_rfl))
  exact owe_ret rfl rfl rfl (setRow_heap _ _ _ _ _ _ (box_at hb4)) (below_setRow (bbox hb4) (Nat.le_refl _) _)

set_option maxHeartbeats 2000000 in
theorem owe_yes {w : World} {B b : Nat} {room : Int} {l : List Ms} {g cap : Nat} (h : BgP w B b room l (.slice (some ⟨g, 0, none⟩) l.length cap)) (line : Int) (hl : l.length ≤ 5000) {i : Nat} {x : Ms} (hp : fnd l line = some i) (hx : l[i]? = some x) (ht : (x.os || !came x) = false) :
  Calls Tryz.prog 156 #[.pointer (some ⟨b, 0, none⟩), .int .i64 line] w (RetM x true (PutGave 151 117 15 mc w B b room (l.set i (owesY x)) (.slice (some ⟨g, 0, none⟩) l.length cap))) := by
 have hi := (List.getElem?_eq_some_iff.1 hx).1
 have HP := Lib.hid (fun (o : Obj) => firstL_yes (h.below (balloc2 w o (.cells #[.int .i64 line] 3))) ⟨w.heap.size + 1, 0, none⟩ line hl (line_at w o line) (by simp) hp hi)
 have HA := Lib.hid (fun w1 (hb : Below w.heap.size w w1) => ((h.below hb).at1 hx))
 have hos : x.os = false := by simp at ht; exact ht.1
 have hcm : came x = true := by simp at ht; exact ht.2
 have hgl := (h.row.lt g rfl).2
 have HE : Hid (∀ w1 (cs : Array Value), Below w.heap.size w w1 → PutGave 151 117 15 mc w B b room (l.set i (owesY x)) (.slice (some ⟨g, 0, none⟩) l.length cap) ((w1.setCell ⟨g, i * 15 + 14, none⟩ (.bool true)).setRow w.heap.size cs)) := Lib.hid (fun w1 cs hb =>
  gave_store_row h hb hx (owesY x) 14 [.bool true] (by simp) (fun m hm => by simp at hm; subst hm; rfl) (fun m hm hm2 => by
   simp at hm2
   rcases (show m = 0 ∨ m = 1 ∨ m = 2 ∨ m = 3 ∨ m = 4 ∨ m = 5 ∨ m = 6 ∨ m = 7 ∨ m = 8 ∨ m = 9 ∨ m = 10 ∨ m = 11 ∨ m = 12 ∨ m = 13 by omega) with rfl | rfl | rfl | rfl | rfl | rfl | rfl | rfl | rfl | rfl | rfl | rfl | rfl | rfl
   all_goals rfl) w.heap.size (Nat.le_refl _) cs)
 have HC := Lib.hid hcm
 clear h hp hx ht hcm
 obtain ⟨ln, kd, nd, gt, ow, wd, gr, os⟩ := x
 obtain rfl : os = false := hos
 go_enter Tryz.func156, Tryz.ntmps156
 go_wp2_with fail
 refine (ofLine_any line _).mono ?_
 rintro e w1 ⟨rfl, rfl⟩
 go_wp2_with fail
 refine (HP.out _).mono ?_
 rintro e w1 ⟨rfl, hb1⟩
 have hb2 := bstep (balloc _ _) hb1
 clear hb1
 obtain ⟨q0, q1, q2, q3, q4, q5, q6, q7, q8, q9, q10, q11, q12, q13, q14⟩ := (HA.out _ (bbox hb2)).cellsF
 go_wp2_with fail
 refine (came_any ⟨ln, kd, nd, gt, ow, wd, gr, false⟩ _).mono ?_
 rintro e w3 ⟨rfl, hb3⟩
 rw [HC.out]
 have hb4 := bstep hb2 hb3
 have hz4 := zbox hb4
 clear hb3 hb2 q0 q1 q2 q3 q4 q5 q6 q7 q8 q9 q10 q11 q12 q13 q14
 have HR := Lib.hid (HA.out _ (bbox hb4)).row
 have HB := Lib.hid (bstep (bbox hb4) (below_setRow (balloc w3 (.cells #[.int .i64 0, .int .i64 0, .int .i64 0, .int .i64 0, .int .i64 0, .int .i64 0, .int .i64 0, .int .i64 0, .int .i64 0, .int .i64 0, .int .i64 0, .int .i64 0, .int .i64 0, .bool false, .bool false] 117)) (Nat.le_refl _) (mcells ⟨ln, kd, nd, gt, ow, wd, gr, false⟩)))
 have HN := HA.out _ HB.out
 have c14 := HN.row 14 _ rfl
 have f14 := HN.fz (i * 15 + 14)
 have hbx := (Below.heap_alloc w3 (.cells #[.int .i64 0, .int .i64 0, .int .i64 0, .int .i64 0, .int .i64 0, .int .i64 0, .int .i64 0, .int .i64 0, .int .i64 0, .int .i64 0, .int .i64 0, .int .i64 0, .int .i64 0, .bool false, .bool false] 117) w.heap.size hz4).trans (box_at hb4)
 have hbx2 := (setRow_other (w3.alloc (.cells #[.int .i64 0, .int .i64 0, .int .i64 0, .int .i64 0, .int .i64 0, .int .i64 0, .int .i64 0, .int .i64 0, .int .i64 0, .int .i64 0, .int .i64 0, .int .i64 0, .int .i64 0, .bool false, .bool false] 117)) w3.heap.size w.heap.size (mcells ⟨ln, kd, nd, gt, ow, wd, gr, false⟩) (by omega)).trans hbx
 have hbx3 := (heap_setCell_other _ ⟨g, i * 15 + 14, none⟩ w.heap.size (.bool true) (by simp only; omega)).trans hbx2
 have hg3 : w3.heap.size ≠ g := by omega
 have hb7 := (heap_setCell_other _ ⟨g, i * 15 + 14, none⟩ w3.heap.size (.bool true) (by simp only; omega)).trans (setRow_heap _ _ _ (mcells ⟨ln, kd, nd, gt, ow, wd, gr, false⟩) _ _ (heap_alloc_new w3 (.cells #[.int .i64 0, .int .i64 0, .int .i64 0, .int .i64 0, .int .i64 0, .int .i64 0, .int .i64 0, .int .i64 0, .int .i64 0, .int .i64 0, .int .i64 0, .int .i64 0, .int .i64 0, .bool false, .bool false] 117)))
 have H7 := Lib.hid hb7
 have H3 := Lib.hid hbx3
 clear HN hbx hbx2 hbx3 hb7
 go_wp2_with (first
  | ((with_reducible refine wpList_load_mid (op := ⟨some 30, _, _, _, _, _⟩) rfl 117 (.tmp 29) rfl g (i * 15) ?lx (mc ⟨ln, kd, nd, gt, ow, wd, gr, false⟩) _ ?lc Tryz.underlying117 ?ld ?li ?_); (case lx => rfl); (case lc => exact HR.out); (case ld => rfl); (case li => kernel_rfl))
  | ((with_reducible refine wpList_store_row (o := ⟨none, _, _, _, _, _⟩) rfl 117 (.tmp 7) (.tmp 30) rfl w3.heap.size (mcells ⟨ln, kd, nd, gt, ow, wd, gr, false⟩) ?sx ?sy 117 ?old ?sg ?si ?so ?s1 ?_); (case sx => rfl); (case sy => rfl); (case old => exact mcells m0); (case sg => exact heap_alloc_new w3 _); (case si => kernel_rfl); (case so => rfl); (case s1 => kernel_rfl))
  | ((with_reducible refine wpList_load_row (o := ⟨some 34, _, _, _, _, _⟩) rfl 117 (.tmp 7) rfl w3.heap.size ?lx 117 (mcells ⟨ln, kd, nd, gt, ow, wd, gr, false⟩) (0, 0) _ ?lg Tryz.underlying117 ?ld ?li ?_); (case lx => rfl); (case lg => exact H7.out); (case ld => rfl); (case li => kernel_rfl))
  | ((with_reducible refine wpList_store_row (o := ⟨none, _, _, _, _, _⟩) rfl 117 (.tmp 4) (.tmp 34) rfl w.heap.size (mcells ⟨ln, kd, nd, gt, ow, wd, gr, false⟩) ?sx ?sy 117 ?old ?sg ?si ?so ?s1 ?_); (case sx => rfl); (case sy => rfl); (case old => exact mcells m0); (case sg => exact H3.out); (case si => kernel_rfl); (case so => rfl); (case s1 => kernel_rfl)))
 exact owe_ret rfl rfl rfl (setRow_heap _ _ _ _ _ _ H3.out) (HE.out _ _ HB.out)

theorem owe_any {w : World} {B b : Nat} {room : Int} {l : List Ms} {v : Value} (h : BgP w B b room l v) (line : Int) (hl : l.length ≤ 5000) :
  Calls Tryz.prog 156 #[.pointer (some ⟨b, 0, none⟩), .int .i64 line] w (GaveO w B b room v (oweP l line)) := by
 rcases hp : fnd l line with _ | i
 ·rw [oweP_none hp]
  exact (owe_none h line hl hp).mono (ret_of rfl fun _ hb => gave_same h hb)
 ·obtain ⟨x, hx, _, hi⟩ := fnd_some hp
  obtain ⟨g, cap, rfl, _⟩ := h.one hx
  rcases Bool.eq_false_or_eq_true (x.os || !came x) with ht | ht
  ·rw [oweP_no hp hx ht]
   exact (owe_no h line hl hp hx ht).mono (ret_of rfl fun _ hb => gave_same h hb)
  ·rw [oweP_yes hp hx ht]
   exact (owe_yes h line hl hp hx ht).mono (ret_of rfl fun _ hb => hb)

end Go.Proofs.YtlfhkjjjocmpbaaGreatDoor.Mh
