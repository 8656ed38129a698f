import Derived.Test.YtlfhkjjjocmpbaaGreatDoorQGcA
import Derived.Test.YtlfhkjjjocmpbaaGreatDoorQLayAr
import Derived.Test.YtlfhkjjjocmpbaaGreatDoorQGaH
import Derived.Test.YtlfhkjjjocmpbaaGreatDoorQLayMh
import Derived.Test.YtlfhkjjjocmpbaaGreatDoorQLayWb
import Derived.Test.YtlfhkjjjocmpbaaGreatDoorLayBase
import Derived.Test.YtlfhkjjjocmpbaaGreatDoorMsF
import Derived.Test.YtlfhkjjjocmpbaaGreatDoorSx

namespace Go.Proofs.YtlfhkjjjocmpbaaGreatDoor.Cc
open Go Go.RowKit

abbrev OwnP := @Own tyP
variable {w0 w w' : World} {bx : Bx} {K : Kb} {c : Cfg} {core n : Int} {s : St}
abbrev ptr (k : Nat) : Value := .pointer (some ⟨k, 0, none⟩)

theorem Own.find {ty : Tys} (h : Own ty w0 K c core n s bx w) (line : Int) :
  Calls Tryz.prog 41 #[ptr K.a, .int .i64 line] w fun e w' => ∃ i, e = .returned (.tuple #[.agg (Ar.ycells (look c s line)), .int .i64 i, .bool (there c s line)]) ∧ Below w.heap.size w w' := by
 obtain ⟨g, ha, -⟩ := h.ar
 rcases hp : Ar.plc c s.A line with _ | k
 ·refine (Ar.find_no ha h.tbs line hp).mono fun e w' ⟨he, hb⟩ => ⟨0, ?_, hb⟩
  unfold look there
  rw [Ar.fnd_none hp]
  exact he
 ·obtain ⟨_, hk, x, hx, _⟩ := ha.sz.plc_some hp
  refine (Ar.find_yes ha h.tbs line k x hp hx).mono fun e w' ⟨he, hb⟩ => ⟨k, ?_, hb⟩
  unfold look there
  rw [Ar.fnd_some hp hx]
  exact he
theorem Own.at {ty : Tys} (h : Own ty w0 K c core n s bx w) (set way : Int) :
  Calls Tryz.prog 51 #[ptr K.a, .int .i64 set, .int .i64 way] w fun e w' => e = .returned (.tuple #[.agg (Ar.ycells (atP c s set way).1), .bool (atP c s set way).2]) ∧ Below w.heap.size w w' := by
 obtain ⟨g, ha, -⟩ := h.ar
 unfold atP
 by_cases hq : 0 ≤ set ∧ set < c.se ∧ 0 ≤ way ∧ way < c.wa
 ·rw [if_pos hq]
  obtain ⟨q1, q2, q3, q4⟩ := hq
  obtain ⟨S, rfl⟩ : ∃ S : Nat, set = S := ⟨set.toNat, by omega⟩
  obtain ⟨W, rfl⟩ : ∃ W : Nat, way = W := ⟨way.toNat, by omega⟩
  have hlt : S * c.wa.toNat + W < s.A.length := by
   rw [ha.sz.len]
   have := Nat.mul_le_mul_right c.wa.toNat (show S + 1 ≤ c.se.toNat by omega)
   rw [Nat.add_mul, Nat.one_mul] at this
   omega
  refine (Ar.at_yes ha S W (s.A.getD (S * c.wa.toNat + W) Ar.y0) q2 q4 ?_).mono fun e w' ⟨he, hb⟩ => ⟨he, hb⟩
  rw [List.getD_eq_getElem?_getD, List.getElem?_eq_getElem hlt]
  rfl
 ·rw [if_neg hq]
  exact (Ar.at_no ha set way (by omega)).mono fun e w' ⟨he, hb⟩ => ⟨he, hb⟩
theorem Own.free {ty : Tys} (h : Own ty w0 K c core n s bx w) (line : Int) :
  Calls Tryz.prog 60 #[ptr K.a, .int .i64 line] w fun e w' => e = .returned (.int .i64 (Ar.oi (Ar.fre c s.A line))) ∧ Below w.heap.size w w' := by
 obtain ⟨g, ha, -⟩ := h.ar
 rcases Bool.eq_false_or_eq_true (lnOk c line) with hl | hl
 ·exact Ar.free_yes ha h.tbs line hl
 ·have e : Ar.fre c s.A line = none := by unfold Ar.fre; rw [if_neg (by simp [hl])]
  rw [e]
  exact Ar.free_no ha h.tbs line hl
theorem Own.lay {ty : Tys} (h : Own ty w0 K c core n s bx w) (line way : Int) :
  Calls Tryz.prog 59 #[ptr K.a, .int .i64 line, .int .i64 way] w fun e w' => (∃ i, e = .returned (.int .i64 i)) ∧ Own ty w0 K c core n { s with A := (Ar.layP c s.A line way).2 } bx w' := by
 obtain ⟨g, ha, hf⟩ := h.ar
 exact (Ar.lay_any ha h.tbs line way).mono fun e w' hg => ⟨⟨_, hg.res⟩, hf e w' _ hg (h.nums.2.2.1.layP ha.sz line way).1⟩
theorem Own.set {ty : Tys} (h : Own ty w0 K c core n s bx w) (line st : Int) (d : Wd) :
  Calls Tryz.prog 50 #[ptr K.a, .int .i64 line, .int .i64 st, .agg (dcells d)] w fun e w' => (∃ i, e = .returned (.int .i64 i)) ∧ Own ty w0 K c core n (setA c s line st d) bx w' := by
 obtain ⟨g, ha, hf⟩ := h.ar
 exact (Ar.set_any ha h.tbs line st d).mono fun e w' hg => ⟨⟨_, hg.res⟩, hf e w' _ hg (h.nums.2.2.1.setP ha.sz line st d).1⟩
theorem Own.lock {ty : Tys} (h : Own ty w0 K c core n s bx w) (line : Int) (q : Bool) :
  Calls Tryz.prog 61 #[ptr K.a, .int .i64 line, .bool q] w fun e w' => (∃ i, e = .returned (.int .i64 i)) ∧ Own ty w0 K c core n { s with A := (Ar.lockP c s.A line q).2 } bx w' := by
 obtain ⟨g, ha, hf⟩ := h.ar
 exact (Ar.lock_any ha h.tbs line q).mono fun e w' hg => ⟨⟨_, hg.res⟩, hf e w' _ hg (h.nums.2.2.1.lockP ha.sz line q).1⟩

theorem Own.open (h : OwnP w0 K c core n s bx w) (line kind : Int) :
  Calls Tryz.prog 58 #[ptr K.f, .int .i64 line, .int .i64 kind] w fun e w' => (∃ i, e = .returned (.int .i64 i)) ∧ OwnP w0 K c core (n + 1) { s with F := (Mh.openP c.ms s.F line kind).2 } bx w' := by
 obtain ⟨v, hv, hf⟩ := h.fl
 have g := h.nums
 exact (Mh.open_any hv h.below.size line kind g.2.2.2.2.1.r2 g.2.2.2.2.1.len).mono fun e w' hg => ⟨⟨_, hg.res⟩, hf w' _ _ hg.put (g.2.2.2.2.1.open g.2.2.2.2.2.1 line kind) (by omega)⟩
theorem fshort {ty : Tys} (h : Own ty w0 K c core n s bx w) : s.F.length ≤ 8 := by have g := h.nums.2.2.2.2.1; have := g.len; have := g.r2; omega
theorem Own.data (h : OwnP w0 K c core n s bx w) (line acks own : Int) (d : Wd) :
  Calls Tryz.prog 142 #[ptr K.f, .int .i64 line, .int .i64 acks, .int .i64 own, .agg (dcells d)] w fun e w' => e = .returned (.int .i64 (Mh.chg s.F line (Mh.dataF acks own d)).1) ∧ OwnP w0 K c core (n + 1) { s with F := (Mh.chg s.F line (Mh.dataF acks own d)).2 } bx w' := by
 obtain ⟨v, hv, hf⟩ := h.fl
 have := fshort h
 exact (Mh.data_any hv line acks own d (by omega)).mono fun e w' hg => ⟨hg.res, hf w' _ _ hg.put (h.nums.2.2.2.2.1.data line acks own d) (by omega)⟩
theorem Own.grant (h : OwnP w0 K c core n s bx w) (line acks : Int) :
  Calls Tryz.prog 143 #[ptr K.f, .int .i64 line, .int .i64 acks] w fun e w' => e = .returned (.int .i64 (Mh.chg s.F line (Mh.grantF acks)).1) ∧ OwnP w0 K c core (n + 1) { s with F := (Mh.chg s.F line (Mh.grantF acks)).2 } bx w' := by
 obtain ⟨v, hv, hf⟩ := h.fl
 have := fshort h
 exact (Mh.grant_any hv line acks (by omega)).mono fun e w' hg => ⟨hg.res, hf w' _ _ hg.put (h.nums.2.2.2.2.1.grant line acks) (by omega)⟩
theorem Own.ack (h : OwnP w0 K c core n s bx w) (hn : n ≤ 900) (line : Int) :
  Calls Tryz.prog 144 #[ptr K.f, .int .i64 line] w fun e w' => e = .returned (.int .i64 (Mh.chg s.F line Mh.ackF).1) ∧ OwnP w0 K c core (n + 1) { s with F := (Mh.chg s.F line Mh.ackF).2 } bx w' := by
 obtain ⟨v, hv, hf⟩ := h.fl
 have := fshort h
 have g := h.nums.2.2.2.2.1
 exact (Mh.ack_any hv line (by omega) (fun x hx => ⟨(g.each x hx).g0, by have := (g.each x hx).gk; omega⟩)).mono fun e w' hg => ⟨hg.res, hf w' _ _ hg.put (g.ack line) (by omega)⟩
theorem Own.owe (h : OwnP w0 K c core n s bx w) (line : Int) :
  Calls Tryz.prog 156 #[ptr K.f, .int .i64 line] w fun e w' => e = .returned (.tuple #[.agg (Mh.mcells (Mh.oweP s.F line).1.1), .bool (Mh.oweP s.F line).1.2]) ∧ OwnP w0 K c core (n + 1) { s with F := (Mh.oweP s.F line).2 } bx w' := by
 obtain ⟨v, hv, hf⟩ := h.fl
 have := fshort h
 exact (Mh.owe_any hv line (by omega)).mono fun e w' hg => ⟨hg.1, hf w' _ _ hg.2 (h.nums.2.2.2.2.1.owe line) (by omega)⟩
theorem Own.close (h : OwnP w0 K c core n s bx w) (line : Int) :
  Calls Tryz.prog 65 #[ptr K.f, .int .i64 line] w fun e w' => (∃ i, e = .returned (.int .i64 i)) ∧ OwnP w0 K c core (n + 1) { s with F := (Mh.closeP s.F line).2 } bx w' := by
 obtain ⟨v, hv, hf⟩ := h.fl
 have := fshort h
 exact (Mh.close_any hv line (by omega)).mono fun e w' hg => ⟨⟨_, hg.res⟩, hf w' _ _ hg.put (h.nums.2.2.2.2.1.close line) (by omega)⟩
theorem Own.mget (h : OwnP w0 K c core n s bx w) (line : Int) :
  Calls Tryz.prog 147 #[ptr K.f, .int .i64 line] w fun e w' => e = .returned (.tuple #[.agg (Mh.mcells (Mh.getP s.F line).1), .bool (Mh.getP s.F line).2]) ∧ Below w.heap.size w w' := by
 obtain ⟨v, hv, hf⟩ := h.fl
 have := fshort h
 exact Mh.get_any hv line (by omega)
theorem Own.owing (h : OwnP w0 K c core n s bx w) :
  Calls Tryz.prog 64 #[ptr K.f] w fun e w' => e = .returned (.tuple #[.int .i64 (Mh.owingP s.F).1, .bool (Mh.owingP s.F).2]) ∧ Below w.heap.size w w' := by
 obtain ⟨v, hv, hf⟩ := h.fl
 have := fshort h
 exact Mh.owing_any hv (by omega)
theorem Own.mlist (h : OwnP w0 K c core n s bx w) :
  Calls Tryz.prog 67 #[ptr K.f] w fun e w' => ∃ p cap, e = .returned (.slice p s.F.length cap) ∧ Mh.MsIn w' p s.F ∧ Below w.heap.size w w' := by
 obtain ⟨v, hv, hf⟩ := h.fl
 have := fshort h
 refine (Mh.list_any hv (by omega)).mono fun e' w' ⟨v', he, ho, hb⟩ => ?_
 obtain ⟨p, cap, e, hin⟩ := Mh.own_ins ho
 exact ⟨p, cap, by rw [he, e], hin, hb⟩

theorem Own.put (h : OwnP w0 K c core n s bx w) (line : Int) (d : Wd) :
  Calls Tryz.prog 53 #[ptr K.b, .int .i64 line, .agg (dcells d)] w fun e w' => (∃ i, e = .returned (.int .i64 i)) ∧ OwnP w0 K c core n { s with B := (Wb.putP c.wb s.B line d).2 } bx w' := by
 obtain ⟨v, hv, hf⟩ := h.bf
 have g := h.nums.2.2.2.2.2.2
 exact (Wb.put_any hv g h.below.size line d).mono fun e w' hg => ⟨⟨_, hg.res⟩, hf w' _ hg.put (g.put line d)⟩
theorem Own.share (h : OwnP w0 K c core n s bx w) (line : Int) :
  Calls Tryz.prog 137 #[ptr K.b, .int .i64 line] w fun e w' => e = .returned (.tuple #[.agg (dcells (Wb.ansP id s.B line).1.1), .int .i64 (Wb.ansP id s.B line).1.2]) ∧ OwnP w0 K c core n { s with B := (Wb.ansP id s.B line).2 } bx w' := by
 obtain ⟨v, hv, hf⟩ := h.bf
 have g := h.nums.2.2.2.2.2.2
 exact (Wb.share_any hv line g.short).mono fun e w' hg => ⟨hg.1, hf w' _ hg.2 (g.ans id (fun _ => rfl) line)⟩
theorem Own.give (h : OwnP w0 K c core n s bx w) (line : Int) :
  Calls Tryz.prog 138 #[ptr K.b, .int .i64 line] w fun e w' => e = .returned (.tuple #[.agg (dcells (Wb.ansP Wb.gone s.B line).1.1), .int .i64 (Wb.ansP Wb.gone s.B line).1.2]) ∧ OwnP w0 K c core n { s with B := (Wb.ansP Wb.gone s.B line).2 } bx w' := by
 obtain ⟨v, hv, hf⟩ := h.bf
 have g := h.nums.2.2.2.2.2.2
 exact (Wb.give_any hv line g.short).mono fun e w' hg => ⟨hg.1, hf w' _ hg.2 (g.ans Wb.gone (fun _ => rfl) line)⟩
theorem Own.dropL (h : OwnP w0 K c core n s bx w) (line : Int) :
  Calls Tryz.prog 145 #[ptr K.b, .int .i64 line] w fun e w' => e = .returned (.int .i64 (Wb.dropP s.B line).1) ∧ OwnP w0 K c core n { s with B := (Wb.dropP s.B line).2 } bx w' := by
 obtain ⟨v, hv, hf⟩ := h.bf
 have g := h.nums.2.2.2.2.2.2
 exact (Wb.drop_any hv line g.short).mono fun e w' hg => ⟨hg.res, hf w' _ hg.put (g.drop line)⟩
theorem Own.bget (h : OwnP w0 K c core n s bx w) (line : Int) :
  Calls Tryz.prog 148 #[ptr K.b, .int .i64 line] w fun e w' => e = .returned (.tuple #[.agg (Wb.mcells (Wb.getP s.B line).1), .bool (Wb.getP s.B line).2]) ∧ Below w.heap.size w w' := by
 obtain ⟨v, hv, hf⟩ := h.bf
 have := h.nums.2.2.2.2.2.2.short
 exact Wb.get_any hv line (by omega)
theorem Own.left (h : OwnP w0 K c core n s bx w) :
  Calls Tryz.prog 52 #[ptr K.b] w fun e w' => e = .returned (.int .i64 (c.wb - s.B.length)) ∧ Below w.heap.size w w' := by
 obtain ⟨v, hv, hf⟩ := h.bf
 have g := h.nums.2.2.2.2.2.2
 refine (Wb.left_any hv g.r1 g.r2 g.short).mono fun e w' ⟨he, q, hq⟩ => ⟨he, ?_⟩
 subst hq
 exact ⟨rfl, rfl, rfl, Nat.le_refl _, fun _ _ => rfl⟩
theorem Own.blist (h : OwnP w0 K c core n s bx w) :
  Calls Tryz.prog 66 #[ptr K.b] w fun e w' => ∃ p cap, e = .returned (.slice p s.B.length cap) ∧ Wb.EnIn w' p s.B ∧ Below w.heap.size w w' := by
 obtain ⟨v, hv, hf⟩ := h.bf
 have := h.nums.2.2.2.2.2.2.short
 refine (Wb.list_any hv (by omega)).mono fun e' w' ⟨v', he, ho, hb⟩ => ?_
 obtain ⟨p, cap, e, hin⟩ := Wb.own_ins ho
 exact ⟨p, cap, by rw [he, e], hin, hb⟩

theorem Own.line {ty : Tys} (h : Own ty w0 K c core n s bx w) (line : Int) :
  Calls Tryz.prog 104 #[cv c, .int .i64 line] w fun e w' => e = .returned (.tuple #[.int .i64 (lnH c line), .int .i64 (lnS c line), .int .i64 (lnT c line), .int .i64 (lnE c line)]) ∧ Below w.heap.size w w' := line_any c line w h.nums.2.1 h.tbs
theorem Own.addr {ty : Tys} (h : Own ty w0 K c core n s bx w) (a : Int) :
  Calls Tryz.prog 19 #[cv c, .int .i64 a] w fun e w' => e = .returned (.tuple #[.int .i64 (adL c a), .int .i64 (adW c a), .int .i64 (adE c a)]) ∧ Below w.heap.size w w' := addr_any c a w h.nums.2.1 h.tbs
theorem Own.apply {ty : Tys} (h : Own ty w0 K c core n s bx w) (d : Wd) (x : Pg.Op) :
  Calls Tryz.prog 48 #[cv c, .agg (dcells d), Pg.ov x] w fun e w' => e = .returned (.tuple #[.agg (dcells (Me.apP c d x).1), .int .i64 (Me.apP c d x).2.1, .int .i64 (Me.apP c d x).2.2]) ∧ Below w.heap.size w w' := Me.apply_any c d x w h.nums.2.1 h.tbs
theorem Own.may {ty : Tys} (h : Own ty w0 K c core n s bx w) (m : Msg) :
  Calls Tryz.prog 56 #[cv c, mv m] w fun e w' => e = .returned (.bool (mayM c m)) ∧ Below w.heap.size w w' := may_any c m w h.nums.2.1

end Go.Proofs.YtlfhkjjjocmpbaaGreatDoor.Cc

namespace Go.Proofs.YtlfhkjjjocmpbaaGreatDoor.Cc
open Go Go.RowKit

variable {w0 w w' : World} {bx : Bx} {K : Kb} {c : Cfg} {core n : Int} {s : St}
theorem lets_any (x : Ar.Wy) (q : Bool) (w : World) :
  Calls Tryz.prog 49 #[.agg (Ar.ycells x), .bool q] w fun e w' => e = .returned (.bool (letsB x q)) ∧ Below w.heap.size w w' := by
 have hb := b_alloc w (.cells (Ar.ycells x) 66)
 cases q
 ·go_enter Tryz.func49, Tryz.ntmps49
  go_wp2
  all_goals go_ret
  all_goals exact ⟨ret_bool (by simp_all [letsB]), hb⟩
 ·go_enter Tryz.func49, Tryz.ntmps49
  go_wp2
  all_goals go_ret
  all_goals exact ⟨ret_bool (by simp_all [letsB]), hb⟩
theorem owned_any (x : Ar.Wy) (w : World) :
  Calls Tryz.prog 139 #[.agg (Ar.ycells x)] w fun e w' => e = .returned (.bool (ownsB x)) ∧ Below w.heap.size w w' := by
 have hb := b_alloc w (.cells (Ar.ycells x) 66)
 rcases Bool.eq_false_or_eq_true (x.st == 3) with h | h
 ·have HT : Hid (ownsB x = true) := Lib.hid (by simp [ownsB, h])
  go_enter Tryz.func139, Tryz.ntmps139
  go_wp2_with (go_at_call 49; refine (lets_any x true _).mono ?_; rintro e w1 ⟨rfl, hb1⟩)
  go_ret
  exact ⟨ret_bool HT.out.symm, hb⟩
 ·have HT : Hid (ownsB x = letsB x true) := Lib.hid (by simp [ownsB, h])
  go_enter Tryz.func139, Tryz.ntmps139
  go_wp2_with (go_at_call 49; refine (lets_any x true _).mono ?_; rintro e w1 ⟨rfl, hb1⟩)
  go_ret
  exact ⟨ret_bool HT.out.symm, b_step hb hb1⟩

def RetT (r : Rp) (P : World → Prop) (e : Ending) (w' : World) : Prop := e = .returned (.tuple #[mv r.1, .bool r.2.1, .int .i64 r.2.2]) ∧ P w'
theorem nothing_any (w : World) : Calls Tryz.prog 146 #[] w (RetT (m0, false, 0) (Below w.heap.size w)) := by
 go_enter Tryz.func146, Tryz.ntmps146
 go_wp2
 exact bodyPost_ret (v := .tuple #[.agg (mcells m0), .bool false, .int .i64 0]) (Ar.results_cell_three Tryz.results146 _ _ w.heap.size 38 _ (0, 0) _ rfl (heap_alloc_new w _) Tryz.underlying38 rfl (by kernel_rfl)) rfl ⟨rfl, b_alloc w _⟩
theorem noEntry_any (w : World) : Calls Tryz.prog 140 #[] w (RetT (m0, false, 7) (Below w.heap.size w)) := by
 go_enter Tryz.func140, Tryz.ntmps140
 go_wp2
 exact bodyPost_ret (v := .tuple #[.agg (mcells m0), .bool false, .int .i64 7]) (Ar.results_cell_three Tryz.results140 _ _ w.heap.size 38 _ (0, 0) _ rfl (heap_alloc_new w _) Tryz.underlying38 rfl (by kernel_rfl)) rfl ⟨rfl, b_alloc w _⟩

theorem Own.misses (h : OwnP w0 K c core n s bx w) :
  Calls Tryz.prog 28 #[ptr K.k] w fun e w' => ∃ p cap, e = .returned (.slice p s.F.length cap) ∧ Mh.MsIn w' p s.F ∧ Below w.heap.size w w' := by
 have HL := Lib.hid h.mlist
 have hk := h.kc
 clear h
 go_enter Tryz.func28, Tryz.ntmps28
 go_wp2_with (go_at_call 67; refine HL.out.mono ?_; rintro e w1 ⟨p, cap, rfl, hi, hb1⟩)
 go_ret
 exact ⟨p, cap, rfl, hi, hb1⟩
theorem Own.written (h : OwnP w0 K c core n s bx w) :
  Calls Tryz.prog 27 #[ptr K.k] w fun e w' => ∃ p cap, e = .returned (.slice p s.B.length cap) ∧ Wb.EnIn w' p s.B ∧ Below w.heap.size w w' := by
 have HL := Lib.hid h.blist
 have hk := h.kc
 clear h
 go_enter Tryz.func27, Tryz.ntmps27
 go_wp2_with (go_at_call 66; refine HL.out.mono ?_; rintro e w1 ⟨p, cap, rfl, hi, hb1⟩)
 go_ret
 exact ⟨p, cap, rfl, hi, hb1⟩
theorem Own.way (h : OwnP w0 K c core n s bx w) (set way : Int) :
  Calls Tryz.prog 21 #[ptr K.k, .int .i64 set, .int .i64 way] w fun e w' => e = .returned (.tuple #[.agg (Ar.ycells (atP c s set way).1), .bool (atP c s set way).2]) ∧ Below w.heap.size w w' := by
 have H0 := Lib.hid (h.add (.cells #[.int .i64 0, .int .i64 0, .int .i64 0, .int .i64 0, .int .i64 0, .int .i64 0, .int .i64 0, .int .i64 0, .int .i64 0, .int .i64 0, .bool false] 66))
 have HA := Lib.hid (H0.out.at set way)
 have hk := H0.out.kc
 clear h
 generalize atP c s set way = r at *
 go_enter Tryz.func21, Tryz.ntmps21
 go_wp2_with (first
  | (go_at_call 51; refine HA.out.mono ?_; rintro e w1 ⟨rfl, hb1⟩; have h4 := (H0.out.step hb1).box mz0)
  | ((with_reducible refine wpList_store_row (o := ⟨none, _, _, _, _, _⟩) rfl 66 (.tmp 6) (.tmp 15) rfl (w.heap.size) (Ar.ycells r.1) ?sx ?sy 66 ?old ?sg ?si ?so ?s1 ?_); (case sx => rfl); (case sy => rfl); (case old => exact #[.int .i64 0, .int .i64 0, .int .i64 0, .int .i64 0, .int .i64 0, .int .i64 0, .int .i64 0, .int .i64 0, .int .i64 0, .int .i64 0, .bool false]); (case sg => exact h4); (case si => kernel_rfl); (case so => rfl); (case s1 => kernel_rfl)))
 exact bodyPost_ret (v := .tuple #[.agg (Ar.ycells r.1), .bool r.2]) (Ar.results_cell_two Tryz.results21 _ _ w.heap.size 66 _ (0, 0) _ rfl (setRow_heap _ _ _ _ _ _ h4) Tryz.underlying66 rfl (by kernel_rfl)) rfl ⟨rfl, b_setRow ((b_alloc w _).trans (hb1.mono (by simp))) (Nat.le_refl _) _⟩
theorem Own.look (h : OwnP w0 K c core n s bx w) (line : Int) :
  Calls Tryz.prog 16 #[ptr K.k, .int .i64 line] w fun e w' => e = .returned (.tuple #[.agg (Ar.ycells (look c s line)), .bool (there c s line)]) ∧ Below w.heap.size w w' := by
 have H0 := Lib.hid (h.add (.cells #[.int .i64 0, .int .i64 0, .int .i64 0, .int .i64 0, .int .i64 0, .int .i64 0, .int .i64 0, .int .i64 0, .int .i64 0, .int .i64 0, .bool false] 66))
 have HA := Lib.hid (H0.out.find line)
 have hk := H0.out.kc
 clear h
 generalize Go.Proofs.YtlfhkjjjocmpbaaGreatDoor.Cc.look c s line = x at *
 generalize there c s line = q at *
 go_enter Tryz.func16, Tryz.ntmps16
 go_wp2_with (first
  | (go_at_call 41; refine HA.out.mono ?_; rintro e w1 ⟨i, rfl, hb1⟩; have h4 := ((H0.out.step hb1).step (b_alloc w1 (.cells (Ar.ycells x) 66))).box mz0)
  | ((with_reducible refine wpList_store_row (o := ⟨none, _, _, _, _, _⟩) rfl 66 (.tmp 4) (.tmp 19) rfl (w.heap.size) (Ar.ycells x) ?sx ?sy 66 ?old ?sg ?si ?so ?s1 ?_); (case sx => rfl); (case sy => rfl); (case old => exact #[.int .i64 0, .int .i64 0, .int .i64 0, .int .i64 0, .int .i64 0, .int .i64 0, .int .i64 0, .int .i64 0, .int .i64 0, .int .i64 0, .bool false]); (case sg => exact h4); (case si => kernel_rfl); (case so => rfl); (case s1 => kernel_rfl)))
 exact bodyPost_ret (v := .tuple #[.agg (Ar.ycells x), .bool q]) (Ar.results_cell_two Tryz.results16 _ _ w.heap.size 66 _ (0, 0) _ rfl (setRow_heap _ _ _ _ _ _ h4) Tryz.underlying66 rfl (by kernel_rfl)) rfl ⟨rfl, b_setRow ((b_alloc w _).trans ((b_step hb1 (b_alloc _ _)).mono (by simp))) (Nat.le_refl _) _⟩

end Go.Proofs.YtlfhkjjjocmpbaaGreatDoor.Cc

namespace Go.Proofs.YtlfhkjjjocmpbaaGreatDoor.Cc
open Go Go.RowKit

variable {w0 w w' : World} {bx : Bx} {K : Kb} {c : Cfg} {core n : Int} {s : St}
theorem Own.busy (h : OwnP w0 K c core n s bx w) (line : Int) :
  Calls Tryz.prog 116 #[ptr K.k, .int .i64 line] w fun e w' => e = .returned (.bool (busyB s line)) ∧ Below w.heap.size w w' := by
 have HM := Lib.hid (h.mget line)
 have HB := Lib.hid (fun w1 (hb : Below w.heap.size w w1) => (h.step hb).bget line)
 have HK := Lib.hid (fun w1 (hb : Below w.heap.size w w1) => (h.step hb).kc)
 have hk := h.kc
 unfold busyB
 clear h
 generalize Mh.getP s.F line = r at *
 generalize Wb.getP s.B line = r2 at *
 obtain ⟨x, q⟩ := r
 obtain ⟨y, q2⟩ := r2
 cases q
 all_goals
  go_enter Tryz.func116, Tryz.ntmps116
  go_wp2_with fail
  refine HM.out.mono ?_
  rintro e w1 ⟨rfl, hb1⟩
  have HA := Lib.hid (b_step hb1 (b_alloc w1 (.cells (Mh.mcells x) 117)))
  have hk2 := HK.out _ HA.out
  go_wp2_with fail
  refine (HB.out _ HA.out).mono ?_
  rintro e w2 ⟨rfl, hb2⟩
  have HA2 := Lib.hid (b_step HA.out hb2)
  clear hk2
  go_wp2
  go_ret
  exact ⟨rfl, b_step HA2.out (b_alloc _ _)⟩

def RetM (m : Msg) (P : World → Prop) (e : Ending) (w' : World) : Prop := e = .returned (mv m) ∧ P w'
theorem Own.toHome {kind line : Int} (h : OwnP w0 K c core n s bx w) :
  Calls Tryz.prog 54 #[ptr K.k, .int .i64 kind, .int .i64 line] w (RetM (toHomeP c core kind line) (Below w.heap.size w)) := by
 have H0 := Lib.hid (h.add (.cells #[.int .i64 0, .int .i64 0, .int .i64 0, .int .i64 0, .int .i64 0, .int .i64 0, .int .i64 0, .int .i64 0, .int .i64 0, .int .i64 0, .int .i64 0, .int .i64 0, .int .i64 0, .int .i64 0, .int .i64 0] 38))
 have HL := Lib.hid (H0.out.line line)
 have hk := H0.out.kc
 have hz := b_alloc w (.cells #[.int .i64 0, .int .i64 0, .int .i64 0, .int .i64 0, .int .i64 0, .int .i64 0, .int .i64 0, .int .i64 0, .int .i64 0, .int .i64 0, .int .i64 0, .int .i64 0, .int .i64 0, .int .i64 0, .int .i64 0] 38)
 have HZ := Lib.hid hz
 clear h hz
 go_enter Tryz.func54, Tryz.ntmps54
 go_wp2_with fail
 refine HL.out.mono ?_
 rintro e w1 ⟨rfl, hb1⟩
 have H1 := Lib.hid (H0.out.step hb1)
 have hk1 := H1.out.kc
 have h6 := H1.out.box mz0
 go_wp2_with ((with_reducible refine wpList_store_row (o := ⟨none, _, _, _, _, _⟩) rfl 38 (.tmp 6) (.tmp 29) rfl (w.heap.size) (mcells (toHomeP c core kind line)) ?sx ?sy 38 ?old ?sg ?si ?so ?s1 ?_); (case sx => rfl); (case sy => rfl); (case old => exact #[.int .i64 0, .int .i64 0, .int .i64 0, .int .i64 0, .int .i64 0, .int .i64 0, .int .i64 0, .int .i64 0, .int .i64 0, .int .i64 0, .int .i64 0, .int .i64 0, .int .i64 0, .int .i64 0, .int .i64 0]); (case sg => exact h6); (case si => kernel_rfl); (case so => rfl); (case s1 => kernel_rfl))
 exact bodyPost_ret (v := mv (toHomeP c core kind line)) (results_cell_row Tryz.results54 _ _ w.heap.size 38 _ (0, 0) _ rfl (setRow_heap _ _ _ _ _ _ h6) Tryz.underlying38 rfl (by kernel_rfl)) rfl ⟨rfl, b_setRow (HZ.out.trans (hb1.mono (by simp))) (Nat.le_refl _) _⟩

def RetW (d : Wd) (P : World → Prop) (e : Ending) (w' : World) : Prop := e = .returned (.agg (dcells d)) ∧ P w'
theorem Own.wordsOf (h : OwnP w0 K c core n s bx w) (x : Mh.Ms) :
  Calls Tryz.prog 157 #[ptr K.k, .agg (Mh.mcells x)] w (RetW (wordsP c s x) (Below w.heap.size w)) := by
 have H0 := Lib.hid ((h.add (.cells (Mh.mcells x) 117)).add (.cells #[.int .i64 0, .int .i64 0, .int .i64 0, .int .i64 0, .int .i64 0, .int .i64 0, .int .i64 0, .int .i64 0] 36))
 have HZ := Lib.hid (b_step (b_alloc w (.cells (Mh.mcells x) 117)) (b_alloc _ (.cells #[.int .i64 0, .int .i64 0, .int .i64 0, .int .i64 0, .int .i64 0, .int .i64 0, .int .i64 0, .int .i64 0] 36)))
 have HL := Lib.hid (H0.out.look x.ln)
 have h4 := H0.out.box mz0
 rw [show (w.alloc (.cells (Mh.mcells x) 117)).heap.size = w.heap.size + 1 by simp] at h4
 have hx := H0.out.cells mz1
 clear h
 obtain ⟨ln, kd, nd, gt, ow, wd, gr, os⟩ := x
 cases gr
 ·go_enter Tryz.func157, Tryz.ntmps157
  go_wp2_with ((with_reducible refine wpList_store_row (o := ⟨none, _, _, _, _, _⟩) rfl 36 (.tmp 4) (.tmp 11) rfl (w.heap.size + 1) (dcells wd) ?sx ?sy 36 ?old ?sg ?si ?so ?s1 ?_); (case sx => rfl); (case sy => rfl); (case old => exact #[.int .i64 0, .int .i64 0, .int .i64 0, .int .i64 0, .int .i64 0, .int .i64 0, .int .i64 0, .int .i64 0]); (case sg => exact h4); (case si => kernel_rfl); (case so => rfl); (case s1 => kernel_rfl))
  exact bodyPost_ret (v := .agg (dcells wd)) (results_cell_row Tryz.results157 _ _ (w.heap.size + 1) 36 _ (0, 0) _ rfl (setRow_heap _ _ _ _ _ _ h4) Tryz.underlying36 rfl (by kernel_rfl)) rfl ⟨rfl, b_setRow HZ.out (by omega) _⟩
 ·show Calls _ _ _ _ (RetW (Go.Proofs.YtlfhkjjjocmpbaaGreatDoor.Cc.look c s ln).wd _)
  generalize Go.Proofs.YtlfhkjjjocmpbaaGreatDoor.Cc.look c s ln = y at *
  generalize there c s ln = q at *
  go_enter Tryz.func157, Tryz.ntmps157
  go_wp2_with fail
  refine HL.out.mono ?_
  rintro e w1 ⟨rfl, hb1⟩
  have HB := Lib.hid (b_step HZ.out hb1)
  have h5 := ((H0.out.step hb1).step (b_alloc w1 (.cells (Ar.ycells y) 66))).box mz0
  rw [show (w.alloc (.cells (Mh.mcells ⟨ln, kd, nd, gt, ow, wd, true, os⟩) 117)).heap.size = w.heap.size + 1 by simp] at h5
  clear hx h4
  go_wp2_with ((with_reducible refine wpList_store_row (o := ⟨none, _, _, _, _, _⟩) rfl 36 (.tmp 4) (.tmp 20) rfl (w.heap.size + 1) (dcells y.wd) ?sx ?sy 36 ?old ?sg ?si ?so ?s1 ?_); (case sx => rfl); (case sy => rfl); (case old => exact #[.int .i64 0, .int .i64 0, .int .i64 0, .int .i64 0, .int .i64 0, .int .i64 0, .int .i64 0, .int .i64 0]); (case sg => exact h5); (case si => kernel_rfl); (case so => rfl); (case s1 => kernel_rfl))
  exact bodyPost_ret (v := .agg (dcells y.wd)) (results_cell_row Tryz.results157 _ _ (w.heap.size + 1) 36 _ (0, 0) _ rfl (setRow_heap _ _ _ _ _ _ h5) Tryz.underlying36 rfl (by kernel_rfl)) rfl ⟨rfl, b_setRow (b_step HB.out (b_alloc _ _)) (by omega) _⟩

abbrev fv (k : Nat) : Value := .func (.func k) #[] #[]
def becomeV (k : Int) : Value :=
 if k = 4 then fv 105 else if k = 5 then fv 106 else if k = 6 then fv 107 else if k = 7 then fv 108
 else if k = 8 then fv 109 else if k = 9 then fv 110 else if k = 10 then fv 111 else .nilFunc
theorem become_any (k : Int) (w : World) :
  Calls Tryz.prog 55 #[.int .i64 k] w fun e w' => e = .returned (becomeV k) ∧ w = w' := by
 go_enter Tryz.func55, Tryz.ntmps55
 go_wp2
 all_goals go_ret
 all_goals exact ⟨by simp_all [becomeV], rfl⟩

end Go.Proofs.YtlfhkjjjocmpbaaGreatDoor.Cc
