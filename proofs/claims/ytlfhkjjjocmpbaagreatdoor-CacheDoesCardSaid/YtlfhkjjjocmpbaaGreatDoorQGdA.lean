import Derived.Test.YtlfhkjjjocmpbaaGreatDoorQGcB
import Derived.Test.YtlfhkjjjocmpbaaGreatDoorQGaA
import Derived.Test.YtlfhkjjjocmpbaaGreatDoorQGaM
import Derived.Test.YtlfhkjjjocmpbaaGreatDoorQGaW
import Derived.Test.YtlfhkjjjocmpbaaGreatDoorQLayPg
import Derived.Test.YtlfhkjjjocmpbaaGreatDoorSx
import Derived.Test.YtlfhkjjjocmpbaaGreatDoorRef1

namespace Go.Proofs.YtlfhkjjjocmpbaaGreatDoor.Cc
open Go Go.RowKit

abbrev tyD : Tys := ⟨60, 62, 75, 64, 77⟩
abbrev OwnD := @Own tyD
variable {w0 w w' : World} {bx : Bx} {K : Kb} {c : Cfg} {core n : Int} {s : St}

theorem Own.dfind (h : OwnD w0 K c core n s bx w) (line : Int) :
  Calls Tryz.prog 17 #[ptr K.a, .int .i64 line] w fun e w' => e = .returned (.tuple #[.agg (Ar.ycells (Go.Proofs.YtlfhkjjjocmpbaaGreatDoor.Cc.look c s line)), .int .i64 (Ar.fnd c s.A line).2.1, .bool (Go.Proofs.YtlfhkjjjocmpbaaGreatDoor.Cc.there c s line)]) ∧ Below w.heap.size w w' := by
 obtain ⟨g, ha, -⟩ := h.ar
 exact Ar.refFind_any ha h.nums.2.2.1 line rfl
theorem Own.dfree (h : OwnD w0 K c core n s bx w) (line : Int) :
  Calls Tryz.prog 73 #[ptr K.a, .int .i64 line] w fun e w' => e = .returned (.int .i64 (Ar.oi (Ar.fre c s.A line))) ∧ Below w.heap.size w w' := by
 obtain ⟨g, ha, -⟩ := h.ar
 exact Ar.refFree_any ha line
theorem Own.dlay (h : OwnD w0 K c core n s bx w) (line way : Int) :
  Calls Tryz.prog 74 #[ptr K.a, .int .i64 line, .int .i64 way] w fun e w' => (∃ i, e = .returned (.int .i64 i)) ∧ OwnD w0 K c core n { s with A := (Ar.layP c s.A line way).2 } bx w' := by
 obtain ⟨g, ha, hf⟩ := h.ar
 exact (Ar.refLay_any ha h.nums.2.2.1 line way).mono fun e w' hg => ⟨⟨_, hg.res⟩, hf e w' _ hg (h.nums.2.2.1.layP ha.sz line way).1⟩
theorem Own.dset (h : OwnD w0 K c core n s bx w) (line st : Int) (d : Wd) :
  Calls Tryz.prog 77 #[ptr K.a, .int .i64 line, .int .i64 st, .agg (dcells d)] w fun e w' => (∃ i, e = .returned (.int .i64 i)) ∧ OwnD w0 K c core n (setA c s line st d) bx w' := by
 obtain ⟨g, ha, hf⟩ := h.ar
 exact (Ar.refSet_any ha h.nums.2.2.1 line st d).mono fun e w' hg => ⟨⟨_, hg.res⟩, hf e w' _ hg (h.nums.2.2.1.setP ha.sz line st d).1⟩
theorem Own.dlock (h : OwnD w0 K c core n s bx w) (line : Int) (q : Bool) :
  Calls Tryz.prog 75 #[ptr K.a, .int .i64 line, .bool q] w fun e w' => (∃ i, e = .returned (.int .i64 i)) ∧ OwnD w0 K c core n { s with A := (Ar.lockP c s.A line q).2 } bx w' := by
 obtain ⟨g, ha, hf⟩ := h.ar
 exact (Ar.refLock_any ha h.nums.2.2.1 line q).mono fun e w' hg => ⟨⟨_, hg.res⟩, hf e w' _ hg (h.nums.2.2.1.lockP ha.sz line q).1⟩

theorem Own.dopen (h : OwnD w0 K c core n s bx w) (line kind : Int) :
  Calls Tryz.prog 76 #[ptr K.f, .int .i64 line, .int .i64 kind] w fun e w' => (∃ i, e = .returned (.int .i64 i)) ∧ OwnD w0 K c core (n + 1) { s with F := (Mh.openP c.ms s.F line kind).2 } bx w' := by
 obtain ⟨v, hv, hf⟩ := h.fl
 have g := h.nums
 exact (Mh.refOpen_any hv h.below.size line kind g.2.2.2.2.1.r1 g.2.2.2.2.1.r2 g.2.2.2.2.1.len).mono fun e w' hg => ⟨⟨_, hg.res⟩, hf w' _ _ hg.put (g.2.2.2.2.1.open g.2.2.2.2.2.1 line kind) (by omega)⟩
theorem Own.ddata (h : OwnD w0 K c core n s bx w) (line acks own : Int) (d : Wd) :
  Calls Tryz.prog 83 #[ptr K.f, .int .i64 line, .int .i64 acks, .int .i64 own, .agg (dcells d)] w fun e w' => e = .returned (.int .i64 (Mh.chg s.F line (Mh.dataF acks own d)).1) ∧ OwnD w0 K c core (n + 1) { s with F := (Mh.chg s.F line (Mh.dataF acks own d)).2 } bx w' := by
 obtain ⟨v, hv, hf⟩ := h.fl
 exact (Mh.refData_any hv h.nums.2.2.2.2.1 line acks own d).mono fun e w' hg => ⟨hg.res, hf w' _ _ hg.put (h.nums.2.2.2.2.1.data line acks own d) (by omega)⟩
theorem Own.dgrant (h : OwnD w0 K c core n s bx w) (hb : Mh.Blk s.F) (line acks : Int) :
  Calls Tryz.prog 84 #[ptr K.f, .int .i64 line, .int .i64 acks] w fun e w' => e = .returned (.int .i64 (Mh.chg s.F line (Mh.grantF acks)).1) ∧ OwnD w0 K c core (n + 1) { s with F := (Mh.chg s.F line (Mh.grantF acks)).2 } bx w' := by
 obtain ⟨v, hv, hf⟩ := h.fl
 exact (Mh.refGrant_any hv h.nums.2.2.2.2.1 hb line acks).mono fun e w' hg => ⟨hg.res, hf w' _ _ hg.put (h.nums.2.2.2.2.1.grant line acks) (by omega)⟩
theorem Own.dack (h : OwnD w0 K c core n s bx w) (hn : n ≤ 900) (line : Int) :
  Calls Tryz.prog 85 #[ptr K.f, .int .i64 line] w fun e w' => e = .returned (.int .i64 (Mh.chg s.F line Mh.ackF).1) ∧ OwnD w0 K c core (n + 1) { s with F := (Mh.chg s.F line Mh.ackF).2 } bx w' := by
 obtain ⟨v, hv, hf⟩ := h.fl
 have g := h.nums.2.2.2.2.1
 exact (Mh.refAck_any hv g (by omega) line).mono fun e w' hg => ⟨hg.res, hf w' _ _ hg.put (g.ack line) (by omega)⟩
theorem Own.dowe (h : OwnD w0 K c core n s bx w) (line : Int) :
  Calls Tryz.prog 87 #[ptr K.f, .int .i64 line] w fun e w' => e = .returned (.tuple #[.agg (Mh.mcells (Mh.oweP s.F line).1.1), .bool (Mh.oweP s.F line).1.2]) ∧ OwnD w0 K c core (n + 1) { s with F := (Mh.oweP s.F line).2 } bx w' := by
 obtain ⟨v, hv, hf⟩ := h.fl
 exact (Mh.refOwe_any hv h.nums.2.2.2.2.1 line).mono fun e w' hg => ⟨hg.1, hf w' _ _ hg.2 (h.nums.2.2.2.2.1.owe line) (by omega)⟩
theorem Own.dclose (h : OwnD w0 K c core n s bx w) (line : Int) :
  Calls Tryz.prog 89 #[ptr K.f, .int .i64 line] w fun e w' => (∃ i, e = .returned (.int .i64 i)) ∧ OwnD w0 K c core (n + 1) { s with F := (Mh.closeP s.F line).2 } bx w' := by
 obtain ⟨v, hv, hf⟩ := h.fl
 have := fshort h
 exact (Mh.refClose_any hv h.below.size line (by omega)).mono fun e w' hg => ⟨⟨_, hg.res⟩, hf w' _ _ hg.put (h.nums.2.2.2.2.1.close line) (by omega)⟩
theorem Own.dget (h : OwnD w0 K c core n s bx w) (line : Int) :
  Calls Tryz.prog 70 #[ptr K.f, .int .i64 line] w fun e w' => e = .returned (.tuple #[.agg (Mh.mcells (Mh.getP s.F line).1), .bool (Mh.getP s.F line).2]) ∧ Below w.heap.size w w' := by
 obtain ⟨v, hv, hf⟩ := h.fl
 have := fshort h
 exact Mh.refGet_any hv line (by omega)
theorem Own.dowing (h : OwnD w0 K c core n s bx w) :
  Calls Tryz.prog 88 #[ptr K.f] w fun e w' => e = .returned (.tuple #[.int .i64 (Mh.owingP s.F).1, .bool (Mh.owingP s.F).2]) ∧ w = w' := by
 obtain ⟨v, hv, hf⟩ := h.fl
 have := fshort h
 exact Mh.refOwing_any hv (by omega)

theorem Own.dplace (h : OwnD w0 K c core n s bx w) (line : Int) :
  Calls Tryz.prog 71 #[ptr K.b, .int .i64 line] w fun e w' => e = .returned (.int .i64 (Wb.oi (Wb.fnd s.B line))) ∧ w = w' := by
 obtain ⟨v, hv, hf⟩ := h.bf
 have := h.nums.2.2.2.2.2.2.short
 exact Wb.refPlace_any hv line (by omega)
theorem Own.dput (h : OwnD w0 K c core n s bx w) (line : Int) (d : Wd) :
  Calls Tryz.prog 78 #[ptr K.b, .int .i64 line, .agg (dcells d)] w fun e w' => (∃ i, e = .returned (.int .i64 i)) ∧ OwnD w0 K c core n { s with B := (Wb.putP c.wb s.B line d).2 } bx w' := by
 obtain ⟨v, hv, hf⟩ := h.bf
 have g := h.nums.2.2.2.2.2.2
 exact (Wb.refPut_any hv g h.below.size line d).mono fun e w' hg => ⟨⟨_, hg.res⟩, hf w' _ hg.put (g.put line d)⟩
theorem Own.dshare (h : OwnD w0 K c core n s bx w) (line : Int) :
  Calls Tryz.prog 128 #[ptr K.b, .int .i64 line] w fun e w' => e = .returned (.tuple #[.agg (dcells (Wb.ansP id s.B line).1.1), .int .i64 (Wb.ansP id s.B line).1.2]) ∧ Below w.heap.size w w' := by
 obtain ⟨v, hv, hf⟩ := h.bf
 exact Wb.refShare_any hv line h.nums.2.2.2.2.2.2.short
theorem Own.dgive (h : OwnD w0 K c core n s bx w) (line : Int) :
  Calls Tryz.prog 129 #[ptr K.b, .int .i64 line] w fun e w' => e = .returned (.tuple #[.agg (dcells (Wb.ansP Wb.gone s.B line).1.1), .int .i64 (Wb.ansP Wb.gone s.B line).1.2]) ∧ OwnD w0 K c core n { s with B := (Wb.ansP Wb.gone s.B line).2 } bx w' := by
 obtain ⟨v, hv, hf⟩ := h.bf
 have g := h.nums.2.2.2.2.2.2
 exact (Wb.refGive_any hv line g.short).mono fun e w' hg => ⟨hg.1, hf w' _ hg.2 (g.ans Wb.gone (fun _ => rfl) line)⟩
theorem Own.ddrop (h : OwnD w0 K c core n s bx w) (line : Int) :
  Calls Tryz.prog 86 #[ptr K.b, .int .i64 line] w fun e w' => e = .returned (.int .i64 (Wb.dropP s.B line).1) ∧ OwnD w0 K c core n { s with B := (Wb.dropP s.B line).2 } bx w' := by
 obtain ⟨v, hv, hf⟩ := h.bf
 have g := h.nums.2.2.2.2.2.2
 have := g.short
 exact (Wb.refDrop_any hv h.below.size line (by omega)).mono fun e w' hg => ⟨hg.res, hf w' _ hg.put (g.drop line)⟩

end Go.Proofs.YtlfhkjjjocmpbaaGreatDoor.Cc

namespace Go.Proofs.YtlfhkjjjocmpbaaGreatDoor.Pg
open Go Go.RowKit

set_option maxHeartbeats 1000000 in
theorem refMay_any (x : Op) (w : World) :
  Calls Tryz.prog 130 #[ov x] w fun e w' => e = .returned (.bool (mayB x)) ∧ Below w.heap.size w w' := by
 obtain ⟨k, a, v⟩ := x
 go_enter Tryz.func130, Tryz.ntmps130
 go_wp2
 all_goals
  go_ret
  refine ⟨ret_bool ?_, (Below.refl _ _).alloc (Nat.le_refl _) _⟩
  rw [Bool.eq_iff_iff]
  simp [mayB] at *
  omega

end Go.Proofs.YtlfhkjjjocmpbaaGreatDoor.Pg

namespace Go.Proofs.YtlfhkjjjocmpbaaGreatDoor.Cc
open Go Go.RowKit

variable {w0 w w' : World} {bx : Bx} {K : Kb} {c : Cfg} {core n : Int} {s : St}
theorem Own.dstate (h : OwnD w0 K c core n s bx w) (line : Int) :
  Calls Tryz.prog 82 #[ptr K.k, .int .i64 line] w fun e w' => e = .returned (.int .i64 (Go.Proofs.YtlfhkjjjocmpbaaGreatDoor.Cc.look c s line).st) ∧ Below w.heap.size w w' := by
 have HF := Lib.hid (h.dfind line)
 have H0 := Lib.hid h
 have hk := h.kc
 clear h
 generalize Go.Proofs.YtlfhkjjjocmpbaaGreatDoor.Cc.look c s line = y at *
 generalize Go.Proofs.YtlfhkjjjocmpbaaGreatDoor.Cc.there c s line = q at *
 generalize (Ar.fnd c s.A line).2.1 = i at *
 go_enter Tryz.func82, Tryz.ntmps82
 go_wp2_with fail
 refine HF.out.mono ?_
 rintro e w1 ⟨rfl, hb1⟩
 have HB := Lib.hid (b_step hb1 (b_alloc w1 (.cells (Ar.ycells y) 69)))
 have hy := ((H0.out.step hb1).add (.cells (Ar.ycells y) 69)).cells mz0
 clear hb1
 go_wp2
 go_ret
 exact ⟨rfl, HB.out⟩

def canB (x : Ar.Wy) (kind : Int) : Bool := kind == 1 && x.st != 0 || kind == 2 && (x.st == 2 || x.st == 4)
theorem Own.dcan (h : OwnD w0 K c core n s bx w) (line kind : Int) :
  Calls Tryz.prog 72 #[ptr K.k, .int .i64 line, .int .i64 kind] w fun e w' => e = .returned (.bool (canB (Go.Proofs.YtlfhkjjjocmpbaaGreatDoor.Cc.look c s line) kind)) ∧ Below w.heap.size w w' := by
 have HS := Lib.hid (h.dstate line)
 unfold canB
 clear h
 generalize (Go.Proofs.YtlfhkjjjocmpbaaGreatDoor.Cc.look c s line).st = st at *
 have HC : Hid (∀ b, b = (kind == 1 && st != 0 || kind == 2 && (st == 2 || st == 4)) → b = (kind == 1 && st != 0 || kind == 2 && (st == 2 || st == 4))) := Lib.hid (fun b h => h)
 go_enter Tryz.func72, Tryz.ntmps72
 go_wp2_with fail
 refine HS.out.mono ?_
 rintro e w1 ⟨rfl, hb1⟩
 have HB := Lib.hid hb1
 clear hb1
 go_wp2
 all_goals go_ret
 all_goals exact ⟨ret_bool (by simp_all), HB.out⟩

abbrev H5 (w : World) (c : Cfg) (d : Wd) (k a v : Int) (wr : World) : Prop := Me.H4 w (.cells (ccells c) 24) (.cells (dcells d) 36) (.cells #[.int .i64 k, .int .i64 a, .int .i64 v] 43) (.cells (dcells d0) 36) wr
def RetN (d : Wd) (k n : Int) (P : World → Prop) (e : Ending) (w' : World) : Prop := e = .returned (.tuple #[.agg (dcells d), .int .i64 k, .int .i64 n]) ∧ P w'
theorem dap_ret {wr : World} {d : Wd} {k n : Int} {P : World → Prop} {a : Act} {g : Nat} (hp : a.tmps.getD 6 undef = .pointer (some ⟨g, 0, none⟩)) (hk : a.tmps.getD 7 undef = .int .i64 k) (hn : a.tmps.getD 8 undef = .int .i64 n) (hd : a.defers = []) (hg : wr.heap[g]? = some (.cells (dcells d) 36 (0, 0))) (hb : P wr) :
  bodyPost Tryz.prog Tryz.f90 (RetN d k n P) Exit.ret a wr :=
 bodyPost_ret (v := .tuple #[.agg (dcells d), a.tmps.getD 7 undef, a.tmps.getD 8 undef]) (Me.results_cell_three Tryz.results90 _ _ g 36 _ (0, 0) _ hp hg Tryz.underlying36 rfl (by kernel_rfl)) hd ⟨by rw [hk, hn], hb⟩
theorem chk_ok {c : Cfg} (h : okC c = true) : chk c = 0 := by simp [chk, h]
theorem put_self (d : Wd) (k : Nat) (h : k < 8) : d.put k (d.at k) = d := by
 rcases (show k = 0 ∨ k = 1 ∨ k = 2 ∨ k = 3 ∨ k = 4 ∨ k = 5 ∨ k = 6 ∨ k = 7 by omega) with rfl | rfl | rfl | rfl | rfl | rfl | rfl | rfl <;> rfl
set_option maxRecDepth 100000 in
set_option maxHeartbeats 2000000 in
theorem dap_bad0 (c : Cfg) (d : Wd) (k a v : Int) (w : World) (h : okC c = false) :
  Calls Tryz.prog 90 #[cv c, .agg (dcells d), Pg.ov ⟨k, a, v⟩] w (RetN d0 0 1 (Below w.heap.size w)) := by
 have H0 := Lib.hid (Me.H4.new w (.cells (ccells c) 24) (.cells (dcells d) 36) (.cells #[.int .i64 k, .int .i64 a, .int .i64 v] 43) (.cells (dcells d0) 36))
 have HC := Lib.hid (fun w => refCheck_any c w)
 have HM := Lib.hid (fun w => Pg.refMay_any ⟨k, a, v⟩ w)
 rw [chk_no c h] at HC
 clear h
 go_enter Tryz.func90, Tryz.ntmps90
 go_wp2_with fail
 refine (HC.out _).mono ?_
 rintro e w1 ⟨rfl, hb1⟩
 have H1 := Lib.hid (H0.out.step hb1)
 have hop := c_cell H1.out.c2
 clear hb1 H0
 have h4 := H1.out.c3
 go_wp2_with ((with_reducible refine wpList_store_row (o := ⟨none, _, _, _, _, _⟩) rfl 36 (.tmp 6) (.tmp 34) rfl (w.heap.size + 3) (dcells d0) ?sx ?sy 36 ?old ?sg ?si ?so ?s1 ?_); (case sx => rfl); (case sy => rfl); (case old => exact dcells d0); (case sg => exact h4); (case si => kernel_rfl); (case so => rfl); (case s1 => kernel_rfl))
 exact dap_ret rfl rfl rfl rfl (setRow_heap _ _ _ _ _ _ h4) (below_setRow H1.out.bl (by omega) _)
set_option maxRecDepth 100000 in
set_option maxHeartbeats 2000000 in
theorem dap_bad1 (c : Cfg) (d : Wd) (k a v : Int) (w : World) (h : okC c = true) (hm : Pg.mayB ⟨k, a, v⟩ = false) :
  Calls Tryz.prog 90 #[cv c, .agg (dcells d), Pg.ov ⟨k, a, v⟩] w (RetN d0 0 1 (Below w.heap.size w)) := by
 have H0 := Lib.hid (Me.H4.new w (.cells (ccells c) 24) (.cells (dcells d) 36) (.cells #[.int .i64 k, .int .i64 a, .int .i64 v] 43) (.cells (dcells d0) 36))
 have HC := Lib.hid (fun w => refCheck_any c w)
 have HM := Lib.hid (fun w => Pg.refMay_any ⟨k, a, v⟩ w)
 rw [chk_ok h] at HC
 rw [hm] at HM
 clear h hm
 go_enter Tryz.func90, Tryz.ntmps90
 go_wp2_with fail
 refine (HC.out _).mono ?_
 rintro e w1 ⟨rfl, hb1⟩
 have H1 := Lib.hid (H0.out.step hb1)
 have hop := c_cell H1.out.c2
 clear hb1 H0
 go_wp2_with fail
 refine (HM.out _).mono ?_
 rintro e w2 ⟨rfl, hb2⟩
 have H2 := Lib.hid (H1.out.step hb2)
 have hop := c_cell H2.out.c2
 have hcf := c_cell H2.out.c0
 have hwd := c_cell H2.out.c1
 clear hb2 H1
 have h4 := H2.out.c3
 go_wp2_with ((with_reducible refine wpList_store_row (o := ⟨none, _, _, _, _, _⟩) rfl 36 (.tmp 6) (.tmp 34) rfl (w.heap.size + 3) (dcells d0) ?sx ?sy 36 ?old ?sg ?si ?so ?s1 ?_); (case sx => rfl); (case sy => rfl); (case old => exact dcells d0); (case sg => exact h4); (case si => kernel_rfl); (case so => rfl); (case s1 => kernel_rfl))
 exact dap_ret rfl rfl rfl rfl (setRow_heap _ _ _ _ _ _ h4) (below_setRow H2.out.bl (by omega) _)
set_option maxRecDepth 100000 in
set_option maxHeartbeats 2000000 in
theorem dap_bad2 (c : Cfg) (d : Wd) (k a v : Int) (w : World) (h : okC c = true) (hm : Pg.mayB ⟨k, a, v⟩ = true) (hk : (k == 4) = true) :
  Calls Tryz.prog 90 #[cv c, .agg (dcells d), Pg.ov ⟨k, a, v⟩] w (RetN d0 0 1 (Below w.heap.size w)) := by
 have H0 := Lib.hid (Me.H4.new w (.cells (ccells c) 24) (.cells (dcells d) 36) (.cells #[.int .i64 k, .int .i64 a, .int .i64 v] 43) (.cells (dcells d0) 36))
 have HC := Lib.hid (fun w => refCheck_any c w)
 have HM := Lib.hid (fun w => Pg.refMay_any ⟨k, a, v⟩ w)
 rw [chk_ok h] at HC
 rw [hm] at HM
 clear h hm
 go_enter Tryz.func90, Tryz.ntmps90
 go_wp2_with fail
 refine (HC.out _).mono ?_
 rintro e w1 ⟨rfl, hb1⟩
 have H1 := Lib.hid (H0.out.step hb1)
 have hop := c_cell H1.out.c2
 clear hb1 H0
 go_wp2_with fail
 refine (HM.out _).mono ?_
 rintro e w2 ⟨rfl, hb2⟩
 have H2 := Lib.hid (H1.out.step hb2)
 have hop := c_cell H2.out.c2
 have hcf := c_cell H2.out.c0
 have hwd := c_cell H2.out.c1
 clear hb2 H1
 have h4 := H2.out.c3
 go_wp2_with ((with_reducible refine wpList_store_row (o := ⟨none, _, _, _, _, _⟩) rfl 36 (.tmp 6) (.tmp 34) rfl (w.heap.size + 3) (dcells d0) ?sx ?sy 36 ?old ?sg ?si ?so ?s1 ?_); (case sx => rfl); (case sy => rfl); (case old => exact dcells d0); (case sg => exact h4); (case si => kernel_rfl); (case so => rfl); (case s1 => kernel_rfl))
 exact dap_ret rfl rfl rfl rfl (setRow_heap _ _ _ _ _ _ h4) (below_setRow H2.out.bl (by omega) _)
set_option maxRecDepth 100000 in
set_option maxHeartbeats 2000000 in
theorem dap_bad3 (c : Cfg) (d : Wd) (k a v : Int) (w : World) (h : okC c = true) (hm : Pg.mayB ⟨k, a, v⟩ = true) (hk : (k == 4) = false) (hz : c.wo * c.li ≤ a) :
  Calls Tryz.prog 90 #[cv c, .agg (dcells d), Pg.ov ⟨k, a, v⟩] w (RetN d0 0 1 (Below w.heap.size w)) := by
 have H0 := Lib.hid (Me.H4.new w (.cells (ccells c) 24) (.cells (dcells d) 36) (.cells #[.int .i64 k, .int .i64 a, .int .i64 v] 43) (.cells (dcells d0) 36))
 have HC := Lib.hid (fun w => refCheck_any c w)
 have HM := Lib.hid (fun w => Pg.refMay_any ⟨k, a, v⟩ w)
 rw [chk_ok h] at HC
 rw [hm] at HM
 have hbb := mul_bound c.wo c.li (sz_bound c h).1 (sz_bound c h).2
 have hwr : wrap64 (c.wo * c.li) = c.wo * c.li := Ar.wrap_small _ (by omega) (by omega)
 clear h hm hbb
 go_enter Tryz.func90, Tryz.ntmps90
 go_wp2_with fail
 refine (HC.out _).mono ?_
 rintro e w1 ⟨rfl, hb1⟩
 have H1 := Lib.hid (H0.out.step hb1)
 have hop := c_cell H1.out.c2
 clear hb1 H0
 go_wp2_with fail
 refine (HM.out _).mono ?_
 rintro e w2 ⟨rfl, hb2⟩
 have H2 := Lib.hid (H1.out.step hb2)
 have hop := c_cell H2.out.c2
 have hcf := c_cell H2.out.c0
 have hwd := c_cell H2.out.c1
 clear hb2 H1
 have h4 := H2.out.c3
 go_wp2_with ((with_reducible refine wpList_store_row (o := ⟨none, _, _, _, _, _⟩) rfl 36 (.tmp 6) (.tmp 34) rfl (w.heap.size + 3) (dcells d0) ?sx ?sy 36 ?old ?sg ?si ?so ?s1 ?_); (case sx => rfl); (case sy => rfl); (case old => exact dcells d0); (case sg => exact h4); (case si => kernel_rfl); (case so => rfl); (case s1 => kernel_rfl))
 exact dap_ret rfl rfl rfl rfl (setRow_heap _ _ _ _ _ _ h4) (below_setRow H2.out.bl (by omega) _)
set_option maxRecDepth 100000 in
set_option maxHeartbeats 2000000 in
theorem dap_good1 (c : Cfg) (d : Wd) (a v : Int) (w : World) (ha : adOk c a = true) (hm : Pg.mayB ⟨1, a, v⟩ = true) :
  Calls Tryz.prog 90 #[cv c, .agg (dcells d), Pg.ov ⟨1, a, v⟩] w (RetN (d.put (a % c.wo).toNat (Me.lft (d.at (a % c.wo).toNat) ⟨1, a, v⟩)) (Me.tld (d.at (a % c.wo).toNat) ⟨1, a, v⟩) 0 (Below w.heap.size w)) := by
 have H0 := Lib.hid (Me.H4.new w (.cells (ccells c) 24) (.cells (dcells d) 36) (.cells #[.int .i64 1, .int .i64 a, .int .i64 v] 43) (.cells (dcells d0) 36))
 have HC := Lib.hid (fun w => refCheck_any c w)
 have HM := Lib.hid (fun w => Pg.refMay_any ⟨1, a, v⟩ w)
 obtain ⟨hok, ha0, ha1⟩ := ok_of_adOk ha
 have hb := sz_bound c hok
 obtain ⟨m, hmm, hm8⟩ : ∃ m : Nat, a % c.wo = m ∧ m < 8 := ⟨(a % c.wo).toNat, by
  have := Int.emod_nonneg a (show c.wo ≠ 0 by omega)
  omega, by
  have := Int.emod_lt_of_pos a (show 0 < c.wo by omega)
  omega⟩
 rw [chk_ok hok] at HC
 rw [hm] at HM
 have hbb := mul_bound c.wo c.li hb.1 hb.2
 have hwr : wrap64 (c.wo * c.li) = c.wo * c.li := Ar.wrap_small _ (by omega) (by omega)
 have hlt : ¬ c.wo * c.li ≤ a := by omega
 have hne : ¬ c.wo = 0 := by omega
 have hmd : a.tmod c.wo = m := by rw [Int.tmod_eq_emod_of_nonneg ha0, hmm]
 rw [hmm, Int.toNat_natCast]
 have hm0 : (0 : Int) ≤ (m : Int) := by omega
 have hm7 : (m : Int) < 8 := by omega
 have HMM := Lib.hid (Me.word_cell d m hm8)
 have HSW := Lib.hid (fun (w1 : World) (b : Nat) (h : w1.heap[b]? = some (.cells (dcells d) 36 (0, 0))) => Me.set_words h m hm8 v)
 show Calls _ _ _ _ (RetN (d.put m (d.at m)) _ 0 _)
 rw [put_self d m hm8]
 have ha16 : a ≤ 8191 := by omega
 generalize hdv : d.at m = dv at *
 clear ha hm hb hbb hmm hok hdv ha1 hm8
 go_enter Tryz.func90, Tryz.ntmps90
 go_wp2_with fail
 refine (HC.out _).mono ?_
 rintro e w1 ⟨rfl, hb1⟩
 have H1 := Lib.hid (H0.out.step hb1)
 have hop := c_cell H1.out.c2
 clear hb1 H0
 go_wp2_with fail
 refine (HM.out _).mono ?_
 rintro e w2 ⟨rfl, hb2⟩
 have H2 := Lib.hid (H1.out.step hb2)
 have hop := c_cell H2.out.c2
 have hcf := c_cell H2.out.c0
 have hwd := c_cell H2.out.c1
 clear hb2 H1
 have hcm := (c_cell H2.out.c1 m).trans HMM.out
 have h4 := H2.out.c3
 have h1 := H2.out.c1
 clear hwd
 go_wp2_with (first
  | ((with_reducible refine wpList_load_row (o := ⟨some 53, _, _, _, _, _⟩) rfl 36 (.tmp 4) rfl (w.heap.size + 1) ?lx 36 (dcells d) (0, 0) _ ?lg Tryz.underlying36 ?ld ?li ?_); (case lx => rfl); (case lg => exact h1); (case ld => rfl); (case li => kernel_rfl))
  | ((with_reducible refine wpList_store_row (o := ⟨none, _, _, _, _, _⟩) rfl 36 (.tmp 6) (.tmp 53) rfl (w.heap.size + 3) (dcells d) ?sx ?sy 36 ?old ?sg ?si ?so ?s1 ?_); (case sx => rfl); (case sy => rfl); (case old => exact dcells d0); (case sg => exact h4); (case si => kernel_rfl); (case so => rfl); (case s1 => kernel_rfl)))
 exact dap_ret rfl rfl rfl rfl (setRow_heap _ _ _ _ _ _ h4) (below_setRow H2.out.bl (by omega) _)
set_option maxRecDepth 100000 in
set_option maxHeartbeats 2000000 in
theorem dap_good2 (c : Cfg) (d : Wd) (a v : Int) (w : World) (ha : adOk c a = true) (hm : Pg.mayB ⟨2, a, v⟩ = true) :
  Calls Tryz.prog 90 #[cv c, .agg (dcells d), Pg.ov ⟨2, a, v⟩] w (RetN (d.put (a % c.wo).toNat (Me.lft (d.at (a % c.wo).toNat) ⟨2, a, v⟩)) (Me.tld (d.at (a % c.wo).toNat) ⟨2, a, v⟩) 0 (Below w.heap.size w)) := by
 have H0 := Lib.hid (Me.H4.new w (.cells (ccells c) 24) (.cells (dcells d) 36) (.cells #[.int .i64 2, .int .i64 a, .int .i64 v] 43) (.cells (dcells d0) 36))
 have HC := Lib.hid (fun w => refCheck_any c w)
 have HM := Lib.hid (fun w => Pg.refMay_any ⟨2, a, v⟩ w)
 obtain ⟨hok, ha0, ha1⟩ := ok_of_adOk ha
 have hb := sz_bound c hok
 obtain ⟨m, hmm, hm8⟩ : ∃ m : Nat, a % c.wo = m ∧ m < 8 := ⟨(a % c.wo).toNat, by
  have := Int.emod_nonneg a (show c.wo ≠ 0 by omega)
  omega, by
  have := Int.emod_lt_of_pos a (show 0 < c.wo by omega)
  omega⟩
 rw [chk_ok hok] at HC
 rw [hm] at HM
 have hbb := mul_bound c.wo c.li hb.1 hb.2
 have hwr : wrap64 (c.wo * c.li) = c.wo * c.li := Ar.wrap_small _ (by omega) (by omega)
 have hlt : ¬ c.wo * c.li ≤ a := by omega
 have hne : ¬ c.wo = 0 := by omega
 have hmd : a.tmod c.wo = m := by rw [Int.tmod_eq_emod_of_nonneg ha0, hmm]
 rw [hmm, Int.toNat_natCast]
 have hm0 : (0 : Int) ≤ (m : Int) := by omega
 have hm7 : (m : Int) < 8 := by omega
 have HMM := Lib.hid (Me.word_cell d m hm8)
 have HSW := Lib.hid (fun (w1 : World) (b : Nat) (h : w1.heap[b]? = some (.cells (dcells d) 36 (0, 0))) => Me.set_words h m hm8 v)
 obtain ⟨D, hD⟩ : ∃ D, D = d.put m v := ⟨_, rfl⟩
 rw [← hD] at HSW
 show Calls _ _ _ _ (RetN (d.put m v) _ 0 _)
 rw [← hD]
 clear hD
 have ha16 : a ≤ 8191 := by omega
 generalize hdv : d.at m = dv at *
 clear ha hm hb hbb hmm hok hdv ha1 hm8
 go_enter Tryz.func90, Tryz.ntmps90
 go_wp2_with fail
 refine (HC.out _).mono ?_
 rintro e w1 ⟨rfl, hb1⟩
 have H1 := Lib.hid (H0.out.step hb1)
 have hop := c_cell H1.out.c2
 clear hb1 H0
 go_wp2_with fail
 refine (HM.out _).mono ?_
 rintro e w2 ⟨rfl, hb2⟩
 have H2 := Lib.hid (H1.out.step hb2)
 have hop := c_cell H2.out.c2
 have hcf := c_cell H2.out.c0
 have hwd := c_cell H2.out.c1
 clear hb2 H1
 have hcm := (c_cell H2.out.c1 m).trans HMM.out
 clear hwd
 have q2 : w2.frozen? ⟨w.heap.size + 1, m, none⟩ = false := Me.blk_free H2.out.c1 m
 have q3 := HSW.out _ _ H2.out.c1
 have q4 : (w2.setCell ⟨w.heap.size + 1, m, none⟩ (.int .i64 v)).heap[w.heap.size + 3]? = some (.cells (dcells d0) 36 (0, 0)) := (heap_setCell_other _ _ _ _ (by show w.heap.size + 3 ≠ w.heap.size + 1; omega)).trans H2.out.c3
 have q5 : Below w.heap.size w (w2.setCell ⟨w.heap.size + 1, m, none⟩ (.int .i64 v)) := H2.out.bl.trans ⟨rfl, rfl, rfl, by simp, fun j hj => heap_setCell_other _ _ _ _ (by show j ≠ w.heap.size + 1; omega)⟩
 go_wp2_with (first
  | ((with_reducible refine wpList_load_row (o := ⟨some 53, _, _, _, _, _⟩) rfl 36 (.tmp 4) rfl (w.heap.size + 1) ?lx 36 (dcells D) (0, 0) _ ?lg Tryz.underlying36 ?ld ?li ?_); (case lx => rfl); (case lg => exact q3); (case ld => rfl); (case li => kernel_rfl))
  | ((with_reducible refine wpList_store_row (o := ⟨none, _, _, _, _, _⟩) rfl 36 (.tmp 6) (.tmp 53) rfl (w.heap.size + 3) (dcells D) ?sx ?sy 36 ?old ?sg ?si ?so ?s1 ?_); (case sx => rfl); (case sy => rfl); (case old => exact dcells d0); (case sg => exact q4); (case si => kernel_rfl); (case so => rfl); (case s1 => kernel_rfl)))
 exact dap_ret rfl rfl rfl rfl (setRow_heap _ _ _ _ _ _ q4) (below_setRow q5 (by omega) _)
set_option maxRecDepth 100000 in
set_option maxHeartbeats 2000000 in
theorem dap_good3 (c : Cfg) (d : Wd) (a v : Int) (w : World) (ha : adOk c a = true) (hm : Pg.mayB ⟨3, a, v⟩ = true) :
  Calls Tryz.prog 90 #[cv c, .agg (dcells d), Pg.ov ⟨3, a, v⟩] w (RetN (d.put (a % c.wo).toNat (Me.lft (d.at (a % c.wo).toNat) ⟨3, a, v⟩)) (Me.tld (d.at (a % c.wo).toNat) ⟨3, a, v⟩) 0 (Below w.heap.size w)) := by
 have H0 := Lib.hid (Me.H4.new w (.cells (ccells c) 24) (.cells (dcells d) 36) (.cells #[.int .i64 3, .int .i64 a, .int .i64 v] 43) (.cells (dcells d0) 36))
 have HC := Lib.hid (fun w => refCheck_any c w)
 have HM := Lib.hid (fun w => Pg.refMay_any ⟨3, a, v⟩ w)
 obtain ⟨hok, ha0, ha1⟩ := ok_of_adOk ha
 have hb := sz_bound c hok
 obtain ⟨m, hmm, hm8⟩ : ∃ m : Nat, a % c.wo = m ∧ m < 8 := ⟨(a % c.wo).toNat, by
  have := Int.emod_nonneg a (show c.wo ≠ 0 by omega)
  omega, by
  have := Int.emod_lt_of_pos a (show 0 < c.wo by omega)
  omega⟩
 rw [chk_ok hok] at HC
 rw [hm] at HM
 have hbb := mul_bound c.wo c.li hb.1 hb.2
 have hwr : wrap64 (c.wo * c.li) = c.wo * c.li := Ar.wrap_small _ (by omega) (by omega)
 have hlt : ¬ c.wo * c.li ≤ a := by omega
 have hne : ¬ c.wo = 0 := by omega
 have hmd : a.tmod c.wo = m := by rw [Int.tmod_eq_emod_of_nonneg ha0, hmm]
 rw [hmm, Int.toNat_natCast]
 have hm0 : (0 : Int) ≤ (m : Int) := by omega
 have hm7 : (m : Int) < 8 := by omega
 have HMM := Lib.hid (Me.word_cell d m hm8)
 have HSW := Lib.hid (fun (w1 : World) (b : Nat) (h : w1.heap[b]? = some (.cells (dcells d) 36 (0, 0))) => Me.set_words h m hm8 v)
 obtain ⟨D, hD⟩ : ∃ D, D = d.put m v := ⟨_, rfl⟩
 rw [← hD] at HSW
 show Calls _ _ _ _ (RetN (d.put m v) _ 0 _)
 rw [← hD]
 clear hD
 have ha16 : a ≤ 8191 := by omega
 generalize hdv : d.at m = dv at *
 clear ha hm hb hbb hmm hok hdv ha1 hm8
 go_enter Tryz.func90, Tryz.ntmps90
 go_wp2_with fail
 refine (HC.out _).mono ?_
 rintro e w1 ⟨rfl, hb1⟩
 have H1 := Lib.hid (H0.out.step hb1)
 have hop := c_cell H1.out.c2
 clear hb1 H0
 go_wp2_with fail
 refine (HM.out _).mono ?_
 rintro e w2 ⟨rfl, hb2⟩
 have H2 := Lib.hid (H1.out.step hb2)
 have hop := c_cell H2.out.c2
 have hcf := c_cell H2.out.c0
 have hwd := c_cell H2.out.c1
 clear hb2 H1
 have hcm := (c_cell H2.out.c1 m).trans HMM.out
 clear hwd
 have q2 : w2.frozen? ⟨w.heap.size + 1, m, none⟩ = false := Me.blk_free H2.out.c1 m
 have q3 := HSW.out _ _ H2.out.c1
 have q4 : (w2.setCell ⟨w.heap.size + 1, m, none⟩ (.int .i64 v)).heap[w.heap.size + 3]? = some (.cells (dcells d0) 36 (0, 0)) := (heap_setCell_other _ _ _ _ (by show w.heap.size + 3 ≠ w.heap.size + 1; omega)).trans H2.out.c3
 have q5 : Below w.heap.size w (w2.setCell ⟨w.heap.size + 1, m, none⟩ (.int .i64 v)) := H2.out.bl.trans ⟨rfl, rfl, rfl, by simp, fun j hj => heap_setCell_other _ _ _ _ (by show j ≠ w.heap.size + 1; omega)⟩
 go_wp2_with (first
  | ((with_reducible refine wpList_load_row (o := ⟨some 53, _, _, _, _, _⟩) rfl 36 (.tmp 4) rfl (w.heap.size + 1) ?lx 36 (dcells D) (0, 0) _ ?lg Tryz.underlying36 ?ld ?li ?_); (case lx => rfl); (case lg => exact q3); (case ld => rfl); (case li => kernel_rfl))
  | ((with_reducible refine wpList_store_row (o := ⟨none, _, _, _, _, _⟩) rfl 36 (.tmp 6) (.tmp 53) rfl (w.heap.size + 3) (dcells D) ?sx ?sy 36 ?old ?sg ?si ?so ?s1 ?_); (case sx => rfl); (case sy => rfl); (case old => exact dcells d0); (case sg => exact q4); (case si => kernel_rfl); (case so => rfl); (case s1 => kernel_rfl)))
 exact dap_ret rfl rfl rfl rfl (setRow_heap _ _ _ _ _ _ q4) (below_setRow q5 (by omega) _)

theorem dapply (c : Cfg) (d : Wd) (x : Pg.Op) (w : World) :
  Calls Tryz.prog 90 #[cv c, .agg (dcells d), Pg.ov x] w (RetN (Me.apP c d x).1 (Me.apP c d x).2.1 (Me.apP c d x).2.2 (Below w.heap.size w)) := by
 obtain ⟨k, a, v⟩ := x
 by_cases h : adOk c a = true ∧ Pg.mayB ⟨k, a, v⟩ = true ∧ k ≠ 4
 ·have e : Me.apP c d ⟨k, a, v⟩ = _ := if_pos h
  rw [e]
  obtain ⟨h1, h2, h3⟩ := h
  rcases (Pg.may_iff.1 h2).2.2.2.2 with e1 | e1 | e1 | e1
  ·obtain rfl : k = 2 := e1
   exact dap_good2 c d a v w h1 h2
  ·obtain rfl : k = 3 := e1
   exact dap_good3 c d a v w h1 h2
  ·obtain rfl : k = 1 := e1.1
   exact dap_good1 c d a v w h1 h2
  ·exact absurd e1.1 h3
 ·have e : Me.apP c d ⟨k, a, v⟩ = _ := if_neg h
  rw [e]
  rcases Bool.eq_false_or_eq_true (okC c) with hok | hok
  ·rcases Bool.eq_false_or_eq_true (Pg.mayB ⟨k, a, v⟩) with hm | hm
   ·by_cases hk : k = 4
    ·exact dap_bad2 c d k a v w hok hm (by simpa using hk)
    ·refine dap_bad3 c d k a v w hok hm (by simpa using hk) (Classical.byContradiction fun q => h ⟨?_, hm, hk⟩)
     have := (Pg.may_iff.1 hm).1
     simp only [adOk, sz, hok, if_true, inR, Bool.and_eq_true, decide_eq_true_eq]
     exact ⟨this, by omega⟩
   ·exact dap_bad1 c d k a v w hok hm
  ·exact dap_bad0 c d k a v w hok

end Go.Proofs.YtlfhkjjjocmpbaaGreatDoor.Cc
