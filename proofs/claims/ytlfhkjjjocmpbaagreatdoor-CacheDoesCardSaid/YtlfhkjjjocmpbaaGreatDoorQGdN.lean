import Derived.Test.YtlfhkjjjocmpbaaGreatDoorQGdA
import Derived.Test.YtlfhkjjjocmpbaaGreatDoorQCcN
import Derived.Test.YtlfhkjjjocmpbaaGreatDoorQCdO
import Derived.Test.YtlfhkjjjocmpbaaGreatDoorQGcY

namespace Go.Proofs.YtlfhkjjjocmpbaaGreatDoor.Cc
open Go Go.RowKit

variable {w0 w w' : World} {bx : Bx} {K : Kb} {c : Cfg} {core n : Int} {s : St}
theorem dnew_no (c : Cfg) (core : Int) (w : World) (hr : okC c = false ∨ okC c = true ∧ (core < 0 ∨ 0 ≤ core ∧ c.co ≤ core)) :
  Calls Tryz.prog 11 #[cv c, .int .i64 core] w (NoC w) := by
 have HCk := Lib.hid (fun w => refCheck_any c w)
 have hz := b_alloc w (.cells (ccells c) 24)
 have HZ := Lib.hid hz
 have hq : (chk c != 0) = true ∨ (chk c != 0) = false ∧ (core < 0 ∨ ¬ core < 0 ∧ c.co ≤ core) := by
  rcases hr with a | ⟨a, b⟩
  ·exact .inl (by rw [chk_no c a]; rfl)
  ·exact .inr ⟨by rw [chk_ok a]; rfl, by omega⟩
 generalize chk c = ck at *
 clear hz hr
 rcases hq with g1 | ⟨g1, g2 | ⟨g2, g3⟩⟩
 all_goals
  go_enter Tryz.func11, Tryz.ntmps11
  go_wp2_with fail
  refine (HCk.out _).mono ?_
  rintro e w1 ⟨rfl, hb1⟩
  have HB := Lib.hid (HZ.out.trans (hb1.mono (by simp)))
  have hcc := c_cell ((hb1.block w.heap.size (by simp)).trans (heap_alloc_new w (.cells (ccells c) 24)))
  clear hb1
  go_wp2
  go_ret2
  exact ⟨rfl, HB.out⟩
set_option maxHeartbeats 1000000 in
theorem dnew_ok (c : Cfg) (core : Int) (h0 : Below w0.heap.size w0 w) (tb : Tb w0) (hc : c.fits) (h : okC c = true) (h1 : 0 ≤ core) (h2 : core < c.co) :
  Calls Tryz.prog 11 #[cv c, .int .i64 core] w fun e w' => ∃ K : Kb, e = .returned (.tuple #[ptr K.k, .int .i64 0]) ∧ OwnD w0 K c core 0 (emp c) [] w' ∧ Below w.heap.size w w' := by
 have hr := ok_rooms h
 have HN := Lib.hid (fun w => Ar.refNew_yes c w hc h)
 have HM := Lib.hid (fun w => Mh.refNew_yes c.ms w hr.2.1.1 hr.2.1.2)
 have HW := Lib.hid (fun w => Wb.refNew_yes c.wb w hr.2.2.1 hr.2.2.2)
 have hz := b_alloc w (.cells (ccells c) 24)
 have HZ := Lib.hid hz
 have HO := Lib.hid (fun (v1 : World) (hv : Below w.heap.size w v1) (a g f b k : Nat) (w1 w2 w3 w4 : World) ha hga hgg hb1 => @own_new w0 v1 c core tyD a g f b k w1 w2 w3 w4 (h0.trans (hv.mono h0.size)) tb ha hga hgg hb1 hr.2.1 hr.2.2)
 have HCk := Lib.hid (fun w => refCheck_any c w)
 rw [chk_ok h] at HCk
 have g1 : ¬ core < 0 := by omega
 have g2 : ¬ c.co ≤ core := by omega
 clear hc h hz h0 tb hr h1 h2
 go_enter Tryz.func11, Tryz.ntmps11
 go_wp2_with fail
 refine (HCk.out _).mono ?_
 rintro e v1 ⟨rfl, hv1⟩
 have HV := Lib.hid (HZ.out.trans (hv1.mono (by simp)))
 have hvb := (hv1.block w.heap.size (by simp)).trans (heap_alloc_new w (.cells (ccells c) 24))
 have HVb := Lib.hid hvb
 have hvc := c_cell hvb
 clear hv1 hvb HCk
 go_wp2_with fail
 refine (HN.out _).mono ?_
 rintro e w1 ⟨a, g, rfl, ha, hga, hgg, hb1⟩
 have HO1 := Lib.hid (fun (f b k : Nat) (w2 w3 w4 : World) => HO.out v1 HV.out a g f b k w1 w2 w3 w4 ha hga hgg hb1)
 have HB := Lib.hid (b_step HV.out hb1)
 have hcb := (hb1.block w.heap.size (lt_blk HVb.out)).trans HVb.out
 have HC := Lib.hid hcb
 have hcc := c_cell hcb
 clear hb1 ha hga hgg hcb HO hvc
 go_wp2_with fail
 refine (HM.out _).mono ?_
 rintro e w2 ⟨rfl, e2⟩
 have HB2 := Lib.hid (show Below w.heap.size w w2 from by rw [← e2]; exact b_step HB.out (b_alloc _ _))
 have E2 := Lib.hid e2
 have hc2b : w2.heap[w.heap.size]? = some (.cells (ccells c) 24 (0, 0)) := (by rw [← e2, heap_alloc_old _ _ (lt_blk HC.out)]; exact HC.out)
 have HC2 := Lib.hid hc2b
 have hcc2 := c_cell hc2b
 clear e2 hcc hc2b
 go_wp2_with fail
 refine (HW.out _).mono ?_
 rintro e w3 ⟨rfl, e3⟩
 have HB3 := Lib.hid (show Below w.heap.size w w3 from by rw [← e3]; exact b_step HB2.out (b_alloc _ _))
 have E3 := Lib.hid e3
 have hcc3 := c_cell (show w3.heap[w.heap.size]? = some (.cells (ccells c) 24 (0, 0)) from (by rw [← e3, heap_alloc_old _ _ (lt_blk HC2.out)]; exact HC2.out))
 clear e3 hcc2
 go_wp2
 go_ret2
 exact ⟨⟨w3.heap.size, a, w1.heap.size, w2.heap.size⟩, rfl, HO1.out _ _ _ _ _ _ rfl E2.out rfl E3.out rfl rfl, b_step HB3.out (b_alloc _ _)⟩

end Go.Proofs.YtlfhkjjjocmpbaaGreatDoor.Cc

namespace Go.Proofs.YtlfhkjjjocmpbaaGreatDoor.Cc
open Go Go.RowKit

variable {w0 w w' : World} {bx : Bx} {K L : Kb} {c : Cfg} {core n m : Int} {s t : St}

def Part (ty : Tys) (w0 : World) (K : Kb) (c : Cfg) (core n : Int) (s : St) (xs : Bx) : Prop :=
 ∃ xa xf xb, ArT K.a c s.A xa ∧ FlT ty.ft ty.fe w0.heap.size K.f c.ms n s.F xf ∧ BfT ty.bt ty.be w0.heap.size K.b c.wb s.B xb ∧ xs = xa ++ (xf ++ (xb ++ [(K.k, .cells (kcells c core K) ty.t (0, 0))]))
theorem Own.part {ty : Tys} (h : Own ty w0 K c core n s bx w) : ∃ xs, Part ty w0 K c core n s xs ∧ Sp w0 (xs ++ bx) w := by
 obtain ⟨xa, xf, xb, h1, h2, h3, h4⟩ := h.ex
 exact ⟨_, ⟨xa, xf, xb, h1, h2, h3, rfl⟩, by simpa using h4⟩
theorem Part.own {ty : Tys} {xs : Bx} (h : Part ty w0 K c core n s xs) (hs : Sp w0 (xs ++ bx) w) (tb : Tb w0) : Own ty w0 K c core n s bx w := by
 obtain ⟨xa, xf, xb, h1, h2, h3, rfl⟩ := h
 exact ⟨⟨xa, xf, xb, h1, h2, h3, by simpa using hs⟩, tb⟩

theorem Own.turn {ty ty' : Tys} {ys : Bx} (h : Own ty w0 K c core n s (ys ++ bx) w) (hp : Part ty' w0 L c core m t ys) : ∃ xs, Part ty w0 K c core n s xs ∧ Own ty' w0 L c core m t (xs ++ bx) w := by
 obtain ⟨xs, h1, h2⟩ := h.part
 exact ⟨xs, h1, hp.own (h2.perm mid_perm) h.tb⟩
theorem Own.behind {ty : Tys} {p : Nat × Obj} {ys : Bx} (h : Own ty w0 K c core n s (p :: (ys ++ bx)) w) : Own ty w0 K c core n s (ys ++ (p :: bx)) w := h.perm List.perm_middle.symm
theorem Own.dropB {ty : Tys} {p : Nat × Obj} {ys : Bx} (h : Own ty w0 K c core n s (ys ++ (p :: bx)) w) : Own ty w0 K c core n s (ys ++ bx) w := (h.perm List.perm_middle).drop

theorem Own.beside {ty ty' : Tys} (h : Own ty w0 K c core n s bx w) (h2 : Own ty' w L c core m t [] w') : ∃ xs, Part ty w0 K c core n s xs ∧ Own ty' w0 L c core m t (xs ++ bx) w' := by
 obtain ⟨xs, h1, hs⟩ := h.part
 exact ⟨xs, h1, h2.rebase hs h.tb⟩

theorem Own.views {ty : Tys} (h : Own ty w0 K c core n s bx w) : ∃ g p2 c2 p3 c3, ∀ W, Below w.heap.size w W → W.cell? ⟨K.a, 13, none⟩ = some (.slice (some ⟨g, 0, none⟩) s.A.length s.A.length) ∧ W.cell? ⟨K.f, 1, none⟩ = some (.slice p2 s.F.length c2) ∧ W.cell? ⟨K.b, 1, none⟩ = some (.slice p3 s.B.length c3) ∧ RowsIn Ar.yc 11 W (some ⟨g, 0, none⟩) s.A ∧ RowsIn Mh.mc 15 W p2 s.F ∧ RowsIn Wb.mc 10 W p3 s.B := by
 obtain ⟨g, hg⟩ := h.acell
 obtain ⟨g', ha, -⟩ := h.ar
 have hgg := (hg w (Below.refl _ _)).1
 rw [ha.hd 13] at hgg
 obtain rfl : g' = g := by simpa using hgg
 obtain ⟨v, hv, -⟩ := h.fl
 obtain ⟨p2, c2, rfl, r2⟩ := own_rows (f := Mh.mc) (fun _ => rfl) hv.row
 obtain ⟨u, hu, -⟩ := h.bf
 obtain ⟨p3, c3, rfl, r3⟩ := own_rows (f := Wb.mc) (fun _ => rfl) hu.row
 refine ⟨g', p2, c2, p3, c3, fun W hb => ⟨(hg W hb).1, ?_, ?_, fun i x hx => ⟨g', rfl, Nat.lt_of_lt_of_le ha.gl hb.size, (hg W hb).2 i x hx⟩, r2.step hb, r3.step hb⟩⟩
 ·exact (hb.cell (p := ⟨K.f, 1, none⟩) (lt_blk hv.blk)).trans (c_cell hv.blk 1)
 ·exact (hb.cell (p := ⟨K.b, 1, none⟩) (lt_blk hu.blk)).trans (c_cell hu.blk 1)

theorem held_more {P : Program} {md : Region.Mode} {ops : Array Oper} {Q : Exit → Act → World → Prop} {S S' : World → Prop} (hS : ∀ w, S' w → S w) : ∀ (fuel : Nat) (listed : Array Bool) (a : Act) (w : World), wpAnyH P md ops Q S' fuel listed a w → wpAnyH P md ops Q S fuel listed a w
 | 0, _, _, _, h => h
 | fuel + 1, _, _, _, h => ⟨h.1, fun i hi => wpOp_mono (fun _ w' h' => ⟨hS w' h'.1, held_more hS fuel _ _ _ h'.2⟩) (h.2 i hi)⟩

theorem blk_came {F2 : List Mh.Ms} {line er : Int} (hb : Mh.Blk F2) : Mh.Blk (cameP c { s with F := F2 } line er).2.F := by
 unfold cameP
 by_cases he : er = 0
 ·subst he
  rcases ho : Mh.oweP F2 line with ⟨⟨x, q⟩, F3⟩
  have h3 : Mh.Blk F3 := by have := hb.owe line; rwa [ho] at this
  rcases q with _ | _ <;> simpa [ho, setA] using h3
 ·simpa [he] using hb
theorem blk_take {k : Int} (g : Mh.Good c.ms k s.F) (hb : Mh.Blk s.F) (x : Msg) : Mh.Blk (takeP c core s x).2.F := by
 have leave : ∀ f line st, (leaveP c s f line st).2.F = s.F := fun f line st => by unfold leaveP; dsimp only; split <;> rfl
 have tell : ∀ f st ow, (tellP c core s f x st ow).2.F = s.F := fun f st ow => by unfold tellP; dsimp only; split <;> exact leave _ _ _
 unfold takeP
 split
 ·unfold becomeP
  split
  ·rw [tell]; exact hb
  ·split
   ·rw [tell]; exact hb
   ·split
    ·unfold forgetP
     dsimp only
     split
     ·exact hb
     ·split <;> exact hb
    ·split
     ·exact blk_came (hb.data g _ _ _ _)
     ·split
      ·unfold grantP
       split
       ·exact hb
       ·exact blk_came (hb.grant g _ _)
      ·split
       ·exact blk_came (hb.ack _)
       ·unfold dropP
        dsimp only
        split <;> exact hb
 ·exact hb
theorem blk_stp {k : Int} (g : Mh.Good c.ms k s.F) (hb : Mh.Blk s.F) (x : Stp) : Mh.Blk (doS c core s x).2.F := by
 unfold doS
 split
 ·show Mh.Blk (askP c core s x.a x.b).2.F
  unfold askP
  split
  ·exact hb
  ·exact hb.open _ _ _
 ·split
  ·show Mh.Blk (evictP c core s x.a x.b).2.F
   unfold evictP
   dsimp only
   repeat' split
   all_goals exact hb
  ·split
   ·exact blk_take g hb x.m
   ·split
    ·show Mh.Blk (finishP c core s).2.F
     unfold finishP
     split
     ·exact hb.close _
     ·exact hb
    ·show Mh.Blk (doP c s x.x).2.F
     unfold doP
     dsimp only
     repeat' split
     all_goals exact hb

end Go.Proofs.YtlfhkjjjocmpbaaGreatDoor.Cc
