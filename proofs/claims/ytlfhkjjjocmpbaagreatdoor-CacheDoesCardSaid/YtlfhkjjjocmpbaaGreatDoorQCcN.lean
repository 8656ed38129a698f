import Derived.Test.YtlfhkjjjocmpbaaGreatDoorSx
import Derived.Test.YtlfhkjjjocmpbaaGreatDoorQGcE

namespace Go.Proofs.YtlfhkjjjocmpbaaGreatDoor.Cc
open Go Go.RowKit

variable {w0 w w' : World} {bx : Bx} {K : Kb} {c : Cfg} {core n : Int} {s : St}

def emp (c : Cfg) : St := ⟨List.replicate (c.se.toNat * c.wa.toNat) Ar.y0, [], []⟩
theorem Sp.nil (h : Below w0.heap.size w0 w) : Sp w0 [] w := ⟨fun p hp => (by cases hp), (by simp), h⟩

theorem own_new {ty : Tys} {a g f b k : Nat} {w1 w2 w3 w4 : World} (h0 : Below w0.heap.size w0 w) (tb : Tb w0) (ha : Ar.Ar w1 a g c (emp c).A) (hga : w.heap.size ≤ a) (hgg : w.heap.size ≤ g) (hb1 : Below w.heap.size w w1)
  (hm : 1 ≤ c.ms ∧ c.ms ≤ 8) (hw : 1 ≤ c.wb ∧ c.wb ≤ 8) (hf : w1.heap.size = f) (e2 : w1.alloc (.cells #[.int .i64 c.ms, .slice none 0 0] ty.ft) = w2) (hb : w2.heap.size = b) (e3 : w2.alloc (.cells #[.int .i64 c.wb, .slice none 0 0] ty.bt) = w3) (hk : w3.heap.size = k)
  (e4 : w3.alloc (.cells (kcells c core ⟨k, a, f, b⟩) ty.t) = w4) : Own ty w0 ⟨k, a, f, b⟩ c core 0 (emp c) [] w4 := by
 obtain ⟨xs, x1, x2, x3⟩ := ar_boxes ha
 have s1 : Sp w0 (xs ++ []) w1 := Sp.swap (xs := []) (rest := []) (Sp.nil h0) ⟨hb1.os, hb1.tape, hb1.output, hb1.size⟩ (fun k hk _ => hb1.block k hk) x2 (fun p hp => .inr (by
  have : p.1 ∈ xs.map Prod.fst := List.mem_map.2 ⟨p, hp, rfl⟩
  rw [x1] at this
  simp only [List.mem_cons, List.not_mem_nil, or_false] at this
  rcases this with e | e <;> rw [e] <;> assumption)) (by rw [x1]; simpa using ha.ne)
 rw [List.append_nil] at s1
 have s2 := s1.add (.cells #[.int .i64 c.ms, .slice none 0 0] ty.ft)
 rw [hf, e2] at s2
 have s3 := s2.add (.cells #[.int .i64 c.wb, .slice none 0 0] ty.bt)
 rw [hb, e3] at s3
 have s4 := s3.add (.cells (kcells c core ⟨k, a, f, b⟩) ty.t)
 rw [hk, e4] at s4
 have hB1 : w0.heap.size ≤ f := (s4.ok (f, _) mz2).2
 have hB2 : w0.heap.size ≤ b := (s4.ok (b, _) mz1).2
 refine ⟨⟨xs, [(f, .cells #[.int .i64 c.ms, .slice none 0 0] ty.ft)], [(b, .cells #[.int .i64 c.wb, .slice none 0 0] ty.bt)], ⟨⟨g, x1, x3⟩, Ar.good_new _ _⟩, ⟨⟨.slice none 0 0, fun n => by simp [Value.ownBlock], fun W hW => ⟨hW _ mz0, World.ownsRow_nil _ _ _ _, by simp [Value.ownBlock], hB1⟩⟩, Mh.Good.new hm.1 hm.2, by omega⟩, ⟨⟨.slice none 0 0, fun n => by simp [Value.ownBlock], fun W hW => ⟨hW _ mz0, World.ownsRow_nil _ _ _ _, by simp [Value.ownBlock], hB2⟩⟩, Wb.Good.new hw.1 hw.2⟩, s4.perm ?_⟩, tb⟩
 generalize (k, Obj.cells (kcells c core ⟨k, a, f, b⟩) ty.t) = p
 generalize (b, Obj.cells #[.int .i64 c.wb, .slice none 0 0] ty.bt) = q
 generalize (f, Obj.cells #[.int .i64 c.ms, .slice none 0 0] ty.ft) = r
 have e : (p :: q :: r :: xs).Perm ([r, q, p] ++ xs) := ((List.Perm.swap q p (r :: xs)).trans (((List.Perm.swap r p xs).cons q).trans (List.Perm.swap r q (p :: xs)))).symm.symm
 exact e.trans List.perm_append_comm

theorem ok_rooms {c : Cfg} (h : okC c = true) : (1 ≤ c.co ∧ c.co ≤ 64) ∧ (1 ≤ c.ms ∧ c.ms ≤ 8) ∧ (1 ≤ c.wb ∧ c.wb ≤ 8) := by
 rw [okC_eq] at h
 simp [inB] at h
 omega
abbrev NoC (w : World) (e : Ending) (w' : World) : Prop := e = .returned (.tuple #[.pointer none, .int .i64 1]) ∧ Below w.heap.size w w'
theorem cnew_bad (c : Cfg) (core : Int) (w : World) (hc : c.fits) (h : okC c = false) :
  Calls Tryz.prog 10 #[cv c, .int .i64 core] w (NoC w) := by
 have HN := Lib.hid (fun w => Ar.new_no c w hc h)
 have hz := b_alloc w (.cells (ccells c) 24)
 clear hc h
 go_enter Tryz.func10, Tryz.ntmps10
 go_wp2_with fail
 refine (HN.out _).mono ?_
 rintro e w1 ⟨rfl, hb1⟩
 go_wp2
 go_ret2
 exact ⟨rfl, hz.trans (hb1.mono (by simp))⟩
theorem cnew_core (c : Cfg) (core : Int) (w : World) (hc : c.fits) (h : okC c = true) (hr : core < 0 ∨ c.co ≤ core) :
  Calls Tryz.prog 10 #[cv c, .int .i64 core] w (NoC w) := by
 have HN := Lib.hid (fun w => Ar.new_yes c w hc h)
 have hz := b_alloc w (.cells (ccells c) 24)
 have HZ := Lib.hid hz
 clear hc h hz
 rcases (show core < 0 ∨ 0 ≤ core ∧ c.co ≤ core by omega) with h1 | ⟨h1, h2⟩
 all_goals
  go_enter Tryz.func10, Tryz.ntmps10
  go_wp2_with fail
  refine (HN.out _).mono ?_
  rintro e w1 ⟨a, g, rfl, -, -, -, hb1⟩
  have HB := Lib.hid (HZ.out.trans (hb1.mono (by simp)))
  have hcc := c_cell ((hb1.block w.heap.size (by simp)).trans (heap_alloc_new w (.cells (ccells c) 24)))
  clear hb1
  go_wp2
  go_ret2
  exact ⟨rfl, HB.out⟩
set_option maxHeartbeats 1000000 in
theorem cnew_ok (c : Cfg) (core : Int) (h0 : Below w0.heap.size w0 w) (tb : Tb w0) (hc : c.fits) (h : okC c = true) (h1 : 0 ≤ core) (h2 : core < c.co) :
  Calls Tryz.prog 10 #[cv c, .int .i64 core] w fun e w' => ∃ K : Kb, e = .returned (.tuple #[ptr K.k, .int .i64 0]) ∧ OwnP w0 K c core 0 (emp c) [] w' ∧ Below w.heap.size w w' := by
 have hr := ok_rooms h
 have HN := Lib.hid (fun w => Ar.new_yes c w hc h)
 have HM := Lib.hid (fun w => Mh.new_yes c.ms w hr.2.1.1 hr.2.1.2)
 have HW := Lib.hid (fun w => Wb.new_yes c.wb w hr.2.2.1 hr.2.2.2)
 have hz := b_alloc w (.cells (ccells c) 24)
 have HZ := Lib.hid hz
 have HO := Lib.hid (fun (a g f b k : Nat) (w1 w2 w3 w4 : World) ha hga hgg hb1 => @own_new w0 (w.alloc (.cells (ccells c) 24)) c core tyP a g f b k w1 w2 w3 w4 (h0.trans (hz.mono h0.size)) tb ha hga hgg hb1 hr.2.1 hr.2.2)
 clear hc h hz h0 tb hr
 go_enter Tryz.func10, Tryz.ntmps10
 go_wp2_with fail
 refine (HN.out _).mono ?_
 rintro e w1 ⟨a, g, rfl, ha, hga, hgg, hb1⟩
 have HO1 := Lib.hid (fun (f b k : Nat) (w2 w3 w4 : World) => HO.out a g f b k w1 w2 w3 w4 ha hga hgg hb1)
 have HB := Lib.hid (HZ.out.trans (hb1.mono (by simp)))
 have hcb := (hb1.block w.heap.size (by simp)).trans (heap_alloc_new w (.cells (ccells c) 24))
 have HC := Lib.hid hcb
 have hcc := c_cell hcb
 clear hb1 ha hga hgg hcb HO
 go_wp2_with fail
 refine (HM.out _).mono ?_
 rintro e w2 ⟨rfl, e2⟩
 have HB2 := Lib.hid (show Below w.heap.size w w2 from by rw [← e2]; exact b_step HB.out (b_alloc _ _))
 have E2 := Lib.hid e2
 have hc2b : w2.heap[w.heap.size]? = some (.cells (ccells c) 24 (0, 0)) := (by rw [← e2, heap_alloc_old _ _ (lt_blk HC.out)]; exact HC.out)
 have HC2 := Lib.hid hc2b
 have hcc2 := c_cell hc2b
 clear e2 hcc hc2b
 go_wp2_with fail
 refine (HW.out _).mono ?_
 rintro e w3 ⟨rfl, e3⟩
 have HB3 := Lib.hid (show Below w.heap.size w w3 from by rw [← e3]; exact b_step HB2.out (b_alloc _ _))
 have E3 := Lib.hid e3
 have hcc3 := c_cell (show w3.heap[w.heap.size]? = some (.cells (ccells c) 24 (0, 0)) from (by rw [← e3, heap_alloc_old _ _ (lt_blk HC2.out)]; exact HC2.out))
 clear e3 hcc2
 go_wp2
 go_ret2
 exact ⟨⟨w3.heap.size, a, w1.heap.size, w2.heap.size⟩, rfl, HO1.out _ _ _ _ _ _ rfl E2.out rfl E3.out rfl rfl, b_step HB3.out (b_alloc _ _)⟩

def largeB (c : Cfg) : Bool := decide (64 < c.li) && decide (c.li ≤ 1024)
theorem large_any (c : Cfg) (w : World) :
  Calls Tryz.prog 9 #[cv c] w fun e w' => e = .returned (.bool (largeB c)) ∧ Below w.heap.size w w' := by
 have hz := b_alloc w (.cells (ccells c) 24)
 have HZ := Lib.hid hz
 clear hz
 rcases (show c.li ≤ 64 ∨ 64 < c.li by omega) with h | h
 ·have HT : Hid (largeB c = false) := Lib.hid (by simp [largeB]; omega)
  go_enter Tryz.func9, Tryz.ntmps9
  go_wp2
  go_ret
  exact ⟨ret_bool HT.out.symm, HZ.out⟩
 ·have HT : Hid (largeB c = decide (c.li ≤ 1024)) := Lib.hid (by simp [largeB, h])
  go_enter Tryz.func9, Tryz.ntmps9
  go_wp2
  all_goals go_ret
  all_goals exact ⟨ret_bool (by rw [HT.out]; try simp_all), HZ.out⟩

end Go.Proofs.YtlfhkjjjocmpbaaGreatDoor.Cc
