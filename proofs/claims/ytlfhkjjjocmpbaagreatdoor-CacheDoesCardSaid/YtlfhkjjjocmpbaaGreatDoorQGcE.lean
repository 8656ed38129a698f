import Derived.Test.YtlfhkjjjocmpbaaGreatDoorSx
import Derived.Test.YtlfhkjjjocmpbaaGreatDoorQGcB
import Derived.Deep.RegionHeld3

namespace Go.Proofs.YtlfhkjjjocmpbaaGreatDoor.Cc
open Go Go.RowKit

variable {w0 w w' : World} {bx : Bx} {K : Kb} {c : Cfg} {core n : Int} {s : St}
theorem Own.drew {ty : Tys} (h : Own ty w0 K c core n s bx w) : Own ty w0 K c core n s bx w.drew := h.step (Below.refl _ _).drew
theorem Own.drewN {ty : Tys} (h : Own ty w0 K c core n s bx w) (q : Nat) : Own ty w0 K c core n s bx (w.drewN q) := h.step ⟨rfl, rfl, rfl, Nat.le_refl _, fun _ _ => rfl⟩

set_option maxHeartbeats 1000000 in
theorem refusal_line (h : OwnP w0 K c core n s bx w) (line kind : Int) (e1 : (lnE c line != 0) = true) :
  Calls Tryz.prog 57 #[ptr K.k, .int .i64 line, .int .i64 kind] w fun e w' => e = .returned (.int .i64 1) ∧ Below w.heap.size w w' := by
 have HL := Lib.hid (h.line line)
 have HK := Lib.hid (fun w1 (hb : Below w.heap.size w w1) => (h.step hb).look line)
 have HA := Lib.hid (fun w1 (hb : Below w.heap.size w w1) => (h.step hb).add (.cells (Ar.ycells (look c s line)) 66))
 have HB := Lib.hid (fun w1 (hb : Below w.heap.size w w1) => (h.step hb).busy line)
 have HF := Lib.hid (fun w1 (hb : Below w.heap.size w w1) => (h.step hb).mlist)
 have HR := Lib.hid (fun w1 (hb : Below w.heap.size w w1) => (h.step hb).free line)
 have hk := h.kc
 clear h
 generalize look c s line = y at *
 generalize there c s line = q at *
 generalize busyB s line = b at *
 generalize lnE c line = er at *
 generalize Ar.oi (Ar.fre c s.A line) = fr at *
 generalize lnH c line = g1 at *
 generalize lnS c line = g2 at *
 generalize lnT c line = g3 at *
 all_goals
  go_enter Tryz.func57, Tryz.ntmps57
  go_wp2_with fail
  refine HL.out.mono ?_
  rintro e w1 ⟨rfl, hb1⟩
  go_wp2_with fail
  refine (HK.out _ hb1).mono ?_
  rintro e w2 ⟨rfl, hb2⟩
  have B2 := Lib.hid (b_step hb1 hb2)
  have L2 := Lib.hid (HA.out _ B2.out)
  have hk2 := L2.out.kc
  clear hb1 hb2
  have B3 := Lib.hid (b_step B2.out (b_alloc w2 (.cells (Ar.ycells y) 66)))
  go_wp2
  go_ret
  exact ⟨rfl, B3.out⟩

set_option maxHeartbeats 1000000 in
theorem refusal_kind (h : OwnP w0 K c core n s bx w) (line kind : Int) (e1 : (lnE c line != 0) = false) (k1 : (kind != 1) = true) (k2 : (kind != 2) = true) :
  Calls Tryz.prog 57 #[ptr K.k, .int .i64 line, .int .i64 kind] w fun e w' => e = .returned (.int .i64 1) ∧ Below w.heap.size w w' := by
 have HL := Lib.hid (h.line line)
 have HK := Lib.hid (fun w1 (hb : Below w.heap.size w w1) => (h.step hb).look line)
 have HA := Lib.hid (fun w1 (hb : Below w.heap.size w w1) => (h.step hb).add (.cells (Ar.ycells (look c s line)) 66))
 have HB := Lib.hid (fun w1 (hb : Below w.heap.size w w1) => (h.step hb).busy line)
 have HF := Lib.hid (fun w1 (hb : Below w.heap.size w w1) => (h.step hb).mlist)
 have HR := Lib.hid (fun w1 (hb : Below w.heap.size w w1) => (h.step hb).free line)
 have hk := h.kc
 clear h
 generalize look c s line = y at *
 generalize there c s line = q at *
 generalize busyB s line = b at *
 generalize lnE c line = er at *
 generalize Ar.oi (Ar.fre c s.A line) = fr at *
 generalize lnH c line = g1 at *
 generalize lnS c line = g2 at *
 generalize lnT c line = g3 at *
 all_goals
  go_enter Tryz.func57, Tryz.ntmps57
  go_wp2_with fail
  refine HL.out.mono ?_
  rintro e w1 ⟨rfl, hb1⟩
  go_wp2_with fail
  refine (HK.out _ hb1).mono ?_
  rintro e w2 ⟨rfl, hb2⟩
  have B2 := Lib.hid (b_step hb1 hb2)
  have L2 := Lib.hid (HA.out _ B2.out)
  have hk2 := L2.out.kc
  clear hb1 hb2
  have B3 := Lib.hid (b_step B2.out (b_alloc w2 (.cells (Ar.ycells y) 66)))
  go_wp2
  go_ret
  exact ⟨rfl, B3.out⟩

set_option maxHeartbeats 1000000 in
theorem refusal_busy (h : OwnP w0 K c core n s bx w) (line kind : Int) (e1 : (lnE c line != 0) = false) (hkk : kind = 1 ∨ kind = 2) (hb : busyB s line = true) :
  Calls Tryz.prog 57 #[ptr K.k, .int .i64 line, .int .i64 kind] w fun e w' => e = .returned (.int .i64 6) ∧ Below w.heap.size w w' := by
 have HL := Lib.hid (h.line line)
 have HK := Lib.hid (fun w1 (hb : Below w.heap.size w w1) => (h.step hb).look line)
 have HA := Lib.hid (fun w1 (hb : Below w.heap.size w w1) => (h.step hb).add (.cells (Ar.ycells (look c s line)) 66))
 have HB := Lib.hid (fun w1 (hb : Below w.heap.size w w1) => (h.step hb).busy line)
 have HF := Lib.hid (fun w1 (hb : Below w.heap.size w w1) => (h.step hb).mlist)
 have HR := Lib.hid (fun w1 (hb : Below w.heap.size w w1) => (h.step hb).free line)
 have hk := h.kc
 clear h
 generalize look c s line = y at *
 generalize there c s line = q at *
 generalize busyB s line = b at *
 generalize lnE c line = er at *
 generalize Ar.oi (Ar.fre c s.A line) = fr at *
 generalize lnH c line = g1 at *
 generalize lnS c line = g2 at *
 generalize lnT c line = g3 at *
 subst hb
 rcases hkk with rfl | rfl
 all_goals
  go_enter Tryz.func57, Tryz.ntmps57
  go_wp2_with fail
  refine HL.out.mono ?_
  rintro e w1 ⟨rfl, hb1⟩
  go_wp2_with fail
  refine (HK.out _ hb1).mono ?_
  rintro e w2 ⟨rfl, hb2⟩
  have B2 := Lib.hid (b_step hb1 hb2)
  have L2 := Lib.hid (HA.out _ B2.out)
  have hk2 := L2.out.kc
  clear hb1 hb2
  have B3 := Lib.hid (b_step B2.out (b_alloc w2 (.cells (Ar.ycells y) 66)))
  go_wp2_with fail
  refine (HB.out _ B3.out).mono ?_
  rintro e w4 ⟨rfl, hb4⟩
  have B4 := Lib.hid (b_step B3.out hb4)
  have L4 := Lib.hid (L2.out.step hb4)
  clear hb4 hk2
  have hk4 := L4.out.kc
  have hy4 := L4.out.cells mz0
  go_wp2
  go_ret
  exact ⟨rfl, B4.out⟩

set_option maxHeartbeats 1000000 in
theorem refusal_lets (h : OwnP w0 K c core n s bx w) (line kind : Int) (e1 : (lnE c line != 0) = false) (hkk : kind = 1 ∨ kind = 2) (hb : busyB s line = false) (hl : letsB (look c s line) (kind == 2) = true) :
  Calls Tryz.prog 57 #[ptr K.k, .int .i64 line, .int .i64 kind] w fun e w' => e = .returned (.int .i64 6) ∧ Below w.heap.size w w' := by
 have HL := Lib.hid (h.line line)
 have HK := Lib.hid (fun w1 (hb : Below w.heap.size w w1) => (h.step hb).look line)
 have HA := Lib.hid (fun w1 (hb : Below w.heap.size w w1) => (h.step hb).add (.cells (Ar.ycells (look c s line)) 66))
 have HB := Lib.hid (fun w1 (hb : Below w.heap.size w w1) => (h.step hb).busy line)
 have HF := Lib.hid (fun w1 (hb : Below w.heap.size w w1) => (h.step hb).mlist)
 have HR := Lib.hid (fun w1 (hb : Below w.heap.size w w1) => (h.step hb).free line)
 have hk := h.kc
 clear h
 generalize look c s line = y at *
 generalize there c s line = q at *
 generalize busyB s line = b at *
 generalize lnE c line = er at *
 generalize Ar.oi (Ar.fre c s.A line) = fr at *
 generalize lnH c line = g1 at *
 generalize lnS c line = g2 at *
 generalize lnT c line = g3 at *
 subst hb
 rcases hkk with rfl | rfl
 all_goals
  obtain ⟨q2, hq2, hl2⟩ : ∃ q2, q2 = _ ∧ letsB y q2 = true := ⟨_, rfl, hl⟩
  simp at hq2
  subst hq2
  clear hl
  go_enter Tryz.func57, Tryz.ntmps57
  go_wp2_with fail
  refine HL.out.mono ?_
  rintro e w1 ⟨rfl, hb1⟩
  go_wp2_with fail
  refine (HK.out _ hb1).mono ?_
  rintro e w2 ⟨rfl, hb2⟩
  have B2 := Lib.hid (b_step hb1 hb2)
  have L2 := Lib.hid (HA.out _ B2.out)
  have hk2 := L2.out.kc
  clear hb1 hb2
  have B3 := Lib.hid (b_step B2.out (b_alloc w2 (.cells (Ar.ycells y) 66)))
  go_wp2_with fail
  refine (HB.out _ B3.out).mono ?_
  rintro e w4 ⟨rfl, hb4⟩
  have B4 := Lib.hid (b_step B3.out hb4)
  have L4 := Lib.hid (L2.out.step hb4)
  clear hb4 hk2
  have hk4 := L4.out.kc
  have hy4 := L4.out.cells mz0
  go_wp2_with fail
  refine (lets_any y _ _).mono ?_
  rintro e w5 ⟨rfl, hb5⟩
  rw [hl2]
  have B5 := Lib.hid (b_step B4.out hb5)
  have L5 := Lib.hid (L4.out.step hb5)
  clear hb5 hk4 hy4
  have hk5 := L5.out.kc
  go_wp2
  go_ret
  exact ⟨rfl, B5.out⟩

set_option maxHeartbeats 1000000 in
theorem refusal_full (h : OwnP w0 K c core n s bx w) (line kind : Int) (e1 : (lnE c line != 0) = false) (hkk : kind = 1 ∨ kind = 2) (hb : busyB s line = false) (hl : letsB (look c s line) (kind == 2) = false) (hf : ((s.F.length : Int) == c.ms) = true) :
  Calls Tryz.prog 57 #[ptr K.k, .int .i64 line, .int .i64 kind] w fun e w' => e = .returned (.int .i64 4) ∧ Below w.heap.size w w' := by
 have HL := Lib.hid (h.line line)
 have HK := Lib.hid (fun w1 (hb : Below w.heap.size w w1) => (h.step hb).look line)
 have HA := Lib.hid (fun w1 (hb : Below w.heap.size w w1) => (h.step hb).add (.cells (Ar.ycells (look c s line)) 66))
 have HB := Lib.hid (fun w1 (hb : Below w.heap.size w w1) => (h.step hb).busy line)
 have HF := Lib.hid (fun w1 (hb : Below w.heap.size w w1) => (h.step hb).mlist)
 have HR := Lib.hid (fun w1 (hb : Below w.heap.size w w1) => (h.step hb).free line)
 have hk := h.kc
 clear h
 generalize look c s line = y at *
 generalize there c s line = q at *
 generalize busyB s line = b at *
 generalize lnE c line = er at *
 generalize Ar.oi (Ar.fre c s.A line) = fr at *
 generalize lnH c line = g1 at *
 generalize lnS c line = g2 at *
 generalize lnT c line = g3 at *
 subst hb
 rcases hkk with rfl | rfl
 all_goals
  obtain ⟨q2, hq2, hl2⟩ : ∃ q2, q2 = _ ∧ letsB y q2 = false := ⟨_, rfl, hl⟩
  simp at hq2
  subst hq2
  clear hl
  go_enter Tryz.func57, Tryz.ntmps57
  go_wp2_with fail
  refine HL.out.mono ?_
  rintro e w1 ⟨rfl, hb1⟩
  go_wp2_with fail
  refine (HK.out _ hb1).mono ?_
  rintro e w2 ⟨rfl, hb2⟩
  have B2 := Lib.hid (b_step hb1 hb2)
  have L2 := Lib.hid (HA.out _ B2.out)
  have hk2 := L2.out.kc
  clear hb1 hb2
  have B3 := Lib.hid (b_step B2.out (b_alloc w2 (.cells (Ar.ycells y) 66)))
  go_wp2_with fail
  refine (HB.out _ B3.out).mono ?_
  rintro e w4 ⟨rfl, hb4⟩
  have B4 := Lib.hid (b_step B3.out hb4)
  have L4 := Lib.hid (L2.out.step hb4)
  clear hb4 hk2
  have hk4 := L4.out.kc
  have hy4 := L4.out.cells mz0
  go_wp2_with fail
  refine (lets_any y _ _).mono ?_
  rintro e w5 ⟨rfl, hb5⟩
  rw [hl2]
  have B5 := Lib.hid (b_step B4.out hb5)
  have L5 := Lib.hid (L4.out.step hb5)
  clear hb5 hk4 hy4
  have hk5 := L5.out.kc
  go_wp2_with fail
  go_region_held3 (fun w' => ∀ o, w'.cell? ⟨K.k, o, none⟩ = (kcells c core K)[o]?)
   (first | exact L6.out.kc | exact hk5 | go_keep)
   (first
    | (go_at_call 67; refine (HF.out _ (by first | exact B5.out | exact B5.out.drew)).mono ?_; rintro e w6 ⟨p6, cap6, rfl, hi6, hb6⟩; clear hi6; have B6 := (by first | exact Lib.hid (b_step B5.out hb6) | exact Lib.hid (b_step B5.out.drew hb6)); have L6 := (by first | exact Lib.hid (L5.out.step hb6) | exact Lib.hid (L5.out.drew.step hb6)); clear hb6))
  have hk6 := L6.out.kc
  go_wp2
  go_ret
  exact ⟨rfl, B6.out⟩

set_option maxHeartbeats 1000000 in
theorem refusal_there (h : OwnP w0 K c core n s bx w) (line kind : Int) (e1 : (lnE c line != 0) = false) (hkk : kind = 1 ∨ kind = 2) (hb : busyB s line = false) (hl : letsB (look c s line) (kind == 2) = false) (hf : ((s.F.length : Int) == c.ms) = false) (hq : there c s line = true) :
  Calls Tryz.prog 57 #[ptr K.k, .int .i64 line, .int .i64 kind] w fun e w' => e = .returned (.int .i64 0) ∧ Below w.heap.size w w' := by
 have HL := Lib.hid (h.line line)
 have HK := Lib.hid (fun w1 (hb : Below w.heap.size w w1) => (h.step hb).look line)
 have HA := Lib.hid (fun w1 (hb : Below w.heap.size w w1) => (h.step hb).add (.cells (Ar.ycells (look c s line)) 66))
 have HB := Lib.hid (fun w1 (hb : Below w.heap.size w w1) => (h.step hb).busy line)
 have HF := Lib.hid (fun w1 (hb : Below w.heap.size w w1) => (h.step hb).mlist)
 have HR := Lib.hid (fun w1 (hb : Below w.heap.size w w1) => (h.step hb).free line)
 have hk := h.kc
 clear h
 generalize look c s line = y at *
 generalize there c s line = q at *
 generalize busyB s line = b at *
 generalize lnE c line = er at *
 generalize Ar.oi (Ar.fre c s.A line) = fr at *
 generalize lnH c line = g1 at *
 generalize lnS c line = g2 at *
 generalize lnT c line = g3 at *
 subst hb
 subst hq
 rcases hkk with rfl | rfl
 all_goals
  obtain ⟨q2, hq2, hl2⟩ : ∃ q2, q2 = _ ∧ letsB y q2 = false := ⟨_, rfl, hl⟩
  simp at hq2
  subst hq2
  clear hl
  go_enter Tryz.func57, Tryz.ntmps57
  go_wp2_with fail
  refine HL.out.mono ?_
  rintro e w1 ⟨rfl, hb1⟩
  go_wp2_with fail
  refine (HK.out _ hb1).mono ?_
  rintro e w2 ⟨rfl, hb2⟩
  have B2 := Lib.hid (b_step hb1 hb2)
  have L2 := Lib.hid (HA.out _ B2.out)
  have hk2 := L2.out.kc
  clear hb1 hb2
  have B3 := Lib.hid (b_step B2.out (b_alloc w2 (.cells (Ar.ycells y) 66)))
  go_wp2_with fail
  refine (HB.out _ B3.out).mono ?_
  rintro e w4 ⟨rfl, hb4⟩
  have B4 := Lib.hid (b_step B3.out hb4)
  have L4 := Lib.hid (L2.out.step hb4)
  clear hb4 hk2
  have hk4 := L4.out.kc
  have hy4 := L4.out.cells mz0
  go_wp2_with fail
  refine (lets_any y _ _).mono ?_
  rintro e w5 ⟨rfl, hb5⟩
  rw [hl2]
  have B5 := Lib.hid (b_step B4.out hb5)
  have L5 := Lib.hid (L4.out.step hb5)
  clear hb5 hk4 hy4
  have hk5 := L5.out.kc
  go_wp2_with fail
  go_region_held3 (fun w' => ∀ o, w'.cell? ⟨K.k, o, none⟩ = (kcells c core K)[o]?)
   (first | exact L6.out.kc | exact hk5 | go_keep)
   (first
    | (go_at_call 67; refine (HF.out _ (by first | exact B5.out | exact B5.out.drew)).mono ?_; rintro e w6 ⟨p6, cap6, rfl, hi6, hb6⟩; clear hi6; have B6 := (by first | exact Lib.hid (b_step B5.out hb6) | exact Lib.hid (b_step B5.out.drew hb6)); have L6 := (by first | exact Lib.hid (L5.out.step hb6) | exact Lib.hid (L5.out.drew.step hb6)); clear hb6))
  have hk6 := L6.out.kc
  go_wp2
  go_ret
  exact ⟨rfl, B6.out⟩

set_option maxHeartbeats 1000000 in
theorem refusal_none (h : OwnP w0 K c core n s bx w) (line kind : Int) (e1 : (lnE c line != 0) = false) (hkk : kind = 1 ∨ kind = 2) (hb : busyB s line = false) (hl : letsB (look c s line) (kind == 2) = false) (hf : ((s.F.length : Int) == c.ms) = false) (hq : there c s line = false) (hr : Ar.oi (Ar.fre c s.A line) < 0) (_ : decide (Ar.oi (Ar.fre c s.A line) < 0) = true) :
  Calls Tryz.prog 57 #[ptr K.k, .int .i64 line, .int .i64 kind] w fun e w' => e = .returned (.int .i64 5) ∧ Below w.heap.size w w' := by
 have HL := Lib.hid (h.line line)
 have HK := Lib.hid (fun w1 (hb : Below w.heap.size w w1) => (h.step hb).look line)
 have HA := Lib.hid (fun w1 (hb : Below w.heap.size w w1) => (h.step hb).add (.cells (Ar.ycells (look c s line)) 66))
 have HB := Lib.hid (fun w1 (hb : Below w.heap.size w w1) => (h.step hb).busy line)
 have HF := Lib.hid (fun w1 (hb : Below w.heap.size w w1) => (h.step hb).mlist)
 have HR := Lib.hid (fun w1 (hb : Below w.heap.size w w1) => (h.step hb).free line)
 have hk := h.kc
 clear h
 generalize look c s line = y at *
 generalize there c s line = q at *
 generalize busyB s line = b at *
 generalize lnE c line = er at *
 generalize Ar.oi (Ar.fre c s.A line) = fr at *
 generalize lnH c line = g1 at *
 generalize lnS c line = g2 at *
 generalize lnT c line = g3 at *
 subst hb
 subst hq
 rcases hkk with rfl | rfl
 all_goals
  obtain ⟨q2, hq2, hl2⟩ : ∃ q2, q2 = _ ∧ letsB y q2 = false := ⟨_, rfl, hl⟩
  simp at hq2
  subst hq2
  clear hl
  go_enter Tryz.func57, Tryz.ntmps57
  go_wp2_with fail
  refine HL.out.mono ?_
  rintro e w1 ⟨rfl, hb1⟩
  go_wp2_with fail
  refine (HK.out _ hb1).mono ?_
  rintro e w2 ⟨rfl, hb2⟩
  have B2 := Lib.hid (b_step hb1 hb2)
  have L2 := Lib.hid (HA.out _ B2.out)
  have hk2 := L2.out.kc
  clear hb1 hb2
  have B3 := Lib.hid (b_step B2.out (b_alloc w2 (.cells (Ar.ycells y) 66)))
  go_wp2_with fail
  refine (HB.out _ B3.out).mono ?_
  rintro e w4 ⟨rfl, hb4⟩
  have B4 := Lib.hid (b_step B3.out hb4)
  have L4 := Lib.hid (L2.out.step hb4)
  clear hb4 hk2
  have hk4 := L4.out.kc
  have hy4 := L4.out.cells mz0
  go_wp2_with fail
  refine (lets_any y _ _).mono ?_
  rintro e w5 ⟨rfl, hb5⟩
  rw [hl2]
  have B5 := Lib.hid (b_step B4.out hb5)
  have L5 := Lib.hid (L4.out.step hb5)
  clear hb5 hk4 hy4
  have hk5 := L5.out.kc
  go_wp2_with fail
  go_region_held3 (fun w' => ∀ o, w'.cell? ⟨K.k, o, none⟩ = (kcells c core K)[o]?)
   (first | exact L6.out.kc | exact hk5 | go_keep)
   (first
    | (go_at_call 67; refine (HF.out _ (by first | exact B5.out | exact B5.out.drew)).mono ?_; rintro e w6 ⟨p6, cap6, rfl, hi6, hb6⟩; clear hi6; have B6 := (by first | exact Lib.hid (b_step B5.out hb6) | exact Lib.hid (b_step B5.out.drew hb6)); have L6 := (by first | exact Lib.hid (L5.out.step hb6) | exact Lib.hid (L5.out.drew.step hb6)); clear hb6))
  have hk6 := L6.out.kc
  go_wp2_with fail
  refine (HR.out _ B6.out).mono ?_
  rintro e w7 ⟨rfl, hb7⟩
  have B7 := Lib.hid (b_step B6.out hb7)
  clear hb7 hk6
  go_wp2
  go_ret
  exact ⟨rfl, B7.out⟩

set_option maxHeartbeats 1000000 in
theorem refusal_ok (h : OwnP w0 K c core n s bx w) (line kind : Int) (e1 : (lnE c line != 0) = false) (hkk : kind = 1 ∨ kind = 2) (hb : busyB s line = false) (hl : letsB (look c s line) (kind == 2) = false) (hf : ((s.F.length : Int) == c.ms) = false) (hq : there c s line = false) (_ : 0 ≤ Ar.oi (Ar.fre c s.A line)) (hr2 : decide (Ar.oi (Ar.fre c s.A line) < 0) = false) :
  Calls Tryz.prog 57 #[ptr K.k, .int .i64 line, .int .i64 kind] w fun e w' => e = .returned (.int .i64 0) ∧ Below w.heap.size w w' := by
 have HL := Lib.hid (h.line line)
 have HK := Lib.hid (fun w1 (hb : Below w.heap.size w w1) => (h.step hb).look line)
 have HA := Lib.hid (fun w1 (hb : Below w.heap.size w w1) => (h.step hb).add (.cells (Ar.ycells (look c s line)) 66))
 have HB := Lib.hid (fun w1 (hb : Below w.heap.size w w1) => (h.step hb).busy line)
 have HF := Lib.hid (fun w1 (hb : Below w.heap.size w w1) => (h.step hb).mlist)
 have HR := Lib.hid (fun w1 (hb : Below w.heap.size w w1) => (h.step hb).free line)
 have hk := h.kc
 clear h
 generalize look c s line = y at *
 generalize there c s line = q at *
 generalize busyB s line = b at *
 generalize lnE c line = er at *
 generalize Ar.oi (Ar.fre c s.A line) = fr at *
 generalize lnH c line = g1 at *
 generalize lnS c line = g2 at *
 generalize lnT c line = g3 at *
 subst hb
 subst hq
 rcases hkk with rfl | rfl
 all_goals
  obtain ⟨q2, hq2, hl2⟩ : ∃ q2, q2 = _ ∧ letsB y q2 = false := ⟨_, rfl, hl⟩
  simp at hq2
  subst hq2
  clear hl
  go_enter Tryz.func57, Tryz.ntmps57
  go_wp2_with fail
  refine HL.out.mono ?_
  rintro e w1 ⟨rfl, hb1⟩
  go_wp2_with fail
  refine (HK.out _ hb1).mono ?_
  rintro e w2 ⟨rfl, hb2⟩
  have B2 := Lib.hid (b_step hb1 hb2)
  have L2 := Lib.hid (HA.out _ B2.out)
  have hk2 := L2.out.kc
  clear hb1 hb2
  have B3 := Lib.hid (b_step B2.out (b_alloc w2 (.cells (Ar.ycells y) 66)))
  go_wp2_with fail
  refine (HB.out _ B3.out).mono ?_
  rintro e w4 ⟨rfl, hb4⟩
  have B4 := Lib.hid (b_step B3.out hb4)
  have L4 := Lib.hid (L2.out.step hb4)
  clear hb4 hk2
  have hk4 := L4.out.kc
  have hy4 := L4.out.cells mz0
  go_wp2_with fail
  refine (lets_any y _ _).mono ?_
  rintro e w5 ⟨rfl, hb5⟩
  rw [hl2]
  have B5 := Lib.hid (b_step B4.out hb5)
  have L5 := Lib.hid (L4.out.step hb5)
  clear hb5 hk4 hy4
  have hk5 := L5.out.kc
  go_wp2_with fail
  go_region_held3 (fun w' => ∀ o, w'.cell? ⟨K.k, o, none⟩ = (kcells c core K)[o]?)
   (first | exact L6.out.kc | exact hk5 | go_keep)
   (first
    | (go_at_call 67; refine (HF.out _ (by first | exact B5.out | exact B5.out.drew)).mono ?_; rintro e w6 ⟨p6, cap6, rfl, hi6, hb6⟩; clear hi6; have B6 := (by first | exact Lib.hid (b_step B5.out hb6) | exact Lib.hid (b_step B5.out.drew hb6)); have L6 := (by first | exact Lib.hid (L5.out.step hb6) | exact Lib.hid (L5.out.drew.step hb6)); clear hb6))
  have hk6 := L6.out.kc
  go_wp2_with fail
  refine (HR.out _ B6.out).mono ?_
  rintro e w7 ⟨rfl, hb7⟩
  have B7 := Lib.hid (b_step B6.out hb7)
  clear hb7 hk6
  go_wp2
  go_ret
  exact ⟨rfl, B7.out⟩

theorem Own.refusal (h : OwnP w0 K c core n s bx w) (line kind : Int) :
  Calls Tryz.prog 57 #[ptr K.k, .int .i64 line, .int .i64 kind] w fun e w' => e = .returned (.int .i64 (refP c s line kind)) ∧ Below w.heap.size w w' := by
 unfold refP
 rcases Bool.eq_false_or_eq_true (lnE c line != 0) with e1 | e1
 ·rw [if_pos (by simp [e1])]
  exact refusal_line h line kind e1
 ·by_cases hkk : kind = 1 ∨ kind = 2
  ·rw [if_neg (by rcases hkk with rfl | rfl <;> simp [e1])]
   rcases Bool.eq_false_or_eq_true (busyB s line) with hb | hb
   ·rw [if_pos (by simp [hb])]
    exact refusal_busy h line kind e1 hkk hb
   ·rcases Bool.eq_false_or_eq_true (letsB (Go.Proofs.YtlfhkjjjocmpbaaGreatDoor.Cc.look c s line) (kind == 2)) with hl | hl
    ·rw [if_pos (by simp [hl])]
     exact refusal_lets h line kind e1 hkk hb hl
    ·rw [if_neg (by simp [hb, hl])]
     by_cases hf : (s.F.length : Int) = c.ms
     ·rw [if_pos hf]
      exact refusal_full h line kind e1 hkk hb hl (by simpa using hf)
     ·rw [if_neg hf]
      have hf' : ((s.F.length : Int) == c.ms) = false := by simpa using hf
      rcases Bool.eq_false_or_eq_true (there c s line) with hq | hq
      ·rw [if_neg (by simp [hq])]
       exact refusal_there h line kind e1 hkk hb hl hf' hq
      ·by_cases hr : Ar.oi (Ar.fre c s.A line) < 0
       ·rw [if_pos (by simp [hq, hr])]
        exact refusal_none h line kind e1 hkk hb hl hf' hq hr (by simpa using hr)
       ·rw [if_neg (by simp [hr])]
        exact refusal_ok h line kind e1 hkk hb hl hf' hq (by omega) (by simpa using hr)
  ·rw [if_pos (by simp [e1]; omega)]
   exact refusal_kind h line kind e1 (by simp; omega) (by simp; omega)

end Go.Proofs.YtlfhkjjjocmpbaaGreatDoor.Cc

namespace Go.Proofs.YtlfhkjjjocmpbaaGreatDoor.Cc
open Go Go.RowKit

variable {w0 w w' : World} {bx : Bx} {K : Kb} {c : Cfg} {core n : Int} {s : St}
theorem Own.swap {ty : Tys} {p q : Nat × Obj} (h : Own ty w0 K c core n s (p :: q :: bx) w) : Own ty w0 K c core n s (q :: p :: bx) w := h.perm (List.Perm.swap _ _ _)

def RetA (m : Msg) (er : Int) (P : World → Prop) (e : Ending) (w' : World) : Prop := e = .returned (.tuple #[mv m, .int .i64 er]) ∧ P w'
def RetB (m : Msg) (q : Bool) (P : World → Prop) (e : Ending) (w' : World) : Prop := e = .returned (.tuple #[mv m, .bool q]) ∧ P w'
theorem ask_ret {wr : World} {m : Msg} {er : Int} {P : World → Prop} {a : Act} {g : Nat} (hp : a.tmps.getD 6 undef = .pointer (some ⟨g, 0, none⟩)) (hn : a.tmps.getD 7 undef = .int .i64 er) (hd : a.defers = []) (hg : wr.heap[g]? = some (.cells (mcells m) 38 (0, 0))) (hb : P wr) :
  bodyPost Tryz.prog Tryz.f24 (RetA m er P) Exit.ret a wr :=
 bodyPost_ret (v := .tuple #[mv m, a.tmps.getD 7 undef]) (Ar.results_cell_two Tryz.results24 _ _ g 38 _ (0, 0) _ hp hg Tryz.underlying38 rfl (by kernel_rfl)) hd ⟨by rw [hn], hb⟩
theorem fin_ret {wr : World} {m : Msg} {q : Bool} {P : World → Prop} {a : Act} {g : Nat} (hp : a.tmps.getD 2 undef = .pointer (some ⟨g, 0, none⟩)) (hn : a.tmps.getD 3 undef = .bool q) (hd : a.defers = []) (hg : wr.heap[g]? = some (.cells (mcells m) 38 (0, 0))) (hb : P wr) :
  bodyPost Tryz.prog Tryz.f26 (RetB m q P) Exit.ret a wr :=
 bodyPost_ret (v := .tuple #[mv m, a.tmps.getD 3 undef]) (Ar.results_cell_two Tryz.results26 _ _ g 38 _ (0, 0) _ hp hg Tryz.underlying38 rfl (by kernel_rfl)) hd ⟨by rw [hn], hb⟩

set_option maxHeartbeats 1000000 in
theorem ask_no (h : OwnP w0 K c core n s bx w) (line kind : Int) (hr : (refP c s line kind != 0) = true) :
  Calls Tryz.prog 24 #[ptr K.k, .int .i64 line, .int .i64 kind] w (RetA m0 (refP c s line kind) (OwnP w0 K c core n s bx)) := by
 have H0 := Lib.hid (h.add (.cells #[.int .i64 0, .int .i64 0, .int .i64 0, .int .i64 0, .int .i64 0, .int .i64 0, .int .i64 0, .int .i64 0, .int .i64 0, .int .i64 0, .int .i64 0, .int .i64 0, .int .i64 0, .int .i64 0, .int .i64 0] 38))
 have HF := Lib.hid (H0.out.refusal line kind)
 clear h
 generalize refP c s line kind = r at *
 go_enter Tryz.func24, Tryz.ntmps24
 go_wp2_with fail
 refine HF.out.mono ?_
 rintro e w1 ⟨rfl, hb1⟩
 have H1 := Lib.hid (H0.out.step hb1)
 have h6 := H1.out.box mz0
 go_wp2_with ((with_reducible refine wpList_store_row (o := ⟨none, _, _, _, _, _⟩) rfl 38 (.tmp 6) (.tmp 17) rfl (w.heap.size) (mcells m0) ?sx ?sy 38 ?old ?sg ?si ?so ?s1 ?_); (case sx => rfl); (case sy => rfl); (case old => exact #[.int .i64 0, .int .i64 0, .int .i64 0, .int .i64 0, .int .i64 0, .int .i64 0, .int .i64 0, .int .i64 0, .int .i64 0, .int .i64 0, .int .i64 0, .int .i64 0, .int .i64 0, .int .i64 0, .int .i64 0]); (case sg => exact h6); (case si => kernel_rfl); (case so => rfl); (case s1 => kernel_rfl))
 exact ask_ret rfl rfl rfl (setRow_heap _ _ _ _ _ _ h6) H1.out.setRow.drop

set_option maxHeartbeats 2000000 in
theorem ask_there (h : OwnP w0 K c core n s bx w) (line kind : Int) (hr : refP c s line kind = 0) (hq : there c s line = true) :
  Calls Tryz.prog 24 #[ptr K.k, .int .i64 line, .int .i64 kind] w (RetA (toHomeP c core kind line) 0 (OwnP w0 K c core (n + 1) ⟨(Ar.lockP c s.A line true).2, (Mh.openP c.ms s.F line kind).2, s.B⟩ bx)) := by
 have H0 := Lib.hid (h.add (.cells #[.int .i64 0, .int .i64 0, .int .i64 0, .int .i64 0, .int .i64 0, .int .i64 0, .int .i64 0, .int .i64 0, .int .i64 0, .int .i64 0, .int .i64 0, .int .i64 0, .int .i64 0, .int .i64 0, .int .i64 0] 38))
 have HF := Lib.hid (H0.out.refusal line kind)
 rw [hr] at HF
 have HQ := Lib.hid hq
 clear h hr hq
 go_enter Tryz.func24, Tryz.ntmps24
 go_wp2_with fail
 refine HF.out.mono ?_
 rintro e w1 ⟨rfl, hb1⟩
 have H1 := Lib.hid (H0.out.step hb1)
 have hk1 := H1.out.kc
 clear hb1 HF H0
 go_wp2_with fail
 refine (H1.out.open line kind).mono ?_
 rintro e w2 ⟨⟨i2, rfl⟩, ho⟩
 have H2 := Lib.hid ho
 clear ho hk1 H1
 go_wp2_with fail
 refine (H2.out.look line).mono ?_
 rintro e w3 ⟨rfl, hb3⟩
 rw [show there c { s with F := (Mh.openP c.ms s.F line kind).2 } line = true from HQ.out]
 generalize look c { s with F := (Mh.openP c.ms s.F line kind).2 } line = y
 have H3 := Lib.hid ((H2.out.step hb3).add (.cells (Ar.ycells y) 66))
 have hk3 := H3.out.kc
 clear hb3 H2
 go_wp2_with fail
 refine (H3.out.lock line true).mono ?_
 rintro e w4 ⟨⟨i4, rfl⟩, ho⟩
 have H4 := Lib.hid ho
 clear ho hk3 H3
 go_wp2_with fail
 refine H4.out.toHome.mono ?_
 rintro e w5 ⟨rfl, hb5⟩
 have H5 := Lib.hid (H4.out.step hb5).swap
 have h6 := H5.out.box mz0
 go_wp2_with ((with_reducible refine wpList_store_row (o := ⟨none, _, _, _, _, _⟩) rfl 38 (.tmp 6) (.tmp 55) rfl (w.heap.size) (mcells (toHomeP c core kind line)) ?sx ?sy 38 ?old ?sg ?si ?so ?s1 ?_); (case sx => rfl); (case sy => rfl); (case old => exact #[.int .i64 0, .int .i64 0, .int .i64 0, .int .i64 0, .int .i64 0, .int .i64 0, .int .i64 0, .int .i64 0, .int .i64 0, .int .i64 0, .int .i64 0, .int .i64 0, .int .i64 0, .int .i64 0, .int .i64 0]); (case sg => exact h6); (case si => kernel_rfl); (case so => rfl); (case s1 => kernel_rfl))
 exact ask_ret rfl rfl rfl (setRow_heap _ _ _ _ _ _ h6) H5.out.setRow.drop.drop

set_option maxHeartbeats 2000000 in
theorem ask_lay (h : OwnP w0 K c core n s bx w) (line kind : Int) (hr : refP c s line kind = 0) (hq : there c s line = false) :
  Calls Tryz.prog 24 #[ptr K.k, .int .i64 line, .int .i64 kind] w (RetA (toHomeP c core kind line) 0 (OwnP w0 K c core (n + 1) ⟨(Ar.lockP c (Ar.layP c s.A line (Ar.oi (Ar.fre c s.A line))).2 line true).2, (Mh.openP c.ms s.F line kind).2, s.B⟩ bx)) := by
 have H0 := Lib.hid (h.add (.cells #[.int .i64 0, .int .i64 0, .int .i64 0, .int .i64 0, .int .i64 0, .int .i64 0, .int .i64 0, .int .i64 0, .int .i64 0, .int .i64 0, .int .i64 0, .int .i64 0, .int .i64 0, .int .i64 0, .int .i64 0] 38))
 have HF := Lib.hid (H0.out.refusal line kind)
 rw [hr] at HF
 have HQ := Lib.hid hq
 clear h hr hq
 go_enter Tryz.func24, Tryz.ntmps24
 go_wp2_with fail
 refine HF.out.mono ?_
 rintro e w1 ⟨rfl, hb1⟩
 have H1 := Lib.hid (H0.out.step hb1)
 have hk1 := H1.out.kc
 clear hb1 HF H0
 go_wp2_with fail
 refine (H1.out.open line kind).mono ?_
 rintro e w2 ⟨⟨i2, rfl⟩, ho⟩
 have H2 := Lib.hid ho
 clear ho hk1 H1
 go_wp2_with fail
 refine (H2.out.look line).mono ?_
 rintro e w3 ⟨rfl, hb3⟩
 rw [show there c { s with F := (Mh.openP c.ms s.F line kind).2 } line = false from HQ.out]
 generalize look c { s with F := (Mh.openP c.ms s.F line kind).2 } line = y
 have H3 := Lib.hid ((H2.out.step hb3).add (.cells (Ar.ycells y) 66))
 have hk3 := H3.out.kc
 clear hb3 H2
 go_wp2_with fail
 go_region_held3 (fun w' => ∀ o, w'.cell? ⟨K.k, o, none⟩ = (kcells c core K)[o]?)
  (first | exact H5.out.kc | exact H4.out.kc | exact hk3 | go_keep)
  (first
   | (go_at_call 59; refine ((by first | exact H4.out | exact H4.out.drew : OwnP w0 K c core (n + 1) { s with F := (Mh.openP c.ms s.F line kind).2 } _ _).lay line _).mono ?_; rintro e w5 ⟨⟨i5, rfl⟩, ho⟩; have H5 := Lib.hid ho; clear ho)
   | (go_at_call 60; refine ((by first | exact H3.out | exact H3.out.drew : OwnP w0 K c core (n + 1) { s with F := (Mh.openP c.ms s.F line kind).2 } _ _).free line).mono ?_; rintro e w4 ⟨rfl, hb4⟩; have H4 := (by first | exact Lib.hid (H3.out.step hb4) | exact Lib.hid (H3.out.drew.step hb4)); clear hb4))
 have hk5 := H5.out.kc
 go_wp2_with fail
 refine (H5.out.lock line true).mono ?_
 rintro e w6 ⟨⟨i6, rfl⟩, ho⟩
 have H6 := Lib.hid ho
 clear ho hk5 hk3
 go_wp2_with fail
 refine H6.out.toHome.mono ?_
 rintro e w7 ⟨rfl, hb7⟩
 have H7 := Lib.hid (H6.out.step hb7).swap
 have h6 := H7.out.box mz0
 go_wp2_with ((with_reducible refine wpList_store_row (o := ⟨none, _, _, _, _, _⟩) rfl 38 (.tmp 6) (.tmp 55) rfl (w.heap.size) (mcells (toHomeP c core kind line)) ?sx ?sy 38 ?old ?sg ?si ?so ?s1 ?_); (case sx => rfl); (case sy => rfl); (case old => exact #[.int .i64 0, .int .i64 0, .int .i64 0, .int .i64 0, .int .i64 0, .int .i64 0, .int .i64 0, .int .i64 0, .int .i64 0, .int .i64 0, .int .i64 0, .int .i64 0, .int .i64 0, .int .i64 0, .int .i64 0]); (case sg => exact h6); (case si => kernel_rfl); (case so => rfl); (case s1 => kernel_rfl))
 exact ask_ret rfl rfl rfl (setRow_heap _ _ _ _ _ _ h6) H7.out.setRow.drop.drop

theorem Own.ask (h : OwnP w0 K c core n s bx w) (line kind : Int) :
  Calls Tryz.prog 24 #[ptr K.k, .int .i64 line, .int .i64 kind] w (RetA (askP c core s line kind).1.1 (askP c core s line kind).1.2 (OwnP w0 K c core (n + 2) (askP c core s line kind).2 bx)) := by
 unfold askP
 by_cases hr : refP c s line kind = 0
 ·rw [if_neg (by simpa using hr)]
  unfold layA
  rcases Bool.eq_false_or_eq_true (there c s line) with hq | hq
  ·rw [if_pos hq]
   exact (ask_there h line kind hr hq).mono fun e w' ⟨he, ho⟩ => ⟨he, ho.more (by omega)⟩
  ·rw [if_neg (by simp [hq])]
   exact (ask_lay h line kind hr hq).mono fun e w' ⟨he, ho⟩ => ⟨he, ho.more (by omega)⟩
 ·rw [if_pos hr]
  exact (ask_no h line kind (by simpa using hr)).mono fun e w' ⟨he, ho⟩ => ⟨he, ho.more (by omega)⟩

theorem fin_no (h : OwnP w0 K c core n s bx w) (hr : (Mh.owingP s.F).2 = false) :
  Calls Tryz.prog 26 #[ptr K.k] w (RetB m0 false (OwnP w0 K c core n s bx)) := by
 have H0 := Lib.hid (h.add (.cells #[.int .i64 0, .int .i64 0, .int .i64 0, .int .i64 0, .int .i64 0, .int .i64 0, .int .i64 0, .int .i64 0, .int .i64 0, .int .i64 0, .int .i64 0, .int .i64 0, .int .i64 0, .int .i64 0, .int .i64 0] 38))
 have HF := Lib.hid H0.out.owing
 rw [hr] at HF
 have hk := H0.out.kc
 clear h hr
 generalize (Mh.owingP s.F).1 = line at *
 go_enter Tryz.func26, Tryz.ntmps26
 go_wp2_with fail
 refine HF.out.mono ?_
 rintro e w1 ⟨rfl, hb1⟩
 have H1 := Lib.hid (H0.out.step hb1)
 have h6 := H1.out.box mz0
 clear hk
 go_wp2_with ((with_reducible refine wpList_store_row (o := ⟨none, _, _, _, _, _⟩) rfl 38 (.tmp 2) (.tmp 16) rfl (w.heap.size) (mcells m0) ?sx ?sy 38 ?old ?sg ?si ?so ?s1 ?_); (case sx => rfl); (case sy => rfl); (case old => exact #[.int .i64 0, .int .i64 0, .int .i64 0, .int .i64 0, .int .i64 0, .int .i64 0, .int .i64 0, .int .i64 0, .int .i64 0, .int .i64 0, .int .i64 0, .int .i64 0, .int .i64 0, .int .i64 0, .int .i64 0]); (case sg => exact h6); (case si => kernel_rfl); (case so => rfl); (case s1 => kernel_rfl))
 exact fin_ret rfl rfl rfl (setRow_heap _ _ _ _ _ _ h6) H1.out.setRow.drop
set_option maxHeartbeats 1000000 in
theorem fin_yes (h : OwnP w0 K c core n s bx w) (hr : (Mh.owingP s.F).2 = true) :
  Calls Tryz.prog 26 #[ptr K.k] w (RetB (toHomeP c core 11 (Mh.owingP s.F).1) true (OwnP w0 K c core (n + 1) ⟨(Ar.lockP c s.A (Mh.owingP s.F).1 false).2, (Mh.closeP s.F (Mh.owingP s.F).1).2, s.B⟩ bx)) := by
 have H0 := Lib.hid (h.add (.cells #[.int .i64 0, .int .i64 0, .int .i64 0, .int .i64 0, .int .i64 0, .int .i64 0, .int .i64 0, .int .i64 0, .int .i64 0, .int .i64 0, .int .i64 0, .int .i64 0, .int .i64 0, .int .i64 0, .int .i64 0] 38))
 have HF := Lib.hid H0.out.owing
 rw [hr] at HF
 have hk := H0.out.kc
 clear h hr
 generalize (Mh.owingP s.F).1 = line at *
 go_enter Tryz.func26, Tryz.ntmps26
 go_wp2_with fail
 refine HF.out.mono ?_
 rintro e w1 ⟨rfl, hb1⟩
 have H1 := Lib.hid (H0.out.step hb1)
 have hk1 := H1.out.kc
 clear hb1 HF H0 hk
 go_wp2_with fail
 refine (H1.out.close line).mono ?_
 rintro e w2 ⟨⟨i2, rfl⟩, ho⟩
 have H2 := Lib.hid ho
 have hk2 := H2.out.kc
 clear ho hk1 H1
 go_wp2_with fail
 refine (H2.out.lock line false).mono ?_
 rintro e w4 ⟨⟨i4, rfl⟩, ho⟩
 have H4 := Lib.hid ho
 clear ho hk2 H2
 go_wp2_with fail
 refine H4.out.toHome.mono ?_
 rintro e w5 ⟨rfl, hb5⟩
 have H5 := Lib.hid (H4.out.step hb5)
 have h6 := H5.out.box mz0
 go_wp2_with ((with_reducible refine wpList_store_row (o := ⟨none, _, _, _, _, _⟩) rfl 38 (.tmp 2) (.tmp 31) rfl (w.heap.size) (mcells (toHomeP c core 11 line)) ?sx ?sy 38 ?old ?sg ?si ?so ?s1 ?_); (case sx => rfl); (case sy => rfl); (case old => exact #[.int .i64 0, .int .i64 0, .int .i64 0, .int .i64 0, .int .i64 0, .int .i64 0, .int .i64 0, .int .i64 0, .int .i64 0, .int .i64 0, .int .i64 0, .int .i64 0, .int .i64 0, .int .i64 0, .int .i64 0]); (case sg => exact h6); (case si => kernel_rfl); (case so => rfl); (case s1 => kernel_rfl))
 exact fin_ret rfl rfl rfl (setRow_heap _ _ _ _ _ _ h6) H5.out.setRow.drop

theorem Own.finish (h : OwnP w0 K c core n s bx w) :
  Calls Tryz.prog 26 #[ptr K.k] w (RetB (finishP c core s).1.1 (finishP c core s).1.2 (OwnP w0 K c core (n + 2) (finishP c core s).2 bx)) := by
 unfold finishP
 rcases Bool.eq_false_or_eq_true (Mh.owingP s.F).2 with hr | hr
 ·rw [if_pos hr]
  exact (fin_yes h hr).mono fun e w' ⟨he, ho⟩ => ⟨he, ho.more (by omega)⟩
 ·rw [if_neg (by simp [hr])]
  exact (fin_no h hr).mono fun e w' ⟨he, ho⟩ => ⟨he, ho.more (by omega)⟩

end Go.Proofs.YtlfhkjjjocmpbaaGreatDoor.Cc

namespace Go.Proofs.YtlfhkjjjocmpbaaGreatDoor.Cc
open Go Go.RowKit

variable {w0 w w' : World} {bx : Bx} {K : Kb} {c : Cfg} {core n : Int} {s : St}
theorem ev_ret {wr : World} {r : Rp} {P : World → Prop} {a : Act} {g : Nat} (hp : a.tmps.getD 6 undef = .pointer (some ⟨g, 0, none⟩)) (hq : a.tmps.getD 7 undef = .bool r.2.1) (hn : a.tmps.getD 8 undef = .int .i64 r.2.2) (hd : a.defers = []) (hg : wr.heap[g]? = some (.cells (mcells r.1) 38 (0, 0))) (hb : P wr) :
  bodyPost Tryz.prog Tryz.f22 (RetT r P) Exit.ret a wr :=
 bodyPost_ret (v := .tuple #[mv r.1, a.tmps.getD 7 undef, a.tmps.getD 8 undef]) (Ar.results_cell_three Tryz.results22 _ _ g 38 _ (0, 0) _ hp hg Tryz.underlying38 rfl (by kernel_rfl)) hd ⟨by rw [hq, hn], hb⟩

theorem ev_none (h : OwnP w0 K c core n s bx w) (set way : Int) {x : Ar.Wy} (hx : atP c s set way = (x, false)) :
  Calls Tryz.prog 22 #[ptr K.k, .int .i64 set, .int .i64 way] w (RetT (m0, false, 5) (OwnP w0 K c core n s bx)) := by
 have H0 := Lib.hid (h.add (.cells #[.int .i64 0, .int .i64 0, .int .i64 0, .int .i64 0, .int .i64 0, .int .i64 0, .int .i64 0, .int .i64 0, .int .i64 0, .int .i64 0, .int .i64 0, .int .i64 0, .int .i64 0, .int .i64 0, .int .i64 0] 38))
 have HF := Lib.hid (H0.out.way set way)
 rw [hx] at HF
 clear h hx
 go_enter Tryz.func22, Tryz.ntmps22
 go_wp2_with fail
 refine HF.out.mono ?_
 rintro e w1 ⟨rfl, hb1⟩
 have H1 := Lib.hid ((H0.out.step hb1).add (.cells (Ar.ycells x) 66)).swap
 have h6 := H1.out.box mz0
 clear hb1
 go_wp2_with ((with_reducible refine wpList_store_row (o := ⟨none, _, _, _, _, _⟩) rfl 38 (.tmp 6) (.tmp 31) rfl (w.heap.size) (mcells m0) ?sx ?sy 38 ?old ?sg ?si ?so ?s1 ?_); (case sx => rfl); (case sy => rfl); (case old => exact #[.int .i64 0, .int .i64 0, .int .i64 0, .int .i64 0, .int .i64 0, .int .i64 0, .int .i64 0, .int .i64 0, .int .i64 0, .int .i64 0, .int .i64 0, .int .i64 0, .int .i64 0, .int .i64 0, .int .i64 0]); (case sg => exact h6); (case si => kernel_rfl); (case so => rfl); (case s1 => kernel_rfl))
 exact ev_ret rfl rfl rfl rfl (setRow_heap _ _ _ _ _ _ h6) H1.out.setRow.drop.drop
theorem ev_inv (h : OwnP w0 K c core n s bx w) (set way : Int) {x : Ar.Wy} (hx : atP c s set way = (x, true)) (e0 : (x.st == 0) = true) :
  Calls Tryz.prog 22 #[ptr K.k, .int .i64 set, .int .i64 way] w (RetT (m0, false, 5) (OwnP w0 K c core n s bx)) := by
 have H0 := Lib.hid (h.add (.cells #[.int .i64 0, .int .i64 0, .int .i64 0, .int .i64 0, .int .i64 0, .int .i64 0, .int .i64 0, .int .i64 0, .int .i64 0, .int .i64 0, .int .i64 0, .int .i64 0, .int .i64 0, .int .i64 0, .int .i64 0] 38))
 have HF := Lib.hid (H0.out.way set way)
 rw [hx] at HF
 clear h hx
 go_enter Tryz.func22, Tryz.ntmps22
 go_wp2_with fail
 refine HF.out.mono ?_
 rintro e w1 ⟨rfl, hb1⟩
 have H1 := Lib.hid ((H0.out.step hb1).add (.cells (Ar.ycells x) 66)).swap
 have h6 := H1.out.box mz0
 clear hb1
 go_wp2_with ((with_reducible refine wpList_store_row (o := ⟨none, _, _, _, _, _⟩) rfl 38 (.tmp 6) (.tmp 31) rfl (w.heap.size) (mcells m0) ?sx ?sy 38 ?old ?sg ?si ?so ?s1 ?_); (case sx => rfl); (case sy => rfl); (case old => exact #[.int .i64 0, .int .i64 0, .int .i64 0, .int .i64 0, .int .i64 0, .int .i64 0, .int .i64 0, .int .i64 0, .int .i64 0, .int .i64 0, .int .i64 0, .int .i64 0, .int .i64 0, .int .i64 0, .int .i64 0]); (case sg => exact h6); (case si => kernel_rfl); (case so => rfl); (case s1 => kernel_rfl))
 exact ev_ret rfl rfl rfl rfl (setRow_heap _ _ _ _ _ _ h6) H1.out.setRow.drop.drop
theorem ev_lock (h : OwnP w0 K c core n s bx w) (set way : Int) {st ln : Int} {wd : Wd} (hx : atP c s set way = (⟨st, ln, wd, true⟩, true)) (e0 : (st == 0) = false) :
  Calls Tryz.prog 22 #[ptr K.k, .int .i64 set, .int .i64 way] w (RetT (m0, false, 6) (OwnP w0 K c core n s bx)) := by
 have H0 := Lib.hid (h.add (.cells #[.int .i64 0, .int .i64 0, .int .i64 0, .int .i64 0, .int .i64 0, .int .i64 0, .int .i64 0, .int .i64 0, .int .i64 0, .int .i64 0, .int .i64 0, .int .i64 0, .int .i64 0, .int .i64 0, .int .i64 0] 38))
 have HF := Lib.hid (H0.out.way set way)
 rw [hx] at HF
 clear h hx
 go_enter Tryz.func22, Tryz.ntmps22
 go_wp2_with fail
 refine HF.out.mono ?_
 rintro e w1 ⟨rfl, hb1⟩
 have H1 := Lib.hid ((H0.out.step hb1).add (.cells (Ar.ycells ⟨st, ln, wd, true⟩) 66)).swap
 have h6 := H1.out.box mz0
 clear hb1
 go_wp2_with ((with_reducible refine wpList_store_row (o := ⟨none, _, _, _, _, _⟩) rfl 38 (.tmp 6) (.tmp 35) rfl (w.heap.size) (mcells m0) ?sx ?sy 38 ?old ?sg ?si ?so ?s1 ?_); (case sx => rfl); (case sy => rfl); (case old => exact #[.int .i64 0, .int .i64 0, .int .i64 0, .int .i64 0, .int .i64 0, .int .i64 0, .int .i64 0, .int .i64 0, .int .i64 0, .int .i64 0, .int .i64 0, .int .i64 0, .int .i64 0, .int .i64 0, .int .i64 0]); (case sg => exact h6); (case si => kernel_rfl); (case so => rfl); (case s1 => kernel_rfl))
 exact ev_ret rfl rfl rfl rfl (setRow_heap _ _ _ _ _ _ h6) H1.out.setRow.drop.drop
set_option maxHeartbeats 1000000 in
theorem ev_full (h : OwnP w0 K c core n s bx w) (set way : Int) {st ln : Int} {wd : Wd} (hx : atP c s set way = (⟨st, ln, wd, false⟩, true)) (e0 : (st == 0) = false) (e1 : (st != 1) = true) (ef : (c.wb - s.B.length == 0) = true) :
  Calls Tryz.prog 22 #[ptr K.k, .int .i64 set, .int .i64 way] w (RetT (m0, false, 4) (OwnP w0 K c core n s bx)) := by
 have H0 := Lib.hid (h.add (.cells #[.int .i64 0, .int .i64 0, .int .i64 0, .int .i64 0, .int .i64 0, .int .i64 0, .int .i64 0, .int .i64 0, .int .i64 0, .int .i64 0, .int .i64 0, .int .i64 0, .int .i64 0, .int .i64 0, .int .i64 0] 38))
 have HF := Lib.hid (H0.out.way set way)
 rw [hx] at HF
 have HL := Lib.hid (fun w1 bx (h : OwnP w0 K c core n s bx w1) => h.left)
 clear h hx
 generalize c.wb - (s.B.length : Int) = lf at *
 go_enter Tryz.func22, Tryz.ntmps22
 go_wp2_with fail
 refine HF.out.mono ?_
 rintro e w1 ⟨rfl, hb1⟩
 have H1 := Lib.hid ((H0.out.step hb1).add (.cells (Ar.ycells ⟨st, ln, wd, false⟩) 66)).swap
 have hk1 := H1.out.kc
 clear hb1
 go_wp2_with fail
 refine (HL.out _ _ H1.out).mono ?_
 rintro e w2 ⟨rfl, hb2⟩
 have H2 := Lib.hid (H1.out.step hb2)
 have h6 := H2.out.box mz0
 clear hb2 hk1
 go_wp2_with ((with_reducible refine wpList_store_row (o := ⟨none, _, _, _, _, _⟩) rfl 38 (.tmp 6) (.tmp 46) rfl (w.heap.size) (mcells m0) ?sx ?sy 38 ?old ?sg ?si ?so ?s1 ?_); (case sx => rfl); (case sy => rfl); (case old => exact #[.int .i64 0, .int .i64 0, .int .i64 0, .int .i64 0, .int .i64 0, .int .i64 0, .int .i64 0, .int .i64 0, .int .i64 0, .int .i64 0, .int .i64 0, .int .i64 0, .int .i64 0, .int .i64 0, .int .i64 0]); (case sg => exact h6); (case si => kernel_rfl); (case so => rfl); (case s1 => kernel_rfl))
 exact ev_ret rfl rfl rfl rfl (setRow_heap _ _ _ _ _ _ h6) H2.out.setRow.drop.drop
set_option maxHeartbeats 1000000 in
theorem ev_shared (h : OwnP w0 K c core n s bx w) (set way : Int) {ln : Int} {wd : Wd} (hx : atP c s set way = (⟨1, ln, wd, false⟩, true)) :
  Calls Tryz.prog 22 #[ptr K.k, .int .i64 set, .int .i64 way] w (RetT (m0, false, 0) (OwnP w0 K c core n (setA c s ln 0 d0) bx)) := by
 have H0 := Lib.hid (h.add (.cells #[.int .i64 0, .int .i64 0, .int .i64 0, .int .i64 0, .int .i64 0, .int .i64 0, .int .i64 0, .int .i64 0, .int .i64 0, .int .i64 0, .int .i64 0, .int .i64 0, .int .i64 0, .int .i64 0, .int .i64 0] 38))
 have HF := Lib.hid (H0.out.way set way)
 rw [hx] at HF
 clear h hx
 go_enter Tryz.func22, Tryz.ntmps22
 go_wp2_with fail
 refine HF.out.mono ?_
 rintro e w1 ⟨rfl, hb1⟩
 have H1 := Lib.hid ((H0.out.step hb1).add (.cells (Ar.ycells ⟨1, ln, wd, false⟩) 66))
 have hk1 := H1.out.kc
 have hy1 := H1.out.cells mz0
 clear hb1
 go_wp2_with fail
 go_region_held3 (fun w' => (∀ o, w'.cell? ⟨K.k, o, none⟩ = (kcells c core K)[o]?) ∧ (∀ o, w'.cell? ⟨w1.heap.size, o, none⟩ = (Ar.ycells ⟨1, ln, wd, false⟩)[o]?))
  (first | exact ⟨H2.out.kc, H2.out.cells mz0⟩ | exact ⟨hk1, hy1⟩ | go_keep)
  (first
   | (go_at_call 50; refine ((by first | exact H1.out | exact H1.out.drew : OwnP w0 K c core n s _ _).set ln 0 d0).mono ?_; rintro e w2 ⟨⟨i2, rfl⟩, ho⟩; have H2 := Lib.hid ho; clear ho))
 have H3 := Lib.hid H2.out.swap
 have h6 := H3.out.box mz0
 go_wp2_with ((with_reducible refine wpList_store_row (o := ⟨none, _, _, _, _, _⟩) rfl 38 (.tmp 6) (.tmp 57) rfl (w.heap.size) (mcells m0) ?sx ?sy 38 ?old ?sg ?si ?so ?s1 ?_); (case sx => rfl); (case sy => rfl); (case old => exact #[.int .i64 0, .int .i64 0, .int .i64 0, .int .i64 0, .int .i64 0, .int .i64 0, .int .i64 0, .int .i64 0, .int .i64 0, .int .i64 0, .int .i64 0, .int .i64 0, .int .i64 0, .int .i64 0, .int .i64 0]); (case sg => exact h6); (case si => kernel_rfl); (case so => rfl); (case s1 => kernel_rfl))
 exact ev_ret rfl rfl rfl rfl (setRow_heap _ _ _ _ _ _ h6) H3.out.setRow.drop.drop

end Go.Proofs.YtlfhkjjjocmpbaaGreatDoor.Cc

namespace Go.Proofs.YtlfhkjjjocmpbaaGreatDoor.Cc
open Go Go.RowKit

variable {w0 w w' : World} {bx : Bx} {K : Kb} {c : Cfg} {core n : Int} {s : St}
theorem Own.rot {ty : Tys} {p q r : Nat × Obj} (h : Own ty w0 K c core n s (p :: q :: r :: bx) w) : Own ty w0 K c core n s (r :: p :: q :: bx) w := h.perm ((List.Perm.cons p (List.Perm.swap r q bx)).trans (List.Perm.swap r p (q :: bx)))
set_option maxHeartbeats 2000000 in
theorem ev_put (h : OwnP w0 K c core n s bx w) (set way : Int) {st ln : Int} {wd : Wd} (hx : atP c s set way = (⟨st, ln, wd, false⟩, true)) (e0 : (st == 0) = false) (e1 : (st != 1) = true) (ef : (c.wb - s.B.length == 0) = false) :
  Calls Tryz.prog 22 #[ptr K.k, .int .i64 set, .int .i64 way] w (RetT (msg 3 ln core (lnH c ln) 0 0 0 wd, true, 0) (OwnP w0 K c core n { setA c s ln 0 d0 with B := (Wb.putP c.wb s.B ln wd).2 } bx)) := by
 have H0 := Lib.hid (h.add (.cells #[.int .i64 0, .int .i64 0, .int .i64 0, .int .i64 0, .int .i64 0, .int .i64 0, .int .i64 0, .int .i64 0, .int .i64 0, .int .i64 0, .int .i64 0, .int .i64 0, .int .i64 0, .int .i64 0, .int .i64 0] 38))
 have HF := Lib.hid (H0.out.way set way)
 rw [hx] at HF
 have HL := Lib.hid (fun w1 bx (h : OwnP w0 K c core n s bx w1) => h.left)
 clear h hx
 generalize c.wb - (s.B.length : Int) = lf at *
 go_enter Tryz.func22, Tryz.ntmps22
 go_wp2_with fail
 refine HF.out.mono ?_
 rintro e w1 ⟨rfl, hb1⟩
 have H1 := Lib.hid ((H0.out.step hb1).add (.cells (Ar.ycells ⟨st, ln, wd, false⟩) 66))
 have hk1 := H1.out.kc
 clear hb1
 go_wp2_with fail
 refine (HL.out _ _ H1.out).mono ?_
 rintro e w2 ⟨rfl, hb2⟩
 have H2 := Lib.hid (H1.out.step hb2)
 clear hb2 hk1 H1
 have hk2 := H2.out.kc
 have hy2 := H2.out.cells mz0
 go_wp2_with fail
 go_region_held3 (fun w' => (∀ o, w'.cell? ⟨K.k, o, none⟩ = (kcells c core K)[o]?) ∧ (∀ o, w'.cell? ⟨w1.heap.size, o, none⟩ = (Ar.ycells ⟨st, ln, wd, false⟩)[o]?))
  (first | exact ⟨H3.out.kc, H3.out.cells mz0⟩ | exact ⟨hk2, hy2⟩ | go_keep)
  (first
   | (go_at_call 50; refine ((by first | exact H2.out | exact H2.out.drew : OwnP w0 K c core n s _ _).set ln 0 d0).mono ?_; rintro e w3 ⟨⟨i3, rfl⟩, ho⟩; have H3 := Lib.hid ho; clear ho))
 clear hk2 hy2
 have hk3 := H3.out.kc
 have hy3 := H3.out.cells mz0
 go_wp2_with fail
 go_region_held3 (fun w' => (∀ o, w'.cell? ⟨K.k, o, none⟩ = (kcells c core K)[o]?) ∧ (∀ o, w'.cell? ⟨w1.heap.size, o, none⟩ = (Ar.ycells ⟨st, ln, wd, false⟩)[o]?))
  (first | exact ⟨H4.out.kc, H4.out.cells mz0⟩ | exact ⟨hk3, hy3⟩ | go_keep)
  (first
   | (go_at_call 53; refine ((by first | exact H3.out | exact H3.out.drew : OwnP w0 K c core n (setA c s ln 0 d0) _ _).put ln wd).mono ?_; rintro e w4 ⟨⟨i4, rfl⟩, ho⟩; have H4 := Lib.hid ho; clear ho))
 clear hk3 hy3
 have hy4 := H4.out.cells mz0
 go_wp2_with fail
 refine H4.out.toHome.mono ?_
 rintro e w5 ⟨rfl, hb5⟩
 have hy5 := ((H4.out.step hb5).add (.cells (mcells (toHomeP c core 3 ln)) 38)).cells mz1
 have H5 := Lib.hid ((H4.out.step hb5).add (.cells (mcells (msg 3 ln core (lnH c ln) 0 0 0 wd)) 38)).rot
 have h6 := H5.out.box mz0
 clear hy4 hb5
 go_wp2_with ((with_reducible refine wpList_store_row (o := ⟨none, _, _, _, _, _⟩) rfl 38 (.tmp 6) (.tmp 74) rfl (w.heap.size) (mcells (msg 3 ln core (lnH c ln) 0 0 0 wd)) ?sx ?sy 38 ?old ?sg ?si ?so ?s1 ?_); (case sx => rfl); (case sy => rfl); (case old => exact #[.int .i64 0, .int .i64 0, .int .i64 0, .int .i64 0, .int .i64 0, .int .i64 0, .int .i64 0, .int .i64 0, .int .i64 0, .int .i64 0, .int .i64 0, .int .i64 0, .int .i64 0, .int .i64 0, .int .i64 0]); (case sg => exact h6); (case si => kernel_rfl); (case so => rfl); (case s1 => kernel_rfl))
 exact ev_ret rfl rfl rfl rfl (setRow_heap _ _ _ _ _ _ h6) H5.out.setRow.drop.drop.drop

theorem Own.evict (h : OwnP w0 K c core n s bx w) (set way : Int) :
  Calls Tryz.prog 22 #[ptr K.k, .int .i64 set, .int .i64 way] w (RetT (evictP c core s set way).1 (OwnP w0 K c core n (evictP c core s set way).2 bx)) := by
 unfold evictP
 rcases hx : atP c s set way with ⟨⟨st, ln, wd, lk⟩, q⟩
 cases q
 ·exact ev_none h set way hx
 ·rcases Bool.eq_false_or_eq_true (st == 0) with e0 | e0
  ·simp only [e0]
   exact ev_inv h set way hx e0
  ·simp only [e0]
   cases lk
   ·rcases Bool.eq_false_or_eq_true (st != 1) with e1 | e1
    ·rcases Bool.eq_false_or_eq_true (c.wb - (s.B.length : Int) == 0) with ef | ef
     ·simp only [e1, ef]
      exact ev_full h set way hx e0 e1 ef
     ·have e2 : ¬ st = 1 := by simpa using e1
      simp only [e1, ef, if_neg e2]
      exact ev_put h set way hx e0 e1 ef
    ·obtain rfl : st = 1 := by simpa using e1
     exact ev_shared h set way hx
   ·exact ev_lock h set way hx e0

end Go.Proofs.YtlfhkjjjocmpbaaGreatDoor.Cc
