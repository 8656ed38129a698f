/-
  What refusal does: why a line can't be asked for.
-/
import Derived.Test.YtlfhkjjjocmpbaaGreatDoorCcD
import Derived.Deep.RegionHeld3
namespace Go.Proofs.YtlfhkjjjocmpbaaGreatDoor.Cc
open Go Go.RowKit

variable {w0 w w' : World} {bx : Bx} {K : Kb} {c : Cfg} {core n : Int} {s : St}
theorem Own.drew {ty : Tys} (h : Own ty w0 K c core n s bx w) : Own ty w0 K c core n s bx w.drew := h.step (Below.refl _ _).drew
theorem Own.drewN {ty : Tys} (h : Own ty w0 K c core n s bx w) (q : Nat) : Own ty w0 K c core n s bx (w.drewN q) := h.step ⟨rfl, rfl, rfl, Nat.le_refl _, fun _ _ => rfl⟩

/-- A box of a Way beside what stands. -/
abbrev yb (m : Nat) (y : Ar.Wy) : Nat × Obj := (m, .cells (Ar.ycells y) 66)
set_option maxHeartbeats 1000000 in
theorem refusal_line (h : OwnP w0 K c core n s bx w) (line kind : Int) (e1 : (lnE c line != 0) = true) :
    Calls Tryz.prog 57 #[ptr K.k, .int .i64 line, .int .i64 kind] w fun e w' => e = .returned (.int .i64 1) ∧ Below w.heap.size w w' := by
  have HL := Lib.hid (h.line line)
  have HK := Lib.hid (fun w1 (hb : Below w.heap.size w w1) => (h.step hb).look line)
  have HA := Lib.hid (fun w1 (hb : Below w.heap.size w w1) => (h.step hb).add (.cells (Ar.ycells (look c s line)) 66))
  have HB := Lib.hid (fun w1 (hb : Below w.heap.size w w1) => (h.step hb).busy line)
  have HF := Lib.hid (fun w1 (hb : Below w.heap.size w w1) => (h.step hb).mlist)
  have HR := Lib.hid (fun w1 (hb : Below w.heap.size w w1) => (h.step hb).free line)
  have hk := h.kc
  clear h
  generalize look c s line = y at *
  generalize there c s line = q at *
  generalize busyB s line = b at *
  generalize lnE c line = er at *
  generalize Ar.oi (Ar.fre c s.A line) = fr at *
  generalize lnH c line = g1 at *
  generalize lnS c line = g2 at *
  generalize lnT c line = g3 at *
  all_goals
    go_enter Tryz.func57, Tryz.ntmps57
    go_wp2_with fail
    refine HL.out.mono ?_
    rintro e w1 ⟨rfl, hb1⟩
    go_wp2_with fail
    refine (HK.out _ hb1).mono ?_
    rintro e w2 ⟨rfl, hb2⟩
    have B2 := Lib.hid (b_step hb1 hb2)
    have L2 := Lib.hid (HA.out _ B2.out)
    have hk2 := L2.out.kc
    clear hb1 hb2
    have B3 := Lib.hid (b_step B2.out (b_alloc w2 (.cells (Ar.ycells y) 66)))
    go_wp2
    go_ret
    exact ⟨rfl, B3.out⟩

set_option maxHeartbeats 1000000 in
theorem refusal_kind (h : OwnP w0 K c core n s bx w) (line kind : Int) (e1 : (lnE c line != 0) = false) (k1 : (kind != 1) = true) (k2 : (kind != 2) = true) :
    Calls Tryz.prog 57 #[ptr K.k, .int .i64 line, .int .i64 kind] w fun e w' => e = .returned (.int .i64 1) ∧ Below w.heap.size w w' := by
  have HL := Lib.hid (h.line line)
  have HK := Lib.hid (fun w1 (hb : Below w.heap.size w w1) => (h.step hb).look line)
  have HA := Lib.hid (fun w1 (hb : Below w.heap.size w w1) => (h.step hb).add (.cells (Ar.ycells (look c s line)) 66))
  have HB := Lib.hid (fun w1 (hb : Below w.heap.size w w1) => (h.step hb).busy line)
  have HF := Lib.hid (fun w1 (hb : Below w.heap.size w w1) => (h.step hb).mlist)
  have HR := Lib.hid (fun w1 (hb : Below w.heap.size w w1) => (h.step hb).free line)
  have hk := h.kc
  clear h
  generalize look c s line = y at *
  generalize there c s line = q at *
  generalize busyB s line = b at *
  generalize lnE c line = er at *
  generalize Ar.oi (Ar.fre c s.A line) = fr at *
  generalize lnH c line = g1 at *
  generalize lnS c line = g2 at *
  generalize lnT c line = g3 at *
  all_goals
    go_enter Tryz.func57, Tryz.ntmps57
    go_wp2_with fail
    refine HL.out.mono ?_
    rintro e w1 ⟨rfl, hb1⟩
    go_wp2_with fail
    refine (HK.out _ hb1).mono ?_
    rintro e w2 ⟨rfl, hb2⟩
    have B2 := Lib.hid (b_step hb1 hb2)
    have L2 := Lib.hid (HA.out _ B2.out)
    have hk2 := L2.out.kc
    clear hb1 hb2
    have B3 := Lib.hid (b_step B2.out (b_alloc w2 (.cells (Ar.ycells y) 66)))
    go_wp2
    go_ret
    exact ⟨rfl, B3.out⟩

set_option maxHeartbeats 1000000 in
theorem refusal_busy (h : OwnP w0 K c core n s bx w) (line kind : Int) (e1 : (lnE c line != 0) = false) (hkk : kind = 1 ∨ kind = 2) (hb : busyB s line = true) :
    Calls Tryz.prog 57 #[ptr K.k, .int .i64 line, .int .i64 kind] w fun e w' => e = .returned (.int .i64 6) ∧ Below w.heap.size w w' := by
  have HL := Lib.hid (h.line line)
  have HK := Lib.hid (fun w1 (hb : Below w.heap.size w w1) => (h.step hb).look line)
  have HA := Lib.hid (fun w1 (hb : Below w.heap.size w w1) => (h.step hb).add (.cells (Ar.ycells (look c s line)) 66))
  have HB := Lib.hid (fun w1 (hb : Below w.heap.size w w1) => (h.step hb).busy line)
  have HF := Lib.hid (fun w1 (hb : Below w.heap.size w w1) => (h.step hb).mlist)
  have HR := Lib.hid (fun w1 (hb : Below w.heap.size w w1) => (h.step hb).free line)
  have hk := h.kc
  clear h
  generalize look c s line = y at *
  generalize there c s line = q at *
  generalize busyB s line = b at *
  generalize lnE c line = er at *
  generalize Ar.oi (Ar.fre c s.A line) = fr at *
  generalize lnH c line = g1 at *
  generalize lnS c line = g2 at *
  generalize lnT c line = g3 at *
  subst hb
  rcases hkk with rfl | rfl
  all_goals
    go_enter Tryz.func57, Tryz.ntmps57
    go_wp2_with fail
    refine HL.out.mono ?_
    rintro e w1 ⟨rfl, hb1⟩
    go_wp2_with fail
    refine (HK.out _ hb1).mono ?_
    rintro e w2 ⟨rfl, hb2⟩
    have B2 := Lib.hid (b_step hb1 hb2)
    have L2 := Lib.hid (HA.out _ B2.out)
    have hk2 := L2.out.kc
    clear hb1 hb2
    have B3 := Lib.hid (b_step B2.out (b_alloc w2 (.cells (Ar.ycells y) 66)))
    go_wp2_with fail
    refine (HB.out _ B3.out).mono ?_
    rintro e w4 ⟨rfl, hb4⟩
    have B4 := Lib.hid (b_step B3.out hb4)
    have L4 := Lib.hid (L2.out.step hb4)
    clear hb4 hk2
    have hk4 := L4.out.kc
    have hy4 := L4.out.cells (List.mem_cons_self ..)
    go_wp2
    go_ret
    exact ⟨rfl, B4.out⟩

set_option maxHeartbeats 1000000 in
theorem refusal_lets (h : OwnP w0 K c core n s bx w) (line kind : Int) (e1 : (lnE c line != 0) = false) (hkk : kind = 1 ∨ kind = 2) (hb : busyB s line = false) (hl : letsB (look c s line) (kind == 2) = true) :
    Calls Tryz.prog 57 #[ptr K.k, .int .i64 line, .int .i64 kind] w fun e w' => e = .returned (.int .i64 6) ∧ Below w.heap.size w w' := by
  have HL := Lib.hid (h.line line)
  have HK := Lib.hid (fun w1 (hb : Below w.heap.size w w1) => (h.step hb).look line)
  have HA := Lib.hid (fun w1 (hb : Below w.heap.size w w1) => (h.step hb).add (.cells (Ar.ycells (look c s line)) 66))
  have HB := Lib.hid (fun w1 (hb : Below w.heap.size w w1) => (h.step hb).busy line)
  have HF := Lib.hid (fun w1 (hb : Below w.heap.size w w1) => (h.step hb).mlist)
  have HR := Lib.hid (fun w1 (hb : Below w.heap.size w w1) => (h.step hb).free line)
  have hk := h.kc
  clear h
  generalize look c s line = y at *
  generalize there c s line = q at *
  generalize busyB s line = b at *
  generalize lnE c line = er at *
  generalize Ar.oi (Ar.fre c s.A line) = fr at *
  generalize lnH c line = g1 at *
  generalize lnS c line = g2 at *
  generalize lnT c line = g3 at *
  subst hb
  rcases hkk with rfl | rfl
  all_goals
    obtain ⟨q2, hq2, hl2⟩ : ∃ q2, q2 = _ ∧ letsB y q2 = true := ⟨_, rfl, hl⟩
    simp at hq2
    subst hq2
    clear hl
    go_enter Tryz.func57, Tryz.ntmps57
    go_wp2_with fail
    refine HL.out.mono ?_
    rintro e w1 ⟨rfl, hb1⟩
    go_wp2_with fail
    refine (HK.out _ hb1).mono ?_
    rintro e w2 ⟨rfl, hb2⟩
    have B2 := Lib.hid (b_step hb1 hb2)
    have L2 := Lib.hid (HA.out _ B2.out)
    have hk2 := L2.out.kc
    clear hb1 hb2
    have B3 := Lib.hid (b_step B2.out (b_alloc w2 (.cells (Ar.ycells y) 66)))
    go_wp2_with fail
    refine (HB.out _ B3.out).mono ?_
    rintro e w4 ⟨rfl, hb4⟩
    have B4 := Lib.hid (b_step B3.out hb4)
    have L4 := Lib.hid (L2.out.step hb4)
    clear hb4 hk2
    have hk4 := L4.out.kc
    have hy4 := L4.out.cells (List.mem_cons_self ..)
    go_wp2_with fail
    refine (lets_any y _ _).mono ?_
    rintro e w5 ⟨rfl, hb5⟩
    rw [hl2]
    have B5 := Lib.hid (b_step B4.out hb5)
    have L5 := Lib.hid (L4.out.step hb5)
    clear hb5 hk4 hy4
    have hk5 := L5.out.kc
    go_wp2
    go_ret
    exact ⟨rfl, B5.out⟩

set_option maxHeartbeats 1000000 in
theorem refusal_full (h : OwnP w0 K c core n s bx w) (line kind : Int) (e1 : (lnE c line != 0) = false) (hkk : kind = 1 ∨ kind = 2) (hb : busyB s line = false) (hl : letsB (look c s line) (kind == 2) = false) (hf : ((s.F.length : Int) == c.ms) = true) :
    Calls Tryz.prog 57 #[ptr K.k, .int .i64 line, .int .i64 kind] w fun e w' => e = .returned (.int .i64 4) ∧ Below w.heap.size w w' := by
  have HL := Lib.hid (h.line line)
  have HK := Lib.hid (fun w1 (hb : Below w.heap.size w w1) => (h.step hb).look line)
  have HA := Lib.hid (fun w1 (hb : Below w.heap.size w w1) => (h.step hb).add (.cells (Ar.ycells (look c s line)) 66))
  have HB := Lib.hid (fun w1 (hb : Below w.heap.size w w1) => (h.step hb).busy line)
  have HF := Lib.hid (fun w1 (hb : Below w.heap.size w w1) => (h.step hb).mlist)
  have HR := Lib.hid (fun w1 (hb : Below w.heap.size w w1) => (h.step hb).free line)
  have hk := h.kc
  clear h
  generalize look c s line = y at *
  generalize there c s line = q at *
  generalize busyB s line = b at *
  generalize lnE c line = er at *
  generalize Ar.oi (Ar.fre c s.A line) = fr at *
  generalize lnH c line = g1 at *
  generalize lnS c line = g2 at *
  generalize lnT c line = g3 at *
  subst hb
  rcases hkk with rfl | rfl
  all_goals
    obtain ⟨q2, hq2, hl2⟩ : ∃ q2, q2 = _ ∧ letsB y q2 = false := ⟨_, rfl, hl⟩
    simp at hq2
    subst hq2
    clear hl
    go_enter Tryz.func57, Tryz.ntmps57
    go_wp2_with fail
    refine HL.out.mono ?_
    rintro e w1 ⟨rfl, hb1⟩
    go_wp2_with fail
    refine (HK.out _ hb1).mono ?_
    rintro e w2 ⟨rfl, hb2⟩
    have B2 := Lib.hid (b_step hb1 hb2)
    have L2 := Lib.hid (HA.out _ B2.out)
    have hk2 := L2.out.kc
    clear hb1 hb2
    have B3 := Lib.hid (b_step B2.out (b_alloc w2 (.cells (Ar.ycells y) 66)))
    go_wp2_with fail
    refine (HB.out _ B3.out).mono ?_
    rintro e w4 ⟨rfl, hb4⟩
    have B4 := Lib.hid (b_step B3.out hb4)
    have L4 := Lib.hid (L2.out.step hb4)
    clear hb4 hk2
    have hk4 := L4.out.kc
    have hy4 := L4.out.cells (List.mem_cons_self ..)
    go_wp2_with fail
    refine (lets_any y _ _).mono ?_
    rintro e w5 ⟨rfl, hb5⟩
    rw [hl2]
    have B5 := Lib.hid (b_step B4.out hb5)
    have L5 := Lib.hid (L4.out.step hb5)
    clear hb5 hk4 hy4
    have hk5 := L5.out.kc
    go_wp2_with fail
    go_region_held3 (fun w' => ∀ o, w'.cell? ⟨K.k, o, none⟩ = (kcells c core K)[o]?)
      (first | exact L6.out.kc | exact hk5 | go_keep)
      (first
        | (go_at_call 67; refine (HF.out _ (by first | exact B5.out | exact B5.out.drew)).mono ?_; rintro e w6 ⟨p6, cap6, rfl, hi6, hb6⟩; clear hi6; have B6 := (by first | exact Lib.hid (b_step B5.out hb6) | exact Lib.hid (b_step B5.out.drew hb6)); have L6 := (by first | exact Lib.hid (L5.out.step hb6) | exact Lib.hid (L5.out.drew.step hb6)); clear hb6))
    have hk6 := L6.out.kc
    go_wp2
    go_ret
    exact ⟨rfl, B6.out⟩

set_option maxHeartbeats 1000000 in
theorem refusal_there (h : OwnP w0 K c core n s bx w) (line kind : Int) (e1 : (lnE c line != 0) = false) (hkk : kind = 1 ∨ kind = 2) (hb : busyB s line = false) (hl : letsB (look c s line) (kind == 2) = false) (hf : ((s.F.length : Int) == c.ms) = false) (hq : there c s line = true) :
    Calls Tryz.prog 57 #[ptr K.k, .int .i64 line, .int .i64 kind] w fun e w' => e = .returned (.int .i64 0) ∧ Below w.heap.size w w' := by
  have HL := Lib.hid (h.line line)
  have HK := Lib.hid (fun w1 (hb : Below w.heap.size w w1) => (h.step hb).look line)
  have HA := Lib.hid (fun w1 (hb : Below w.heap.size w w1) => (h.step hb).add (.cells (Ar.ycells (look c s line)) 66))
  have HB := Lib.hid (fun w1 (hb : Below w.heap.size w w1) => (h.step hb).busy line)
  have HF := Lib.hid (fun w1 (hb : Below w.heap.size w w1) => (h.step hb).mlist)
  have HR := Lib.hid (fun w1 (hb : Below w.heap.size w w1) => (h.step hb).free line)
  have hk := h.kc
  clear h
  generalize look c s line = y at *
  generalize there c s line = q at *
  generalize busyB s line = b at *
  generalize lnE c line = er at *
  generalize Ar.oi (Ar.fre c s.A line) = fr at *
  generalize lnH c line = g1 at *
  generalize lnS c line = g2 at *
  generalize lnT c line = g3 at *
  subst hb
  subst hq
  rcases hkk with rfl | rfl
  all_goals
    obtain ⟨q2, hq2, hl2⟩ : ∃ q2, q2 = _ ∧ letsB y q2 = false := ⟨_, rfl, hl⟩
    simp at hq2
    subst hq2
    clear hl
    go_enter Tryz.func57, Tryz.ntmps57
    go_wp2_with fail
    refine HL.out.mono ?_
    rintro e w1 ⟨rfl, hb1⟩
    go_wp2_with fail
    refine (HK.out _ hb1).mono ?_
    rintro e w2 ⟨rfl, hb2⟩
    have B2 := Lib.hid (b_step hb1 hb2)
    have L2 := Lib.hid (HA.out _ B2.out)
    have hk2 := L2.out.kc
    clear hb1 hb2
    have B3 := Lib.hid (b_step B2.out (b_alloc w2 (.cells (Ar.ycells y) 66)))
    go_wp2_with fail
    refine (HB.out _ B3.out).mono ?_
    rintro e w4 ⟨rfl, hb4⟩
    have B4 := Lib.hid (b_step B3.out hb4)
    have L4 := Lib.hid (L2.out.step hb4)
    clear hb4 hk2
    have hk4 := L4.out.kc
    have hy4 := L4.out.cells (List.mem_cons_self ..)
    go_wp2_with fail
    refine (lets_any y _ _).mono ?_
    rintro e w5 ⟨rfl, hb5⟩
    rw [hl2]
    have B5 := Lib.hid (b_step B4.out hb5)
    have L5 := Lib.hid (L4.out.step hb5)
    clear hb5 hk4 hy4
    have hk5 := L5.out.kc
    go_wp2_with fail
    go_region_held3 (fun w' => ∀ o, w'.cell? ⟨K.k, o, none⟩ = (kcells c core K)[o]?)
      (first | exact L6.out.kc | exact hk5 | go_keep)
      (first
        | (go_at_call 67; refine (HF.out _ (by first | exact B5.out | exact B5.out.drew)).mono ?_; rintro e w6 ⟨p6, cap6, rfl, hi6, hb6⟩; clear hi6; have B6 := (by first | exact Lib.hid (b_step B5.out hb6) | exact Lib.hid (b_step B5.out.drew hb6)); have L6 := (by first | exact Lib.hid (L5.out.step hb6) | exact Lib.hid (L5.out.drew.step hb6)); clear hb6))
    have hk6 := L6.out.kc
    go_wp2
    go_ret
    exact ⟨rfl, B6.out⟩

set_option maxHeartbeats 1000000 in
theorem refusal_none (h : OwnP w0 K c core n s bx w) (line kind : Int) (e1 : (lnE c line != 0) = false) (hkk : kind = 1 ∨ kind = 2) (hb : busyB s line = false) (hl : letsB (look c s line) (kind == 2) = false) (hf : ((s.F.length : Int) == c.ms) = false) (hq : there c s line = false) (hr : Ar.oi (Ar.fre c s.A line) < 0) (_ : decide (Ar.oi (Ar.fre c s.A line) < 0) = true) :
    Calls Tryz.prog 57 #[ptr K.k, .int .i64 line, .int .i64 kind] w fun e w' => e = .returned (.int .i64 5) ∧ Below w.heap.size w w' := by
  have HL := Lib.hid (h.line line)
  have HK := Lib.hid (fun w1 (hb : Below w.heap.size w w1) => (h.step hb).look line)
  have HA := Lib.hid (fun w1 (hb : Below w.heap.size w w1) => (h.step hb).add (.cells (Ar.ycells (look c s line)) 66))
  have HB := Lib.hid (fun w1 (hb : Below w.heap.size w w1) => (h.step hb).busy line)
  have HF := Lib.hid (fun w1 (hb : Below w.heap.size w w1) => (h.step hb).mlist)
  have HR := Lib.hid (fun w1 (hb : Below w.heap.size w w1) => (h.step hb).free line)
  have hk := h.kc
  clear h
  generalize look c s line = y at *
  generalize there c s line = q at *
  generalize busyB s line = b at *
  generalize lnE c line = er at *
  generalize Ar.oi (Ar.fre c s.A line) = fr at *
  generalize lnH c line = g1 at *
  generalize lnS c line = g2 at *
  generalize lnT c line = g3 at *
  subst hb
  subst hq
  rcases hkk with rfl | rfl
  all_goals
    obtain ⟨q2, hq2, hl2⟩ : ∃ q2, q2 = _ ∧ letsB y q2 = false := ⟨_, rfl, hl⟩
    simp at hq2
    subst hq2
    clear hl
    go_enter Tryz.func57, Tryz.ntmps57
    go_wp2_with fail
    refine HL.out.mono ?_
    rintro e w1 ⟨rfl, hb1⟩
    go_wp2_with fail
    refine (HK.out _ hb1).mono ?_
    rintro e w2 ⟨rfl, hb2⟩
    have B2 := Lib.hid (b_step hb1 hb2)
    have L2 := Lib.hid (HA.out _ B2.out)
    have hk2 := L2.out.kc
    clear hb1 hb2
    have B3 := Lib.hid (b_step B2.out (b_alloc w2 (.cells (Ar.ycells y) 66)))
    go_wp2_with fail
    refine (HB.out _ B3.out).mono ?_
    rintro e w4 ⟨rfl, hb4⟩
    have B4 := Lib.hid (b_step B3.out hb4)
    have L4 := Lib.hid (L2.out.step hb4)
    clear hb4 hk2
    have hk4 := L4.out.kc
    have hy4 := L4.out.cells (List.mem_cons_self ..)
    go_wp2_with fail
    refine (lets_any y _ _).mono ?_
    rintro e w5 ⟨rfl, hb5⟩
    rw [hl2]
    have B5 := Lib.hid (b_step B4.out hb5)
    have L5 := Lib.hid (L4.out.step hb5)
    clear hb5 hk4 hy4
    have hk5 := L5.out.kc
    go_wp2_with fail
    go_region_held3 (fun w' => ∀ o, w'.cell? ⟨K.k, o, none⟩ = (kcells c core K)[o]?)
      (first | exact L6.out.kc | exact hk5 | go_keep)
      (first
        | (go_at_call 67; refine (HF.out _ (by first | exact B5.out | exact B5.out.drew)).mono ?_; rintro e w6 ⟨p6, cap6, rfl, hi6, hb6⟩; clear hi6; have B6 := (by first | exact Lib.hid (b_step B5.out hb6) | exact Lib.hid (b_step B5.out.drew hb6)); have L6 := (by first | exact Lib.hid (L5.out.step hb6) | exact Lib.hid (L5.out.drew.step hb6)); clear hb6))
    have hk6 := L6.out.kc
    go_wp2_with fail
    refine (HR.out _ B6.out).mono ?_
    rintro e w7 ⟨rfl, hb7⟩
    have B7 := Lib.hid (b_step B6.out hb7)
    clear hb7 hk6
    go_wp2
    go_ret
    exact ⟨rfl, B7.out⟩

set_option maxHeartbeats 1000000 in
theorem refusal_ok (h : OwnP w0 K c core n s bx w) (line kind : Int) (e1 : (lnE c line != 0) = false) (hkk : kind = 1 ∨ kind = 2) (hb : busyB s line = false) (hl : letsB (look c s line) (kind == 2) = false) (hf : ((s.F.length : Int) == c.ms) = false) (hq : there c s line = false) (_ : 0 ≤ Ar.oi (Ar.fre c s.A line)) (hr2 : decide (Ar.oi (Ar.fre c s.A line) < 0) = false) :
    Calls Tryz.prog 57 #[ptr K.k, .int .i64 line, .int .i64 kind] w fun e w' => e = .returned (.int .i64 0) ∧ Below w.heap.size w w' := by
  have HL := Lib.hid (h.line line)
  have HK := Lib.hid (fun w1 (hb : Below w.heap.size w w1) => (h.step hb).look line)
  have HA := Lib.hid (fun w1 (hb : Below w.heap.size w w1) => (h.step hb).add (.cells (Ar.ycells (look c s line)) 66))
  have HB := Lib.hid (fun w1 (hb : Below w.heap.size w w1) => (h.step hb).busy line)
  have HF := Lib.hid (fun w1 (hb : Below w.heap.size w w1) => (h.step hb).mlist)
  have HR := Lib.hid (fun w1 (hb : Below w.heap.size w w1) => (h.step hb).free line)
  have hk := h.kc
  clear h
  generalize look c s line = y at *
  generalize there c s line = q at *
  generalize busyB s line = b at *
  generalize lnE c line = er at *
  generalize Ar.oi (Ar.fre c s.A line) = fr at *
  generalize lnH c line = g1 at *
  generalize lnS c line = g2 at *
  generalize lnT c line = g3 at *
  subst hb
  subst hq
  rcases hkk with rfl | rfl
  all_goals
    obtain ⟨q2, hq2, hl2⟩ : ∃ q2, q2 = _ ∧ letsB y q2 = false := ⟨_, rfl, hl⟩
    simp at hq2
    subst hq2
    clear hl
    go_enter Tryz.func57, Tryz.ntmps57
    go_wp2_with fail
    refine HL.out.mono ?_
    rintro e w1 ⟨rfl, hb1⟩
    go_wp2_with fail
    refine (HK.out _ hb1).mono ?_
    rintro e w2 ⟨rfl, hb2⟩
    have B2 := Lib.hid (b_step hb1 hb2)
    have L2 := Lib.hid (HA.out _ B2.out)
    have hk2 := L2.out.kc
    clear hb1 hb2
    have B3 := Lib.hid (b_step B2.out (b_alloc w2 (.cells (Ar.ycells y) 66)))
    go_wp2_with fail
    refine (HB.out _ B3.out).mono ?_
    rintro e w4 ⟨rfl, hb4⟩
    have B4 := Lib.hid (b_step B3.out hb4)
    have L4 := Lib.hid (L2.out.step hb4)
    clear hb4 hk2
    have hk4 := L4.out.kc
    have hy4 := L4.out.cells (List.mem_cons_self ..)
    go_wp2_with fail
    refine (lets_any y _ _).mono ?_
    rintro e w5 ⟨rfl, hb5⟩
    rw [hl2]
    have B5 := Lib.hid (b_step B4.out hb5)
    have L5 := Lib.hid (L4.out.step hb5)
    clear hb5 hk4 hy4
    have hk5 := L5.out.kc
    go_wp2_with fail
    go_region_held3 (fun w' => ∀ o, w'.cell? ⟨K.k, o, none⟩ = (kcells c core K)[o]?)
      (first | exact L6.out.kc | exact hk5 | go_keep)
      (first
        | (go_at_call 67; refine (HF.out _ (by first | exact B5.out | exact B5.out.drew)).mono ?_; rintro e w6 ⟨p6, cap6, rfl, hi6, hb6⟩; clear hi6; have B6 := (by first | exact Lib.hid (b_step B5.out hb6) | exact Lib.hid (b_step B5.out.drew hb6)); have L6 := (by first | exact Lib.hid (L5.out.step hb6) | exact Lib.hid (L5.out.drew.step hb6)); clear hb6))
    have hk6 := L6.out.kc
    go_wp2_with fail
    refine (HR.out _ B6.out).mono ?_
    rintro e w7 ⟨rfl, hb7⟩
    have B7 := Lib.hid (b_step B6.out hb7)
    clear hb7 hk6
    go_wp2
    go_ret
    exact ⟨rfl, B7.out⟩

/-- Why a line can't be asked for. -/
theorem Own.refusal (h : OwnP w0 K c core n s bx w) (line kind : Int) :
    Calls Tryz.prog 57 #[ptr K.k, .int .i64 line, .int .i64 kind] w fun e w' => e = .returned (.int .i64 (refP c s line kind)) ∧ Below w.heap.size w w' := by
  unfold refP
  rcases Bool.eq_false_or_eq_true (lnE c line != 0) with e1 | e1
  · rw [if_pos (by simp [e1])]
    exact refusal_line h line kind e1
  · by_cases hkk : kind = 1 ∨ kind = 2
    · rw [if_neg (by rcases hkk with rfl | rfl <;> simp [e1])]
      rcases Bool.eq_false_or_eq_true (busyB s line) with hb | hb
      · rw [if_pos (by simp [hb])]
        exact refusal_busy h line kind e1 hkk hb
      · rcases Bool.eq_false_or_eq_true (letsB (Go.Proofs.YtlfhkjjjocmpbaaGreatDoor.Cc.look c s line) (kind == 2)) with hl | hl
        · rw [if_pos (by simp [hl])]
          exact refusal_lets h line kind e1 hkk hb hl
        · rw [if_neg (by simp [hb, hl])]
          by_cases hf : (s.F.length : Int) = c.ms
          · rw [if_pos hf]
            exact refusal_full h line kind e1 hkk hb hl (by simpa using hf)
          · rw [if_neg hf]
            have hf' : ((s.F.length : Int) == c.ms) = false := by simpa using hf
            rcases Bool.eq_false_or_eq_true (there c s line) with hq | hq
            · rw [if_neg (by simp [hq])]
              exact refusal_there h line kind e1 hkk hb hl hf' hq
            · by_cases hr : Ar.oi (Ar.fre c s.A line) < 0
              · rw [if_pos (by simp [hq, hr])]
                exact refusal_none h line kind e1 hkk hb hl hf' hq hr (by simpa using hr)
              · rw [if_neg (by simp [hr])]
                exact refusal_ok h line kind e1 hkk hb hl hf' hq (by omega) (by simpa using hr)
    · rw [if_pos (by simp [e1]; omega)]
      exact refusal_kind h line kind e1 (by simp; omega) (by simp; omega)

end Go.Proofs.YtlfhkjjjocmpbaaGreatDoor.Cc
