/-
  What the smallest functions of package message do, one contract each.
-/
import Derived.Test.YtdggjbaapnkcgaaMsN
import Derived.Deep.QuietTactic
import Derived.BigQuiet
import Derived.Lib.QuietBelow
import Derived.Sort.Grow
namespace Go.Proofs.Ytdggjbaapnkcgaa
open Go Go.RowKit Go.Sort

abbrev mcells (m : Msg) : Array Value := #[.int .i64 m.kd, .int .i64 m.ln, .int .i64 m.fr, .int .i64 m.to, .int .i64 m.wh, .int .i64 m.ac, .int .i64 m.ow, .int .i64 m.w0, .int .i64 m.w1, .int .i64 m.w2, .int .i64 m.w3, .int .i64 m.w4, .int .i64 m.w5, .int .i64 m.w6, .int .i64 m.w7]
abbrev mv (m : Msg) : Value := .agg (mcells m)
abbrev ccells (c : Cfg) : Array Value := #[.int .i64 c.co, .int .i64 c.ho, .int .i64 c.se, .int .i64 c.wa, .int .i64 c.wo, .int .i64 c.li, .int .i64 c.po, .int .i64 c.ms, .int .i64 c.bu, .int .i64 c.wb, .int .i64 c.r0, .int .i64 c.r1, .int .i64 c.r2]

theorem isOneOf_any (n k : Int) (w : World) :
    Calls Try.prog 42 #[.int .i64 n, .int .i64 k] w fun e w' => e = .returned (.bool (isin n k)) ∧ w = w' := by
  go_enter Try.func42, Try.ntmps42
  go_wp2
  · have h : 0 ≤ n := by assumption
    go_ret
    exact ⟨ret_bool (by simp [isin, h]), rfl⟩
  · have h : n < 0 := by assumption
    go_ret
    exact ⟨ret_bool (by simp [isin]; omega), rfl⟩

theorem homeOf_any (c : Cfg) (l : Int) (w : World) (h0 : 0 ≤ l) (hh : 1 ≤ c.ho) (h2 : c.ho ≤ 16) :
    Calls Try.prog 71 #[cv c, .int .i64 l] w fun e w' => e = .returned (.int .i64 (l % c.ho)) ∧ Below w.heap.size w w' := by
  have hne : (c.ho == 0) = false := by simp; omega
  go_enter Try.func71, Try.ntmps71
  go_wp2
  go_ret
  exact ⟨rfl, (Below.refl _ _).alloc (Nat.le_refl _) _⟩

theorem isBare_any (m : Msg) (w : World) :
    Calls Try.prog 70 #[mv m] w fun e w' => e = .returned (.bool (bare m)) ∧ Below w.heap.size w w' := by
  go_enter Try.func70, Try.ntmps70
  go_wp2
  all_goals go_ret
  all_goals exact ⟨ret_bool (by simp_all [bare]), (Below.refl _ _).alloc (Nat.le_refl _) _⟩

theorem isAnother_any (c : Cfg) (n k : Int) (w : World) :
    Calls Try.prog 77 #[cv c, .int .i64 n, .int .i64 k] w fun e w' => e = .returned (.bool (another c n k)) ∧ Below w.heap.size w w' := by
  go_enter Try.func77, Try.ntmps77
  go_wp2_with (go_at_call 42; refine (isOneOf_any _ _ _).mono ?_; rintro e w1 ⟨rfl, rfl⟩)
  all_goals go_ret
  all_goals exact ⟨ret_bool (by simp_all [another]), (Below.refl _ _).alloc (Nat.le_refl _) _⟩

theorem areAcks_any (c : Cfg) (a : Int) (b : Bool) (w : World) :
    Calls Try.prog 78 #[cv c, .int .i64 a, .bool b] w fun e w' => e = .returned (.bool (acks c a b)) ∧ Below w.heap.size w w' := by
  go_enter Try.func78, Try.ntmps78
  go_wp2_with (go_at_call 42; refine (isOneOf_any _ _ _).mono ?_; rintro e w1 ⟨rfl, rfl⟩)
  all_goals go_ret
  all_goals exact ⟨ret_bool (by simp_all [acks]), (Below.refl _ _).alloc (Nat.le_refl _) _⟩

theorem isGiven_any (n : Int) (w : World) :
    Calls Try.prog 84 #[.int .i64 n] w fun e w' => e = .returned (.bool (given n)) ∧ w = w' := by
  go_enter Try.func84, Try.ntmps84
  go_wp2
  all_goals go_ret
  all_goals exact ⟨ret_bool (by simp_all [given, Bool.or_assoc]), rfl⟩

/-- As the class of a quiet region wants them. -/
theorem isOneOf_is {n k : Int} {b : Bool} (h : isin n k = b) (w : World) :
    Calls Try.prog 42 #[.int .i64 n, .int .i64 k] w fun e w' => e = .returned (.bool b) ∧ Below w.heap.size w w' := by
  subst h
  exact (isOneOf_any n k w).mono fun _ _ ⟨h, hw⟩ => ⟨h, hw ▸ Below.refl _ _⟩

/-- The call's own first two blocks still hold these cells, and nothing that was there has changed. -/
structure K2 (w : World) (A B : Array Value) (w1 : World) : Prop where
  a : ∀ o, w1.cell? ⟨w.heap.size, o, none⟩ = A[o]?
  b : ∀ o, w1.cell? ⟨w.heap.size + 1, o, none⟩ = B[o]?
  lt : w.heap.size + 1 < w1.heap.size
  below : Below w.heap.size w w1
theorem K2.box (w : World) (A B : Array Value) (t t' : TypeId) : K2 w A B ((w.alloc (.cells A t)).alloc (.cells B t')) where
  a := fun o => (((Below.refl _ (w.alloc (.cells A t))).alloc (Nat.le_refl _) (.cells B t')).cell (p := ⟨w.heap.size, o, none⟩) (by simp)).trans (World.cell?_alloc_mark w A t (0, 0) o)
  b := fun o => by
    exact (show w.heap.size + 1 = (w.alloc (.cells A t)).heap.size by simp) ▸ World.cell?_alloc_mark (w.alloc (.cells A t)) B t' (0, 0) o
  lt := by simp
  below := ((Below.refl _ _).alloc (Nat.le_refl _) _).alloc (by simp) _
theorem K2.step {w w1 w2 : World} {A B : Array Value} (h : K2 w A B w1) (hb : Below w1.heap.size w1 w2) : K2 w A B w2 where
  a := fun o => (hb.cell (p := ⟨w.heap.size, o, none⟩) (by have := h.lt; simp only; omega)).trans (h.a o)
  b := fun o => (hb.cell (p := ⟨w.heap.size + 1, o, none⟩) h.lt).trans (h.b o)
  lt := Nat.lt_of_lt_of_le h.lt hb.size
  below := bstep h.below hb
theorem K2.grown {w w1 : World} {A B : Array Value} (h : K2 w A B w1) : (∀ o d os, (grow (redrawn w1 d) os).cell? ⟨w.heap.size, o, none⟩ = A[o]?) ∧ (∀ o d os, (grow (redrawn w1 d) os).cell? ⟨w.heap.size + 1, o, none⟩ = B[o]?) :=
  ⟨fun o d os => (h.step (below_regrown w1 d os)).a o, fun o d os => (h.step (below_regrown w1 d os)).b o⟩
/-- The call's own first three blocks. -/
structure K3 (w : World) (A B C : Array Value) (w1 : World) : Prop where
  a : ∀ o, w1.cell? ⟨w.heap.size, o, none⟩ = A[o]?
  b : ∀ o, w1.cell? ⟨w.heap.size + 1, o, none⟩ = B[o]?
  c : ∀ o, w1.cell? ⟨w.heap.size + 2, o, none⟩ = C[o]?
  lt : w.heap.size + 2 < w1.heap.size
  below : Below w.heap.size w w1
theorem K3.box (w : World) (A B C : Array Value) (t t' t'' : TypeId) : K3 w A B C (((w.alloc (.cells A t)).alloc (.cells B t')).alloc (.cells C t'')) where
  a := ((K2.box w A B t t').step ((Below.refl _ _).alloc (Nat.le_refl _) _)).a
  b := ((K2.box w A B t t').step ((Below.refl _ _).alloc (Nat.le_refl _) _)).b
  c := fun o => by
    exact (show w.heap.size + 2 = ((w.alloc (.cells A t)).alloc (.cells B t')).heap.size by simp) ▸ World.cell?_alloc_mark ((w.alloc (.cells A t)).alloc (.cells B t')) C t'' (0, 0) o
  lt := by simp
  below := (((Below.refl _ _).alloc (Nat.le_refl _) _).alloc (by simp) _).alloc (by simp; omega) _
theorem K3.step {w w1 w2 : World} {A B C : Array Value} (h : K3 w A B C w1) (hb : Below w1.heap.size w1 w2) : K3 w A B C w2 where
  a := fun o => (hb.cell (p := ⟨w.heap.size, o, none⟩) (by have := h.lt; simp only; omega)).trans (h.a o)
  b := fun o => (hb.cell (p := ⟨w.heap.size + 1, o, none⟩) (by have := h.lt; simp only; omega)).trans (h.b o)
  c := fun o => (hb.cell (p := ⟨w.heap.size + 2, o, none⟩) h.lt).trans (h.c o)
  lt := Nat.lt_of_lt_of_le h.lt hb.size
  below := bstep h.below hb

end Go.Proofs.Ytdggjbaapnkcgaa
