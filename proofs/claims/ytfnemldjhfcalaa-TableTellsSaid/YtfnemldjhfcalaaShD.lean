/-
  New, and a set with a sharer more.
-/
import Derived.Test.YtfnemldjhfcalaaShB
import Derived.Test.YtfnemldjhfcalaaShC
namespace Go.Proofs.Ytfnemldjhfcalaa
open Go Go.RowKit Go.Sort

/-- A set of sharers. -/
structure St where
  c : Int
  m : Int
  l : List Int
  al : Bool
def z0 : St := ⟨0, 0, [], false⟩
def St.may (s : St) : Bool := mayB s.c s.m s.l s.al
def newS (c m : Int) : St × Int := if mayB c m [] false then (⟨c, m, [], false⟩, 0) else (z0, 1)
def withS (s : St) (x : Int) : St := if toldB s.l s.al x then s else if (s.l.length : Int) = s.m then ⟨s.c, s.m, [], true⟩ else ⟨s.c, s.m, insAt s.l (less s.l x) x, s.al⟩
def addS (s : St) (x : Int) : St × Int := if s.may then (if hasB s.c x then (withS s x, 0) else (z0, 5)) else (z0, 1)
/-- A set's value. -/
abbrev sval (s : St) (p : Option Addr) (cap : Nat) : Array Value := sv s.c s.m p s.l.length cap s.al

/-- What a call gives that tells a set, with an error's number beside it or without. -/
def SetOf (w : World) (s : St) (v : Value) (w' : World) : Prop := ∃ p cap, v = .agg (sval s p cap) ∧ NumsIn w' p s.l ∧ Below w.heap.size w w' ∧ ∀ a, p = some a → w.heap.size ≤ a.block
def GaveS (w : World) (s : St) (e : Int) (x : Ending) (w' : World) : Prop := ∃ v, x = .returned (.tuple #[v, .int .i64 e]) ∧ SetOf w s v w'
def Gave1 (w : World) (s : St) (x : Ending) (w' : World) : Prop := ∃ v, x = .returned v ∧ SetOf w s v w'

theorem results_cell_two {P : Program} {fn : Func} {p q : Tmp} {ty : TypeId} (h : fn.results = #[.cell p ty, .tmp q]) (tmps : Array Value) (w : World) (g : Nat) (t : TypeId) (cs : Array Value) (fr : Nat × Nat) (d : TypeDesc)
    (hp : tmps.getD p undef = .pointer (some ⟨g, 0, none⟩)) (hg : w.heap[g]? = some (.cells cs t fr))
    (hu : P.underlying ty = some d) (hd : (match d with | .struct _ | .array _ _ => true | _ => false) = true) (hi : (P.info? ty).map (·.size) = some cs.size) :
    (results fn tmps).run P w = .ok (.tuple #[.agg cs, tmps.getD q undef]) w := by
  have hp' : tmps[p]?.getD undef = .pointer (some ⟨g, 0, none⟩) := by simpa using hp
  simp [results, h, hp', asAddr, run_loadVar_row w g t ty cs fr d hg hu hd hi]
theorem new_at2 (w : World) (A B : Obj) : ((w.alloc A).alloc B).heap[w.heap.size + 1]? = some B := by
  have h1 := heap_alloc_new (w.alloc A) B
  have e1 : (w.alloc A).heap.size = w.heap.size + 1 := by simp
  rwa [e1] at h1
theorem new_at1 (w : World) (A B : Obj) : ((w.alloc A).alloc B).heap[w.heap.size]? = some A := by
  rw [Below.heap_alloc _ _ _ (by simp)]
  exact heap_alloc_new w A
theorem below_setRow {B : Nat} {w w' : World} (h : Below B w w') {g : Nat} (hg : B ≤ g) (cs : Array Value) : Below B w (w'.setRow g cs) :=
  h.trans ⟨rfl, rfl, rfl, by simp, fun k hk => setRow_other w' g k cs (by omega)⟩

/-- The call's own first two blocks, and that nothing of before has changed. -/
structure H2 (w : World) (A B : Array Value) (T T' : TypeId) (wr : World) : Prop where
  a : wr.heap[w.heap.size]? = some (.cells A T (0, 0))
  b : wr.heap[w.heap.size + 1]? = some (.cells B T' (0, 0))
  below : Below w.heap.size w wr
theorem H2.box (w : World) (A B : Array Value) (T T' : TypeId) : H2 w A B T T' ((w.alloc (.cells A T)).alloc (.cells B T')) :=
  ⟨new_at1 w _ _, new_at2 w _ _, ((Below.refl _ _).alloc (Nat.le_refl _) _).alloc (by simp) _⟩
theorem H2.step {w wr wr' : World} {A B : Array Value} {T T' : TypeId} (h : H2 w A B T T' wr) (hb : Below wr.heap.size wr wr') : H2 w A B T T' wr' :=
  ⟨(hb.block _ (lt_of_block h.a)).trans h.a, (hb.block _ (lt_of_block h.b)).trans h.b, bstep h.below hb⟩
/-- .. behind a call that may write into rows of the call's own beyond these. -/
theorem H2.past {w wr wr' : World} {A B : Array Value} {T T' : TypeId} (h : H2 w A B T T' wr) (hb : Below (w.heap.size + 2) wr wr') : H2 w A B T T' wr' :=
  ⟨(hb.block _ (by omega)).trans h.a, (hb.block _ (by omega)).trans h.b, h.below.trans (hb.mono (by omega))⟩
theorem H2.setA {w wr : World} {A B : Array Value} {T T' : TypeId} (h : H2 w A B T T' wr) (i : Nat) (u : Value) : H2 w (A.setIfInBounds i u) B T T' (wr.setCell ⟨w.heap.size, i, none⟩ u) :=
  ⟨heap_setCell_same wr _ i _ _ u h.a, (heap_setCell_other _ _ _ _ (by simp)).trans h.b, h.below.setCell (by simp) u⟩
theorem H2.cellsA {w wr : World} {A B : Array Value} {T T' : TypeId} (h : H2 w A B T T' wr) : ∀ o, wr.cell? ⟨w.heap.size, o, none⟩ = A[o]? := fun o => blk_cell h.a o
theorem H2.cellsB {w wr : World} {A B : Array Value} {T T' : TypeId} (h : H2 w A B T T' wr) : ∀ o, wr.cell? ⟨w.heap.size + 1, o, none⟩ = B[o]? := fun o => blk_cell h.b o

theorem NumsIn.row {w : World} {p : Option Addr} {l : List Int} (h : NumsIn w p l) (g : Nat) (hg : ∀ a, p = some a → a.block ≠ g) (cs : Array Value) : NumsIn (w.setRow g cs) p l := fun j hj => by
  obtain ⟨g', off, rfl, hb, hc⟩ := h j hj
  refine ⟨g', off, rfl, by simpa using hb, ?_⟩
  rw [World.cell?_of_block (setRow_other w g g' cs (hg _ rfl))]
  exact hc
theorem NumsIn.one {w : World} {p : Option Addr} {l : List Int} (h : NumsIn w p l) (g i : Nat) (hg : ∀ a, p = some a → a.block ≠ g) (u : Value) : NumsIn (w.setCell ⟨g, i, none⟩ u) p l := fun j hj => by
  obtain ⟨g', off, rfl, hb, hc⟩ := h j hj
  refine ⟨g', off, rfl, by simpa [World.setCell] using hb, ?_⟩
  rw [World.cell?_of_block (heap_setCell_other _ _ _ _ (hg _ rfl))]
  exact hc

/-- A return of a set, and of an error's number, out of the call's cell g. -/
theorem gave_ret {w wr : World} {s : St} {e : Int} {a : Act} {fn : Func} {g n : Nat} {p : Option Addr} {cap : Nat} {t1 t2 : Tmp} (hl : s.l.length = n) (hres : fn.results = #[.cell t1 24, .tmp t2]) (hp : a.tmps.getD t1 undef = .pointer (some ⟨g, 0, none⟩)) (hq : a.tmps.getD t2 undef = .int .i64 e) (hd : a.defers = [])
    (hg : wr.heap[g]? = some (.cells (sv s.c s.m p n cap s.al) 24 (0, 0))) (hn : NumsIn wr p s.l) (hb : Below w.heap.size w wr) (hf : ∀ a, p = some a → w.heap.size ≤ a.block) : bodyPost Try.prog fn (GaveS w s e) Exit.ret a wr := by
  subst hl
  exact bodyPost_ret (v := .tuple #[.agg (sval s p cap), a.tmps.getD t2 undef]) (results_cell_two hres _ _ g 24 _ (0, 0) _ hp hg Try.underlying24 rfl (by kernel_rfl)) hd ⟨_, by rw [hq], p, cap, rfl, hn, hb, hf⟩
theorem gave1_ret {w wr : World} {s : St} {a : Act} {fn : Func} {g n : Nat} {p : Option Addr} {cap : Nat} {t1 : Tmp} (hl : s.l.length = n) (hres : fn.results = #[.cell t1 24]) (hp : a.tmps.getD t1 undef = .pointer (some ⟨g, 0, none⟩)) (hd : a.defers = [])
    (hg : wr.heap[g]? = some (.cells (sv s.c s.m p n cap s.al) 24 (0, 0))) (hn : NumsIn wr p s.l) (hb : Below w.heap.size w wr) (hf : ∀ a, p = some a → w.heap.size ≤ a.block) : bodyPost Try.prog fn (Gave1 w s) Exit.ret a wr := by
  subst hl
  exact bodyPost_ret (v := .agg (sval s p cap)) (results_cell_row hres _ _ g 24 _ (0, 0) _ hp hg Try.underlying24 rfl (by kernel_rfl)) hd ⟨_, rfl, p, cap, rfl, hn, hb, hf⟩

set_option maxHeartbeats 1000000 in
theorem new_any (c m : Int) (w : World) :
    Calls Try.prog 17 #[.int .i64 c, .int .i64 m] w (GaveS w (newS c m).1 (newS c m).2) := by
  have K := H2.box w #[.int .i64 0, .int .i64 0, .slice none 0 0, .bool false] (sv c m none 0 0 false) 24 24
  rcases Bool.eq_false_or_eq_true (mayB c m [] false) with h | h
  · have H := Lib.hid h
    have e : newS c m = (⟨c, m, [], false⟩, 0) := by unfold newS; rw [if_pos h]
    rw [e]
    clear h e
    go_enter Try.func17, Try.ntmps17
    go_wp2_with (first
      | (go_at_call 27; refine (may_any c m none 0 [] false _ (by simp) (NumsIn.nil _ _)).mono ?_; rintro e w1 ⟨rfl, hb1⟩; rw [H.out]; have K2 := K.step hb1; have hc2 := K2.cellsB; clear K hb1)
      | ((with_reducible refine wpList_store_row (o := ⟨none, _, _, _, _, _⟩) rfl 24 (.tmp 4) (.tmp 14) rfl w.heap.size (sv c m none 0 0 false) ?sx ?sy 24 #[.int .i64 0, .int .i64 0, .slice none 0 0, .bool false] ?sg ?si ?so ?s1 ?_); (case sx => rfl); (case sy => rfl); (case sg => exact K2.a); (case si => kernel_rfl); (case so => rfl); (case s1 => kernel_rfl)))
    exact gave_ret (s := ⟨c, m, [], false⟩) rfl Try.results17 rfl rfl rfl (setRow_heap _ _ _ _ _ _ K2.a) (NumsIn.nil _ _) (below_setRow K2.below (Nat.le_refl _) _) (fun _ h => by cases h)
  · have H := Lib.hid h
    have e : newS c m = (z0, 1) := by unfold newS; rw [if_neg (by rw [h]; simp)]
    rw [e]
    clear h e
    go_enter Try.func17, Try.ntmps17
    go_wp2_with (first
      | (go_at_call 27; refine (may_any c m none 0 [] false _ (by simp) (NumsIn.nil _ _)).mono ?_; rintro e w1 ⟨rfl, hb1⟩; rw [H.out]; have K2 := K.step hb1; have hc2 := K2.cellsB; clear K hb1)
      | ((with_reducible refine wpList_store_row (o := ⟨none, _, _, _, _, _⟩) rfl 24 (.tmp 4) (.tmp 13) rfl w.heap.size (sv 0 0 none 0 0 false) ?sx ?sy 24 #[.int .i64 0, .int .i64 0, .slice none 0 0, .bool false] ?sg ?si ?so ?s1 ?_); (case sx => rfl); (case sy => rfl); (case sg => exact K2.a); (case si => kernel_rfl); (case so => rfl); (case s1 => kernel_rfl)))
    exact gave_ret (s := z0) rfl Try.results17 rfl rfl rfl (setRow_heap _ _ _ _ _ _ K2.a) (NumsIn.nil _ _) (below_setRow K2.below (Nat.le_refl _) _) (fun _ h => by cases h)

end Go.Proofs.Ytfnemldjhfcalaa
