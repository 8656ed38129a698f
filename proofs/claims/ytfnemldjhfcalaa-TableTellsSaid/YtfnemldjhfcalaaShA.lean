/-
  Lists of numbers in memory, and the smallest functions of a set of sharers: how many pointers there is room for, whether there is such a core, whether a number is in a list, whether the pointers rise.
-/
import Derived.Test.YtfnemldjhfcalaaRows
import Derived.WalkKit
import Derived.WalkSpells
import Derived.WalkLawsBesides
import Derived.Lib.Hide
import Derived.Deep.AppendLies
import Derived.Deep.QuietTactic
import Derived.Lib.QuietBelow
import Derived.BigQuiet
import Derived.Lib.SliceRun
namespace Go.Proofs.Ytfnemldjhfcalaa
open Go Go.RowKit Go.Sort

theorem ret_bool {a b : Bool} (h : a = b) : Ending.returned (.bool a) = .returned (.bool b) := by rw [h]
theorem ret_int {k : IntKind} {a b : Int} (h : a = b) : Ending.returned (.int k a) = .returned (.int k b) := by rw [h]
theorem bstep {w w1 w2 : World} (h : Below w.heap.size w w1) (h2 : Below w1.heap.size w1 w2) : Below w.heap.size w w2 := h.trans (h2.mono h.size)
theorem bbox {w w1 : World} {o : Obj} (h : Below (w.alloc o).heap.size (w.alloc o) w1) : Below w.heap.size w w1 := ((Below.refl _ _).alloc (Nat.le_refl _) _).trans (h.mono (by simp))
theorem balloc (w : World) (o : Obj) : Below w.heap.size w (w.alloc o) := (Below.refl _ w).alloc (Nat.le_refl _) o
theorem below_drewN {B : Nat} {w w' : World} (h : Below B w w') (n : Nat) : Below B w (w'.drewN n) := ⟨h.os, h.tape, h.output, h.size, h.block⟩
theorem blk_cell {w : World} {b : Nat} {L : Array Value} {t : TypeId} (h : w.heap[b]? = some (.cells L t (0, 0))) (i : Nat) : w.cell? ⟨b, i, none⟩ = L[i]? := by simp [World.cell?, h]
theorem blk_free {w : World} {b : Nat} {L : Array Value} {t : TypeId} (h : w.heap[b]? = some (.cells L t (0, 0))) (i : Nat) : w.frozen? ⟨b, i, none⟩ = false := by simp [World.frozen?, h]
theorem lt_of_block {w : World} {b : Nat} {o : Obj} (h : w.heap[b]? = some o) : b < w.heap.size := (Array.getElem?_eq_some_iff.1 h).1
/-- The call's first block has these cells, and nothing of before has changed. -/
def Kp (w : World) (L : Array Value) (w1 : World) : Prop := (∀ o, w1.cell? ⟨w.heap.size, o, none⟩ = L[o]?) ∧ w.heap.size < w1.heap.size ∧ Below w.heap.size w w1
theorem Kp.box (w : World) (L : Array Value) (t : TypeId) : Kp w L (w.alloc (.cells L t)) :=
  ⟨fun o => World.cell?_alloc_mark w L t (0, 0) o, by simp, balloc w _⟩
theorem Kp.step {w w1 w2 : World} {L : Array Value} (h : Kp w L w1) (hb : Below w1.heap.size w1 w2) : Kp w L w2 :=
  ⟨fun o => (hb.cell (p := ⟨w.heap.size, o, none⟩) h.2.1).trans (h.1 o), Nat.lt_of_lt_of_le h.2.1 hb.size, bstep h.2.2 hb⟩
theorem Kp.grown {w w1 : World} {L : Array Value} (h : Kp w L w1) : ∀ o d os, (grow (redrawn w1 d) os).cell? ⟨w.heap.size, o, none⟩ = L[o]? := fun o d os =>
  ((below_regrown w1 d os).cell (p := ⟨w.heap.size, o, none⟩) h.2.1).trans (h.1 o)

/-- Where a slice's numbers lie. -/
def NumsIn (w : World) (p : Option Addr) (l : List Int) : Prop :=
  ∀ j, j < l.length → ∃ g off, p = some ⟨g, off, none⟩ ∧ g < w.heap.size ∧ w.cell? ⟨g, off + j, none⟩ = some (.int .i64 (l.getD j 0))
theorem NumsIn.step {w w' : World} {p : Option Addr} {l : List Int} (h : NumsIn w p l) (hb : Below w.heap.size w w') : NumsIn w' p l := fun j hj => by
  obtain ⟨g, off, e, hg, h0⟩ := h j hj
  exact ⟨g, off, e, Nat.lt_of_lt_of_le hg hb.size, (hb.cell (p := ⟨g, off + j, none⟩) hg).trans h0⟩
theorem NumsIn.nil (w : World) (p : Option Addr) : NumsIn w p [] := fun j hj => by simp at hj

/-- A set of sharers' four cells. -/
abbrev sv (c m : Int) (p : Option Addr) (n cap : Nat) (al : Bool) : Array Value := #[.int .i64 c, .int .i64 m, .slice p n cap, .bool al]

theorem room_any (c m : Int) (p : Option Addr) (n cap : Nat) (al : Bool) (w : World) :
    Calls Try.prog 43 #[.agg (sv c m p n cap al)] w fun e w' => e = .returned (.int .i64 (if al then 0 else m)) ∧ Below w.heap.size w w' := by
  cases al
  · go_enter Try.func43, Try.ntmps43
    go_wp2
    go_ret
    exact ⟨rfl, balloc _ _⟩
  · go_enter Try.func43, Try.ntmps43
    go_wp2
    go_ret
    exact ⟨rfl, balloc _ _⟩

theorem room_is {m r : Int} {al : Bool} (hr : r = if al then 0 else m) (c : Int) (p : Option Addr) (n cap : Nat) (w : World) :
    Calls Try.prog 43 #[.agg (sv c m p n cap al)] w fun e w' => e = .returned (.int .i64 r) ∧ Below w.heap.size w w' := by
  rw [hr]
  exact room_any c m p n cap al w

def hasB (c x : Int) : Bool := decide (0 ≤ x) && decide (x < c)
theorem hasCore_any (c m : Int) (p : Option Addr) (n cap : Nat) (al : Bool) (x : Int) (w : World) :
    Calls Try.prog 29 #[.agg (sv c m p n cap al), .int .i64 x] w fun e w' => e = .returned (.bool (hasB c x)) ∧ Below w.heap.size w w' := by
  by_cases h : 0 ≤ x
  · go_enter Try.func29, Try.ntmps29
    go_wp2
    go_ret
    exact ⟨ret_bool (by simp [hasB, h]), balloc _ _⟩
  · have h' : decide (0 ≤ x) = false := by simpa using h
    clear h
    go_enter Try.func29, Try.ntmps29
    go_wp2
    go_ret
    exact ⟨ret_bool (by simp [hasB, h']), balloc _ _⟩

/-- The first place of a number, from a place on; -1 where there is none. -/
def placeFrom (x : Int) : List Int → Nat → Int
  | [], _ => -1
  | y :: l, k => if y = x then k else placeFrom x l (k + 1)
def place (l : List Int) (x : Int) : Int := placeFrom x l 0
theorem place_at (x : Int) (l : List Int) (i : Nat) (k : Nat) (hn : ∀ j, j < i → l.getD j 0 ≠ x) (hi : i < l.length) (hx : l.getD i 0 = x) : placeFrom x l k = ((k + i : Nat) : Int) := by
  induction l generalizing i k with
  | nil => simp at hi
  | cons y l ih =>
    cases i with
    | zero => simp at hx; simp [placeFrom, hx]
    | succ i =>
      have h0 : y ≠ x := by simpa using hn 0 (by omega)
      have := ih i (k + 1) (fun j hj => by simpa using hn (j + 1) (by omega)) (by simpa using hi) (by simpa using hx)
      unfold placeFrom
      rw [if_neg h0, this, show k + 1 + i = k + (i + 1) by omega]
theorem place_no (x : Int) (l : List Int) (k : Nat) (hn : ∀ j, j < l.length → l.getD j 0 ≠ x) : placeFrom x l k = -1 := by
  induction l generalizing k with
  | nil => rfl
  | cons y l ih =>
    have h0 : y ≠ x := by simpa using hn 0 (by simp)
    unfold placeFrom
    rw [if_neg h0]
    exact ih (k + 1) fun j hj => by simpa using hn (j + 1) (by simpa using hj)
theorem place_mem (x : Int) (l : List Int) (k : Nat) : decide (0 ≤ placeFrom x l k) = l.contains x := by
  induction l generalizing k with
  | nil => rfl
  | cons y l ih =>
    unfold placeFrom
    by_cases h : y = x
    · simp [h]
    · rw [if_neg h, ih, List.contains_cons]
      have : (x == y) = false := by simpa using fun e => h e.symm
      simp [this]

theorem index_any (p : Option Addr) (cap : Nat) (l : List Int) (x : Int) (w : World) (hl : l.length ≤ 5000) (h : NumsIn w p l) :
    Calls Try.prog 50 #[.slice p l.length cap, .int .i64 x] w fun e w' => e = .returned (.int .i64 (place l x)) ∧ w' = w := by
  have H := Lib.hid h
  clear h
  go_enter Try.func50, Try.ntmps50
  go_wp2
  go_loop [8] (fun i => ∃ k : Nat, k ≤ l.length ∧ i = .int .i64 k ∧ ∀ j, j < k → l.getD j 0 ≠ x) (fun i => l.length - (intOf i).toNat)
  case atStart => exact ⟨0, Nat.zero_le _, rfl, fun j hj => by omega⟩
  case round =>
    obtain ⟨k, hk, rfl, hno⟩ := hrel
    have HN := Lib.hid hno
    clear hno
    by_cases hlt : k < l.length
    · obtain ⟨g, off, rfl, hg, hc⟩ := H.out k hlt
      obtain ⟨y, hy⟩ : ∃ y, y = l.getD k 0 := ⟨_, rfl⟩
      rw [← hy] at hc
      have HY := Lib.hid hy
      clear hy
      by_cases he : x = y
      · have he' : (x == y) = true := by simpa using he
        have HE := Lib.hid he
        clear he
        go_wp2
        go_ret
        refine ⟨ret_int ?_, rfl⟩
        have := place_at x l k 0 HN.out hlt (HY.out ▸ HE.out.symm)
        unfold place
        rw [this]
        simp
      · have he' : (x == y) = false := by simpa using he
        have HE := Lib.hid he
        clear he
        go_wp2
        go_round
        case rel => exact ⟨k + 1, by omega, by go_num, fun j hj => by rcases Nat.lt_or_ge j k with h | h; exact HN.out j h; (rw [show j = k by omega, ← HY.out]; exact fun e => HE.out e.symm)⟩
        case measure => simp [intOf]; omega
    · go_wp2
      go_ret
      exact ⟨ret_int (place_no x l 0 fun j hj => HN.out j (by omega)).symm, rfl⟩

theorem contains_any (p : Option Addr) (cap : Nat) (l : List Int) (x : Int) (w : World) (hl : l.length ≤ 5000) (h : NumsIn w p l) :
    Calls Try.prog 45 #[.slice p l.length cap, .int .i64 x] w fun e w' => e = .returned (.bool (l.contains x)) ∧ w' = w := by
  have H := Lib.hid h
  have HP := Lib.hid (place_mem x l 0)
  clear h
  go_enter Try.func45, Try.ntmps45
  go_wp2_with (go_at_call 50; refine (index_any p cap l x _ hl H.out).mono ?_; rintro e w1 ⟨rfl, rfl⟩)
  go_ret
  exact ⟨ret_bool HP.out, rfl⟩

def toldB (l : List Int) (al : Bool) (x : Int) : Bool := al || l.contains x
theorem told_any (c m : Int) (p : Option Addr) (cap : Nat) (l : List Int) (al : Bool) (x : Int) (w : World) (hl : l.length ≤ 5000) (h : NumsIn w p l) :
    Calls Try.prog 30 #[.agg (sv c m p l.length cap al), .int .i64 x] w fun e w' => e = .returned (.bool (toldB l al x)) ∧ Below w.heap.size w w' := by
  have H := Lib.hid h
  clear h
  cases al
  · go_enter Try.func30, Try.ntmps30
    go_wp2_with (go_at_call 45; refine (contains_any p cap l x _ hl (H.out.step (balloc _ _))).mono ?_; rintro e w1 ⟨rfl, rfl⟩)
    go_ret
    exact ⟨ret_bool (by simp [toldB]), balloc _ _⟩
  · go_enter Try.func30, Try.ntmps30
    go_wp2
    go_ret
    exact ⟨ret_bool (by simp [toldB]), balloc _ _⟩

/-- Do numbers rise, from one on, below c? -/
def risesB (c : Int) : Int → List Int → Bool
  | _, [] => true
  | a, x :: l => !decide (x < a) && hasB c x && risesB c (x + 1) l
theorem drop_at (l : List Int) (k : Nat) (h : k < l.length) : l.drop k = l.getD k 0 :: l.drop (k + 1) := by
  rw [List.drop_eq_getElem_cons h]
  simp [List.getD_eq_getElem?_getD, h]

end Go.Proofs.Ytfnemldjhfcalaa
