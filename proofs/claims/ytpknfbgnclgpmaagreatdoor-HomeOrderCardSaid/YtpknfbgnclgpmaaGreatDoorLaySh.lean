/-
  Several texts in one: ShA, ShB, ShC, ShD, ShE, ShF, ShG, ShH, ShM.
-/
import Derived.Test.YtpknfbgnclgpmaaGreatDoorRows
import Derived.WalkKit
import Derived.WalkSpells
import Derived.WalkLawsBesides
import Derived.Lib.Hide
import Derived.Deep.AppendLies
import Derived.Deep.QuietTactic
import Derived.Lib.QuietBelow
import Derived.BigQuiet
import Derived.Lib.SliceRun
import Derived.Deep.RegionHeld3
import Derived.Test.YtpknfbgnclgpmaaGreatDoorShelf
import Derived.Laws.AppendOwn
import Derived.Maps.Views

/-
  Lists of numbers in memory, and the smallest functions of a set of sharers: how many pointers there is room for, whether there is such a core, whether a number is in a list, whether the pointers rise.
-/
namespace Go.Proofs.YtpknfbgnclgpmaaGreatDoor.Sh
open Go Go.RowKit Go.Sort

theorem ret_bool {a b : Bool} (h : a = b) : Ending.returned (.bool a) = .returned (.bool b) := by rw [h]
theorem ret_int {k : IntKind} {a b : Int} (h : a = b) : Ending.returned (.int k a) = .returned (.int k b) := by rw [h]
theorem bstep {w w1 w2 : World} (h : Below w.heap.size w w1) (h2 : Below w1.heap.size w1 w2) : Below w.heap.size w w2 := h.trans (h2.mono h.size)
theorem bbox {w w1 : World} {o : Obj} (h : Below (w.alloc o).heap.size (w.alloc o) w1) : Below w.heap.size w w1 := ((Below.refl _ _).alloc (Nat.le_refl _) _).trans (h.mono (by simp))
theorem balloc (w : World) (o : Obj) : Below w.heap.size w (w.alloc o) := (Below.refl _ w).alloc (Nat.le_refl _) o
theorem below_drewN {B : Nat} {w w' : World} (h : Below B w w') (n : Nat) : Below B w (w'.drewN n) := ⟨h.os, h.tape, h.output, h.size, h.block⟩
theorem blk_cell {w : World} {b : Nat} {L : Array Value} {t : TypeId} (h : w.heap[b]? = some (.cells L t (0, 0))) (i : Nat) : w.cell? ⟨b, i, none⟩ = L[i]? := by simp [World.cell?, h]
theorem blk_free {w : World} {b : Nat} {L : Array Value} {t : TypeId} (h : w.heap[b]? = some (.cells L t (0, 0))) (i : Nat) : w.frozen? ⟨b, i, none⟩ = false := by simp [World.frozen?, h]
theorem lt_of_block {w : World} {b : Nat} {o : Obj} (h : w.heap[b]? = some o) : b < w.heap.size := (Array.getElem?_eq_some_iff.1 h).1
/-- The call's first block has these cells, and nothing of before has changed. -/
def Kp (w : World) (L : Array Value) (w1 : World) : Prop := (∀ o, w1.cell? ⟨w.heap.size, o, none⟩ = L[o]?) ∧ w.heap.size < w1.heap.size ∧ Below w.heap.size w w1
theorem Kp.box (w : World) (L : Array Value) (t : TypeId) : Kp w L (w.alloc (.cells L t)) :=
  ⟨fun o => World.cell?_alloc_mark w L t (0, 0) o, by simp, balloc w _⟩
theorem Kp.step {w w1 w2 : World} {L : Array Value} (h : Kp w L w1) (hb : Below w1.heap.size w1 w2) : Kp w L w2 :=
  ⟨fun o => (hb.cell (p := ⟨w.heap.size, o, none⟩) h.2.1).trans (h.1 o), Nat.lt_of_lt_of_le h.2.1 hb.size, bstep h.2.2 hb⟩
theorem Kp.grown {w w1 : World} {L : Array Value} (h : Kp w L w1) : ∀ o d os, (grow (redrawn w1 d) os).cell? ⟨w.heap.size, o, none⟩ = L[o]? := fun o d os =>
  ((below_regrown w1 d os).cell (p := ⟨w.heap.size, o, none⟩) h.2.1).trans (h.1 o)

/-- Where a slice's numbers lie. -/
def NumsIn (w : World) (p : Option Addr) (l : List Int) : Prop :=
  ∀ j, j < l.length → ∃ g off, p = some ⟨g, off, none⟩ ∧ g < w.heap.size ∧ w.cell? ⟨g, off + j, none⟩ = some (.int .i64 (l.getD j 0))
theorem NumsIn.step {w w' : World} {p : Option Addr} {l : List Int} (h : NumsIn w p l) (hb : Below w.heap.size w w') : NumsIn w' p l := fun j hj => by
  obtain ⟨g, off, e, hg, h0⟩ := h j hj
  exact ⟨g, off, e, Nat.lt_of_lt_of_le hg hb.size, (hb.cell (p := ⟨g, off + j, none⟩) hg).trans h0⟩
theorem NumsIn.nil (w : World) (p : Option Addr) : NumsIn w p [] := fun j hj => by simp at hj

/-- A set of sharers' four cells. -/
abbrev sv (c m : Int) (p : Option Addr) (n cap : Nat) (al : Bool) : Array Value := #[.int .i64 c, .int .i64 m, .slice p n cap, .bool al]

theorem room_any (c m : Int) (p : Option Addr) (n cap : Nat) (al : Bool) (w : World) :
    Calls Tryz.prog 121 #[.agg (sv c m p n cap al)] w fun e w' => e = .returned (.int .i64 (if al then 0 else m)) ∧ Below w.heap.size w w' := by
  cases al
  · go_enter Tryz.func121, Tryz.ntmps121
    go_wp2
    go_ret
    exact ⟨rfl, balloc _ _⟩
  · go_enter Tryz.func121, Tryz.ntmps121
    go_wp2
    go_ret
    exact ⟨rfl, balloc _ _⟩

theorem room_is {m r : Int} {al : Bool} (hr : r = if al then 0 else m) (c : Int) (p : Option Addr) (n cap : Nat) (w : World) :
    Calls Tryz.prog 121 #[.agg (sv c m p n cap al)] w fun e w' => e = .returned (.int .i64 r) ∧ Below w.heap.size w w' := by
  rw [hr]
  exact room_any c m p n cap al w

def hasB (c x : Int) : Bool := decide (0 ≤ x) && decide (x < c)
theorem hasCore_any (c m : Int) (p : Option Addr) (n cap : Nat) (al : Bool) (x : Int) (w : World) :
    Calls Tryz.prog 135 #[.agg (sv c m p n cap al), .int .i64 x] w fun e w' => e = .returned (.bool (hasB c x)) ∧ Below w.heap.size w w' := by
  by_cases h : 0 ≤ x
  · go_enter Tryz.func135, Tryz.ntmps135
    go_wp2
    go_ret
    exact ⟨ret_bool (by simp [hasB, h]), balloc _ _⟩
  · have h' : decide (0 ≤ x) = false := by simpa using h
    clear h
    go_enter Tryz.func135, Tryz.ntmps135
    go_wp2
    go_ret
    exact ⟨ret_bool (by simp [hasB, h']), balloc _ _⟩

/-- The first place of a number, from a place on; -1 where there is none. -/
def placeFrom (x : Int) : List Int → Nat → Int
  | [], _ => -1
  | y :: l, k => if y = x then k else placeFrom x l (k + 1)
def place (l : List Int) (x : Int) : Int := placeFrom x l 0
theorem place_at (x : Int) (l : List Int) (i : Nat) (k : Nat) (hn : ∀ j, j < i → l.getD j 0 ≠ x) (hi : i < l.length) (hx : l.getD i 0 = x) : placeFrom x l k = ((k + i : Nat) : Int) := by
  induction l generalizing i k with
  | nil => simp at hi
  | cons y l ih =>
    cases i with
    | zero => simp at hx; simp [placeFrom, hx]
    | succ i =>
      have h0 : y ≠ x := by simpa using hn 0 (by omega)
      have := ih i (k + 1) (fun j hj => by simpa using hn (j + 1) (by omega)) (by simpa using hi) (by simpa using hx)
      unfold placeFrom
      rw [if_neg h0, this, show k + 1 + i = k + (i + 1) by omega]
theorem place_no (x : Int) (l : List Int) (k : Nat) (hn : ∀ j, j < l.length → l.getD j 0 ≠ x) : placeFrom x l k = -1 := by
  induction l generalizing k with
  | nil => rfl
  | cons y l ih =>
    have h0 : y ≠ x := by simpa using hn 0 (by simp)
    unfold placeFrom
    rw [if_neg h0]
    exact ih (k + 1) fun j hj => by simpa using hn (j + 1) (by simpa using hj)
theorem place_mem (x : Int) (l : List Int) (k : Nat) : decide (0 ≤ placeFrom x l k) = l.contains x := by
  induction l generalizing k with
  | nil => rfl
  | cons y l ih =>
    unfold placeFrom
    by_cases h : y = x
    · simp [h]
    · rw [if_neg h, ih, List.contains_cons]
      have : (x == y) = false := by simpa using fun e => h e.symm
      simp [this]

theorem index_any (p : Option Addr) (cap : Nat) (l : List Int) (x : Int) (w : World) (hl : l.length ≤ 5000) (h : NumsIn w p l) :
    Calls Tryz.prog 144 #[.slice p l.length cap, .int .i64 x] w fun e w' => e = .returned (.int .i64 (place l x)) ∧ w' = w := by
  have H := Lib.hid h
  clear h
  go_enter Tryz.func144, Tryz.ntmps144
  go_wp2
  go_loop [8] (fun i => ∃ k : Nat, k ≤ l.length ∧ i = .int .i64 k ∧ ∀ j, j < k → l.getD j 0 ≠ x) (fun i => l.length - (intOf i).toNat)
  case atStart => exact ⟨0, Nat.zero_le _, rfl, fun j hj => by omega⟩
  case round =>
    obtain ⟨k, hk, rfl, hno⟩ := hrel
    have HN := Lib.hid hno
    clear hno
    by_cases hlt : k < l.length
    · obtain ⟨g, off, rfl, hg, hc⟩ := H.out k hlt
      obtain ⟨y, hy⟩ : ∃ y, y = l.getD k 0 := ⟨_, rfl⟩
      rw [← hy] at hc
      have HY := Lib.hid hy
      clear hy
      by_cases he : x = y
      · have he' : (x == y) = true := by simpa using he
        have HE := Lib.hid he
        clear he
        go_wp2
        go_ret
        refine ⟨ret_int ?_, rfl⟩
        have := place_at x l k 0 HN.out hlt (HY.out ▸ HE.out.symm)
        unfold place
        rw [this]
        simp
      · have he' : (x == y) = false := by simpa using he
        have HE := Lib.hid he
        clear he
        go_wp2
        go_round
        case rel => exact ⟨k + 1, by omega, by go_num, fun j hj => by rcases Nat.lt_or_ge j k with h | h; exact HN.out j h; (rw [show j = k by omega, ← HY.out]; exact fun e => HE.out e.symm)⟩
        case measure => simp [intOf]; omega
    · go_wp2
      go_ret
      exact ⟨ret_int (place_no x l 0 fun j hj => HN.out j (by omega)).symm, rfl⟩

theorem contains_any (p : Option Addr) (cap : Nat) (l : List Int) (x : Int) (w : World) (hl : l.length ≤ 5000) (h : NumsIn w p l) :
    Calls Tryz.prog 140 #[.slice p l.length cap, .int .i64 x] w fun e w' => e = .returned (.bool (l.contains x)) ∧ w' = w := by
  have H := Lib.hid h
  have HP := Lib.hid (place_mem x l 0)
  clear h
  go_enter Tryz.func140, Tryz.ntmps140
  go_wp2_with (go_at_call 144; refine (index_any p cap l x _ hl H.out).mono ?_; rintro e w1 ⟨rfl, rfl⟩)
  go_ret
  exact ⟨ret_bool HP.out, rfl⟩

def toldB (l : List Int) (al : Bool) (x : Int) : Bool := al || l.contains x
theorem told_any (c m : Int) (p : Option Addr) (cap : Nat) (l : List Int) (al : Bool) (x : Int) (w : World) (hl : l.length ≤ 5000) (h : NumsIn w p l) :
    Calls Tryz.prog 139 #[.agg (sv c m p l.length cap al), .int .i64 x] w fun e w' => e = .returned (.bool (toldB l al x)) ∧ Below w.heap.size w w' := by
  have H := Lib.hid h
  clear h
  cases al
  · go_enter Tryz.func139, Tryz.ntmps139
    go_wp2_with (go_at_call 140; refine (contains_any p cap l x _ hl (H.out.step (balloc _ _))).mono ?_; rintro e w1 ⟨rfl, rfl⟩)
    go_ret
    exact ⟨ret_bool (by simp [toldB]), balloc _ _⟩
  · go_enter Tryz.func139, Tryz.ntmps139
    go_wp2
    go_ret
    exact ⟨ret_bool (by simp [toldB]), balloc _ _⟩

/-- Do numbers rise, from one on, below c? -/
def risesB (c : Int) : Int → List Int → Bool
  | _, [] => true
  | a, x :: l => !decide (x < a) && hasB c x && risesB c (x + 1) l
theorem drop_at (l : List Int) (k : Nat) (h : k < l.length) : l.drop k = l.getD k 0 :: l.drop (k + 1) := by
  rw [List.drop_eq_getElem_cons h]
  simp [List.getD_eq_getElem?_getD, h]

end Go.Proofs.YtpknfbgnclgpmaaGreatDoor.Sh

/-
  Whether a set of sharers may be; whether a core may be one.
-/
namespace Go.Proofs.YtpknfbgnclgpmaaGreatDoor.Sh
open Go Go.RowKit Go.Sort

set_option maxHeartbeats 1000000 in
theorem rising_any (c m : Int) (p : Option Addr) (cap : Nat) (l : List Int) (al : Bool) (w : World) (hc0 : c ≤ 64) (hl : l.length ≤ 5000) (h : NumsIn w p l) :
    Calls Tryz.prog 122 #[.agg (sv c m p l.length cap al)] w fun e w' => e = .returned (.bool (risesB c 0 l)) ∧ Below w.heap.size w w' := by
  have K1 := Kp.box w (sv c m p l.length cap al) 63
  have H := Lib.hid h
  clear h
  go_enter Tryz.func122, Tryz.ntmps122
  go_wp2
  go_loopw [3, 9] (fun a i wr => ∃ (k : Nat) (y : Int), k ≤ l.length ∧ i = .int .i64 k ∧ a = .int .i64 y ∧ y ≤ 64 ∧ 0 ≤ y ∧ risesB c 0 l = risesB c y (l.drop k) ∧ Kp w (sv c m p l.length cap al) wr) (fun _ i _ => l.length - (intOf i).toNat)
  case atStart => exact ⟨0, 0, Nat.zero_le _, rfl, rfl, by omega, by omega, rfl, K1⟩
  case round =>
    obtain ⟨k, y, hk, rfl, rfl, hy1, hy0, hr, K⟩ := hrel
    have HR := Lib.hid hr
    clear hr K1
    by_cases hlt : k < l.length
    · obtain ⟨g, off, rfl, hg, hc⟩ := (H.out.step K.2.2) k hlt
      have HD := Lib.hid (drop_at l k hlt)
      generalize l.getD k 0 = x at hc HD
      have hb : x < y → risesB c 0 l = false := fun h => by rw [HR.out, HD.out]; simp [risesB, h]
      by_cases hxy : x < y
      · have HX := Lib.hid (hb hxy)
        clear hb
        go_wp2
        go_ret
        exact ⟨ret_bool HX.out.symm, K.2.2⟩
      · clear hb
        have hcg : ∀ o, wr.cell? ⟨w.heap.size, o, none⟩ = (sv c m (some ⟨g, off, none⟩) l.length cap al)[o]? := K.1
        rcases Bool.eq_false_or_eq_true (hasB c x) with hx | hx
        · have hxc : 0 ≤ x ∧ x < c := by simpa [hasB] using hx
          have HX := Lib.hid hx
          clear hx
          go_wp2_with (go_at_call 135; refine (hasCore_any c m _ l.length cap al x _).mono ?_; rintro e w1 ⟨rfl, hb1⟩; rw [HX.out]; have K2 := K.step hb1; have hc2 := K2.1; clear hcg hb1)
          go_roundw
          case rel => exact ⟨k + 1, x + 1, by omega, by go_num, by go_num, by omega, by omega, by rw [HR.out, HD.out]; simp [risesB, hxy, HX.out], K2⟩
          case measure => simp [intOf]; omega
        · have HX : Hid (risesB c 0 l = false) := Lib.hid (by rw [HR.out, HD.out]; simp [risesB, hx])
          have HX2 := Lib.hid hx
          clear hx
          go_wp2_with (go_at_call 135; refine (hasCore_any c m _ l.length cap al x _).mono ?_; rintro e w1 ⟨rfl, hb1⟩; rw [HX2.out]; have K2 := K.step hb1; clear hcg hb1)
          go_ret
          exact ⟨ret_bool HX.out.symm, K2.2.2⟩
    · go_wp2
      go_ret
      exact ⟨ret_bool (by rw [HR.out, List.drop_eq_nil_of_le (by omega)]; rfl), K.2.2⟩

/-- May such a set be? -/
def mayB (c m : Int) (l : List Int) (al : Bool) : Bool := decide (1 ≤ c) && decide (c ≤ 64) && decide (0 ≤ m) && decide (m ≤ 8) && decide ((l.length : Int) ≤ if al then 0 else m) && risesB c 0 l

set_option maxRecDepth 100000 in
set_option maxHeartbeats 4000000 in
theorem may_any (c m : Int) (p : Option Addr) (cap : Nat) (l : List Int) (al : Bool) (w : World) (hl : l.length ≤ 5000) (h : NumsIn w p l) :
    Calls Tryz.prog 91 #[.agg (sv c m p l.length cap al)] w fun e w' => e = .returned (.bool (mayB c m l al)) ∧ Below w.heap.size w w' := by
  have K := Kp.box w (sv c m p l.length cap al) 63
  have hcg := K.grown
  have HL := Lib.hid K.2.2
  have H := Lib.hid h
  clear K h
  obtain ⟨r, hr⟩ : ∃ r : Int, r = if al then 0 else m := ⟨_, rfl⟩
  have HR := Lib.hid hr
  clear hr
  have hd : decide (1 ≤ c) = false ∨ (decide (1 ≤ c) = true ∧ decide (c ≤ 64) = false) ∨ (decide (1 ≤ c) = true ∧ decide (c ≤ 64) = true ∧ decide (0 ≤ m) = false) ∨ (decide (1 ≤ c) = true ∧ decide (c ≤ 64) = true ∧ decide (0 ≤ m) = true ∧ decide (m ≤ 8) = false) ∨ (decide (1 ≤ c) = true ∧ decide (c ≤ 64) = true ∧ decide (0 ≤ m) = true ∧ decide (m ≤ 8) = true ∧ decide ((l.length : Int) ≤ r) = false) ∨ (decide (1 ≤ c) = true ∧ decide (c ≤ 64) = true ∧ decide (0 ≤ m) = true ∧ decide (m ≤ 8) = true ∧ decide ((l.length : Int) ≤ r) = true) := by
    simp only [decide_eq_true_eq, decide_eq_false_iff_not]
    omega
  rcases hd with h1 | ⟨h1, h2⟩ | ⟨h1, h2, h3⟩ | ⟨h1, h2, h3, h4⟩ | ⟨h1, h2, h3, h4, h5⟩ | ⟨h1, h2, h3, h4, h5⟩
  all_goals
    go_enter Tryz.func91, Tryz.ntmps91
    go_wp2
    refine wp_region_quiet_below (by kernel_rfl) (by kernel_rfl) ?_
    repeat (go_big_quiet_step (first
      | (go_at_call 121; exact Calls.regrown_of (room_is HR.out c p l.length cap _))
      | (go_at_call 122; exact Calls.regrown_of (rising_any c m p cap l al _ (by simpa using h2) hl ((H.out.step HL.out).step (below_regrown _ _ _))))))
    refine wpQuiet_nil ?_
    rintro w2 ⟨pp, rfl⟩
    go_wp2
    go_ret
    exact ⟨ret_bool (by simp [mayB, ← HR.out, *]), bstep HL.out (below_regrown _ _ _)⟩

theorem may_bounds {c m : Int} {l : List Int} {al : Bool} (h : mayB c m l al = true) : 1 ≤ c ∧ c ≤ 64 ∧ 0 ≤ m ∧ m ≤ 8 ∧ l.length ≤ 8 := by
  simp only [mayB, Bool.and_eq_true, decide_eq_true_eq] at h
  obtain ⟨⟨⟨⟨⟨h1, h2⟩, h3⟩, h4⟩, h5⟩, _⟩ := h
  refine ⟨h1, h2, h3, h4, ?_⟩
  cases al
  · rw [if_neg (by simp)] at h5; omega
  · rw [if_pos rfl] at h5; omega

def hasAll (c m : Int) (l : List Int) (al : Bool) (x : Int) : Bool := mayB c m l al && hasB c x && toldB l al x

end Go.Proofs.YtpknfbgnclgpmaaGreatDoor.Sh

/-
  A list of numbers of the call's own: cloned, searched, with one number more at a place.
-/
namespace Go.Proofs.YtpknfbgnclgpmaaGreatDoor.Sh
open Go Go.RowKit Go.Shelf

theorem NumsIn.at {w : World} {g off : Nat} {l : List Int} (h : NumsIn w (some ⟨g, off, none⟩) l) (j : Nat) (hj : j < l.length) : g < w.heap.size ∧ w.cell? ⟨g, off + j, none⟩ = some (.int .i64 (l.getD j 0)) := by
  obtain ⟨g', off', e, hg, hc⟩ := h j hj
  simp only [Option.some.injEq, Addr.mk.injEq, and_true] at e
  obtain ⟨rfl, rfl⟩ := e
  exact ⟨hg, hc⟩
theorem NumsIn.of_cells {w : World} {g : Nat} {l : List Int} (hg : g < w.heap.size) (h : ∀ j, j < l.length → w.cell? ⟨g, j, none⟩ = some (.int .i64 (l.getD j 0))) : NumsIn w (some ⟨g, 0, none⟩) l := fun j hj =>
  ⟨g, 0, rfl, hg, by rw [Nat.zero_add]; exact h j hj⟩
/-- Numbers as cells. -/
abbrev ints (l : List Int) : List Value := l.map (Value.int .i64)
theorem ints_at (l : List Int) (j : Nat) : (ints l)[j]? = if j < l.length then some (.int .i64 (l.getD j 0)) else none := by
  rw [List.getElem?_map]
  by_cases h : j < l.length
  · simp [h, List.getD_eq_getElem?_getD]
  · rw [if_neg h, List.getElem?_eq_none (by omega)]
    rfl
theorem ints_one (l : List Int) : ∀ v ∈ ints l, v.oneCell' = true := fun v hv => by
  obtain ⟨x, _, rfl⟩ := List.mem_map.1 hv
  rfl
theorem own_in {w : World} {B : Nat} {v : Value} {l : List Int} (h : w.ownsRow B 3 1 v l.length (ints l)) : ∃ p cap, v = .slice p l.length cap ∧ NumsIn w p l := by
  rcases h.2 with ⟨rfl, h0⟩ | ⟨g, cap, cur, rfl, hb, hg, rest⟩
  · exact ⟨none, 0, by rw [h0], fun j hj => by omega⟩
  · refine ⟨_, cap, rfl, NumsIn.of_cells (lt_of_block hg) fun j hj => ?_⟩
    rw [h.cellAt j (by omega), ints_at, if_pos hj]
theorem own_block {w w' : World} {base e sz n : Nat} {v : Value} {xs : List Value} (h : w.ownsRow base e sz v n xs) (hb : ∀ k, v.ownBlock = some k → w'.heap[k]? = w.heap[k]?) : w'.ownsRow base e sz v n xs := by
  refine ⟨h.1, ?_⟩
  rcases h.2 with hn | ⟨g, cap, cur, rfl, hb', hgg, rest⟩
  · exact .inl hn
  · exact .inr ⟨g, cap, cur, rfl, hb', (hb g rfl).trans hgg, rest⟩

theorem clone_any (p : Option Addr) (cap : Nat) (l : List Int) (w : World) (hl : l.length ≤ 5000) (h : NumsIn w p l) :
    Calls Tryz.prog 48 #[.slice p l.length cap] w fun e w' => ∃ q c, e = .returned (.slice q l.length c) ∧ w'.ownsRow w.heap.size 3 1 (.slice q l.length c) l.length (ints l) ∧ Below w.heap.size w w' := by
  cases p with
  | none =>
    have hn : l = [] := by
      cases l with
      | nil => rfl
      | cons x l =>
        obtain ⟨_, _, e, _⟩ := h 0 (by simp)
        cases e
    subst hn
    refine (Tryz.slices_Clone_int_nil 0 cap w).mono ?_
    rintro e w' ⟨rfl, rfl⟩
    exact ⟨none, 0, rfl, World.ownsRow_nil _ _ _ _, Below.refl _ _⟩
  | some a =>
    rcases Nat.eq_zero_or_pos l.length with h0 | h0
    · have e : l = [] := List.eq_nil_of_length_eq_zero h0
      subst e
      refine (Tryz.slices_Clone_int_zero a cap w).mono ?_
      rintro e w' ⟨v', rfl, hown, _, hb⟩
      obtain ⟨q, c, rfl, _⟩ := own_in (l := []) hown
      exact ⟨q, c, rfl, hown, hb⟩
    · obtain ⟨g, off, e, _⟩ := h 0 h0
      cases e
      refine (Tryz.slices_Clone_int g off l.length cap l w (Nat.le_refl _) (by omega) fun j hj => (h.at j hj).2).mono ?_
      rintro e w' ⟨v', rfl, hown, _, hb⟩
      rw [List.take_length] at hown
      obtain ⟨q, c, rfl, _⟩ := own_in hown
      exact ⟨q, c, rfl, hown, hb⟩

/-- How many numbers are less. -/
def less (l : List Int) (x : Int) : Nat := l.countP (· < x)
theorem search_any (p : Option Addr) (cap : Nat) (l : List Int) (x : Int) (w : World) (hl : l.length ≤ 5000) (h : NumsIn w p l) (hs : l.Pairwise (· ≤ ·)) :
    Calls Tryz.prog 141 #[.slice p l.length cap, .int .i64 x] w fun e w' => e = .returned (.tuple #[.int .i64 (less l x), .bool (l.contains x)]) ∧ ∃ n, w' = w.drewN n := by
  rcases Nat.eq_zero_or_pos l.length with h0 | h0
  · have e : l = [] := List.eq_nil_of_length_eq_zero h0
    subst e
    refine (Tryz.slices_BinarySearch_int_empty p cap x w).mono ?_
    rintro e w' ⟨rfl, rfl⟩
    exact ⟨rfl, 0, rfl⟩
  · obtain ⟨g, off, rfl, _⟩ := h 0 h0
    refine (Tryz.slices_BinarySearch_int g off l.length cap l x w (Nat.le_refl _) (by omega) (fun j hj => (h.at j hj).2) (by rw [List.take_length]; exact hs)).mono ?_
    rintro e w' ⟨rfl, n, rfl⟩
    rw [List.take_length]
    exact ⟨rfl, n, rfl⟩

/-- A list with one number more at a place. -/
def insAt (l : List Int) (i : Nat) (x : Int) : List Int := l.take i ++ x :: l.drop i
theorem insAt_len (l : List Int) (i : Nat) (x : Int) (hi : i ≤ l.length) : (insAt l i x).length = l.length + 1 := by
  simp [insAt]
  omega
theorem insAt_at (l : List Int) (i : Nat) (x : Int) (hi : i ≤ l.length) (j : Nat) : (insAt l i x).getD j 0 = if j < i then l.getD j 0 else if j = i then x else l.getD (j - 1) 0 := by
  unfold insAt
  simp only [List.getD_eq_getElem?_getD]
  by_cases h : j < i
  · rw [if_pos h, List.getElem?_append_left (by rw [List.length_take]; omega), List.getElem?_take, if_pos h]
  · rw [if_neg h, List.getElem?_append_right (by rw [List.length_take]; omega), List.length_take, Nat.min_eq_left hi]
    by_cases h2 : j = i
    · subst h2
      simp
    · rw [if_neg h2, show j - i = (j - 1 - i) + 1 by omega, List.getElem?_cons_succ, List.getElem?_drop, show i + (j - 1 - i) = j - 1 by omega]

theorem below_cells {B g : Nat} (hg : B ≤ g) : ∀ (vs : List Value) (o : Nat) (a w : World), Below B a w → Below B a (w.setCells g o vs)
  | [], _, _, _, h => h
  | v :: r, o, a, w, h => below_cells hg r (o + 1) a _ (h.setCell (by exact hg) v)

/-- What a call gives that puts a number more into a list. -/
def InsGave (B : Nat) (l : List Int) (i : Nat) (x : Int) (w : World) (e : Ending) (w' : World) : Prop :=
  ∃ p c, e = .returned (.slice p (l.length + 1) c) ∧ NumsIn w' p (insAt l i x) ∧ Below B w w' ∧ ∀ a, p = some a → B ≤ a.block

set_option maxHeartbeats 1000000 in
theorem insert_any {w : World} {B : Nat} {p : Option Addr} {cap : Nat} {l : List Int} (h : w.ownsRow B 3 1 (.slice p l.length cap) l.length (ints l)) (i : Nat) (x : Int) (vb : Nat) (hi : i ≤ l.length) (hl : l.length ≤ 5000)
    (hv : w.heap[vb]? = some (.cells #[.int .i64 x] 3 (0, 0))) (hne : ∀ g, p = some g → g.block ≠ vb) (hB : B ≤ w.heap.size) :
    Calls Tryz.prog 142 #[.slice p l.length cap, .int .i64 i, .slice (some ⟨vb, 0, none⟩) 1 1] w (InsGave B l i x w) := by
  have hvs : ∀ j v, [Value.int .i64 x][j]? = some v → w.cell? ⟨vb, 0 + j, none⟩ = some v := fun j v hj => by
    rw [Nat.zero_add, blk_cell hv]
    simpa using hj
  have hv1 : ∀ v ∈ [Value.int .i64 x], v.oneCell' = true := fun v hv => by
    have := List.mem_singleton.1 hv
    subst this
    rfl
  have hcl : (ints l).length = l.length := by simp
  have hlt := insAt_len l i x hi
  have hvb := lt_of_block hv
  rcases h.2 with ⟨e, h0⟩ | ⟨g, cap', cur, e, hb, hg, hnc, hcm, hcs, htake⟩
  · simp only [Value.slice.injEq] at e
    obtain ⟨rfl, _, rfl⟩ := e
    have e : l = [] := List.eq_nil_of_length_eq_zero h0
    subst e
    have e : i = 0 := by simpa using hi
    subst e
    refine (Any2.slices_Insert_int_end_grow Tryz.laysNm221 none 0 0 vb 0 1 1 [] [.int .i64 x] w (by omega) (by omega) (by omega) (by omega) rfl rfl (fun _ => rfl) (fun a ha => by cases ha) hvs hv1).mono ?_
    rintro e w' ⟨rfl, rfl⟩
    refine ⟨_, _, rfl, NumsIn.of_cells (by simp) fun j hj => ?_, ((Below.refl _ w).drew).alloc hB _, fun a ha => by cases ha; exact hB⟩
    rw [hlt] at hj
    have e : j = 0 := by simp at hj; omega
    subst e
    refine (World.cell?_alloc_mark w.drew _ 3 (0, 0) 0).trans ?_
    rw [Array.getElem?_append_left (by simp)]
    rfl
  · simp only [Value.slice.injEq, true_and] at e
    obtain ⟨rfl, rfl⟩ := e
    have hgv : vb ≠ g := fun e => hne _ rfl e.symm
    have hgl := lt_of_block hg
    have hcc : ∀ j, w.cell? ⟨g, j, none⟩ = cur[j]? := fun j => blk_cell hg j
    have hsome : ∀ j, j < cap → (w.cell? ⟨g, j, none⟩).isSome = true := fun j hj => by
      rw [hcc, Array.getElem?_eq_getElem (by omega)]
      rfl
    have hat : ∀ j, j < l.length → w.cell? ⟨g, j, none⟩ = some (.int .i64 (l.getD j 0)) := fun j hj => by
      rw [h.cellAt j (by omega), ints_at, if_pos hj]
    have hcs0 : ∀ j v, (ints l)[j]? = some v → w.cell? ⟨g, 0 + j, none⟩ = some v := fun j v hj => by
      rw [Nat.zero_add]
      have hjl : j < l.length := by
        have := (List.getElem?_eq_some_iff.1 hj).1
        simpa using this
      rw [hat j hjl]
      rw [ints_at, if_pos hjl] at hj
      exact hj
    have hdr : ∀ k, (hk : k < ((ints l).drop i).length) → ((ints l).drop i)[k] = .int .i64 (l.getD (i + k) 0) := fun k hk => by
      have h1 : ((ints l).drop i)[k]? = some (.int .i64 (l.getD (i + k) 0)) := by
        rw [List.getElem?_drop, ints_at, if_pos (by simp at hk; omega)]
      exact (List.getElem?_eq_some_iff.1 h1).2
    have hdl : ((ints l).drop i).length = l.length - i := by simp
    have hm : maxLen ≤ 9223372036854775807 := by decide
    by_cases hin : i < l.length
    · by_cases hroom : l.length + 1 ≤ cap
      · refine (Any2.slices_Insert_int_shift Tryz.laysNm221 g 0 l.length cap i vb 0 1 1 (ints l) [.int .i64 x] w hin (by omega) hroom (by omega) hgv hcl rfl hcs0 (fun j hj => by rw [Nat.zero_add]; exact hsome j (by omega)) (fun j hj => blk_free hg _) hvs (ints_one l) hv1 3 3 1 cap (by simp [World.shape?, hv]) (by simp [World.shape?, hg, hcs]) (by omega) (blk_free hv _) (blk_free hv _)).mono ?_
        rintro e w' ⟨rfl, rfl⟩
        simp only [Nat.zero_add]
        have hB2 : Below B w ((w.drew.setCells g (i + 1) ((ints l).drop i)).setCells g i [.int .i64 x]) := below_cells hb _ _ _ _ (below_cells hb _ _ _ _ (Below.refl _ w).drew)
        have hs1 : ∀ j, j < cap → ((w.drew.setCells g (i + 1) ((ints l).drop i)).cell? ⟨g, j, none⟩).isSome = true := fun j hj => by
          by_cases hc : i + 1 ≤ j ∧ j < i + 1 + ((ints l).drop i).length
          · have := World.cell?_setCells_in g ((ints l).drop i) (i + 1) w.drew (fun k hk => hsome _ (by omega)) (j - (i + 1)) (by omega)
            rw [show i + 1 + (j - (i + 1)) = j by omega] at this
            rw [this]
            rfl
          · rw [World.cell?_setCells_out g _ _ _ _ (fun _ _ => by show j < i + 1 ∨ i + 1 + _ ≤ j; omega)]
            exact hsome j hj
        refine ⟨_, _, rfl, NumsIn.of_cells (Nat.lt_of_lt_of_le hgl hB2.size) fun j hj => ?_, hB2, fun a ha => by cases ha; first | exact hb | exact hB⟩
        rw [hlt] at hj
        rw [insAt_at l i x hi]
        by_cases h1 : j < i
        · rw [if_pos h1, World.cell?_setCells_out g _ _ _ _ (fun _ _ => by left; exact h1), World.cell?_setCells_out g _ _ _ _ (fun _ _ => by left; show j < i + 1; omega)]
          exact hat j (by omega)
        · rw [if_neg h1]
          by_cases h2 : j = i
          · subst h2
            rw [if_pos rfl]
            exact World.cell?_setCells_in g [.int .i64 x] j _ (fun k hk => hs1 _ (by simp at hk; omega)) 0 (by simp)
          · rw [if_neg h2, World.cell?_setCells_out g _ _ _ _ (fun _ _ => by right; show i + 1 ≤ j; omega)]
            have := World.cell?_setCells_in g ((ints l).drop i) (i + 1) w.drew (fun k hk => hsome _ (by omega)) (j - (i + 1)) (by omega)
            rw [show i + 1 + (j - (i + 1)) = j by omega, hdr _ (by omega), show i + (j - (i + 1)) = j - 1 by omega] at this
            exact this
      · refine (Any2.slices_Insert_int_grow Tryz.laysNm221 g 0 l.length cap i vb 0 1 1 (ints l) [.int .i64 x] w hin (by omega) hnc (by omega) (by omega) hcl rfl hcs0 hvs (ints_one l) hv1).mono ?_
        rintro e w' ⟨rfl, rfl⟩
        generalize grownCap w (l.length + 1) cap (Tryz.laysNm221_ren.t 3) = G
        obtain ⟨ROW, hROW⟩ : ∃ ROW : Array Value, ROW = ((ints l).take i).toArray ++ Builtin.zeroCells (Value.int .i64 0).cells (l.length + 1 - i) ++ Builtin.zeroCells (Value.int .i64 0).cells (G - (l.length + 1)) := ⟨_, rfl⟩
        have hRl : l.length + 1 ≤ ROW.size := by
          rw [hROW]
          simp [Builtin.zeroCells, Value.cells]
          omega
        have hRa : ∀ j, j < i → ROW[j]? = some (.int .i64 (l.getD j 0)) := fun j hj => by
          rw [hROW, Array.append_assoc, Array.getElem?_append_left (by simp; omega)]
          simp only [List.getElem?_toArray]
          rw [List.getElem?_take, if_pos hj, ints_at, if_pos (by omega)]
        rw [← hROW]
        obtain ⟨W1, hW1⟩ : ∃ W1 : World, W1 = (w.alloc (.cells ROW 3)).drew := ⟨_, rfl⟩
        have hc1 : ∀ j, W1.cell? ⟨w.heap.size, j, none⟩ = ROW[j]? := fun j => by
          rw [hW1]
          exact World.cell?_alloc_mark w ROW 3 (0, 0) j
        have hb1 : Below B w W1 := by
          rw [hW1]
          exact ((Below.refl _ w).alloc hB _).drew
        have hz1 : w.heap.size < W1.heap.size := by rw [hW1]; simp
        have he : (w.alloc (.cells ROW (Tryz.laysNm221_ren.t 3))).drew = W1 := hW1.symm
        rw [he]
        clear hROW hW1 he
        have hsm : ∀ j, j < l.length + 1 → (W1.cell? ⟨w.heap.size, j, none⟩).isSome = true := fun j hj => by
          rw [hc1, Array.getElem?_eq_getElem (by omega)]
          rfl
        have hB2 : Below B w ((W1.setCells w.heap.size i [.int .i64 x]).drew.setCells w.heap.size (i + 1) ((ints l).drop i)) := below_cells hB _ _ _ _ (below_cells hB _ _ _ _ hb1).drew
        have hz2 : w.heap.size < ((W1.setCells w.heap.size i [.int .i64 x]).drew.setCells w.heap.size (i + 1) ((ints l).drop i)).heap.size := by
          have h1 := (below_cells (Nat.le_refl w.heap.size) ((ints l).drop i) (i + 1) W1 _ (below_cells (Nat.le_refl w.heap.size) [.int .i64 x] i W1 _ (Below.refl _ W1)).drew).size
          omega
        have hs2 : ∀ j, j < l.length + 1 → ((W1.setCells w.heap.size i [.int .i64 x]).drew.cell? ⟨w.heap.size, j, none⟩).isSome = true := fun j hj => by
          show ((W1.setCells w.heap.size i [.int .i64 x]).cell? ⟨w.heap.size, j, none⟩).isSome = true
          by_cases hc : j = i
          · subst hc
            have := World.cell?_setCells_in w.heap.size [.int .i64 x] j W1 (fun k hk => hsm _ (by simp at hk; omega)) 0 (by simp)
            rw [Nat.add_zero] at this
            rw [this]
            rfl
          · rw [World.cell?_setCells_out _ _ _ _ _ (fun _ _ => by show j < i ∨ i + 1 ≤ j; omega)]
            exact hsm j hj
        refine ⟨_, _, rfl, NumsIn.of_cells hz2 fun j hj => ?_, hB2, fun a ha => by cases ha; first | exact hb | exact hB⟩
        rw [hlt] at hj
        rw [insAt_at l i x hi]
        by_cases h3 : i + 1 ≤ j
        · rw [if_neg (by omega), if_neg (by omega)]
          have := World.cell?_setCells_in w.heap.size ((ints l).drop i) (i + 1) (W1.setCells w.heap.size i [.int .i64 x]).drew (fun k hk => hs2 _ (by omega)) (j - (i + 1)) (by omega)
          rw [show i + 1 + (j - (i + 1)) = j by omega, hdr _ (by omega), show i + (j - (i + 1)) = j - 1 by omega] at this
          exact this
        · rw [World.cell?_setCells_out _ _ _ _ _ (fun _ _ => by left; show j < i + 1; omega)]
          show (W1.setCells w.heap.size i [.int .i64 x]).cell? ⟨w.heap.size, j, none⟩ = _
          by_cases h2 : j = i
          · subst h2
            rw [if_neg (by omega), if_pos rfl]
            exact World.cell?_setCells_in w.heap.size [.int .i64 x] j W1 (fun k hk => hsm _ (by simp at hk; omega)) 0 (by simp)
          · rw [if_pos (by omega), World.cell?_setCells_out _ _ _ _ _ (fun _ _ => by left; show j < i; omega), hc1]
            exact hRa j (by omega)
    · have e : i = l.length := by omega
      subst e
      have htk : ∀ j, j < l.length + 1 → (ints l ++ [Value.int .i64 x])[j]? = some (.int .i64 ((insAt l l.length x).getD j 0)) := fun j hj => by
        rw [insAt_at l _ x (Nat.le_refl _)]
        by_cases h1 : j < l.length
        · rw [if_pos h1, List.getElem?_append_left (by simp; omega), ints_at, if_pos h1]
        · have e : j = l.length := by omega
          subst e
          rw [if_neg h1, if_pos rfl, List.getElem?_append_right (by simp)]
          simp
      by_cases hroom : l.length + 1 ≤ cap
      · refine (Any2.slices_Insert_int_end_room Tryz.laysNm221 g 0 l.length cap vb 0 1 1 [.int .i64 x] w (by omega) hroom (by omega) rfl (fun j hj => by simp only [Nat.zero_add]; exact hsome _ (by omega)) (fun j hj => blk_free hg _) hvs hv1).mono ?_
        rintro e w' ⟨rfl, rfl⟩
        simp only [Nat.zero_add]
        have hB2 : Below B w (w.setCells g l.length [.int .i64 x]) := below_cells hb _ _ _ _ (Below.refl _ w)
        refine ⟨_, _, rfl, NumsIn.of_cells (Nat.lt_of_lt_of_le hgl hB2.size) fun j hj => ?_, hB2, fun a ha => by cases ha; first | exact hb | exact hB⟩
        rw [hlt] at hj
        rw [insAt_at l _ x hi]
        by_cases h1 : j < l.length
        · rw [if_pos h1, World.cell?_setCells_out g _ _ _ _ (fun _ _ => by left; exact h1)]
          exact hat j h1
        · have e : j = l.length := by omega
          subst e
          rw [if_neg h1, if_pos rfl]
          exact World.cell?_setCells_in g [.int .i64 x] l.length _ (fun k hk => hsome _ (by simp at hk; omega)) 0 (by simp)
      · refine (Any2.slices_Insert_int_end_grow Tryz.laysNm221 (some ⟨g, 0, none⟩) l.length cap vb 0 1 1 (ints l) [.int .i64 x] w (by omega) hnc (by omega) (by omega) hcl rfl (fun e => by cases e) (fun a ha j v hj => by cases ha; rw [Addr.add_lit]; exact hcs0 j v hj) hvs hv1).mono ?_
        rintro e w' ⟨rfl, rfl⟩
        refine ⟨_, _, rfl, NumsIn.of_cells (by simp) fun j hj => ?_, ((Below.refl _ w).drew).alloc hB _, fun a ha => by cases ha; exact hB⟩
        rw [hlt] at hj
        refine (World.cell?_alloc_mark w.drew _ 3 (0, 0) j).trans ?_
        rw [Array.getElem?_append_left (by simp; omega)]
        simp only [List.getElem?_toArray]
        exact htk j hj

end Go.Proofs.YtpknfbgnclgpmaaGreatDoor.Sh

/-
  New, and a set with a sharer more.
-/
namespace Go.Proofs.YtpknfbgnclgpmaaGreatDoor.Sh
open Go Go.RowKit Go.Sort

/-- A set of sharers. -/
structure St where
  c : Int
  m : Int
  l : List Int
  al : Bool
def z0 : St := ⟨0, 0, [], false⟩
def St.may (s : St) : Bool := mayB s.c s.m s.l s.al
def newS (c m : Int) : St × Int := if mayB c m [] false then (⟨c, m, [], false⟩, 0) else (z0, 1)
def withS (s : St) (x : Int) : St := if toldB s.l s.al x then s else if (s.l.length : Int) = s.m then ⟨s.c, s.m, [], true⟩ else ⟨s.c, s.m, insAt s.l (less s.l x) x, s.al⟩
def addS (s : St) (x : Int) : St × Int := if s.may then (if hasB s.c x then (withS s x, 0) else (z0, 5)) else (z0, 1)
/-- A set's value. -/
abbrev sval (s : St) (p : Option Addr) (cap : Nat) : Array Value := sv s.c s.m p s.l.length cap s.al

/-- What a call gives that tells a set, with an error's number beside it or without. -/
def SetOf (w : World) (s : St) (v : Value) (w' : World) : Prop := ∃ p cap, v = .agg (sval s p cap) ∧ NumsIn w' p s.l ∧ Below w.heap.size w w' ∧ ∀ a, p = some a → w.heap.size ≤ a.block
def GaveS (w : World) (s : St) (e : Int) (x : Ending) (w' : World) : Prop := ∃ v, x = .returned (.tuple #[v, .int .i64 e]) ∧ SetOf w s v w'
def Gave1 (w : World) (s : St) (x : Ending) (w' : World) : Prop := ∃ v, x = .returned v ∧ SetOf w s v w'

theorem results_cell_two {P : Program} {fn : Func} {p q : Tmp} {ty : TypeId} (h : fn.results = #[.cell p ty, .tmp q]) (tmps : Array Value) (w : World) (g : Nat) (t : TypeId) (cs : Array Value) (fr : Nat × Nat) (d : TypeDesc)
    (hp : tmps.getD p undef = .pointer (some ⟨g, 0, none⟩)) (hg : w.heap[g]? = some (.cells cs t fr))
    (hu : P.underlying ty = some d) (hd : (match d with | .struct _ | .array _ _ => true | _ => false) = true) (hi : (P.info? ty).map (·.size) = some cs.size) :
    (results fn tmps).run P w = .ok (.tuple #[.agg cs, tmps.getD q undef]) w := by
  have hp' : tmps[p]?.getD undef = .pointer (some ⟨g, 0, none⟩) := by simpa using hp
  simp [results, h, hp', asAddr, run_loadVar_row w g t ty cs fr d hg hu hd hi]
theorem new_at2 (w : World) (A B : Obj) : ((w.alloc A).alloc B).heap[w.heap.size + 1]? = some B := by
  have h1 := heap_alloc_new (w.alloc A) B
  have e1 : (w.alloc A).heap.size = w.heap.size + 1 := by simp
  rwa [e1] at h1
theorem new_at1 (w : World) (A B : Obj) : ((w.alloc A).alloc B).heap[w.heap.size]? = some A := by
  rw [Below.heap_alloc _ _ _ (by simp)]
  exact heap_alloc_new w A
theorem below_setRow {B : Nat} {w w' : World} (h : Below B w w') {g : Nat} (hg : B ≤ g) (cs : Array Value) : Below B w (w'.setRow g cs) :=
  h.trans ⟨rfl, rfl, rfl, by simp, fun k hk => setRow_other w' g k cs (by omega)⟩

/-- The call's own first two blocks, and that nothing of before has changed. -/
structure H2 (w : World) (A B : Array Value) (T T' : TypeId) (wr : World) : Prop where
  a : wr.heap[w.heap.size]? = some (.cells A T (0, 0))
  b : wr.heap[w.heap.size + 1]? = some (.cells B T' (0, 0))
  below : Below w.heap.size w wr
theorem H2.box (w : World) (A B : Array Value) (T T' : TypeId) : H2 w A B T T' ((w.alloc (.cells A T)).alloc (.cells B T')) :=
  ⟨new_at1 w _ _, new_at2 w _ _, ((Below.refl _ _).alloc (Nat.le_refl _) _).alloc (by simp) _⟩
theorem H2.step {w wr wr' : World} {A B : Array Value} {T T' : TypeId} (h : H2 w A B T T' wr) (hb : Below wr.heap.size wr wr') : H2 w A B T T' wr' :=
  ⟨(hb.block _ (lt_of_block h.a)).trans h.a, (hb.block _ (lt_of_block h.b)).trans h.b, bstep h.below hb⟩
/-- .. behind a call that may write into rows of the call's own beyond these. -/
theorem H2.past {w wr wr' : World} {A B : Array Value} {T T' : TypeId} (h : H2 w A B T T' wr) (hb : Below (w.heap.size + 2) wr wr') : H2 w A B T T' wr' :=
  ⟨(hb.block _ (by omega)).trans h.a, (hb.block _ (by omega)).trans h.b, h.below.trans (hb.mono (by omega))⟩
theorem H2.setA {w wr : World} {A B : Array Value} {T T' : TypeId} (h : H2 w A B T T' wr) (i : Nat) (u : Value) : H2 w (A.setIfInBounds i u) B T T' (wr.setCell ⟨w.heap.size, i, none⟩ u) :=
  ⟨heap_setCell_same wr _ i _ _ u h.a, (heap_setCell_other _ _ _ _ (by simp)).trans h.b, h.below.setCell (by simp) u⟩
theorem H2.cellsA {w wr : World} {A B : Array Value} {T T' : TypeId} (h : H2 w A B T T' wr) : ∀ o, wr.cell? ⟨w.heap.size, o, none⟩ = A[o]? := fun o => blk_cell h.a o
theorem H2.cellsB {w wr : World} {A B : Array Value} {T T' : TypeId} (h : H2 w A B T T' wr) : ∀ o, wr.cell? ⟨w.heap.size + 1, o, none⟩ = B[o]? := fun o => blk_cell h.b o

theorem NumsIn.row {w : World} {p : Option Addr} {l : List Int} (h : NumsIn w p l) (g : Nat) (hg : ∀ a, p = some a → a.block ≠ g) (cs : Array Value) : NumsIn (w.setRow g cs) p l := fun j hj => by
  obtain ⟨g', off, rfl, hb, hc⟩ := h j hj
  refine ⟨g', off, rfl, by simpa using hb, ?_⟩
  rw [World.cell?_of_block (setRow_other w g g' cs (hg _ rfl))]
  exact hc
theorem NumsIn.one {w : World} {p : Option Addr} {l : List Int} (h : NumsIn w p l) (g i : Nat) (hg : ∀ a, p = some a → a.block ≠ g) (u : Value) : NumsIn (w.setCell ⟨g, i, none⟩ u) p l := fun j hj => by
  obtain ⟨g', off, rfl, hb, hc⟩ := h j hj
  refine ⟨g', off, rfl, by simpa [World.setCell] using hb, ?_⟩
  rw [World.cell?_of_block (heap_setCell_other _ _ _ _ (hg _ rfl))]
  exact hc

/-- A return of a set, and of an error's number, out of the call's cell g. -/
theorem gave_ret {w wr : World} {s : St} {e : Int} {a : Act} {fn : Func} {g n : Nat} {p : Option Addr} {cap : Nat} {t1 t2 : Tmp} (hl : s.l.length = n) (hres : fn.results = #[.cell t1 63, .tmp t2]) (hp : a.tmps.getD t1 undef = .pointer (some ⟨g, 0, none⟩)) (hq : a.tmps.getD t2 undef = .int .i64 e) (hd : a.defers = [])
    (hg : wr.heap[g]? = some (.cells (sv s.c s.m p n cap s.al) 63 (0, 0))) (hn : NumsIn wr p s.l) (hb : Below w.heap.size w wr) (hf : ∀ a, p = some a → w.heap.size ≤ a.block) : bodyPost Tryz.prog fn (GaveS w s e) Exit.ret a wr := by
  subst hl
  exact bodyPost_ret (v := .tuple #[.agg (sval s p cap), a.tmps.getD t2 undef]) (results_cell_two hres _ _ g 63 _ (0, 0) _ hp hg Tryz.underlying63 rfl (by kernel_rfl)) hd ⟨_, by rw [hq], p, cap, rfl, hn, hb, hf⟩
theorem gave1_ret {w wr : World} {s : St} {a : Act} {fn : Func} {g n : Nat} {p : Option Addr} {cap : Nat} {t1 : Tmp} (hl : s.l.length = n) (hres : fn.results = #[.cell t1 63]) (hp : a.tmps.getD t1 undef = .pointer (some ⟨g, 0, none⟩)) (hd : a.defers = [])
    (hg : wr.heap[g]? = some (.cells (sv s.c s.m p n cap s.al) 63 (0, 0))) (hn : NumsIn wr p s.l) (hb : Below w.heap.size w wr) (hf : ∀ a, p = some a → w.heap.size ≤ a.block) : bodyPost Tryz.prog fn (Gave1 w s) Exit.ret a wr := by
  subst hl
  exact bodyPost_ret (v := .agg (sval s p cap)) (results_cell_row hres _ _ g 63 _ (0, 0) _ hp hg Tryz.underlying63 rfl (by kernel_rfl)) hd ⟨_, rfl, p, cap, rfl, hn, hb, hf⟩

set_option maxHeartbeats 1000000 in
theorem new_any (c m : Int) (w : World) :
    Calls Tryz.prog 110 #[.int .i64 c, .int .i64 m] w (GaveS w (newS c m).1 (newS c m).2) := by
  have K := H2.box w #[.int .i64 0, .int .i64 0, .slice none 0 0, .bool false] (sv c m none 0 0 false) 63 63
  rcases Bool.eq_false_or_eq_true (mayB c m [] false) with h | h
  · have H := Lib.hid h
    have e : newS c m = (⟨c, m, [], false⟩, 0) := by unfold newS; rw [if_pos h]
    rw [e]
    clear h e
    go_enter Tryz.func110, Tryz.ntmps110
    go_wp2_with (first
      | (go_at_call 91; refine (may_any c m none 0 [] false _ (by simp) (NumsIn.nil _ _)).mono ?_; rintro e w1 ⟨rfl, hb1⟩; rw [H.out]; have K2 := K.step hb1; have hc2 := K2.cellsB; clear K hb1)
      | ((with_reducible refine wpList_store_row (o := ⟨none, _, _, _, _, _⟩) rfl 63 (.tmp 4) (.tmp 14) rfl w.heap.size (sv c m none 0 0 false) ?sx ?sy 63 #[.int .i64 0, .int .i64 0, .slice none 0 0, .bool false] ?sg ?si ?so ?s1 ?_); (case sx => rfl); (case sy => rfl); (case sg => exact K2.a); (case si => kernel_rfl); (case so => rfl); (case s1 => kernel_rfl)))
    exact gave_ret (s := ⟨c, m, [], false⟩) rfl Tryz.results110 rfl rfl rfl (setRow_heap _ _ _ _ _ _ K2.a) (NumsIn.nil _ _) (below_setRow K2.below (Nat.le_refl _) _) (fun _ h => by cases h)
  · have H := Lib.hid h
    have e : newS c m = (z0, 1) := by unfold newS; rw [if_neg (by rw [h]; simp)]
    rw [e]
    clear h e
    go_enter Tryz.func110, Tryz.ntmps110
    go_wp2_with (first
      | (go_at_call 91; refine (may_any c m none 0 [] false _ (by simp) (NumsIn.nil _ _)).mono ?_; rintro e w1 ⟨rfl, hb1⟩; rw [H.out]; have K2 := K.step hb1; have hc2 := K2.cellsB; clear K hb1)
      | ((with_reducible refine wpList_store_row (o := ⟨none, _, _, _, _, _⟩) rfl 63 (.tmp 4) (.tmp 13) rfl w.heap.size (sv 0 0 none 0 0 false) ?sx ?sy 63 #[.int .i64 0, .int .i64 0, .slice none 0 0, .bool false] ?sg ?si ?so ?s1 ?_); (case sx => rfl); (case sy => rfl); (case sg => exact K2.a); (case si => kernel_rfl); (case so => rfl); (case s1 => kernel_rfl)))
    exact gave_ret (s := z0) rfl Tryz.results110 rfl rfl rfl (setRow_heap _ _ _ _ _ _ K2.a) (NumsIn.nil _ _) (below_setRow K2.below (Nat.le_refl _) _) (fun _ h => by cases h)

end Go.Proofs.YtpknfbgnclgpmaaGreatDoor.Sh

/-
  A set with a sharer more: with, Add; Clear.
-/
namespace Go.Proofs.YtpknfbgnclgpmaaGreatDoor.Sh
open Go Go.RowKit Go.Sort

theorem rises_all {c : Int} : ∀ {l : List Int} {a : Int}, risesB c a l = true → l.Pairwise (· < ·) ∧ ∀ y ∈ l, a ≤ y ∧ 0 ≤ y ∧ y < c
  | [], _, _ => ⟨List.Pairwise.nil, fun y hy => by cases hy⟩
  | x :: l, a, h => by
    simp only [risesB, hasB, Bool.and_eq_true, Bool.not_eq_true', decide_eq_false_iff_not, decide_eq_true_eq] at h
    obtain ⟨⟨h1, h2, h3⟩, h4⟩ := h
    obtain ⟨ih, ia⟩ := rises_all h4
    refine ⟨List.Pairwise.cons (fun y hy => by have := (ia y hy).1; omega) ih, fun y hy => ?_⟩
    rcases List.mem_cons.1 hy with rfl | hy
    · omega
    · have := ia y hy
      omega
theorem may_rises {c m : Int} {l : List Int} {al : Bool} (h : mayB c m l al = true) : risesB c 0 l = true := by
  simp only [mayB, Bool.and_eq_true] at h
  exact h.2
theorem pair_le {l : List Int} (h : l.Pairwise (· < ·)) : l.Pairwise (· ≤ ·) := h.imp fun h => by omega

/-- The cells of a set that is new. -/
abbrev zc : Array Value := #[.int .i64 0, .int .i64 0, .slice none 0 0, .bool false]

set_option maxHeartbeats 2000000 in
theorem with_any (s : St) (p : Option Addr) (cap : Nat) (x : Int) (w : World) (h : NumsIn w p s.l) (hl : s.l.length ≤ 100) (hs : s.l.Pairwise (· ≤ ·)) :
    Calls Tryz.prog 136 #[.agg (sval s p cap), .int .i64 x] w (Gave1 w (withS s x)) := by
  have K := H2.box w (sval s p cap) zc 63 63
  have H := Lib.hid h
  have HS := Lib.hid hs
  clear h hs
  have hz0 : ((w.alloc (.cells (sval s p cap) 63)).alloc (.cells zc 63)).heap.size = w.heap.size + 2 := by simp
  have HZ := Lib.hid hz0
  clear hz0
  rcases Bool.eq_false_or_eq_true (toldB s.l s.al x) with ht | ht
  · have HT := Lib.hid ht
    have e : withS s x = s := by unfold withS; rw [if_pos ht]
    rw [e]
    clear ht e
    go_enter Tryz.func136, Tryz.ntmps136
    go_wp2_with (fail)
    refine (clone_any p cap s.l _ (by omega) (H.out.step K.below)).mono ?_
    rintro e w1 ⟨q, c', rfl, hown, hb1⟩
    rw [HZ.out] at hown
    obtain ⟨_, _, e1, hin⟩ := own_in hown
    cases e1
    have hfr : ∀ a, q = some a → w.heap.size + 2 ≤ a.block := fun a ha => (hown.lt a.block (by rw [ha]; rfl)).1
    have K2 := K.step hb1
    have hc2 := K2.cellsA
    have hf2 := blk_free K2.a 2
    have K3 : H2 w (sval s q c') zc 63 63 (w1.setCell ⟨w.heap.size, 2, none⟩ (.slice q s.l.length c')) := K2.setA 2 _
    have HN := Lib.hid (hin.one w.heap.size 2 (fun a ha => by have := hfr a ha; omega) (.slice q s.l.length c'))
    have HF := Lib.hid hfr
    have hc3 := K3.cellsA
    clear K hb1 hown hin hfr
    go_wp2_with (fail)
    refine (told_any s.c s.m q c' s.l s.al x _ (by omega) HN.out).mono ?_
    rintro e w4 ⟨rfl, hb4⟩
    rw [HT.out]
    have K4 := K3.step hb4
    have HN4 := Lib.hid (HN.out.step hb4)
    have hc4 := K4.cellsA
    clear hc2 hf2 hc3 K2 K3 hb4 HN
    go_wp2_with ((with_reducible refine wpList_store_row (o := ⟨none, _, _, _, _, _⟩) rfl 63 (.tmp 4) (.tmp 14) rfl (w.heap.size + 1) (sval s q c') ?sx ?sy 63 zc ?sg ?si ?so ?s1 ?_); (case sx => rfl); (case sy => rfl); (case sg => exact K4.b); (case si => kernel_rfl); (case so => rfl); (case s1 => kernel_rfl))
    exact gave1_ret rfl Tryz.results136 rfl rfl (setRow_heap _ _ _ _ _ _ K4.b) (HN4.out.row _ (fun a ha => by have := HF.out a ha; omega) _) (below_setRow K4.below (by omega) _) (fun a ha => by have := HF.out a ha; omega)
  · have HT := Lib.hid ht
    have e : withS s x = if (s.l.length : Int) = s.m then ⟨s.c, s.m, [], true⟩ else ⟨s.c, s.m, insAt s.l (less s.l x) x, s.al⟩ := by unfold withS; rw [if_neg (by rw [ht]; simp)]
    rw [e]
    clear ht e
    by_cases hm : (s.l.length : Int) = s.m
    · rw [if_pos hm]
      have hm' : ((s.l.length : Int) == s.m) = true := by simpa using hm
      clear hm
      go_enter Tryz.func136, Tryz.ntmps136
      go_wp2_with (fail)
      refine (clone_any p cap s.l _ (by omega) (H.out.step K.below)).mono ?_
      rintro e w1 ⟨q, c', rfl, hown, hb1⟩
      rw [HZ.out] at hown
      obtain ⟨_, _, e1, hin⟩ := own_in hown
      cases e1
      have hfr : ∀ a, q = some a → w.heap.size + 2 ≤ a.block := fun a ha => (hown.lt a.block (by rw [ha]; rfl)).1
      have K2 := K.step hb1
      have hc2 := K2.cellsA
      have hf2 := blk_free K2.a 2
      have K3 : H2 w (sval s q c') zc 63 63 (w1.setCell ⟨w.heap.size, 2, none⟩ (.slice q s.l.length c')) := K2.setA 2 _
      have HN := Lib.hid (hin.one w.heap.size 2 (fun a ha => by have := hfr a ha; omega) (.slice q s.l.length c'))
      have hc3 := K3.cellsA
      clear K hb1 hown hin hfr
      go_wp2_with (fail)
      refine (told_any s.c s.m q c' s.l s.al x _ (by omega) HN.out).mono ?_
      rintro e w4 ⟨rfl, hb4⟩
      rw [HT.out]
      have K4 := K3.step hb4
      have hc4 := K4.cellsA
      clear hc2 hf2 hc3 K2 K3 hb4 HN
      go_wp2_with ((with_reducible refine wpList_store_row (o := ⟨none, _, _, _, _, _⟩) rfl 63 (.tmp 4) (.tmp 25) rfl (w.heap.size + 1) (sv s.c s.m none 0 0 true) ?sx ?sy 63 zc ?sg ?si ?so ?s1 ?_); (case sx => rfl); (case sy => rfl); (case sg => exact K4.b); (case si => kernel_rfl); (case so => rfl); (case s1 => kernel_rfl))
      exact gave1_ret (s := ⟨s.c, s.m, [], true⟩) rfl Tryz.results136 rfl rfl (setRow_heap _ _ _ _ _ _ K4.b) (NumsIn.nil _ _) (below_setRow K4.below (by omega) _) (fun a ha => by cases ha)
    · rw [if_neg hm]
      have hm' : ((s.l.length : Int) == s.m) = false := by simpa using hm
      clear hm
      have hle : less s.l x ≤ s.l.length := List.countP_le_length
      have hil := insAt_len s.l (less s.l x) x hle
      have HI := Lib.hid hil
      clear hil
      go_enter Tryz.func136, Tryz.ntmps136
      go_wp2_with (fail)
      refine (clone_any p cap s.l _ (by omega) (H.out.step K.below)).mono ?_
      rintro e w1 ⟨q, c', rfl, hown, hb1⟩
      rw [HZ.out] at hown
      obtain ⟨_, _, e1, hin⟩ := own_in hown
      cases e1
      have hfr : ∀ a, q = some a → w.heap.size + 2 ≤ a.block := fun a ha => (hown.lt a.block (by rw [ha]; rfl)).1
      have K2 := K.step hb1
      have hc2 := K2.cellsA
      have hf2 := blk_free K2.a 2
      have K3 : H2 w (sval s q c') zc 63 63 (w1.setCell ⟨w.heap.size, 2, none⟩ (.slice q s.l.length c')) := K2.setA 2 _
      have hown3 : (w1.setCell ⟨w.heap.size, 2, none⟩ (.slice q s.l.length c')).ownsRow (w.heap.size + 2) 3 1 (.slice q s.l.length c') s.l.length (ints s.l) := own_block hown fun k hk => heap_setCell_other _ _ _ _ (by have := (hown.lt k hk).1; simp only; omega)
      obtain ⟨_, _, e1, hin3⟩ := own_in hown3
      cases e1
      have HN := Lib.hid hin3
      have HW := Lib.hid hown3
      have HF := Lib.hid hfr
      have hc3 := K3.cellsA
      clear K hb1 hown hin hfr hin3 hown3
      go_wp2_with (fail)
      refine (told_any s.c s.m q c' s.l s.al x _ (by omega) HN.out).mono ?_
      rintro e w4 ⟨rfl, hb4⟩
      rw [HT.out]
      have K4 := K3.step hb4
      have HN4 := Lib.hid (HN.out.step hb4)
      have HW4 := Lib.hid (own_block HW.out fun k hk => hb4.block k (HW.out.lt k hk).2)
      have hc4 := K4.cellsA
      clear hc2 hf2 hc3 K2 K3 hb4 HN HW
      go_wp2_with (fail)
      refine (search_any q c' s.l x _ (by omega) HN4.out HS.out).mono ?_
      rintro e w5 ⟨rfl, n5, rfl⟩
      have hbA : Below w4.heap.size w4 ((w4.drewN n5).alloc (.cells #[.int .i64 x] 3)) := (below_drewN (Below.refl _ w4) n5).alloc (by simp) _
      have hd5 : ∀ o, (w4.drewN n5).cell? ⟨w.heap.size, o, none⟩ = (sval s q c')[o]? := hc4
      have K5 := K4.step hbA
      have HW5 := Lib.hid (own_block HW4.out fun k hk => hbA.block k (HW4.out.lt k hk).2)
      have HV : Hid (((w4.drewN n5).alloc (.cells #[.int .i64 x] 3)).heap[w4.heap.size]? = some (.cells #[.int .i64 x] 3 (0, 0))) := Lib.hid (heap_alloc_new (w4.drewN n5) _)
      have HLT := Lib.hid (fun k hk => (HW4.out.lt k hk).2)
      have HSZ : Hid (w.heap.size + 2 ≤ ((w4.drewN n5).alloc (.cells #[.int .i64 x] 3)).heap.size) := Lib.hid (by have := lt_of_block K5.b; omega)
      have hc5 := K5.cellsA
      clear hbA hc4 K4 HN4 HW4
      go_wp2_with (fail)
      refine (insert_any HW5.out (less s.l x) x w4.heap.size hle (by omega) HV.out (fun g hg => by have := HLT.out g.block (by rw [hg]; rfl); omega) HSZ.out).mono ?_
      rintro e w6 ⟨q', c6, rfl, hin6, hb6, hfr6⟩
      have K6 := K5.past hb6
      have hc6 := K6.cellsA
      have hf6 := blk_free K6.a 2
      have K7 : H2 w (sv s.c s.m q' (s.l.length + 1) c6 s.al) zc 63 63 (w6.setCell ⟨w.heap.size, 2, none⟩ (.slice q' (s.l.length + 1) c6)) := K6.setA 2 _
      have HN7 := Lib.hid (hin6.one w.heap.size 2 (fun a ha => by have := hfr6 a ha; omega) (.slice q' (s.l.length + 1) c6))
      have hc7 := K7.cellsA
      have HF6 := Lib.hid hfr6
      clear hfr6 hin6 hb6 hc5 hd5 K5 HW5 HV HLT HSZ
      go_wp2_with ((with_reducible refine wpList_store_row (o := ⟨none, _, _, _, _, _⟩) rfl 63 (.tmp 4) (.tmp 40) rfl (w.heap.size + 1) (sv s.c s.m q' (s.l.length + 1) c6 s.al) ?sx ?sy 63 zc ?sg ?si ?so ?s1 ?_); (case sx => rfl); (case sy => rfl); (case sg => exact K7.b); (case si => kernel_rfl); (case so => rfl); (case s1 => kernel_rfl))
      exact gave1_ret (s := ⟨s.c, s.m, insAt s.l (less s.l x) x, s.al⟩) HI.out Tryz.results136 rfl rfl (setRow_heap _ _ _ _ _ _ K7.b) (HN7.out.row _ (fun a ha => by have := HF6.out a ha; omega) _) (below_setRow K7.below (by omega) _) (fun a ha => by have := HF6.out a ha; omega)

end Go.Proofs.YtpknfbgnclgpmaaGreatDoor.Sh

/-
  Add, Clear, Targets.
-/
namespace Go.Proofs.YtpknfbgnclgpmaaGreatDoor.Sh
open Go Go.RowKit Go.Sort

set_option maxHeartbeats 2000000 in
theorem add_any (s : St) (p : Option Addr) (cap : Nat) (x : Int) (w : World) (h : NumsIn w p s.l) (hl : s.l.length ≤ 5000) :
    Calls Tryz.prog 118 #[.agg (sval s p cap), .int .i64 x] w (GaveS w (addS s x).1 (addS s x).2) := by
  have K := H2.box w (sval s p cap) zc 63 63
  have H := Lib.hid h
  clear h
  rcases Bool.eq_false_or_eq_true (mayB s.c s.m s.l s.al) with hm | hm
  · have HM := Lib.hid hm
    have hl8 := (may_bounds hm).2.2.2.2
    have hp := pair_le (rises_all (may_rises hm)).1
    have HP := Lib.hid hp
    rcases Bool.eq_false_or_eq_true (hasB s.c x) with hh | hh
    · have HH := Lib.hid hh
      have e : addS s x = (withS s x, 0) := by unfold addS St.may; rw [if_pos hm, if_pos hh]
      rw [e]
      clear hm hh e hp
      go_enter Tryz.func118, Tryz.ntmps118
      go_wp2_with (fail)
      refine (may_any s.c s.m p cap s.l s.al _ (by omega) (H.out.step K.below)).mono ?_
      rintro e w1 ⟨rfl, hb1⟩
      rw [HM.out]
      have K2 := K.step hb1
      have hc2 := K2.cellsA
      clear hb1 K
      go_wp2_with (fail)
      refine (hasCore_any s.c s.m p s.l.length cap s.al x _).mono ?_
      rintro e w2 ⟨rfl, hb2⟩
      rw [HH.out]
      have K3 := K2.step hb2
      have hc3 := K3.cellsA
      clear hb2 hc2 K2
      go_wp2_with (fail)
      refine (with_any s p cap x _ (H.out.step K3.below) (by omega) HP.out).mono ?_
      rintro e w3 ⟨v, rfl, q, c', rfl, hin, hb3, hfr⟩
      have K4 := K3.step hb3
      have hlt := lt_of_block K3.b
      have HIN := Lib.hid hin
      have HF := Lib.hid hfr
      clear hb3 hc3 hin hfr
      go_wp2_with ((with_reducible refine wpList_store_row (o := ⟨none, _, _, _, _, _⟩) rfl 63 (.tmp 4) (.tmp 17) rfl (w.heap.size + 1) (sval (withS s x) q c') ?sx ?sy 63 zc ?sg ?si ?so ?s1 ?_); (case sx => rfl); (case sy => rfl); (case sg => exact K4.b); (case si => kernel_rfl); (case so => rfl); (case s1 => kernel_rfl))
      exact gave_ret rfl Tryz.results118 rfl rfl rfl (setRow_heap _ _ _ _ _ _ K4.b) (HIN.out.row _ (fun a ha => by have := HF.out a ha; omega) _) (below_setRow K4.below (by omega) _) (fun a ha => by have := HF.out a ha; omega)
    · have HH := Lib.hid hh
      have e : addS s x = (z0, 5) := by unfold addS St.may; rw [if_pos hm, if_neg (by rw [hh]; simp)]
      rw [e]
      clear hm hh e hp
      go_enter Tryz.func118, Tryz.ntmps118
      go_wp2_with (fail)
      refine (may_any s.c s.m p cap s.l s.al _ (by omega) (H.out.step K.below)).mono ?_
      rintro e w1 ⟨rfl, hb1⟩
      rw [HM.out]
      have K2 := K.step hb1
      have hc2 := K2.cellsA
      clear hb1 K
      go_wp2_with (fail)
      refine (hasCore_any s.c s.m p s.l.length cap s.al x _).mono ?_
      rintro e w2 ⟨rfl, hb2⟩
      rw [HH.out]
      have K3 := K2.step hb2
      clear hb2 hc2 K2
      go_wp2_with ((with_reducible refine wpList_store_row (o := ⟨none, _, _, _, _, _⟩) rfl 63 (.tmp 4) (.tmp 14) rfl (w.heap.size + 1) zc ?sx ?sy 63 zc ?sg ?si ?so ?s1 ?_); (case sx => rfl); (case sy => rfl); (case sg => exact K3.b); (case si => kernel_rfl); (case so => rfl); (case s1 => kernel_rfl))
      exact gave_ret (s := z0) rfl Tryz.results118 rfl rfl rfl (setRow_heap _ _ _ _ _ _ K3.b) (NumsIn.nil _ _) (below_setRow K3.below (by omega) _) (fun a ha => by cases ha)
  · have HM := Lib.hid hm
    have e : addS s x = (z0, 1) := by unfold addS St.may; rw [if_neg (by rw [hm]; simp)]
    rw [e]
    clear hm e
    go_enter Tryz.func118, Tryz.ntmps118
    go_wp2_with (fail)
    refine (may_any s.c s.m p cap s.l s.al _ (by omega) (H.out.step K.below)).mono ?_
    rintro e w1 ⟨rfl, hb1⟩
    rw [HM.out]
    have K3 := K.step hb1
    clear hb1 K
    go_wp2_with ((with_reducible refine wpList_store_row (o := ⟨none, _, _, _, _, _⟩) rfl 63 (.tmp 4) (.tmp 9) rfl (w.heap.size + 1) zc ?sx ?sy 63 zc ?sg ?si ?so ?s1 ?_); (case sx => rfl); (case sy => rfl); (case sg => exact K3.b); (case si => kernel_rfl); (case so => rfl); (case s1 => kernel_rfl))
    exact gave_ret (s := z0) rfl Tryz.results118 rfl rfl rfl (setRow_heap _ _ _ _ _ _ K3.b) (NumsIn.nil _ _) (below_setRow K3.below (by omega) _) (fun a ha => by cases ha)

theorem new_nil (c m : Int) : (newS c m).1.l = [] := by
  unfold newS
  split <;> rfl
theorem nil_len {l : List Int} (h : l = []) : l.length = 0 := by rw [h]; rfl

set_option maxHeartbeats 1000000 in
theorem clear_any (s : St) (p : Option Addr) (n cap : Nat) (w : World) :
    Calls Tryz.prog 120 #[.agg (sv s.c s.m p n cap s.al)] w (Gave1 w (newS s.c s.m).1) := by
  have K := H2.box w (sv s.c s.m p n cap s.al) zc 63 63
  have HL := Lib.hid (new_nil s.c s.m)
  go_enter Tryz.func120, Tryz.ntmps120
  go_wp2_with (fail)
  refine (new_any s.c s.m _).mono ?_
  rintro e w1 ⟨v, rfl, q, c', rfl, hin, hb1, hfr⟩
  generalize newS s.c s.m = N at *
  have HI := Lib.hid hin
  have HF := Lib.hid hfr
  have K2 := K.step hb1
  have K3 := K2.step (balloc w1 (.cells (sval N.1 q c') 63))
  have hlt := lt_of_block K2.b
  have hbl := balloc w1 (.cells (sval N.1 q c') 63)
  have HI3 := Lib.hid (HI.out.step hbl)
  clear K hb1 hin hfr hbl
  go_wp2_with ((with_reducible refine wpList_store_row (o := ⟨none, _, _, _, _, _⟩) rfl 63 (.tmp 2) (.tmp 13) rfl (w.heap.size + 1) (sval N.1 q c') ?sx ?sy 63 zc ?sg ?si ?so ?s1 ?_); (case sx => rfl); (case sy => rfl); (case sg => exact K3.b); (case si => kernel_rfl); (case so => rfl); (case s1 => kernel_rfl))
  exact gave1_ret rfl Tryz.results120 rfl rfl (setRow_heap _ _ _ _ _ _ K3.b) (HI3.out.row _ (fun a ha => by have := HF.out a ha; simp at this; omega) _) (below_setRow K3.below (by omega) _) (fun a ha => by have := HF.out a ha; simp at this; omega)

end Go.Proofs.YtpknfbgnclgpmaaGreatDoor.Sh

/-
  Targets: the cores that may be, rising, but those.
-/
namespace Go.Proofs.YtpknfbgnclgpmaaGreatDoor.Sh
open Go Go.RowKit Go.Sort

theorem A3 : (Tryz.prog.info? 3).map (fun i => (i.zero, i.size, i.bytes)) = some (some (.int .i64 0), 1, 8) := by kernel_rfl
/-- The numbers below k, rising. -/
def upTo (k : Nat) : List Int := (List.range k).map Int.ofNat
theorem upTo_succ (k : Nat) : upTo (k + 1) = upTo k ++ [(k : Int)] := by
  unfold upTo
  rw [List.range_succ, List.map_append]
  rfl
theorem upTo_len (k : Nat) : (upTo k).length = k := by simp [upTo]
/-- Those below k that may be sharers and are not left out. -/
def pickS (l : List Int) (al : Bool) (but : List Int) (k : Nat) : List Int := (upTo k).filter fun x => toldB l al x && !but.contains x
def targetsS (s : St) (but : List Int) : List Int := if s.may then pickS s.l s.al but s.c.toNat else []
theorem pickS_len (l : List Int) (al : Bool) (but : List Int) (k : Nat) : (pickS l al but k).length ≤ k := by
  have := List.length_filter_le (fun x => toldB l al x && !but.contains x) (upTo k)
  rw [upTo_len] at this
  exact this
theorem pickS_no {l : List Int} {al : Bool} {but : List Int} {k : Nat} (h : (toldB l al k && !but.contains (k : Int)) = false) : pickS l al but (k + 1) = pickS l al but k := by
  unfold pickS
  rw [upTo_succ, List.filter_append]
  simp only [List.filter_cons, List.filter_nil, h]
  simp
theorem pickS_yes {l : List Int} {al : Bool} {but : List Int} {k : Nat} (h : (toldB l al k && !but.contains (k : Int)) = true) : pickS l al but (k + 1) = pickS l al but k ++ [(k : Int)] := by
  unfold pickS
  rw [upTo_succ, List.filter_append]
  simp only [List.filter_cons, List.filter_nil, h]
  simp

theorem Kp.past {w wr wr' : World} {L : Array Value} (h : Kp w L wr) (hb : Below (w.heap.size + 1) wr wr') : Kp w L wr' :=
  ⟨fun o => (hb.cell (p := ⟨w.heap.size, o, none⟩) (by simp)).trans (h.1 o), Nat.lt_of_lt_of_le h.2.1 hb.size, h.2.2.trans (hb.mono (by omega))⟩

/-- What a call gives that tells a list of numbers. -/
def GaveL (w : World) (l : List Int) (e : Ending) (w' : World) : Prop := ∃ p cap, e = .returned (.slice p l.length cap) ∧ NumsIn w' p l ∧ Below w.heap.size w w'

/-- .. and that it is new. -/
def GaveF (w : World) (l : List Int) (e : Ending) (w' : World) : Prop := ∃ p cap, e = .returned (.slice p l.length cap) ∧ NumsIn w' p l ∧ Below w.heap.size w w' ∧ ∀ a, p = some a → w.heap.size ≤ a.block

set_option maxHeartbeats 2000000 in
theorem targets_fresh (s : St) (p : Option Addr) (cap : Nat) (pb : Option Addr) (cb : Nat) (but : List Int) (w : World) (h : NumsIn w p s.l) (h2 : NumsIn w pb but) (hl : s.l.length ≤ 5000) (hl2 : but.length ≤ 5000) :
    Calls Tryz.prog 134 #[.agg (sval s p cap), .slice pb but.length cb] w (GaveF w (targetsS s but)) := by
  obtain ⟨i0, hi0, hz0, hz1, hz2⟩ := info_parts A3
  obtain ⟨c, m, l, al⟩ := s
  simp only at h hl
  have K := Kp.box w (sv c m p l.length cap al) 63
  have H := Lib.hid h
  have HB := Lib.hid h2
  clear h h2
  rcases Bool.eq_false_or_eq_true (mayB c m l al) with hm | hm
  · have HM := Lib.hid hm
    obtain ⟨hc1, hc64, -⟩ := may_bounds hm
    obtain ⟨cn, rfl⟩ : ∃ cn : Nat, c = cn := ⟨c.toNat, by omega⟩
    have e : targetsS ⟨cn, m, l, al⟩ but = pickS l al but cn := by unfold targetsS St.may; rw [if_pos hm]; rfl
    rw [e]
    clear hm e
    go_enter Tryz.func134, Tryz.ntmps134
    go_wp2_with (fail)
    refine (may_any cn m p cap l al _ hl (H.out.step K.2.2)).mono ?_
    rintro e w1 ⟨rfl, hb1⟩
    rw [HM.out]
    have K2 := K.step hb1
    have hcc := K2.1
    clear hb1 K
    go_wp2
    go_loopw [5, 12] (fun v i wr => ∃ k : Nat, k ≤ cn ∧ i = .int .i64 k ∧ wr.ownsRow (w.heap.size + 1) 3 1 v (pickS l al but k).length (ints (pickS l al but k)) ∧ Kp w (sv cn m p l.length cap al) wr) (fun _ i _ => cn - (intOf i).toNat)
    case atStart => exact ⟨0, Nat.zero_le _, rfl, World.ownsRow_nil _ _ _ _, K2⟩
    case round =>
      obtain ⟨k, hk, rfl, hown, K3⟩ := hrel
      have hc3 := K3.1
      have HW := Lib.hid hown
      clear hown hcc K2
      by_cases hlt : k < cn
      · rcases Bool.eq_false_or_eq_true (toldB l al k) with ht | ht
        · have HT := Lib.hid ht
          clear ht
          rcases Bool.eq_false_or_eq_true (but.contains (k : Int)) with hb | hb
          · have HE := Lib.hid (pickS_no (l := l) (al := al) (but := but) (k := k) (by rw [hb]; simp))
            have HBT := Lib.hid hb
            clear hb
            go_wp2_with (fail)
            refine (told_any cn m p cap l al k _ hl (H.out.step K3.2.2)).mono ?_
            rintro e w4 ⟨rfl, hb4⟩
            rw [HT.out]
            have K4 := K3.step hb4
            have HW4 := Lib.hid (own_block HW.out fun q hq => hb4.block q (HW.out.lt q hq).2)
            clear hb4 hc3 K3
            go_wp2_with (fail)
            refine (contains_any pb cb but k _ hl2 (HB.out.step K4.2.2)).mono ?_
            rintro e w5 ⟨rfl, rfl⟩
            rw [HBT.out]
            go_wp2
            go_roundw
            case rel => exact ⟨k + 1, by omega, by go_num, by rw [HE.out]; exact HW4.out, K4⟩
            case measure => simp [intOf]; omega
          · have HE := Lib.hid (pickS_yes (l := l) (al := al) (but := but) (k := k) (by rw [hb, HT.out]; rfl))
            have HBT := Lib.hid hb
            have hlen := pickS_len l al but k
            clear hb
            go_wp2_with (fail)
            refine (told_any cn m p cap l al k _ hl (H.out.step K3.2.2)).mono ?_
            rintro e w4 ⟨rfl, hb4⟩
            rw [HT.out]
            have K4 := K3.step hb4
            have HW4 := Lib.hid (own_block HW.out fun q hq => hb4.block q (HW.out.lt q hq).2)
            clear hb4 hc3 K3
            go_wp2_with (fail)
            refine (contains_any pb cb but k _ hl2 (HB.out.step K4.2.2)).mono ?_
            rintro e w5 ⟨rfl, rfl⟩
            rw [HBT.out]
            have hz4 := K4.2.1
            have HW5 := Lib.hid (HW4.out.alloc (.cells #[.int .i64 k] 3))
            go_wp2_with (at_builtin; refine wpList_append_own _ rfl (.tmp 24) (.tmp 26) 61 rfl (w.heap.size + 1) 3 i0 (.int .i64 0) 1 8 Tryz.underlying61 hi0 hz0 hz1 hz2 rfl (by decide) _ (pickS l al but k).length (ints (pickS l al but k)) rfl HW5.out ⟨w5.heap.size, 0, none⟩ 1 1 [.int .i64 k] rfl rfl ?c1 ?c2 ?c3 ?c4 ?c5 ?_)
            case c1 => intro j u hj; cases j <;> simp at hj; subst hj; exact World.cell?_alloc_mark w5 #[.int .i64 k] 3 (0, 0) 0
            case c2 => simp [Value.oneCell']
            case c3 => simp only [maxLen]; omega
            case c4 => omega
            case c5 => simp; omega
            intro v' w6 hown6 hgrow _
            have hb6 : Below (w.heap.size + 1) w5 w6 := ((Below.refl _ _).alloc (by omega) (.cells #[.int .i64 k] 3)).grown hgrow (by simp; omega) (fun q hq => (HW4.out.lt q hq).1)
            have K6 := K4.past hb6
            have HW6 := Lib.hid hown6
            clear hgrow hown6 hb6 K4
            go_wp2
            go_roundw
            case rel =>
              refine ⟨k + 1, by omega, by go_num, ?_, K6⟩
              rw [HE.out, List.length_append]
              simpa using HW6.out
            case measure => simp [intOf]; omega
        · have HE := Lib.hid (pickS_no (l := l) (al := al) (but := but) (k := k) (by rw [ht]; rfl))
          have HT := Lib.hid ht
          clear ht
          go_wp2_with (fail)
          refine (told_any cn m p cap l al k _ hl (H.out.step K3.2.2)).mono ?_
          rintro e w4 ⟨rfl, hb4⟩
          rw [HT.out]
          have K4 := K3.step hb4
          have HW4 := Lib.hid (own_block HW.out fun q hq => hb4.block q (HW.out.lt q hq).2)
          clear hb4 hc3 K3
          go_wp2
          go_roundw
          case rel => exact ⟨k + 1, by omega, by go_num, by rw [HE.out]; exact HW4.out, K4⟩
          case measure => simp [intOf]; omega
      · have hkc : k = cn := by omega
        subst hkc
        obtain ⟨q, cq, e, hin⟩ := own_in HW.out
        subst e
        have HI := Lib.hid hin
        have hqb : ∀ a, q = some a → w.heap.size ≤ a.block := fun a ha => by have := (HW.out.lt a.block (by rw [ha]; rfl)).1; omega
        clear hin
        go_wp2
        go_ret
        exact ⟨q, cq, rfl, HI.out, K3.2.2, hqb⟩
  · have HM := Lib.hid hm
    have e : targetsS ⟨c, m, l, al⟩ but = [] := by unfold targetsS St.may; rw [if_neg (by rw [hm]; simp)]
    rw [e]
    clear hm e
    go_enter Tryz.func134, Tryz.ntmps134
    go_wp2_with (fail)
    refine (may_any c m p cap l al _ hl (H.out.step K.2.2)).mono ?_
    rintro e w1 ⟨rfl, hb1⟩
    rw [HM.out]
    have K2 := K.step hb1
    clear hb1 K
    go_wp2
    go_ret
    exact ⟨none, 0, rfl, NumsIn.nil _ _, K2.2.2, fun a ha => by cases ha⟩
theorem targets_any (s : St) (p : Option Addr) (cap : Nat) (pb : Option Addr) (cb : Nat) (but : List Int) (w : World) (h : NumsIn w p s.l) (h2 : NumsIn w pb but) (hl : s.l.length ≤ 5000) (hl2 : but.length ≤ 5000) :
    Calls Tryz.prog 134 #[.agg (sval s p cap), .slice pb but.length cb] w (GaveL w (targetsS s but)) :=
  (targets_fresh s p cap pb cb but w h h2 hl hl2).mono fun _ _ ⟨q, c, e, h1, h2, _⟩ => ⟨q, c, e, h1, h2⟩

end Go.Proofs.YtpknfbgnclgpmaaGreatDoor.Sh

/-
  A set in a box; contracts with the answer named.
-/
namespace Go.Proofs.YtpknfbgnclgpmaaGreatDoor.Sh
open Go Go.RowKit Go.Sort

/-- A set in a block of the caller's own; the row of its pointers is none of some blocks. -/
def Box (G : Nat → Prop) (g : Nat) (s : St) (wr : World) : Prop := ∃ p cap, wr.heap[g]? = some (.cells (sval s p cap) 63 (0, 0)) ∧ NumsIn wr p s.l ∧ (s.l ≠ [] → ∀ a, p = some a → ¬ G a.block)
theorem Box.step {G : Nat → Prop} {g : Nat} {s : St} {wr wr' : World} (h : Box G g s wr) (hb : Below wr.heap.size wr wr') : Box G g s wr' := by
  obtain ⟨p, cap, h1, h2, h3⟩ := h
  exact ⟨p, cap, (hb.block g (lt_of_block h1)).trans h1, h2.step hb, h3⟩
theorem Box.new {G : Nat → Prop} {w w1 : World} {s : St} {p : Option Addr} {cap : Nat} (hin : NumsIn w1 p s.l) (hf : ∀ a, p = some a → w.heap.size ≤ a.block) (hG : ∀ k, G k → k < w.heap.size) : Box G w1.heap.size s (w1.alloc (.cells (sval s p cap) 63)) :=
  ⟨p, cap, heap_alloc_new w1 _, hin.step (balloc w1 _), fun _ a ha hg => by have := hf a ha; have := hG _ hg; omega⟩
abbrev no : Nat → Prop := fun _ => False

theorem Box.cells {G : Nat → Prop} {g : Nat} {s : St} {wr : World} (h : Box G g s wr) : ∃ p cap, (∀ o, wr.cell? ⟨g, o, none⟩ = (sval s p cap)[o]?) ∧ NumsIn wr p s.l ∧ g < wr.heap.size := by
  obtain ⟨p, cap, h1, h2, _⟩ := h
  exact ⟨p, cap, fun o => blk_cell h1 o, h2, lt_of_block h1⟩
theorem new_is {c m : Int} {s : St} {e : Int} (h : newS c m = (s, e)) (w : World) : Calls Tryz.prog 110 #[.int .i64 c, .int .i64 m] w (GaveS w s e) := by
  have := new_any c m w
  rw [h] at this
  exact this
theorem add_is {s s' : St} {x e : Int} (h : addS s x = (s', e)) (p : Option Addr) (cap : Nat) (w : World) (hi : NumsIn w p s.l) (hl : s.l.length ≤ 5000) :
    Calls Tryz.prog 118 #[.agg (sval s p cap), .int .i64 x] w (GaveS w s' e) := by
  have := add_any s p cap x w hi hl
  rw [h] at this
  exact this
theorem may_is {s : St} {b : Bool} (h : s.may = b) (p : Option Addr) (cap : Nat) (w : World) (hi : NumsIn w p s.l) (hl : s.l.length ≤ 5000) :
    Calls Tryz.prog 91 #[.agg (sval s p cap)] w fun e w' => e = .returned (.bool b) ∧ Below w.heap.size w w' := by
  subst h
  exact may_any s.c s.m p cap s.l s.al w hl hi
theorem targets_is {s : St} {but l : List Int} (h : targetsS s but = l) (p : Option Addr) (cap : Nat) (pb : Option Addr) (cb : Nat) (w : World) (hi : NumsIn w p s.l) (hb : NumsIn w pb but) (hl : s.l.length ≤ 5000) (hl2 : but.length ≤ 5000) :
    Calls Tryz.prog 134 #[.agg (sval s p cap), .slice pb but.length cb] w (GaveL w l) := by
  subst h
  exact targets_any s p cap pb cb but w hi hb hl hl2
theorem clear_is {s s' : St} (h : (newS s.c s.m).1 = s') (p : Option Addr) (n cap : Nat) (w : World) :
    Calls Tryz.prog 120 #[.agg (sv s.c s.m p n cap s.al)] w (Gave1 w s') := by
  subst h
  exact clear_any s p n cap w
theorem NumsIn.lit {w : World} {x y : Int} : NumsIn (w.alloc (.cells #[.int .i64 x, .int .i64 y] 3)) (some ⟨w.heap.size, 0, none⟩) [x, y] := NumsIn.of_cells (by simp) fun j hj => by
  have hc := World.cell?_alloc_mark w #[.int .i64 x, .int .i64 y] 3 (0, 0) j
  rcases (show j = 0 ∨ j = 1 by simp at hj; omega) with rfl | rfl <;> exact hc

/-- The two boxes that the last test reads. -/
structure Aw (w : World) (g g' : Nat) (s s' : St) (p : Option Addr) (c : Nat) (p' : Option Addr) (c' : Nat) (wr : World) : Prop where
  c1 : ∀ o, wr.cell? ⟨g, o, none⟩ = (sval s p c)[o]?
  c2 : ∀ o, wr.cell? ⟨g', o, none⟩ = (sval s' p' c')[o]?
  n1 : NumsIn wr p s.l
  n2 : NumsIn wr p' s'.l
  lt1 : g < wr.heap.size
  lt2 : g' < wr.heap.size
  below : Below w.heap.size w wr
theorem Aw.step {w wr w' : World} {g g' : Nat} {s s' : St} {p : Option Addr} {c : Nat} {p' : Option Addr} {c' : Nat} (h : Aw w g g' s s' p c p' c' wr) (hb : Below wr.heap.size wr w') : Aw w g g' s s' p c p' c' w' :=
  ⟨fun o => (hb.cell (p := ⟨g, o, none⟩) h.lt1).trans (h.c1 o), fun o => (hb.cell (p := ⟨g', o, none⟩) h.lt2).trans (h.c2 o), h.n1.step hb, h.n2.step hb, Nat.lt_of_lt_of_le h.lt1 hb.size, Nat.lt_of_lt_of_le h.lt2 hb.size, bstep h.below hb⟩

end Go.Proofs.YtpknfbgnclgpmaaGreatDoor.Sh

/-
  Sets of sharers in plain words: what a set is, of which cores were added: in whichever order, and however often.
-/
namespace Go.Proofs.YtpknfbgnclgpmaaGreatDoor.Sh
open Go Go.RowKit

/-- The numbers below c of which f says yes, rising. -/
def canon (c : Nat) (f : Int → Bool) : List Int := (upTo c).filter f
theorem canon_succ_yes {c : Nat} {f : Int → Bool} (h : f c = true) : canon (c + 1) f = canon c f ++ [(c : Int)] := by
  unfold canon
  rw [upTo_succ, List.filter_append]
  simp only [List.filter_cons, List.filter_nil, h]
  simp
theorem canon_succ_no {c : Nat} {f : Int → Bool} (h : f c = false) : canon (c + 1) f = canon c f := by
  unfold canon
  rw [upTo_succ, List.filter_append]
  simp only [List.filter_cons, List.filter_nil, h]
  simp
theorem mem_upTo {c : Nat} {x : Int} : x ∈ upTo c ↔ 0 ≤ x ∧ x < c := by
  unfold upTo
  rw [List.mem_map]
  constructor
  · rintro ⟨k, hk, rfl⟩
    have := List.mem_range.1 hk
    exact ⟨Int.natCast_nonneg k, Int.ofNat_lt.2 this⟩
  · rintro ⟨h0, h1⟩
    exact ⟨x.toNat, List.mem_range.2 (by omega), Int.toNat_of_nonneg h0⟩
theorem mem_canon {c : Nat} {f : Int → Bool} {x : Int} : x ∈ canon c f ↔ (0 ≤ x ∧ x < c) ∧ f x = true := by
  unfold canon
  rw [List.mem_filter, mem_upTo]
theorem canon_congr {c : Nat} {f g : Int → Bool} (h : ∀ y : Int, 0 ≤ y → y < c → f y = g y) : canon c f = canon c g := by
  unfold canon
  exact List.filter_congr fun y hy => h y (mem_upTo.1 hy).1 (mem_upTo.1 hy).2
theorem canon_none (c : Nat) : canon c (fun _ => false) = [] := by unfold canon; simp
theorem canon_len (c : Nat) (f : Int → Bool) : (canon c f).length ≤ c := by
  have := List.length_filter_le f (upTo c)
  rw [upTo_len] at this
  exact this
theorem canon_mono {f g : Int → Bool} : ∀ {c : Nat}, (∀ y : Int, 0 ≤ y → y < c → f y = true → g y = true) → (canon c f).length ≤ (canon c g).length
  | 0, _ => Nat.le_refl _
  | c + 1, h => by
    have ih := canon_mono (f := f) (g := g) (c := c) (fun y h0 h1 => h y h0 (by omega))
    rcases Bool.eq_false_or_eq_true (f c) with hf | hf
    · rw [canon_succ_yes hf, canon_succ_yes (h c (by omega) (by omega) hf)]
      simpa using ih
    · rw [canon_succ_no hf]
      rcases Bool.eq_false_or_eq_true (g c) with hg | hg
      · rw [canon_succ_yes hg, List.length_append]
        omega
      · rw [canon_succ_no hg]
        exact ih
theorem upTo_sorted : ∀ c : Nat, (upTo c).Pairwise (· < ·)
  | 0 => List.Pairwise.nil
  | c + 1 => by
    rw [upTo_succ, List.pairwise_append]
    exact ⟨upTo_sorted c, List.pairwise_singleton _ _, fun a ha b hb => by rw [List.mem_singleton.1 hb]; exact (mem_upTo.1 ha).2⟩
theorem canon_sorted (c : Nat) (f : Int → Bool) : (canon c f).Pairwise (· < ·) := (upTo_sorted c).filter f
theorem rises_of {c : Int} : ∀ {l : List Int} {a : Int}, l.Pairwise (· < ·) → (∀ y ∈ l, a ≤ y ∧ 0 ≤ y ∧ y < c) → risesB c a l = true
  | [], _, _, _ => rfl
  | x :: l, a, hp, h => by
    have hx := h x (List.mem_cons_self ..)
    rw [List.pairwise_cons] at hp
    have ih := rises_of (c := c) (l := l) (a := x + 1) hp.2 fun y hy => by
      have h1 := hp.1 y hy
      have h2 := h y (List.mem_cons_of_mem _ hy)
      omega
    simp only [risesB, hasB, ih, Bool.and_eq_true, Bool.not_eq_true', decide_eq_false_iff_not, decide_eq_true_eq, and_true]
    omega
theorem canon_rises (c : Nat) (f : Int → Bool) : risesB c 0 (canon c f) = true := rises_of (canon_sorted c f) fun y hy => by
  have := (mem_canon.1 hy).1
  omega

/-- One number more. -/
def orB (f : Int → Bool) (x : Int) : Int → Bool := fun y => f y || y == x
theorem insAt_end (l : List Int) (x : Int) : insAt l l.length x = l ++ [x] := by simp [insAt]
theorem insAt_snoc (l : List Int) (i : Nat) (x y : Int) (h : i ≤ l.length) : insAt (l ++ [y]) i x = insAt l i x ++ [y] := by
  unfold insAt
  rw [List.take_append_of_le_length h, List.drop_append_of_le_length h]
  simp
theorem less_all {l : List Int} {x : Int} (h : ∀ y ∈ l, y < x) : less l x = l.length := by
  unfold less
  rw [List.countP_eq_length]
  exact fun y hy => by simpa using h y hy
theorem less_le (l : List Int) (x : Int) : less l x ≤ l.length := List.countP_le_length
theorem less_snoc (l : List Int) (x y : Int) (h : ¬ y < x) : less (l ++ [y]) x = less l x := by
  unfold less
  rw [List.countP_append]
  simp [h]
theorem canon_ins {f : Int → Bool} {x : Int} (h0 : 0 ≤ x) (hf : f x = false) : ∀ {c : Nat}, x < c → insAt (canon c f) (less (canon c f) x) x = canon c (orB f x)
  | 0, hc => by omega
  | c + 1, hc => by
    by_cases hx : x = c
    · subst hx
      have e : canon c (orB f c) = canon c f := canon_congr fun y _ hy => by
        have : (y == (c : Int)) = false := by simp; omega
        simp [orB, this]
      rw [canon_succ_no hf, canon_succ_yes (by simp [orB]), e, less_all fun y hy => by have := (mem_canon.1 hy).1; omega, insAt_end]
    · have ih := canon_ins h0 hf (c := c) (by omega)
      rcases Bool.eq_false_or_eq_true (f c) with hg | hg
      · rw [canon_succ_yes hg, canon_succ_yes (by simp [orB, hg]), less_snoc _ _ _ (by omega), insAt_snoc _ _ _ _ (less_le _ _), ih]
      · rw [canon_succ_no hg, canon_succ_no (by simp [orB, hg]; omega), ih]
theorem canon_more {c : Nat} {f : Int → Bool} {x : Int} (h0 : 0 ≤ x) (hc : x < c) (hf : f x = false) : (canon c (orB f x)).length = (canon c f).length + 1 := by
  rw [← canon_ins h0 hf hc]
  exact insAt_len _ _ _ (less_le _ _)
theorem canon_again {c : Nat} {f : Int → Bool} {x : Int} (hf : f x = true) : canon c (orB f x) = canon c f := canon_congr fun y _ _ => by
  unfold orB
  by_cases h : y = x
  · subst h
    simp [hf]
  · simp [h]

/-- What a set is, to which those were added of which f says yes. -/
def stOf (c : Nat) (m : Int) (f : Int → Bool) : St := if ((canon c f).length : Int) ≤ m then ⟨c, m, canon c f, false⟩ else ⟨c, m, [], true⟩
theorem stOf_few {c : Nat} {m : Int} {f : Int → Bool} (h : ((canon c f).length : Int) ≤ m) : stOf c m f = ⟨c, m, canon c f, false⟩ := by unfold stOf; rw [if_pos h]
theorem stOf_many {c : Nat} {m : Int} {f : Int → Bool} (h : ¬ ((canon c f).length : Int) ≤ m) : stOf c m f = ⟨c, m, [], true⟩ := by unfold stOf; rw [if_neg h]
theorem stOf_c (c : Nat) (m : Int) (f : Int → Bool) : (stOf c m f).c = c := by unfold stOf; split <;> rfl
theorem stOf_m (c : Nat) (m : Int) (f : Int → Bool) : (stOf c m f).m = m := by unfold stOf; split <;> rfl
theorem stOf_len (c : Nat) (m : Int) (f : Int → Bool) : (stOf c m f).l.length ≤ c := by
  unfold stOf
  split
  · exact canon_len c f
  · exact Nat.zero_le _
theorem stOf_congr {c : Nat} {m : Int} {f g : Int → Bool} (h : ∀ y : Int, 0 ≤ y → y < c → f y = g y) : stOf c m f = stOf c m g := by
  unfold stOf
  rw [canon_congr h]
theorem stOf_may {c : Nat} {m : Int} {f : Int → Bool} (h1 : 1 ≤ c) (h2 : c ≤ 64) (h3 : 0 ≤ m) (h4 : m ≤ 8) : (stOf c m f).may = true := by
  unfold St.may
  by_cases h : ((canon c f).length : Int) ≤ m
  · rw [stOf_few h]
    simp [mayB, canon_rises, h3, h4, h]
    omega
  · rw [stOf_many h]
    simp [mayB, risesB, h3, h4]
    omega
theorem hasB_iff {c x : Int} : hasB c x = true ↔ 0 ≤ x ∧ x < c := by simp [hasB]
theorem toldB_few {c : Nat} {f : Int → Bool} {x : Int} (hx : 0 ≤ x) (hc : x < c) : toldB (canon c f) false x = f x := by
  unfold toldB
  rw [Bool.false_or, Bool.eq_iff_iff, List.contains_iff_mem, mem_canon]
  simp [hx, hc]
/-- A core more. -/
theorem add_yes {c : Nat} {m : Int} {f : Int → Bool} {x : Int} (h1 : 1 ≤ c) (h2 : c ≤ 64) (h3 : 0 ≤ m) (h4 : m ≤ 8) (hx : hasB c x = true) : addS (stOf c m f) x = (stOf c m (orB f x), 0) := by
  obtain ⟨hx0, hxc⟩ := hasB_iff.1 hx
  unfold addS
  rw [if_pos (stOf_may h1 h2 h3 h4), if_pos (by rw [stOf_c]; exact hx)]
  congr 1
  by_cases h : ((canon c f).length : Int) ≤ m
  · rw [stOf_few h]
    unfold withS
    rw [toldB_few hx0 hxc]
    rcases Bool.eq_false_or_eq_true (f x) with hf | hf
    · rw [if_pos hf, stOf_few (by rw [canon_again hf]; exact h), canon_again hf]
    · rw [if_neg (by rw [hf]; simp)]
      have hl := canon_more hx0 hxc hf
      by_cases hm : ((canon c f).length : Int) = m
      · rw [if_pos hm, stOf_many (by omega)]
      · rw [if_neg hm, stOf_few (by omega), canon_ins hx0 hf hxc]
  · rw [stOf_many h]
    have hl := canon_mono (f := f) (g := orB f x) (c := c) (fun y _ _ hy => by simp [orB, hy])
    rw [stOf_many (by omega)]
    rfl
theorem add_no {c : Nat} {m : Int} {f : Int → Bool} {x : Int} (h1 : 1 ≤ c) (h2 : c ≤ 64) (h3 : 0 ≤ m) (h4 : m ≤ 8) (hx : hasB c x = false) : addS (stOf c m f) x = (z0, 5) := by
  unfold addS
  rw [if_pos (stOf_may h1 h2 h3 h4), if_neg (by rw [stOf_c, hx]; simp)]
theorem may_new {c m : Int} : mayB c m [] false = true ↔ 1 ≤ c ∧ c ≤ 64 ∧ 0 ≤ m ∧ m ≤ 8 := by
  simp only [mayB, risesB, Bool.and_eq_true, decide_eq_true_eq, List.length_nil]
  simp
  omega
theorem new_st {c : Nat} {m : Int} (h1 : 1 ≤ c) (h2 : c ≤ 64) (h3 : 0 ≤ m) (h4 : m ≤ 8) : newS c m = (stOf c m (fun _ => false), 0) := by
  have e : canon c (fun _ => false) = [] := by unfold canon; simp
  unfold newS
  rw [if_pos (may_new.2 (by omega)), stOf_few (by rw [e]; simpa using h3), e]
/-- Who was added may be one. -/
theorem has_yes {c : Nat} {m : Int} {f : Int → Bool} {x : Int} (h1 : 1 ≤ c) (h2 : c ≤ 64) (h3 : 0 ≤ m) (h4 : m ≤ 8) (hx : hasB c x = true) (hf : f x = true) : hasAll (stOf c m f).c (stOf c m f).m (stOf c m f).l (stOf c m f).al x = true := by
  obtain ⟨hx0, hxc⟩ := hasB_iff.1 hx
  have hm : mayB (stOf c m f).c (stOf c m f).m (stOf c m f).l (stOf c m f).al = true := stOf_may h1 h2 h3 h4
  unfold hasAll
  rw [hm, stOf_c, hx]
  by_cases h : ((canon c f).length : Int) ≤ m
  · rw [stOf_few h, toldB_few hx0 hxc, hf]
    rfl
  · rw [stOf_many h]
    rfl
theorem targets_few {c : Nat} {m : Int} {f : Int → Bool} (h1 : 1 ≤ c) (h2 : c ≤ 64) (h3 : 0 ≤ m) (h4 : m ≤ 8) (h : ((canon c f).length : Int) ≤ m) : targetsS (stOf c m f) [] = canon c f := by
  unfold targetsS
  rw [if_pos (stOf_may h1 h2 h3 h4), stOf_few h]
  unfold pickS
  simp only [Int.toNat_natCast]
  exact canon_congr fun y h0 hy => by
    rw [toldB_few h0 hy]
    simp
theorem targets_new (c m : Int) : targetsS (newS c m).1 [] = [] := by
  unfold newS
  split
  · unfold targetsS pickS
    split
    · simp [toldB]
    · rfl
  · unfold targetsS
    split
    · simp [z0, pickS, upTo]
    · rfl

end Go.Proofs.YtpknfbgnclgpmaaGreatDoor.Sh
