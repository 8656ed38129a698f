/-
  What the document's own answers of layer 3 are, one contract each: digits, guess.
-/
import Derived.Test.YtobpeaigapnpdaaDoorPgT
import Derived.Test.YtobpeaigapnpdaaDoorPgN
namespace Go.Proofs.YtobpeaigapnpdaaDoor
open Go Go.RowKit

/-- The number that the first so many digits tell. -/
def foldK (b : ByteArray) (k : Nat) : Int := (b.data.toList.take k).foldl dstep 0
theorem foldK_next (b : ByteArray) (k : Nat) (h : k < b.size) : foldK b (k + 1) = 10 * foldK b k + (b[k].toNat : Int) - 48 := by
  unfold foldK
  rw [take_succ_list b k h, List.foldl_append]
  rfl
theorem foldK_le (b : ByteArray) (k : Nat) (h : k ≤ 12) : -23000000000000 ≤ foldK b k ∧ foldK b k ≤ 23000000000000 := fold_le _ (by rw [List.length_take]; omega)
theorem foldK_end (b : ByteArray) (k : Nat) (h : k = 12 ∨ (k = b.size ∧ k ≤ 12)) : foldK b k = dgs b.data.toList := by
  unfold foldK dgs
  rcases h with rfl | ⟨rfl, h⟩
  · rfl
  · rw [List.take_of_length_le (by rw [size_list]; omega), List.take_of_length_le (by rw [size_list]; omega)]

set_option maxHeartbeats 1000000 in
theorem digits_any (b : ByteArray) (w : World) :
    Calls Tryd.prog 28 #[.string b] w fun e w' => e = .returned (.int .i64 (dgs b.data.toList)) ∧ w = w' := by
  go_enter Tryd.func28, Tryd.ntmps28
  go_wp2
  go_loop [3, 4] (fun n i => ∃ k : Nat, k ≤ b.size ∧ k ≤ 12 ∧ i = .int .i64 k ∧ n = .int .i64 (foldK b k)) (fun _ i => b.size - (intOf i).toNat)
  case atStart => exact ⟨0, Nat.zero_le _, Nat.zero_le _, rfl, rfl⟩
  case round =>
    obtain ⟨k, hk, hk2, rfl, rfl⟩ := hrel
    have hf := foldK_le b k hk2
    have hf0 := hf.1
    have hf1 := hf.2
    clear hf
    by_cases hlt : k < b.size
    · by_cases h12 : k < 12
      · have HN := Lib.hid (foldK_next b k hlt)
        have hc : (b[k]).toNat < 256 := (b[k]).toNat_lt
        go_wp2
        go_round
        case rel => exact ⟨k + 1, by omega, by omega, by go_num, by rw [HN.out]⟩
        case measure => simp [intOf]; omega
      · have HE := Lib.hid (foldK_end b k (.inl (by omega)))
        go_wp2
        go_ret
        exact ⟨ret_int HE.out, rfl⟩
    · have HE := Lib.hid (foldK_end b k (.inr ⟨by omega, hk2⟩))
      go_wp2
      go_ret
      exact ⟨ret_int HE.out, rfl⟩

/-- The kind, if its letter is among the first so many. -/
def kd (c : Nat) (k : Int) : Int := if kindR c < k then kindR c else 0
theorem kindR_le (c : Nat) : 0 ≤ kindR c ∧ kindR c ≤ 4 := by
  unfold kindR
  repeat' split
  all_goals omega
theorem kd_5 (c : Nat) : kd c 5 = kindR c := by
  have := kindR_le c
  unfold kd
  rw [if_pos (by omega)]
theorem kd_1 (c : Nat) : kd c 1 = 0 := by
  have := kindR_le c
  unfold kd
  split
  · omega
  · rfl
theorem kdh_1 {c : Nat} (h : ((c : Int) == 76) = true) : kd c 2 = 1 := by
  have : c = 76 := by simp at h; omega
  subst this
  decide
theorem kdm_1 {c : Nat} (h : ((c : Int) == 76) = false) : kd c 2 = kd c 1 := by
  have : c ≠ 76 := by simp at h; omega
  have hk : kindR c ≠ 1 := by
    unfold kindR
    repeat' split
    all_goals omega
  unfold kd
  split
  · rw [if_pos (by omega)]
  · rw [if_neg (by omega)]
theorem kdh_2 {c : Nat} (h : ((c : Int) == 83) = true) : kd c 3 = 2 := by
  have : c = 83 := by simp at h; omega
  subst this
  decide
theorem kdm_2 {c : Nat} (h : ((c : Int) == 83) = false) : kd c 3 = kd c 2 := by
  have : c ≠ 83 := by simp at h; omega
  have hk : kindR c ≠ 2 := by
    unfold kindR
    repeat' split
    all_goals omega
  unfold kd
  split
  · rw [if_pos (by omega)]
  · rw [if_neg (by omega)]
theorem kdh_3 {c : Nat} (h : ((c : Int) == 88) = true) : kd c 4 = 3 := by
  have : c = 88 := by simp at h; omega
  subst this
  decide
theorem kdm_3 {c : Nat} (h : ((c : Int) == 88) = false) : kd c 4 = kd c 3 := by
  have : c ≠ 88 := by simp at h; omega
  have hk : kindR c ≠ 3 := by
    unfold kindR
    repeat' split
    all_goals omega
  unfold kd
  split
  · rw [if_pos (by omega)]
  · rw [if_neg (by omega)]
theorem kdh_4 {c : Nat} (h : ((c : Int) == 70) = true) : kd c 5 = 4 := by
  have : c = 70 := by simp at h; omega
  subst this
  decide
theorem kdm_4 {c : Nat} (h : ((c : Int) == 70) = false) : kd c 5 = kd c 4 := by
  have : c ≠ 70 := by simp at h; omega
  have hk : kindR c ≠ 4 := by
    unfold kindR
    repeat' split
    all_goals omega
  unfold kd
  split
  · rw [if_pos (by omega)]
  · rw [if_neg (by omega)]

theorem Box.free {w : World} {H : Nat} {x : Op} (h : Box w H x) (i : Nat) : w.frozen? ⟨H, i, none⟩ = false := by simp [World.frozen?, show w.heap[H]? = _ from h]
theorem Box.set {w : World} {H : Nat} {x y : Op} (h : Box w H x) (i : Nat) (u : Value) (e : (#[.int .i64 x.k, .int .i64 x.a, .int .i64 x.v] : Array Value).setIfInBounds i u = #[.int .i64 y.k, .int .i64 y.a, .int .i64 y.v]) : Box (w.setCell ⟨H, i, none⟩ u) H y := by
  have hlt := h.lt
  have h' : w.heap[H] = .cells #[.int .i64 x.k, .int .i64 x.a, .int .i64 x.v] 33 (0, 0) := by simpa [Array.getElem?_eq_getElem hlt] using (show w.heap[H]? = _ from h)
  show (w.heap.modify H _)[H]? = _
  rw [Array.getElem?_eq_getElem (by simpa using hlt), Array.getElem_modify_self, h', ← e]
  rfl
/-- What guess has made: its answer's block, empty yet, and its operation's. -/
structure Gs (w wr : World) (x : Op) : Prop where
  res : Box wr w.heap.size ⟨0, 0, 0⟩
  op : Box wr (w.heap.size + 1) x
  below : Below w.heap.size w wr
theorem Gs.drewN {w wr : World} {x : Op} (h : Gs w wr x) (n : Nat) : Gs w (wr.drewN n) x := ⟨h.res, h.op, below_drewN h.below n⟩
theorem Gs.set {w wr : World} {x y : Op} (h : Gs w wr x) (i : Nat) (u : Value) (e : (#[.int .i64 x.k, .int .i64 x.a, .int .i64 x.v] : Array Value).setIfInBounds i u = #[.int .i64 y.k, .int .i64 y.a, .int .i64 y.v]) : Gs w (wr.setCell ⟨w.heap.size + 1, i, none⟩ u) y :=
  ⟨(Below.heap_setCell _ _ _ _ (by show w.heap.size ≠ w.heap.size + 1; omega)).trans h.res, h.op.set i u e, h.below.setCell (by show w.heap.size ≤ w.heap.size + 1; omega) u⟩

/-- The first = from a place on. -/
def EqRel (b : ByteArray) (q t : Nat) : Prop := t ≤ b.size ∧ q ≤ t ∧ (t < b.size → (b.data.toList.getD t 0).toNat = 61) ∧ ∀ j, q ≤ j → j < t → (b.data.toList.getD j 0).toNat ≠ 61
theorem getD_byte (b : ByteArray) (j : Nat) (h : j < b.size) : b.data.toList.getD j 0 = b[j] := by
  rw [List.getD_eq_getElem?_getD, List.getElem?_eq_getElem (by rw [size_list]; exact h)]
  rfl
theorem eqRel0 (b : ByteArray) : EqRel b b.size b.size := ⟨Nat.le_refl _, Nat.le_refl _, fun h => by omega, fun j h1 h2 => by omega⟩
theorem eqRel_hit {b : ByteArray} {k : Nat} (hk : k < b.size) (e : ((b[k].toNat : Int) == 61) = true) : EqRel b k k :=
  ⟨by omega, Nat.le_refl _, fun _ => by rw [getD_byte b k hk]; simp at e; omega, fun j h1 h2 => by omega⟩
theorem eqRel_miss {b : ByteArray} {k t : Nat} (h : EqRel b (k + 1) t) (hk : k < b.size) (e : ((b[k].toNat : Int) == 61) = false) : EqRel b k t :=
  ⟨h.1, by have := h.2.1; omega, h.2.2.1, fun j h1 h2 => by
    by_cases ej : j = k
    · subst ej; rw [getD_byte b j hk]; simp at e; omega
    · exact h.2.2.2 j (by omega) h2⟩
theorem eqRel_end {b : ByteArray} {t : Nat} (h : EqRel b 0 t) : eqAt b.data.toList = t := by
  obtain ⟨h1, -, h3, h4⟩ := h
  unfold eqAt
  by_cases ht : t < b.size
  · rw [List.findIdx_eq (by rw [size_list]; exact ht)]
    refine ⟨?_, fun j hj => ?_⟩
    · have := h3 ht
      rw [List.getD_eq_getElem?_getD, List.getElem?_eq_getElem (by rw [size_list]; exact ht)] at this
      exact beq_iff_eq.2 (u8_ext (c := b.data.toList[t]'(by rw [size_list]; exact ht)) (d := 61) this)
    · have := h4 j (by omega) hj
      rw [List.getD_eq_getElem?_getD, List.getElem?_eq_getElem (by rw [size_list]; omega)] at this
      simp only [beq_eq_false_iff_ne]
      intro e
      rw [Option.getD_some, e] at this
      exact this (by decide)
  · have : t = b.data.toList.length := by rw [size_list]; omega
    rw [this, List.findIdx_eq_length]
    intro c hc
    obtain ⟨j, hj, rfl⟩ := List.getElem_of_mem hc
    have := h4 j (by omega) (by omega)
    rw [List.getD_eq_getElem?_getD, List.getElem?_eq_getElem hj] at this
    simp only [beq_eq_false_iff_ne]
    intro e
    rw [Option.getD_some, e] at this
    exact this (by decide)

theorem Gs.setA {w wr : World} {x : Op} (h : Gs w wr x) (a : Int) : Gs w (wr.setCell ⟨w.heap.size + 1, 1, none⟩ (.int .i64 a)) ⟨x.k, a, x.v⟩ := h.set 1 _ rfl
theorem Gs.setV {w wr : World} {x : Op} (h : Gs w wr x) (v : Int) : Gs w (wr.setCell ⟨w.heap.size + 1, 2, none⟩ (.int .i64 v)) ⟨x.k, x.a, v⟩ := h.set 2 _ rfl
/-- The answer's block, and what has changed, when the operation was laid there. -/
theorem Gs.fin {w wr : World} {x : Op} (h : Gs w wr x) : Box (((wr.setCell ⟨w.heap.size, 0, none⟩ (.int .i64 x.k)).setCell ⟨w.heap.size, 1, none⟩ (.int .i64 x.a)).setCell ⟨w.heap.size, 2, none⟩ (.int .i64 x.v)) w.heap.size x ∧ Below w.heap.size w (((wr.setCell ⟨w.heap.size, 0, none⟩ (.int .i64 x.k)).setCell ⟨w.heap.size, 1, none⟩ (.int .i64 x.a)).setCell ⟨w.heap.size, 2, none⟩ (.int .i64 x.v)) :=
  ⟨((h.res.set 0 _ (y := ⟨x.k, 0, 0⟩) rfl).set 1 _ (y := ⟨x.k, x.a, 0⟩) rfl).set 2 _ (y := x) rfl, ((h.below.setCell (Nat.le_refl _) _).setCell (Nat.le_refl _) _).setCell (Nat.le_refl _) _⟩
theorem guess_ret {w W : World} {x y : Op} {a : Act} (hp : a.tmps.getD 2 undef = .pointer (some ⟨w.heap.size, 0, none⟩)) (hd : a.defers = []) (h : Box W w.heap.size x ∧ Below w.heap.size w W) (e : y = x) :
    bodyPost Tryd.prog Tryd.f18 (fun e w' => e = .returned (ov y) ∧ Below w.heap.size w w') Exit.ret a W := by
  subst e
  exact bodyPost_ret (v := ov y) (results_cell_row Tryd.results18 _ _ w.heap.size 33 _ (0, 0) _ hp h.1 Tryd.underlying33 rfl (by kernel_rfl)) hd ⟨rfl, h.2⟩
theorem cutA (L : List UInt8) (q : Nat) : List.take ((max (q : Int) 1).toNat - 1) L.tail = (L.take (max q 1)).drop 1 := by
  have e : (max (q : Int) 1).toNat = max q 1 := by omega
  rw [e]
  cases L with
  | nil => simp
  | cons c L =>
    obtain ⟨m, hm⟩ : ∃ m, max q 1 = m + 1 := ⟨max q 1 - 1, by omega⟩
    rw [hm]
    simp
theorem cutV (b : ByteArray) (n : Nat) : List.take (b.size - n) (b.data.toList.drop n) = b.data.toList.drop n := List.take_of_length_le (by rw [List.length_drop, size_list]; omega)
theorem dgs_le (l : List UInt8) : -23000000000000 ≤ dgs l ∧ dgs l ≤ 23000000000000 := fold_le _ (by rw [List.length_take]; omega)
theorem wrapV (l : List UInt8) : wrap64 (-dgs l) = -dgs l := by
  have := dgs_le l
  exact IntWalk.wrap64_in _ ⟨by omega, by omega⟩
theorem guess_is {b : ByteArray} {q : Nat} {A V : Int} (h0 : 0 < b.size) (hq : eqAt b.data.toList = q)
    (hA : A = if kindR b[0].toNat = 4 then 0 else dgs (List.take ((max (q : Int) 1).toNat - 1) b.data.toList.tail))
    (hV : V = if q + 1 < b.size ∧ (b.data.toList.getD (q + 1) 0).toNat = 45 then wrap64 (-dgs (List.take (b.size - (q + 2)) (b.data.toList.drop (q + 2)))) else if q < b.size then dgs (List.take (b.size - (q + 1)) (b.data.toList.drop (q + 1))) else 0) :
    guessOp b.data.toList = ⟨kindR b[0].toNat, A, V⟩ := by
  rw [hA, hV, cutA, cutV, cutV, wrapV]
  unfold guessOp
  rw [if_neg (list_ne h0), hq, getD_byte b 0 h0, size_list]

theorem k4 {k : Int} (h : (k == 4) = true) : k = 4 := by simpa using h
theorem k4' {k : Int} (h : (k == 4) = false) : ¬ k = 4 := by simpa using h
theorem at45 {b : ByteArray} {q : Nat} (hq : q + 1 < b.size) (h : ((b[q + 1].toNat : Int) == 45) = true) : (b.data.toList.getD (q + 1) 0).toNat = 45 := by
  rw [getD_byte b _ hq]; simp at h; omega
theorem not45 {b : ByteArray} {q : Nat} (hq : q + 1 < b.size) (h : ((b[q + 1].toNat : Int) == 45) = false) : ¬ (b.data.toList.getD (q + 1) 0).toNat = 45 := by
  rw [getD_byte b _ hq]; simp at h; omega

set_option maxRecDepth 100000 in
set_option maxHeartbeats 4000000 in
theorem guess_some (b : ByteArray) (w : World) (hb : b.size ≤ 4000) (h0 : 0 < b.size) :
    Calls Tryd.prog 18 #[.string b] w fun e w' => e = .returned (ov (guessOp b.data.toList)) ∧ Below w.heap.size w w' := by
  have hemp := some_text h0
  have l1 : ((⟨#[32, 76, 83, 88, 70]⟩ : ByteArray)[1]'(by decide)).toNat = 76 := by decide
  have l2 : ((⟨#[32, 76, 83, 88, 70]⟩ : ByteArray)[2]'(by decide)).toNat = 83 := by decide
  have l3 : ((⟨#[32, 76, 83, 88, 70]⟩ : ByteArray)[3]'(by decide)).toNat = 88 := by decide
  have l4 : ((⟨#[32, 76, 83, 88, 70]⟩ : ByteArray)[4]'(by decide)).toNat = 70 := by decide
  go_enter Tryd.func18, Tryd.ntmps18
  go_wp2
  go_loopw [4] (fun i wr => ∃ k : Int, 1 ≤ k ∧ k ≤ 5 ∧ i = .int .i64 k ∧ Hid (Gs w wr ⟨kd b[0].toNat k, 0, 0⟩)) (fun i _ => (5 - intOf i).toNat)
  case atStart =>
    refine ⟨1, by omega, by omega, rfl, Lib.hid ⟨(Box.new w ⟨0, 0, 0⟩).alloc _, ?_, ((Below.refl _ _).alloc (Nat.le_refl _) _).alloc (by simp) _⟩⟩
    have := Box.new (w.alloc (.cells #[.int .i64 0, .int .i64 0, .int .i64 0] 33)) ⟨0, 0, 0⟩
    rw [kd_1]
    simpa using this
  case round =>
    obtain ⟨k, hk1, hk5, rfl, HG⟩ := hrel
    have c0 := HG.out.op.c0
    have f0 := HG.out.op.free 0
    rcases (show k = 1 ∨ k = 2 ∨ k = 3 ∨ k = 4 ∨ k = 5 by omega) with rfl | rfl | rfl | rfl | rfl
    · go_wp2
      go_quiet (fail)
      go_wp2
      · go_roundw
        case rel => exact ⟨2, by omega, by omega, rfl, Lib.hid (by rw [kdh_1 (by assumption)]; exact (HG.out.drewN _).set 0 _ rfl)⟩
        case measure => simp [intOf]
      · go_roundw
        case rel => exact ⟨2, by omega, by omega, rfl, Lib.hid (by rw [kdm_1 (by assumption)]; exact HG.out.drewN _)⟩
        case measure => simp [intOf]
    · go_wp2
      go_quiet (fail)
      go_wp2
      · go_roundw
        case rel => exact ⟨3, by omega, by omega, rfl, Lib.hid (by rw [kdh_2 (by assumption)]; exact (HG.out.drewN _).set 0 _ rfl)⟩
        case measure => simp [intOf]
      · go_roundw
        case rel => exact ⟨3, by omega, by omega, rfl, Lib.hid (by rw [kdm_2 (by assumption)]; exact HG.out.drewN _)⟩
        case measure => simp [intOf]
    · go_wp2
      go_quiet (fail)
      go_wp2
      · go_roundw
        case rel => exact ⟨4, by omega, by omega, rfl, Lib.hid (by rw [kdh_3 (by assumption)]; exact (HG.out.drewN _).set 0 _ rfl)⟩
        case measure => simp [intOf]
      · go_roundw
        case rel => exact ⟨4, by omega, by omega, rfl, Lib.hid (by rw [kdm_3 (by assumption)]; exact HG.out.drewN _)⟩
        case measure => simp [intOf]
    · go_wp2
      go_quiet (fail)
      go_wp2
      · go_roundw
        case rel => exact ⟨5, by omega, by omega, rfl, Lib.hid (by rw [kdh_4 (by assumption)]; exact (HG.out.drewN _).set 0 _ rfl)⟩
        case measure => simp [intOf]
      · go_roundw
        case rel => exact ⟨5, by omega, by omega, rfl, Lib.hid (by rw [kdm_4 (by assumption)]; exact HG.out.drewN _)⟩
        case measure => simp [intOf]
    · rw [kd_5] at HG c0
      clear l1 l2 l3 l4 hk1 hk5
      go_wp2
      go_loop [5, 6] (fun t i => ∃ (k : Int) (q : Nat), -1 ≤ k ∧ k < b.size ∧ i = .int .i64 k ∧ t = .int .i64 q ∧ Hid (EqRel b (k + 1).toNat q)) (fun _ i => (intOf i + 1).toNat)
      case atStart => exact ⟨(b.size : Int) - 1, b.size, by omega, by omega, rfl, rfl, Lib.hid (by rw [show ((b.size : Int) - 1 + 1).toNat = b.size by omega]; exact eqRel0 b)⟩
      case round =>
        obtain ⟨k, q, hk0, hk1, rfl, rfl, HE⟩ := hrel
        by_cases hk : 0 ≤ k
        · obtain ⟨j, rfl⟩ : ∃ j : Nat, k = j := ⟨k.toNat, by omega⟩
          have hj : j < b.size := by omega
          have HE' : Hid (EqRel b (j + 1) q) := Lib.hid (by have e := HE.out; rwa [show ((j : Int) + 1).toNat = j + 1 by omega] at e)
          clear HE
          go_wp2
          · go_round
            case rel => exact ⟨(j : Int) - 1, j, by omega, by omega, rfl, rfl, Lib.hid (by rw [show ((j : Int) - 1 + 1).toNat = j by omega]; exact eqRel_hit hj (by assumption))⟩
            case measure => simp [intOf]
          · go_round
            case rel => exact ⟨(j : Int) - 1, q, by omega, by omega, rfl, rfl, Lib.hid (by rw [show ((j : Int) - 1 + 1).toNat = j by omega]; exact eqRel_miss HE'.out hj (by assumption))⟩
            case measure => simp [intOf]
        · have HQ := Lib.hid (eqRel_end (b := b) (t := q) (by have e := HE.out; rwa [show (k + 1).toNat = 0 by omega] at e))
          have hq : q ≤ b.size := HE.out.1
          have f1 := HG.out.op.free 1
          have f2 := HG.out.op.free 2
          have c1 := HG.out.op.c1
          have c2 := HG.out.op.c2
          have r0 := HG.out.res.c0
          have r1 := HG.out.res.c1
          have r2 := HG.out.res.c2
          have s0 := HG.out.res.free 0
          have s1 := HG.out.res.free 1
          have s2 := HG.out.res.free 2
          clear HE
          go_wp2_with (go_at_call 28; refine (digits_any _ _).mono ?_; rintro e w' ⟨rfl, rfl⟩)
          · exact guess_ret rfl rfl (((HG.out.setA _).setA _).setV _).fin (guess_is h0 HQ.out (by rw [if_pos (k4 (by assumption))]) (by rw [if_pos ⟨by omega, at45 (by omega) (by assumption)⟩]))
          · exact guess_ret rfl rfl (((HG.out.setA _).setA _).setV _).fin (guess_is h0 HQ.out (by rw [if_pos (k4 (by assumption))]) (by rw [if_neg (fun h => not45 (by omega) (by assumption) h.2), if_pos (by omega)]))
          · exact guess_ret rfl rfl (((HG.out.setA _).setA _).setV _).fin (guess_is h0 HQ.out (by rw [if_pos (k4 (by assumption))]) (by rw [if_neg (fun h => by have := h.1; omega), if_pos (by omega)]))
          · exact guess_ret rfl rfl ((HG.out.setA _).setA _).fin (guess_is h0 HQ.out (by rw [if_pos (k4 (by assumption))]) (by rw [if_neg (fun h => by have := h.1; omega), if_neg (by omega)]))
          · exact guess_ret rfl rfl ((HG.out.setA _).setV _).fin (guess_is h0 HQ.out (by rw [if_neg (k4' (by assumption))]) (by rw [if_pos ⟨by omega, at45 (by omega) (by assumption)⟩]))
          · exact guess_ret rfl rfl ((HG.out.setA _).setV _).fin (guess_is h0 HQ.out (by rw [if_neg (k4' (by assumption))]) (by rw [if_neg (fun h => not45 (by omega) (by assumption) h.2), if_pos (by omega)]))
          · exact guess_ret rfl rfl ((HG.out.setA _).setV _).fin (guess_is h0 HQ.out (by rw [if_neg (k4' (by assumption))]) (by rw [if_neg (fun h => by have := h.1; omega), if_pos (by omega)]))
          · exact guess_ret rfl rfl (HG.out.setA _).fin (guess_is h0 HQ.out (by rw [if_neg (k4' (by assumption))]) (by rw [if_neg (fun h => by have := h.1; omega), if_neg (by omega)]))

theorem guess_none (b : ByteArray) (w : World) (h0 : b.size = 0) :
    Calls Tryd.prog 18 #[.string b] w fun e w' => e = .returned (ov (guessOp b.data.toList)) ∧ Below w.heap.size w w' := by
  have hemp : b.toList.isEmpty = true := by rw [ByteArray.toList_eq, no_text h0]; rfl
  have HE : Hid (guessOp b.data.toList = ⟨0, 0, 0⟩) := Lib.hid (by rw [no_text h0]; rfl)
  clear h0
  go_enter Tryd.func18, Tryd.ntmps18
  go_wp2
  exact guess_ret rfl rfl ⟨Box.new w ⟨0, 0, 0⟩, (Below.refl _ _).alloc (Nat.le_refl _) _⟩ HE.out

/-- guess: the operation that a word may tell. -/
theorem guess_any (b : ByteArray) (w : World) (hb : b.size ≤ 4000) :
    Calls Tryd.prog 18 #[.string b] w fun e w' => e = .returned (ov (guessOp b.data.toList)) ∧ Below w.heap.size w w' := by
  rcases Nat.eq_zero_or_pos b.size with h | h
  · exact guess_none b w h
  · exact guess_some b w hb h

end Go.Proofs.YtobpeaigapnpdaaDoor
