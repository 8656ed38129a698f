/-
  A list of numbers of the call's own: cloned, searched, with one number more at a place.
-/
import Derived.Test.YtfnemldjhfcalaaShA
import Derived.Test.YtfnemldjhfcalaaShelf
namespace Go.Proofs.Ytfnemldjhfcalaa
open Go Go.RowKit Go.Shelf

theorem NumsIn.at {w : World} {g off : Nat} {l : List Int} (h : NumsIn w (some ⟨g, off, none⟩) l) (j : Nat) (hj : j < l.length) : g < w.heap.size ∧ w.cell? ⟨g, off + j, none⟩ = some (.int .i64 (l.getD j 0)) := by
  obtain ⟨g', off', e, hg, hc⟩ := h j hj
  simp only [Option.some.injEq, Addr.mk.injEq, and_true] at e
  obtain ⟨rfl, rfl⟩ := e
  exact ⟨hg, hc⟩
theorem NumsIn.of_cells {w : World} {g : Nat} {l : List Int} (hg : g < w.heap.size) (h : ∀ j, j < l.length → w.cell? ⟨g, j, none⟩ = some (.int .i64 (l.getD j 0))) : NumsIn w (some ⟨g, 0, none⟩) l := fun j hj =>
  ⟨g, 0, rfl, hg, by rw [Nat.zero_add]; exact h j hj⟩
/-- Numbers as cells. -/
abbrev ints (l : List Int) : List Value := l.map (Value.int .i64)
theorem ints_at (l : List Int) (j : Nat) : (ints l)[j]? = if j < l.length then some (.int .i64 (l.getD j 0)) else none := by
  rw [List.getElem?_map]
  by_cases h : j < l.length
  · simp [h, List.getD_eq_getElem?_getD]
  · rw [if_neg h, List.getElem?_eq_none (by omega)]
    rfl
theorem ints_one (l : List Int) : ∀ v ∈ ints l, v.oneCell' = true := fun v hv => by
  obtain ⟨x, _, rfl⟩ := List.mem_map.1 hv
  rfl
theorem own_in {w : World} {B : Nat} {v : Value} {l : List Int} (h : w.ownsRow B 3 1 v l.length (ints l)) : ∃ p cap, v = .slice p l.length cap ∧ NumsIn w p l := by
  rcases h.2 with ⟨rfl, h0⟩ | ⟨g, cap, cur, rfl, hb, hg, rest⟩
  · exact ⟨none, 0, by rw [h0], fun j hj => by omega⟩
  · refine ⟨_, cap, rfl, NumsIn.of_cells (lt_of_block hg) fun j hj => ?_⟩
    rw [h.cellAt j (by omega), ints_at, if_pos hj]
theorem own_block {w w' : World} {base e sz n : Nat} {v : Value} {xs : List Value} (h : w.ownsRow base e sz v n xs) (hb : ∀ k, v.ownBlock = some k → w'.heap[k]? = w.heap[k]?) : w'.ownsRow base e sz v n xs := by
  refine ⟨h.1, ?_⟩
  rcases h.2 with hn | ⟨g, cap, cur, rfl, hb', hgg, rest⟩
  · exact .inl hn
  · exact .inr ⟨g, cap, cur, rfl, hb', (hb g rfl).trans hgg, rest⟩

theorem clone_any (p : Option Addr) (cap : Nat) (l : List Int) (w : World) (hl : l.length ≤ 5000) (h : NumsIn w p l) :
    Calls Try.prog 40 #[.slice p l.length cap] w fun e w' => ∃ q c, e = .returned (.slice q l.length c) ∧ w'.ownsRow w.heap.size 3 1 (.slice q l.length c) l.length (ints l) ∧ Below w.heap.size w w' := by
  cases p with
  | none =>
    have hn : l = [] := by
      cases l with
      | nil => rfl
      | cons x l =>
        obtain ⟨_, _, e, _⟩ := h 0 (by simp)
        cases e
    subst hn
    refine (Try.slices_Clone_int_nil 0 cap w).mono ?_
    rintro e w' ⟨rfl, rfl⟩
    exact ⟨none, 0, rfl, World.ownsRow_nil _ _ _ _, Below.refl _ _⟩
  | some a =>
    rcases Nat.eq_zero_or_pos l.length with h0 | h0
    · have e : l = [] := List.eq_nil_of_length_eq_zero h0
      subst e
      refine (Try.slices_Clone_int_zero a cap w).mono ?_
      rintro e w' ⟨v', rfl, hown, _, hb⟩
      obtain ⟨q, c, rfl, _⟩ := own_in (l := []) hown
      exact ⟨q, c, rfl, hown, hb⟩
    · obtain ⟨g, off, e, _⟩ := h 0 h0
      cases e
      refine (Try.slices_Clone_int g off l.length cap l w (Nat.le_refl _) (by omega) fun j hj => (h.at j hj).2).mono ?_
      rintro e w' ⟨v', rfl, hown, _, hb⟩
      rw [List.take_length] at hown
      obtain ⟨q, c, rfl, _⟩ := own_in hown
      exact ⟨q, c, rfl, hown, hb⟩

/-- How many numbers are less. -/
def less (l : List Int) (x : Int) : Nat := l.countP (· < x)
theorem search_any (p : Option Addr) (cap : Nat) (l : List Int) (x : Int) (w : World) (hl : l.length ≤ 5000) (h : NumsIn w p l) (hs : l.Pairwise (· ≤ ·)) :
    Calls Try.prog 53 #[.slice p l.length cap, .int .i64 x] w fun e w' => e = .returned (.tuple #[.int .i64 (less l x), .bool (l.contains x)]) ∧ ∃ n, w' = w.drewN n := by
  rcases Nat.eq_zero_or_pos l.length with h0 | h0
  · have e : l = [] := List.eq_nil_of_length_eq_zero h0
    subst e
    refine (Try.slices_BinarySearch_int_empty p cap x w).mono ?_
    rintro e w' ⟨rfl, rfl⟩
    exact ⟨rfl, 0, rfl⟩
  · obtain ⟨g, off, rfl, _⟩ := h 0 h0
    refine (Try.slices_BinarySearch_int g off l.length cap l x w (Nat.le_refl _) (by omega) (fun j hj => (h.at j hj).2) (by rw [List.take_length]; exact hs)).mono ?_
    rintro e w' ⟨rfl, n, rfl⟩
    rw [List.take_length]
    exact ⟨rfl, n, rfl⟩

/-- A list with one number more at a place. -/
def insAt (l : List Int) (i : Nat) (x : Int) : List Int := l.take i ++ x :: l.drop i
theorem insAt_len (l : List Int) (i : Nat) (x : Int) (hi : i ≤ l.length) : (insAt l i x).length = l.length + 1 := by
  simp [insAt]
  omega
theorem insAt_at (l : List Int) (i : Nat) (x : Int) (hi : i ≤ l.length) (j : Nat) : (insAt l i x).getD j 0 = if j < i then l.getD j 0 else if j = i then x else l.getD (j - 1) 0 := by
  unfold insAt
  simp only [List.getD_eq_getElem?_getD]
  by_cases h : j < i
  · rw [if_pos h, List.getElem?_append_left (by rw [List.length_take]; omega), List.getElem?_take, if_pos h]
  · rw [if_neg h, List.getElem?_append_right (by rw [List.length_take]; omega), List.length_take, Nat.min_eq_left hi]
    by_cases h2 : j = i
    · subst h2
      simp
    · rw [if_neg h2, show j - i = (j - 1 - i) + 1 by omega, List.getElem?_cons_succ, List.getElem?_drop, show i + (j - 1 - i) = j - 1 by omega]

theorem below_cells {B g : Nat} (hg : B ≤ g) : ∀ (vs : List Value) (o : Nat) (a w : World), Below B a w → Below B a (w.setCells g o vs)
  | [], _, _, _, h => h
  | v :: r, o, a, w, h => below_cells hg r (o + 1) a _ (h.setCell (by exact hg) v)

/-- What a call gives that puts a number more into a list. -/
def InsGave (B : Nat) (l : List Int) (i : Nat) (x : Int) (w : World) (e : Ending) (w' : World) : Prop :=
  ∃ p c, e = .returned (.slice p (l.length + 1) c) ∧ NumsIn w' p (insAt l i x) ∧ Below B w w' ∧ ∀ a, p = some a → B ≤ a.block

set_option maxHeartbeats 1000000 in
theorem insert_any {w : World} {B : Nat} {p : Option Addr} {cap : Nat} {l : List Int} (h : w.ownsRow B 3 1 (.slice p l.length cap) l.length (ints l)) (i : Nat) (x : Int) (vb : Nat) (hi : i ≤ l.length) (hl : l.length ≤ 5000)
    (hv : w.heap[vb]? = some (.cells #[.int .i64 x] 3 (0, 0))) (hne : ∀ g, p = some g → g.block ≠ vb) (hB : B ≤ w.heap.size) :
    Calls Try.prog 54 #[.slice p l.length cap, .int .i64 i, .slice (some ⟨vb, 0, none⟩) 1 1] w (InsGave B l i x w) := by
  have hvs : ∀ j v, [Value.int .i64 x][j]? = some v → w.cell? ⟨vb, 0 + j, none⟩ = some v := fun j v hj => by
    rw [Nat.zero_add, blk_cell hv]
    simpa using hj
  have hv1 : ∀ v ∈ [Value.int .i64 x], v.oneCell' = true := fun v hv => by
    have := List.mem_singleton.1 hv
    subst this
    rfl
  have hcl : (ints l).length = l.length := by simp
  have hlt := insAt_len l i x hi
  have hvb := lt_of_block hv
  rcases h.2 with ⟨e, h0⟩ | ⟨g, cap', cur, e, hb, hg, hnc, hcm, hcs, htake⟩
  · simp only [Value.slice.injEq] at e
    obtain ⟨rfl, _, rfl⟩ := e
    have e : l = [] := List.eq_nil_of_length_eq_zero h0
    subst e
    have e : i = 0 := by simpa using hi
    subst e
    refine (Any2.slices_Insert_int_end_grow Try.laysNm221 none 0 0 vb 0 1 1 [] [.int .i64 x] w (by omega) (by omega) (by omega) (by omega) rfl rfl (fun _ => rfl) (fun a ha => by cases ha) hvs hv1).mono ?_
    rintro e w' ⟨rfl, rfl⟩
    refine ⟨_, _, rfl, NumsIn.of_cells (by simp) fun j hj => ?_, ((Below.refl _ w).drew).alloc hB _, fun a ha => by cases ha; exact hB⟩
    rw [hlt] at hj
    have e : j = 0 := by simp at hj; omega
    subst e
    refine (World.cell?_alloc_mark w.drew _ 3 (0, 0) 0).trans ?_
    rw [Array.getElem?_append_left (by simp)]
    rfl
  · simp only [Value.slice.injEq, true_and] at e
    obtain ⟨rfl, rfl⟩ := e
    have hgv : vb ≠ g := fun e => hne _ rfl e.symm
    have hgl := lt_of_block hg
    have hcc : ∀ j, w.cell? ⟨g, j, none⟩ = cur[j]? := fun j => blk_cell hg j
    have hsome : ∀ j, j < cap → (w.cell? ⟨g, j, none⟩).isSome = true := fun j hj => by
      rw [hcc, Array.getElem?_eq_getElem (by omega)]
      rfl
    have hat : ∀ j, j < l.length → w.cell? ⟨g, j, none⟩ = some (.int .i64 (l.getD j 0)) := fun j hj => by
      rw [h.cellAt j (by omega), ints_at, if_pos hj]
    have hcs0 : ∀ j v, (ints l)[j]? = some v → w.cell? ⟨g, 0 + j, none⟩ = some v := fun j v hj => by
      rw [Nat.zero_add]
      have hjl : j < l.length := by
        have := (List.getElem?_eq_some_iff.1 hj).1
        simpa using this
      rw [hat j hjl]
      rw [ints_at, if_pos hjl] at hj
      exact hj
    have hdr : ∀ k, (hk : k < ((ints l).drop i).length) → ((ints l).drop i)[k] = .int .i64 (l.getD (i + k) 0) := fun k hk => by
      have h1 : ((ints l).drop i)[k]? = some (.int .i64 (l.getD (i + k) 0)) := by
        rw [List.getElem?_drop, ints_at, if_pos (by simp at hk; omega)]
      exact (List.getElem?_eq_some_iff.1 h1).2
    have hdl : ((ints l).drop i).length = l.length - i := by simp
    have hm : maxLen ≤ 9223372036854775807 := by decide
    by_cases hin : i < l.length
    · by_cases hroom : l.length + 1 ≤ cap
      · refine (Any2.slices_Insert_int_shift Try.laysNm221 g 0 l.length cap i vb 0 1 1 (ints l) [.int .i64 x] w hin (by omega) hroom (by omega) hgv hcl rfl hcs0 (fun j hj => by rw [Nat.zero_add]; exact hsome j (by omega)) (fun j hj => blk_free hg _) hvs (ints_one l) hv1 3 3 1 cap (by simp [World.shape?, hv]) (by simp [World.shape?, hg, hcs]) (by omega) (blk_free hv _) (blk_free hv _)).mono ?_
        rintro e w' ⟨rfl, rfl⟩
        simp only [Nat.zero_add]
        have hB2 : Below B w ((w.drew.setCells g (i + 1) ((ints l).drop i)).setCells g i [.int .i64 x]) := below_cells hb _ _ _ _ (below_cells hb _ _ _ _ (Below.refl _ w).drew)
        have hs1 : ∀ j, j < cap → ((w.drew.setCells g (i + 1) ((ints l).drop i)).cell? ⟨g, j, none⟩).isSome = true := fun j hj => by
          by_cases hc : i + 1 ≤ j ∧ j < i + 1 + ((ints l).drop i).length
          · have := World.cell?_setCells_in g ((ints l).drop i) (i + 1) w.drew (fun k hk => hsome _ (by omega)) (j - (i + 1)) (by omega)
            rw [show i + 1 + (j - (i + 1)) = j by omega] at this
            rw [this]
            rfl
          · rw [World.cell?_setCells_out g _ _ _ _ (fun _ _ => by show j < i + 1 ∨ i + 1 + _ ≤ j; omega)]
            exact hsome j hj
        refine ⟨_, _, rfl, NumsIn.of_cells (Nat.lt_of_lt_of_le hgl hB2.size) fun j hj => ?_, hB2, fun a ha => by cases ha; first | exact hb | exact hB⟩
        rw [hlt] at hj
        rw [insAt_at l i x hi]
        by_cases h1 : j < i
        · rw [if_pos h1, World.cell?_setCells_out g _ _ _ _ (fun _ _ => by left; exact h1), World.cell?_setCells_out g _ _ _ _ (fun _ _ => by left; show j < i + 1; omega)]
          exact hat j (by omega)
        · rw [if_neg h1]
          by_cases h2 : j = i
          · subst h2
            rw [if_pos rfl]
            exact World.cell?_setCells_in g [.int .i64 x] j _ (fun k hk => hs1 _ (by simp at hk; omega)) 0 (by simp)
          · rw [if_neg h2, World.cell?_setCells_out g _ _ _ _ (fun _ _ => by right; show i + 1 ≤ j; omega)]
            have := World.cell?_setCells_in g ((ints l).drop i) (i + 1) w.drew (fun k hk => hsome _ (by omega)) (j - (i + 1)) (by omega)
            rw [show i + 1 + (j - (i + 1)) = j by omega, hdr _ (by omega), show i + (j - (i + 1)) = j - 1 by omega] at this
            exact this
      · refine (Any2.slices_Insert_int_grow Try.laysNm221 g 0 l.length cap i vb 0 1 1 (ints l) [.int .i64 x] w hin (by omega) hnc (by omega) (by omega) hcl rfl hcs0 hvs (ints_one l) hv1).mono ?_
        rintro e w' ⟨rfl, rfl⟩
        generalize grownCap w (l.length + 1) cap (Try.laysNm221_ren.t 3) = G
        obtain ⟨ROW, hROW⟩ : ∃ ROW : Array Value, ROW = ((ints l).take i).toArray ++ Builtin.zeroCells (Value.int .i64 0).cells (l.length + 1 - i) ++ Builtin.zeroCells (Value.int .i64 0).cells (G - (l.length + 1)) := ⟨_, rfl⟩
        have hRl : l.length + 1 ≤ ROW.size := by
          rw [hROW]
          simp [Builtin.zeroCells, Value.cells]
          omega
        have hRa : ∀ j, j < i → ROW[j]? = some (.int .i64 (l.getD j 0)) := fun j hj => by
          rw [hROW, Array.append_assoc, Array.getElem?_append_left (by simp; omega)]
          simp only [List.getElem?_toArray]
          rw [List.getElem?_take, if_pos hj, ints_at, if_pos (by omega)]
        rw [← hROW]
        obtain ⟨W1, hW1⟩ : ∃ W1 : World, W1 = (w.alloc (.cells ROW 3)).drew := ⟨_, rfl⟩
        have hc1 : ∀ j, W1.cell? ⟨w.heap.size, j, none⟩ = ROW[j]? := fun j => by
          rw [hW1]
          exact World.cell?_alloc_mark w ROW 3 (0, 0) j
        have hb1 : Below B w W1 := by
          rw [hW1]
          exact ((Below.refl _ w).alloc hB _).drew
        have hz1 : w.heap.size < W1.heap.size := by rw [hW1]; simp
        have he : (w.alloc (.cells ROW (Try.laysNm221_ren.t 3))).drew = W1 := hW1.symm
        rw [he]
        clear hROW hW1 he
        have hsm : ∀ j, j < l.length + 1 → (W1.cell? ⟨w.heap.size, j, none⟩).isSome = true := fun j hj => by
          rw [hc1, Array.getElem?_eq_getElem (by omega)]
          rfl
        have hB2 : Below B w ((W1.setCells w.heap.size i [.int .i64 x]).drew.setCells w.heap.size (i + 1) ((ints l).drop i)) := below_cells hB _ _ _ _ (below_cells hB _ _ _ _ hb1).drew
        have hz2 : w.heap.size < ((W1.setCells w.heap.size i [.int .i64 x]).drew.setCells w.heap.size (i + 1) ((ints l).drop i)).heap.size := by
          have h1 := (below_cells (Nat.le_refl w.heap.size) ((ints l).drop i) (i + 1) W1 _ (below_cells (Nat.le_refl w.heap.size) [.int .i64 x] i W1 _ (Below.refl _ W1)).drew).size
          omega
        have hs2 : ∀ j, j < l.length + 1 → ((W1.setCells w.heap.size i [.int .i64 x]).drew.cell? ⟨w.heap.size, j, none⟩).isSome = true := fun j hj => by
          show ((W1.setCells w.heap.size i [.int .i64 x]).cell? ⟨w.heap.size, j, none⟩).isSome = true
          by_cases hc : j = i
          · subst hc
            have := World.cell?_setCells_in w.heap.size [.int .i64 x] j W1 (fun k hk => hsm _ (by simp at hk; omega)) 0 (by simp)
            rw [Nat.add_zero] at this
            rw [this]
            rfl
          · rw [World.cell?_setCells_out _ _ _ _ _ (fun _ _ => by show j < i ∨ i + 1 ≤ j; omega)]
            exact hsm j hj
        refine ⟨_, _, rfl, NumsIn.of_cells hz2 fun j hj => ?_, hB2, fun a ha => by cases ha; first | exact hb | exact hB⟩
        rw [hlt] at hj
        rw [insAt_at l i x hi]
        by_cases h3 : i + 1 ≤ j
        · rw [if_neg (by omega), if_neg (by omega)]
          have := World.cell?_setCells_in w.heap.size ((ints l).drop i) (i + 1) (W1.setCells w.heap.size i [.int .i64 x]).drew (fun k hk => hs2 _ (by omega)) (j - (i + 1)) (by omega)
          rw [show i + 1 + (j - (i + 1)) = j by omega, hdr _ (by omega), show i + (j - (i + 1)) = j - 1 by omega] at this
          exact this
        · rw [World.cell?_setCells_out _ _ _ _ _ (fun _ _ => by left; show j < i + 1; omega)]
          show (W1.setCells w.heap.size i [.int .i64 x]).cell? ⟨w.heap.size, j, none⟩ = _
          by_cases h2 : j = i
          · subst h2
            rw [if_neg (by omega), if_pos rfl]
            exact World.cell?_setCells_in w.heap.size [.int .i64 x] j W1 (fun k hk => hsm _ (by simp at hk; omega)) 0 (by simp)
          · rw [if_pos (by omega), World.cell?_setCells_out _ _ _ _ _ (fun _ _ => by left; show j < i; omega), hc1]
            exact hRa j (by omega)
    · have e : i = l.length := by omega
      subst e
      have htk : ∀ j, j < l.length + 1 → (ints l ++ [Value.int .i64 x])[j]? = some (.int .i64 ((insAt l l.length x).getD j 0)) := fun j hj => by
        rw [insAt_at l _ x (Nat.le_refl _)]
        by_cases h1 : j < l.length
        · rw [if_pos h1, List.getElem?_append_left (by simp; omega), ints_at, if_pos h1]
        · have e : j = l.length := by omega
          subst e
          rw [if_neg h1, if_pos rfl, List.getElem?_append_right (by simp)]
          simp
      by_cases hroom : l.length + 1 ≤ cap
      · refine (Any2.slices_Insert_int_end_room Try.laysNm221 g 0 l.length cap vb 0 1 1 [.int .i64 x] w (by omega) hroom (by omega) rfl (fun j hj => by simp only [Nat.zero_add]; exact hsome _ (by omega)) (fun j hj => blk_free hg _) hvs hv1).mono ?_
        rintro e w' ⟨rfl, rfl⟩
        simp only [Nat.zero_add]
        have hB2 : Below B w (w.setCells g l.length [.int .i64 x]) := below_cells hb _ _ _ _ (Below.refl _ w)
        refine ⟨_, _, rfl, NumsIn.of_cells (Nat.lt_of_lt_of_le hgl hB2.size) fun j hj => ?_, hB2, fun a ha => by cases ha; first | exact hb | exact hB⟩
        rw [hlt] at hj
        rw [insAt_at l _ x hi]
        by_cases h1 : j < l.length
        · rw [if_pos h1, World.cell?_setCells_out g _ _ _ _ (fun _ _ => by left; exact h1)]
          exact hat j h1
        · have e : j = l.length := by omega
          subst e
          rw [if_neg h1, if_pos rfl]
          exact World.cell?_setCells_in g [.int .i64 x] l.length _ (fun k hk => hsome _ (by simp at hk; omega)) 0 (by simp)
      · refine (Any2.slices_Insert_int_end_grow Try.laysNm221 (some ⟨g, 0, none⟩) l.length cap vb 0 1 1 (ints l) [.int .i64 x] w (by omega) hnc (by omega) (by omega) hcl rfl (fun e => by cases e) (fun a ha j v hj => by cases ha; rw [Addr.add_lit]; exact hcs0 j v hj) hvs hv1).mono ?_
        rintro e w' ⟨rfl, rfl⟩
        refine ⟨_, _, rfl, NumsIn.of_cells (by simp) fun j hj => ?_, ((Below.refl _ w).drew).alloc hB _, fun a ha => by cases ha; exact hB⟩
        rw [hlt] at hj
        refine (World.cell?_alloc_mark w.drew _ 3 (0, 0) j).trans ?_
        rw [Array.getElem?_append_left (by simp; omega)]
        simp only [List.getElem?_toArray]
        exact htk j hj

end Go.Proofs.Ytfnemldjhfcalaa
