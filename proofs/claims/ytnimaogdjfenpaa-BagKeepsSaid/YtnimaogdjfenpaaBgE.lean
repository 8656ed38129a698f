/-
  What Find and List of a bag of numbers do.
-/
import Derived.Test.YtnimaogdjfenpaaBgD
import Derived.Defers
import Derived.Recover
import Derived.Lib.SliceRun
namespace Go.Proofs.Ytnimaogdjfenpaa
open Go Go.RowKit

/-- The first place of a number, from a place on; -1 where there is none. -/
def placeFrom (x : Int) : List Int → Nat → Int
  | [], _ => -1
  | y :: l, k => if y = x then k else placeFrom x l (k + 1)
def place (l : List Int) (x : Int) : Int := placeFrom x l 0
theorem place_at (x : Int) (l : List Int) (i : Nat) (k : Nat) (hn : ∀ j, j < i → l.getD j 0 ≠ x) (hi : i < l.length) (hx : l.getD i 0 = x) : placeFrom x l k = ((k + i : Nat) : Int) := by
  induction l generalizing i k with
  | nil => simp at hi
  | cons y l ih =>
    cases i with
    | zero => simp at hx; simp [placeFrom, hx]
    | succ i =>
      have h0 : y ≠ x := by simpa using hn 0 (by omega)
      have := ih i (k + 1) (fun j hj => by simpa using hn (j + 1) (by omega)) (by simpa using hi) (by simpa using hx)
      unfold placeFrom
      rw [if_neg h0, this, show k + 1 + i = k + (i + 1) by omega]
theorem place_no (x : Int) (l : List Int) (k : Nat) (hn : ∀ j, j < l.length → l.getD j 0 ≠ x) : placeFrom x l k = -1 := by
  induction l generalizing k with
  | nil => rfl
  | cons y l ih =>
    have h0 : y ≠ x := by simpa using hn 0 (by simp)
    unfold placeFrom
    rw [if_neg h0]
    exact ih (k + 1) fun j hj => by simpa using hn (j + 1) (by simpa using hj)

/-- Where a slice's numbers lie. -/
def NumsIn (w : World) (p : Option Addr) (l : List Int) : Prop :=
  ∀ j, j < l.length → ∃ g off, p = some ⟨g, off, none⟩ ∧ g < w.heap.size ∧ w.cell? ⟨g, off + j, none⟩ = some (.int .i64 (l.getD j 0))
theorem NumsIn.step {w w' : World} {p : Option Addr} {l : List Int} (h : NumsIn w p l) (hb : Below w.heap.size w w') : NumsIn w' p l := fun j hj => by
  obtain ⟨g, off, e, hg, h0⟩ := h j hj
  exact ⟨g, off, e, Nat.lt_of_lt_of_le hg hb.size, (hb.cell (p := ⟨g, off + j, none⟩) hg).trans h0⟩
theorem own_in {w : World} {B : Nat} {v : Value} {l : List Int} (h : w.ownsRow B 3 1 v l.length (cellsOf one l)) : ∃ p cap, v = .slice p l.length cap ∧ NumsIn w p l := by
  rcases h.2 with ⟨rfl, h0⟩ | ⟨g, cap, cur, rfl, hb, hg, rest⟩
  · exact ⟨none, 0, by rw [h0], fun j hj => by omega⟩
  · refine ⟨_, cap, rfl, fun j hj => ⟨g, 0, rfl, lt_of_block hg, ?_⟩⟩
    rw [Nat.zero_add]
    exact one_at h (by rw [List.getElem?_eq_getElem hj, List.getD_eq_getElem?_getD]; simp [hj])

theorem idle_any (p : Addr) (w : World) :
    CallsD Try.prog 31 #[.pointer (some p)] .returning w fun e u' w' => e = .returned (.tuple #[]) ∧ u' = .returning ∧ w' = w := by
  refine callsD_of_wpS Try.func31 rfl fun c₀ cs hu => ?_
  apply wpS_seq
  apply wpS_region
  simp [wpOpsS, go_sem, recoverD, hu, Try.ntmps31, Exit.thenS]
  refine wpS_cond (t := false) (by simp [Act.eval, Array.replicate]) ?_
  simp only [Bool.false_eq_true, if_false]
  refine wpS_of_wp (wp_skip ?_)
  cases c₀
  simp_all [bodyPostS, results, Try.results31]

set_option maxHeartbeats 1000000 in
theorem firstOf_any (p : Option Addr) (cap : Nat) (l : List Int) (x : Int) (w : World) (hl : l.length ≤ 5000) (h : NumsIn w p l) :
    Calls Try.prog 26 #[.slice p l.length cap, .int .i64 x] w fun e w' => e = .returned (.int .i64 (place l x)) ∧ Below w.heap.size w w' := by
  have hmf : ∀ (fn : Fn) (first cap : Array Value) (w : World), (Instr.makeFunc fn first cap).run Try.prog w = .ok (.func fn first cap) w := fun _ _ _ _ => rfl
  have H := Lib.hid h
  clear h
  go_enter_defers Try.func26, Try.ntmps26
  go_wp2
  go_loop [10] (fun i => ∃ k : Nat, k ≤ l.length ∧ i = .int .i64 k ∧ ∀ j, j < k → l.getD j 0 ≠ x) (fun i => l.length - (intOf i).toNat)
  case atStart => exact ⟨0, Nat.zero_le _, rfl, fun j hj => by omega⟩
  case round =>
    obtain ⟨k, hk, rfl, hno⟩ := hrel
    have HN := Lib.hid hno
    clear hno
    by_cases hlt : k < l.length
    · obtain ⟨g, off, rfl, hg, hc⟩ := H.out k hlt
      obtain ⟨y, hy⟩ : ∃ y, y = l.getD k 0 := ⟨_, rfl⟩
      rw [← hy] at hc
      have HY := Lib.hid hy
      clear hy
      have hne : g ≠ w.heap.size := by omega
      by_cases he : y = x
      · have he' : (y == x) = true := by simpa using he
        have HE := Lib.hid he
        clear he
        go_wp2
        refine leaves_cons (f := 31) (args := #[.pointer (some ⟨w.heap.size, 0, none⟩)]) (by simp) (by simp [go_sem]) ?_
        refine (idle_any ⟨w.heap.size, 0, none⟩ _).mono ?_
        rintro e u' w'' ⟨rfl, rfl, rfl⟩
        simp only [Leaves, settle]
        refine ⟨_, by simp [results, Try.results26, go_sem]; rfl, ret_int ?_, ?_⟩
        · have := place_at x l k 0 HN.out hlt (HY.out ▸ HE.out)
          unfold place
          rw [this]
          simp
        · exact (Below.refl _ w).alloc (Nat.le_refl _) _
      · have he' : (y == x) = false := by simpa using he
        have HE := Lib.hid he
        clear he
        go_wp2
        go_round
        case rel => exact ⟨k + 1, by omega, by go_num, fun j hj => by rcases Nat.lt_or_ge j k with h | h; exact HN.out j h; (rw [show j = k by omega, ← HY.out]; exact HE.out)⟩
        case measure => simp [intOf]; omega
    · go_wp2
      refine leaves_cons (f := 31) (args := #[.pointer (some ⟨w.heap.size, 0, none⟩)]) (by simp) (by simp [go_sem]) ?_
      refine (idle_any ⟨w.heap.size, 0, none⟩ _).mono ?_
      rintro e u' w'' ⟨rfl, rfl, rfl⟩
      simp only [Leaves, settle]
      refine ⟨_, by simp [results, Try.results26, go_sem]; rfl, ret_int ?_, ?_⟩
      · exact (place_no x l 0 fun j hj => HN.out j (by omega)).symm
      · exact (Below.refl _ w).alloc (Nat.le_refl _) _

/-- Find. -/
theorem findI_any {w : World} {B b : Nat} {room : Int} {l : List Int} {v : Value} (h : BgI w B b room l v) (x : Int) (hl : l.length ≤ 5000) :
    Calls Try.prog 14 #[.pointer (some ⟨b, 0, none⟩), .int .i64 x] w fun e w' => e = .returned (.int .i64 (place l x)) ∧ Below w.heap.size w w' := by
  obtain ⟨p, cap, rfl, hin⟩ := own_in h.row
  have c1 := blk_cell h.blk 1
  simp at c1
  have HI := Lib.hid hin
  clear h hin
  go_enter Try.func14, Try.ntmps14
  go_wp2_with (go_at_call 26; refine (firstOf_any p cap l x _ hl HI.out).mono ?_; rintro e w1 ⟨rfl, hb⟩)
  go_ret
  exact ⟨rfl, hb⟩

/-- What a call gives that makes a row of its own. -/
def RowGave {α : Type} (e : TypeId) (sz : Nat) (f : α → List Value) (l : List α) (w : World) (x : Ending) (w' : World) : Prop := ∃ v, x = .returned v ∧ w'.ownsRow w.heap.size e sz v l.length (cellsOf f l) ∧ Below w.heap.size w w'

/-- Clone. -/
theorem cloneI_any {w : World} {B : Nat} {v : Value} {l : List Int} (h : w.ownsRow B 3 1 v l.length (cellsOf one l)) (hl : l.length ≤ 5000) :
    Calls Try.prog 27 #[v] w (RowGave 3 1 one l w) := by
  obtain ⟨i0, hi0, hz0, hz1, hz2⟩ := info_parts A3
  have hq := fun (w : World) (a : Option Addr) (n c n' c' : Nat) => Lib.run_eql_slice_nil (P := Try.prog) w 38 3 a n c n' c' Try.underlying38
  rcases h.2 with ⟨rfl, h0⟩ | ⟨g, cap, cur, rfl, hb, hg, rest⟩
  · have e : l = [] := List.eq_nil_of_length_eq_zero h0
    subst e
    clear h h0 hl
    go_enter Try.func27, Try.ntmps27
    go_wp2
    go_ret
    exact ⟨_, rfl, World.ownsRow_nil _ _ _ _, Below.refl _ _⟩
  · have hcell := h.cells (g := g) rfl
    have HC := Lib.hid hcell
    have HL := Lib.hid (cellsOf_len one_len l)
    have H1 : Hid (∀ u ∈ cellsOf one l, u.oneCell' = true) := Lib.hid (fun u hu => by rw [cellsOf_one] at hu; obtain ⟨x, _, rfl⟩ := List.mem_map.1 hu; rfl)
    clear h hcell hg rest
    go_enter Try.func27, Try.ntmps27
    go_wp2_with (at_builtin; refine wpList_append_own _ rfl (.tmp 5) (.tmp 6) 38 rfl w.heap.size 3 i0 (.int .i64 0) 1 8 Try.underlying38 hi0 hz0 hz1 hz2 rfl (by decide) _ _ _ rfl (World.ownsRow_made w #[] 0 (Nat.le_refl _) (Nat.zero_le _) rfl) ⟨g, 0, none⟩ l.length cap (cellsOf one l) rfl HL.out ?c1 H1.out ?c3 ?c4 ?c5 ?_)
    case c1 => exact fun j u hj => (Lib.cell?_alloc_some _ (HC.out j u hj))
    case c3 => simp only [maxLen]; omega
    case c4 => omega
    case c5 => simp
    intro v' w1 hown hgrow hnil
    go_wp2
    go_ret
    exact ⟨v', rfl, by simpa using hown, ((Below.refl _ w).alloc (Nat.le_refl _) _).grown hgrow (by simp) (by intro k hk; simp [Value.ownBlock] at hk; omega)⟩

/-- List. -/
theorem listI_any {w : World} {B b : Nat} {room : Int} {l : List Int} {v : Value} (h : BgI w B b room l v) (hl : l.length ≤ 5000) :
    Calls Try.prog 17 #[.pointer (some ⟨b, 0, none⟩)] w (RowGave 3 1 one l w) := by
  have HC := Lib.hid (cloneI_any h.row hl)
  have c1 := blk_cell h.blk 1
  simp at c1
  clear h
  go_enter Try.func17, Try.ntmps17
  go_wp2_with (go_at_call 27; refine HC.out.mono ?_; rintro e w1 ⟨v', rfl, hown, hb⟩)
  go_ret
  exact ⟨v', rfl, hown, hb⟩

end Go.Proofs.Ytnimaogdjfenpaa
