/-
  Lists of numbers that a call makes: the program's lines of a home (having, Lines), the document's (Lines), and whether two lists are the same (Same).
-/
import Derived.Test.YtpknfbgnclgpmaaGreatDoorLayBase
import Derived.Laws.AppendOwn
namespace Go.Proofs.YtpknfbgnclgpmaaGreatDoor
open Go Go.RowKit

/-- A slice value that holds just these numbers, and lies below a block's number; nil, if there are none, or a block's beginning. -/
def Row (w : World) (B : Nat) (v : Value) (xs : List Int) : Prop :=
  (v = .slice none 0 0 ∧ xs = []) ∨ ∃ g cap, v = .slice (some ⟨g, 0, none⟩) xs.length cap ∧ g < B ∧ ∀ j, j < xs.length → w.cell? ⟨g, j, none⟩ = some (.int .i64 (xs.getD j 0))
theorem Row.below {w w' : World} {B : Nat} {v : Value} {xs : List Int} (h : Row w B v xs) (hb : Below B w w') : Row w' B v xs := by
  rcases h with h | ⟨g, cap, e, hg, hc⟩
  · exact .inl h
  · exact .inr ⟨g, cap, e, hg, fun j hj => (hb.cell (p := ⟨g, j, none⟩) hg).trans (hc j hj)⟩
theorem Row.more {w : World} {B B' : Nat} {v : Value} {xs : List Int} (h : Row w B v xs) (hB : B ≤ B') : Row w B' v xs := by
  rcases h with h | ⟨g, cap, e, hg, hc⟩
  · exact .inl h
  · exact .inr ⟨g, cap, e, by omega, hc⟩
theorem Row.step {w w' : World} {v : Value} {xs : List Int} (h : Row w w.heap.size v xs) (hb : Below w.heap.size w w') : Row w' w'.heap.size v xs := (h.below hb).more hb.size

/-- What a call gives that makes a list, and changes nothing that was there. -/
def RetRow (w : World) (xs : List Int) (e : Ending) (w' : World) : Prop := ∃ v, e = .returned v ∧ Row w' w'.heap.size v xs ∧ Below w.heap.size w w'

abbrev ints (xs : List Int) : List Value := xs.map (Value.int .i64)

theorem row_of_own {w : World} {base : Nat} {v : Value} {xs : List Int} (h : w.ownsRow base 3 1 v xs.length (ints xs)) : Row w w.heap.size v xs := by
  rcases h.2 with ⟨rfl, hn⟩ | ⟨g, cap, cur, rfl, _, hg, _, _, _, ht⟩
  · exact .inl ⟨rfl, List.eq_nil_of_length_eq_zero hn⟩
  · refine .inr ⟨g, cap, rfl, (Array.getElem?_eq_some_iff.1 hg).1, fun j hj => ?_⟩
    have e : cur[j]? = some (.int .i64 (xs.getD j 0)) := by
      have : (cur.toList.take (xs.length * 1))[j]? = (ints xs)[j]? := by rw [ht]
      rw [List.getElem?_take_of_lt (by omega)] at this
      rw [← Array.getElem?_toList, this]
      simp [ints, List.getElem?_eq_getElem hj]
    simp only [World.cell?, hg]
    simpa using e

/-- Of the first k numbers those that have a rest by a size. -/
def lnsK (s h : Int) (k : Nat) : List Int := ((List.range k).map fun j : Nat => (j : Int)).filter fun j => j % s == h
theorem lnsK_hit (s h : Int) (k : Nat) (e : ((k : Int) % s == h) = true) : lnsK s h (k + 1) = lnsK s h k ++ [(k : Int)] := by
  simp [lnsK, List.range_succ, List.filter_append, e]
theorem lnsK_miss (s h : Int) (k : Nat) (e : ((k : Int) % s == h) = false) : lnsK s h (k + 1) = lnsK s h k := by
  simp [lnsK, List.range_succ, List.filter_append, e]
theorem lnsK_le (s h : Int) (k : Nat) : (lnsK s h k).length ≤ k := by
  unfold lnsK
  refine Nat.le_trans (List.length_filter_le _ _) ?_
  simp
/-- A home's lines. -/
def lns (c : Cfg) (h : Int) : List Int := if okC c = true then lnsK c.ho h c.li.toNat else []

theorem Tryz.infoInt : (Tryz.prog.info? 3).map (fun i => (i.zero, i.size, i.bytes)) = some (some (.int .i64 0), 1, 8) := by kernel_rfl

theorem rel_hit {w wr w1 w2 : World} {k : Nat} {s h : Int} {v v' : Value} {o : Obj} {base : Nat} (hbase : w.heap.size ≤ base) (e : ((k : Int) % s == h) = true)
    (hown : wr.ownsRow base 3 1 v (lnsK s h k).length (ints (lnsK s h k))) (hb : Below w.heap.size w wr) (hb1 : Below wr.heap.size wr w1)
    (hown' : w2.ownsRow base 3 1 v' ((lnsK s h k).length + 1) (ints (lnsK s h k) ++ [.int .i64 k])) (hgrow : (w1.alloc o).grownBy w2 v.ownBlock) :
    w2.ownsRow base 3 1 v' (lnsK s h (k + 1)).length (ints (lnsK s h (k + 1))) ∧ Below w.heap.size w w2 ∧ (∀ b, b < base → b < wr.heap.size → ∀ j, w2.cell? ⟨b, j, none⟩ = wr.cell? ⟨b, j, none⟩) := by
  have hs := hb.size
  have hs1 := hb1.size
  refine ⟨by rw [lnsK_hit s h k e]; simpa using hown', ((bstep hb hb1).alloc (by omega) o).grown hgrow (by simp; omega) (fun j hj => by have := (hown.lt j hj).1; omega), fun b hbb hbw j => ?_⟩
  have h1 : w2.heap[b]? = (w1.alloc o).heap[b]? := hgrow.block b (by simp; omega) (fun e => by have := (hown.lt b e.symm).1; omega)
  have h2 : w2.cell? ⟨b, j, none⟩ = (w1.alloc o).cell? ⟨b, j, none⟩ := World.cell?_of_block (a := ⟨b, j, none⟩) h1
  rw [h2, World.cell?_alloc_past _ _ _ (by omega)]
  exact hb1.cell (p := ⟨b, j, none⟩) hbw

set_option maxHeartbeats 1000000 in
theorem having_any (n : Nat) (s h : Int) (w : World) (hn : n ≤ 1024) (hs : isPow s = true) :
    Calls Tryz.prog 109 #[.int .i64 n, fBelow s, .int .i64 h] w (RetRow w (lnsK s h n)) := by
  obtain ⟨i0, hi, hz0, hz1, hz2⟩ := info_parts Tryz.infoInt
  have HS := Lib.hid hs
  clear hs
  go_enter Tryz.func109, Tryz.ntmps109
  go_wp2
  go_loopw [7, 10] (fun v i wr => ∃ k : Nat, k ≤ n ∧ i = .int .i64 k ∧ wr.ownsRow w.heap.size 3 1 v (lnsK s h k).length (ints (lnsK s h k)) ∧ Below w.heap.size w wr) (fun _ i _ => n - (intOf i).toNat)
  case atStart => exact ⟨0, Nat.zero_le _, rfl, World.ownsRow_nil _ _ _ _, Below.refl _ _⟩
  case round =>
    obtain ⟨k, hk, rfl, hown, hb⟩ := hrel
    have hle := lnsK_le s h k
    by_cases hlt : k < n
    · rcases Bool.eq_false_or_eq_true ((k : Int) % s == h) with he | he
      · go_wp2_with (first
          | (go_at_call 131; refine (below_any _ _ _ HS.out (by omega) (by omega)).mono ?_; rintro e w1 ⟨rfl, hb1⟩)
          | (at_builtin; refine wpList_append_own _ rfl _ _ 61 rfl w.heap.size 3 i0 (.int .i64 0) 1 8 Tryz.underlying61 hi hz0 hz1 hz2 rfl (by decide) _ _ _ rfl ((own_below hown hb1).alloc _) ⟨w1.heap.size, 0, none⟩ 1 1 [.int .i64 k] rfl rfl ?c1 ?c2 ?c3 ?c4 ?c5 ?_))
        case c1 =>
          intro j u hj
          match j, hj with
          | 0, hj => simp at hj; subst hj; simp [Addr.add]
        case c2 => intro u hu; simp at hu; subst hu; rfl
        case c3 => unfold maxLen; omega
        case c4 => omega
        case c5 => have := hb.size; have := hb1.size; simp; omega
        intro v' w2 hown' hgrow _
        have R := rel_hit (Nat.le_refl _) he hown hb hb1 hown' hgrow
        clear hown' hgrow hown hb hb1 he
        go_wp2
        go_roundw
        case rel => exact ⟨k + 1, by omega, by go_num, R.1, R.2.1⟩
        case measure => simp [intOf]; omega
      · go_wp2_with (go_at_call 131; refine (below_any _ _ _ HS.out (by omega) (by omega)).mono ?_; rintro e w1 ⟨rfl, hb1⟩)
        have hown1 := own_below hown hb1
        have hbw := bstep hb hb1
        go_roundw
        case rel => exact ⟨k + 1, by omega, by go_num, by rw [lnsK_miss s h k he]; exact hown1, hbw⟩
        case measure => simp [intOf]; omega
    · obtain rfl : k = n := by omega
      go_wp2
      go_ret
      exact ⟨_, rfl, row_of_own hown, hb⟩

end Go.Proofs.YtpknfbgnclgpmaaGreatDoor
