/-
  The iterator over all messages of a net: what it hands on, in which order.
-/
import Derived.Test.YtdggjbaapnkcgaaNtD
import Derived.RangeFuncNested
import Derived.RangeFuncBound
import Derived.RangeFuncCalls
import Derived.RangeFuncLeaves
import Derived.Shelf.Abstract
import Derived.Shelf.RegionOpen
import Derived.OwnWalkIn
import Derived.TacticsInMore
import Derived.LoopNIn
import Derived.LoopIn
namespace Go.Proofs.Ytdggjbaapnkcgaa
open Go Go.RowKit Go.Shelf
attribute [local go_sem] Oper.semAt_some

/-- All messages, network by network. -/
def allOf (l : Nat → List Msg) : List Msg := l 0 ++ (l 1 ++ l 2)
/-- Those ahead of a network. -/
def ahead (l : Nat → List Msg) (k : Nat) : List Msg := if k = 0 then [] else if k = 1 then l 0 else if k = 2 then l 0 ++ l 1 else allOf l
theorem ahead_succ (l : Nat → List Msg) (k : Nat) (hk : k < 3) : ahead l (k + 1) = ahead l k ++ l k := by
  rcases (show k = 0 ∨ k = 1 ∨ k = 2 by omega) with rfl | rfl | rfl <;> simp [ahead, allOf]
theorem ahead_pre (l : Nat → List Msg) (k : Nat) (hk : k < 3) : ahead l k ++ l k <+: allOf l := by
  rcases (show k = 0 ∨ k = 1 ∨ k = 2 by omega) with rfl | rfl | rfl
  · exact ⟨l 1 ++ l 2, by simp [ahead, allOf]⟩
  · exact ⟨l 2, by simp [ahead, allOf]⟩
  · exact ⟨[], by simp [ahead, allOf]⟩
theorem abides_below {β : Type} {B : Nat} {J : β → World → Prop} (h : AbidesFrom B J) {s : β} {W W' : World} (hs : J s W) (hb : Below W.heap.size W W') : J s W' :=
  h s W W' none hs ⟨hb.os, hb.tape, hb.output, hb.size, fun k hk _ => hb.block k hk⟩ (fun r e => by cases e)

variable {w : World} {B n : Nat} {c : Cfg} {b : Nat → Nat} {l : Nat → List Msg} {v : Nat → Value}

theorem all_any (p : Option Addr) (w : World) :
    Calls Try.prog 35 #[.pointer p] w fun e w' => e = .returned (.func (.func 48) #[] #[.pointer (some ⟨w.heap.size, 0, none⟩)]) ∧ w' = w.alloc (.cells #[.pointer p] 27) := by
  have hmf : ∀ (fn : Fn) (first cap : Array Value) (w : World), (Instr.makeFunc fn first cap).run Try.prog w = .ok (.func fn first cap) w := fun _ _ _ _ => rfl
  go_enter Try.func35, Try.ntmps35
  go_wp2
  go_ret
  exact ⟨rfl, rfl⟩

set_option maxRecDepth 100000 in
set_option maxHeartbeats 4000000 in
theorem all1_in (m : Nat) (hm : 1 ≤ m) (lp Bn n₀ : Nat) (J Jx : List Msg → World → Prop) {W0 : Nat} (hJ : AbidesFrom W0 J) (hJx : AbidesFrom W0 Jx)
    (hY : ∀ pre x W, J pre W → pre.length < 1000 → YieldAt Fence.wide (m - 1) Try.prog lp #[mv x] W fun e W' =>
      (e = .returned (.bool true) ∧ J (pre ++ [x]) W' ∧ Below n₀ W W') ∨ (e = .returned (.bool false) ∧ Jx (pre ++ [x]) W'))
    (W : World) (hBn : W.cell? ⟨Bn, 0, none⟩ = some (.pointer (some ⟨n, 0, none⟩))) (hN : NetP W B n c b l v) (hF : ∀ q, Foot n b v q → q < n₀) (hn0 : n₀ ≤ W.heap.size) (h0 : J [] W) :
    CallsIn Fence.wide m Try.prog 48 #[.func (.yield lp) #[] #[], .pointer (some ⟨Bn, 0, none⟩)] W fun e W' => (∃ v, e = .returned v) ∧
      ((∃ ys, ys = allOf l ∧ J ys W') ∨ (∃ pre, pre <+: allOf l ∧ Jx pre W')) := by
  have cN := fun i => blk_cell hN.blk i
  refine callsIn_of_wp Try.func48 rfl trivial ?_ rfl
  simp only [Try.ntmps48, List.size_toArray, List.length_cons, List.length_nil, Nat.reduceAdd, Nat.reduceSub, Array.replicate_succ, Array.replicate_zero, List.push_toArray, List.append_toArray, List.nil_append, List.cons_append]
  gi_wp2
  have H0 := Lib.hid (show NetP W B n c b l v ∧ n₀ ≤ W.heap.size from ⟨hN, hn0⟩)
  have HJ := Lib.hid hJ
  have HJx := Lib.hid hJx
  have HY := Lib.hid hY
  have HF := Lib.hid hF
  have HL := Lib.hid (fun k hk => hN.len64 k hk)
  have h0' := Lib.hid h0
  clear hN hn0 hJ hJx hY hF h0 hBn cN
  gi_loopw [12] (fun t wr => ∃ k : Nat, k ≤ 3 ∧ t = .int .i64 k ∧ J (ahead l k) wr ∧ NetP wr B n c b l v ∧ n₀ ≤ wr.heap.size) (fun t _ => 3 - (intOf t).toNat)
  case atStart => exact ⟨0, by omega, rfl, h0'.out, H0.out⟩
  case round =>
    obtain ⟨k, hk, rfl, hj, hn, hs⟩ := hrel
    have HJ1 := Lib.hid hj
    have HN := Lib.hid hn
    clear hj hn h0' H0
    by_cases hlt : k < 3
    · have hidx : ∀ w, (Instr.index 57 (.agg #[.pointer (some ⟨b 0, 0, none⟩), .pointer (some ⟨b 1, 0, none⟩), .pointer (some ⟨b 2, 0, none⟩)]) (.int .i64 k)).run Try.prog w = .ok (.pointer (some ⟨b k, 0, none⟩)) w := fun w => by
        rcases (show k = 0 ∨ k = 1 ∨ k = 2 by omega) with rfl | rfl | rfl <;> rfl
      obtain ⟨L, hL⟩ : ∃ L, L = l k := ⟨_, rfl⟩
      have hLl : L.length ≤ 64 := by rw [hL]; exact HL.out k hlt
      have HLE := Lib.hid hL
      have HA := Lib.hid (show (ahead l k).length ≤ 200 by
        have h0 := HL.out 0 (by omega); have h1 := HL.out 1 (by omega); have h2 := HL.out 2 (by omega)
        unfold ahead allOf
        repeat' split
        all_goals simp
        all_goals omega)
      clear hL
      gi_wp2
      rw [show decide ((k : Int) < 3) = true by simp; omega]
      gi_loopw [5] (fun t wr => ∃ i : Nat, i ≤ L.length ∧ t = .int .i64 i ∧ J (ahead l k ++ L.take i) wr ∧ NetP wr B n c b l v ∧ n₀ ≤ wr.heap.size) (fun t _ => L.length - (intOf t).toNat)
      case atStart => exact ⟨0, Nat.zero_le _, rfl, by simpa using HJ1.out, HN.out, hs⟩
      case round =>
        obtain ⟨i, hi, rfl, hj, hn, hs⟩ := hrel
        have HJ2 := Lib.hid hj
        have HN2 := Lib.hid hn
        clear hj hn HJ1 HN
        by_cases hil : i < L.length
        · obtain ⟨x, hx⟩ : ∃ x, L[i]? = some x := ⟨_, List.getElem?_eq_getElem hil⟩
          have HX := Lib.hid hx
          have HB := Lib.hid (atM_yes (HN2.out.bag k hlt) i x (by rw [← HLE.out]; omega) (by rw [← HLE.out]; exact hx))
          clear hx
          gi_wp2_with (refine ⟨trivial, ?_⟩; gi_at_call 28; refine (callsIn_wide.2 HB.out).mono ?_; rintro e w2 ⟨rfl, hb2⟩; obtain ⟨fn, tmps, assign, body, hy, hR⟩ := HY.out _ x _ (abides_below HJ.out HJ2.out (bstep hb2 ((Below.refl _ w2).alloc (Nat.le_refl _) (.cells (mcells x) 37)))) (by have := HA.out; simp; omega))
          have hb3 := bstep hb2 ((Below.refl _ w2).alloc (Nat.le_refl _) (.cells (mcells x) 37))
          have HN3 := Lib.hid (HN2.out.below hb3)
          have hs3 := hb3.size
          clear hb2 hb3
          refine hR.mono ?_
          rintro e W3 (⟨rfl, hJ3, hk3⟩ | ⟨rfl, hJx3⟩)
          · have HN4 := Lib.hid (show NetP W3 B n c b l v from HN3.out.keep fun q hq => hk3.block q (HF.out q hq))
            have hs4 := hk3.size
            have HJ4 := Lib.hid hJ3
            clear hJ3 hk3 hy hR
            gi_wp2
            go_roundw
            case rel => exact ⟨i + 1, by omega, by go_num, by rw [List.take_add_one, HX.out, ← List.append_assoc]; exact HJ4.out, HN4.out, by omega⟩
            case measure => simp [intOf]; omega
          · clear hy hR
            gi_wp2
            refine bodyPost_ret (results_none rfl _ _ _) rfl ?_
            refine ⟨⟨_, rfl⟩, .inr ⟨_, ?_, hJx3⟩⟩
            refine List.IsPrefix.trans ?_ (ahead_pre l k hlt)
            rw [List.append_assoc]
            refine (List.prefix_append_right_inj _).2 ?_
            rw [← HLE.out]
            refine ⟨L.drop (i + 1), ?_⟩
            have e := List.take_append_drop (i + 1) L
            rw [List.take_add_one, HX.out] at e
            exact e
        · obtain rfl : i = L.length := by omega
          have HB := Lib.hid (atM_no (HN2.out.bag k hlt) L.length (by rw [← HLE.out]; omega) (by rw [← HLE.out]; omega))
          clear hil
          gi_wp2_with (refine ⟨trivial, ?_⟩; gi_at_call 28; refine (callsIn_wide.2 HB.out).mono ?_; rintro e w2 ⟨rfl, hb2⟩)
          have hb3 := bstep hb2 ((Below.refl _ w2).alloc (Nat.le_refl _) (.cells (mcells m0) 37))
          have HN3 := Lib.hid (HN2.out.below hb3)
          have HJ3 := Lib.hid (abides_below HJ.out HJ2.out hb3)
          have hs3 := hb3.size
          clear hb2 hb3
          go_roundw
          case rel => exact ⟨k + 1, by omega, by go_num, by rw [ahead_succ l k hlt, ← HLE.out]; simpa using HJ3.out, HN3.out, Nat.le_trans hs hs3⟩
          case measure => simp [intOf]; omega
    · obtain rfl : k = 3 := by omega
      clear hlt
      gi_wp2
      go_end0
      exact ⟨⟨_, rfl⟩, .inl ⟨_, rfl, HJ1.out⟩⟩

end Go.Proofs.Ytdggjbaapnkcgaa
