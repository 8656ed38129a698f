/-
  Bytes that a call lays behind others; what appendWord does.
-/
import Derived.Test.YtjbodkmjhnlhiaaMsN
import Derived.Test.YtjbodkmjhnlhiaaShapeA
import Derived.Lib.AppendStr
import Derived.Lib.Walk
import Derived.Laws.OwnMore
import Derived.OwnWalk
import Derived.Deep.AppendLies
import Derived.BigCall
namespace Go.Proofs.Ytjbodkmjhnlhiaa
open Go Go.RowKit

theorem infoByte : (Try.prog.info? 5).map (fun i => (i.zero, i.size, i.bytes)) = some (some (.int .u8 0), 1, 1) := by kernel_rfl
/-- A slice of bytes of the call's own that holds these. -/
def Txt (w : World) (B : Nat) (v : Value) (bs : List UInt8) : Prop := w.ownsRow B 5 1 v bs.length (Lib.byteCells bs)
theorem byteCells_app (a b : List UInt8) : Lib.byteCells (a ++ b) = Lib.byteCells a ++ Lib.byteCells b := by simp [Lib.byteCells]
theorem own_lt {w : World} {base e sz n : Nat} {v : Value} {xs : List Value} (h : w.ownsRow base e sz v n xs) : ∀ g, v.ownBlock = some g → base ≤ g ∧ g < w.heap.size := by
  intro g hg
  rcases h.2 with ⟨rfl, _⟩ | ⟨g', cap, cur, rfl, hb, hh, _⟩
  · simp [Value.ownBlock] at hg
  · simp [Value.ownBlock] at hg
    subst hg
    exact ⟨hb, (Array.getElem?_eq_some_iff.1 hh).1⟩
theorem below_own {w w' : World} {base e sz n : Nat} {v : Value} {xs : List Value} (h : w.ownsRow base e sz v n xs) (hb : base ≤ w.heap.size) (hg : w.grownBy w' v.ownBlock) : Below base w w' :=
  (Below.refl base w).grown hg hb (fun k hk => (own_lt h k hk).1)
theorem Txt.alloc {w : World} {B : Nat} {v : Value} {bs : List UInt8} (h : Txt w B v bs) (o : Obj) : Txt (w.alloc o) B v bs := World.ownsRow.alloc h o
theorem Txt.plus {w : World} {B n : Nat} {v : Value} {bs cs : List UInt8} (hn : n = bs.length + cs.length) (h : w.ownsRow B 5 1 v n (Lib.byteCells bs ++ Lib.byteCells cs)) : Txt w B v (bs ++ cs) := by
  unfold Txt
  rw [byteCells_app, List.length_append, ← hn]
  exact h
theorem txt_grown {w w' : World} {B : Nat} {v : Value} {bs : List UInt8} (h : Txt w B v bs) (hB : B ≤ w.heap.size) (hg : w.grownBy w' v.ownBlock) : Below B w w' := below_own h hB hg
theorem u8_to {n : Int} (h0 : 0 ≤ n) (h1 : n ≤ 255) : ((u8' n).toNat : Int) = n := n8_u8' h0 h1
theorem w4_cells {n : Int} (h0 : -2147483648 ≤ n) (h1 : n ≤ 2147483647) : Lib.byteCells (w4 n) = [.int .u8 (unsig n / 16777216), .int .u8 (unsig n / 65536 % 256), .int .u8 (unsig n / 256 % 256), .int .u8 (unsig n % 256)] := by
  have hu := unsig_in h0 h1
  simp only [Lib.byteCells, w4, List.map_cons, List.map_nil]
  rw [u8_to (by omega) (by omega), u8_to (by omega) (by omega), u8_to (by omega) (by omega), u8_to (by omega) (by omega)]
theorem wrap_u32 {n : Int} (h0 : -2147483648 ≤ n) (h1 : n ≤ 2147483647) : IntKind.u32.wrap n = unsig n := by
  unfold unsig
  simp [IntKind.wrap, IntKind.bits, IntKind.signed]
  split <;> omega
/-- What a call gives that lays bytes behind others. -/
def GaveB (B : Nat) (bs : List UInt8) (w : World) (e : Ending) (w' : World) : Prop := ∃ v', e = .returned v' ∧ Txt w' B v' bs ∧ Below B w w'

set_option maxRecDepth 100000 in
set_option maxHeartbeats 2000000 in
theorem word_append (B : Nat) (v : Value) (bs : List UInt8) (n : Int) (w : World) (hown : Txt w B v bs) (hB : B ≤ w.heap.size) (hl : bs.length ≤ 100) (h0 : -2147483648 ≤ n) (h1 : n ≤ 2147483647) :
    Calls Try.prog 26 #[v, .int .i64 n] w (GaveB B (bs ++ w4 n) w) := by
  obtain ⟨i0, hi0, hz0, hz1, hz2⟩ := info_parts infoByte
  have hu := unsig_in h0 h1
  have hu0 := hu.1
  have hu1 := hu.2
  have hw := wrap_u32 h0 h1
  have HC := Lib.hid (w4_cells h0 h1)
  have T0 := Lib.hid (hown.alloc (.cells #[.int .u8 (unsig n / 16777216), .int .u8 (unsig n / 65536 % 256), .int .u8 (unsig n / 256 % 256), .int .u8 (unsig n % 256)] 5))
  clear hown hu
  go_enter Try.func26, Try.ntmps26
  go_wp2_with (at_builtin; refine wpList_append_own _ rfl _ _ 40 rfl B 5 i0 (.int .u8 0) 1 1 Try.underlying40 hi0 hz0 hz1 hz2 rfl (by decide) _ _ _ rfl T0.out ⟨w.heap.size, 0, none⟩ 4 4 [.int .u8 (unsig n / 16777216), .int .u8 (unsig n / 65536 % 256), .int .u8 (unsig n / 256 % 256), .int .u8 (unsig n % 256)] rfl rfl (World.news_of_block (cs := #[.int .u8 (unsig n / 16777216), .int .u8 (unsig n / 65536 % 256), .int .u8 (unsig n / 256 % 256), .int .u8 (unsig n % 256)]) (t := 5) (fr := (0, 0)) (heap_alloc_new w _)) (by simp [Value.oneCell']) (by unfold maxLen; omega) (by omega) (by simp; omega) ?_)
  intro v1 w1 hown1 hg1 _
  have hb := (((Below.refl B w).alloc hB _)).trans (txt_grown T0.out (by simp; omega) hg1)
  have T1 : Hid (Txt w1 B v1 (bs ++ w4 n)) := Lib.hid (Txt.plus (n := bs.length + 4) (by rw [w4_len]) (by rw [HC.out]; exact hown1))
  clear hown1 hg1
  go_wp2
  go_ret
  exact ⟨_, rfl, T1.out, hb⟩

end Go.Proofs.Ytjbodkmjhnlhiaa
