/-
  What the functions do that lay an operation's text behind another one: appendNumber, appendBoth, appendOp: one contract each.
-/
import Derived.Test.YtjnbpohjdgnknaaDoorPgC
import Derived.Test.YtjnbpohjdgnknaaDoorPgS
import Derived.Lib.AppendIntMem
import Derived.Lib.ItoaLen
import Derived.Deep.RegionHeld3
import Derived.Deep.AppendLies
import Derived.Deep.DrawnRows
import Derived.OwnWalk
namespace Go.Proofs.YtjnbpohjdgnknaaDoor
open Go Go.RowKit
attribute [local go_sem ↓] Go.wp_at_zero Go.wp_at_succ

/-- The table of powers of ten stands, whatever is done from a block on. -/
def Pow (B : Nat) (w : World) : Prop := Lib.TabBelow Tryd.prog B w "internal/strconv.uint64pow10" .u64 Lib.pow10Tab
theorem Pow.on {B : Nat} {w w1 : World} (h : Pow B w) (hb : Below B w w1) : Pow B w1 := Lib.TabBelow.on h hb

/-- A slice of bytes of the call's own that holds this text. -/
def Txt (w : World) (B : Nat) (v : Value) (bs : List UInt8) : Prop := w.ownsRow B 5 1 v bs.length (Lib.byteCells bs)
/-- What a call gives that lays a text behind another one. -/
def GaveT (B : Nat) (bs : List UInt8) (w : World) (e : Ending) (w' : World) : Prop := ∃ v', e = .returned v' ∧ Txt w' B v' bs ∧ Below B w w' ∧ Lib.OthersKept 5 none w w'

theorem byteCells_app (a b : List UInt8) : Lib.byteCells (a ++ b) = Lib.byteCells a ++ Lib.byteCells b := by simp [Lib.byteCells]

theorem appendNumber_any (B : Nat) (sv : Value) (bs : List UInt8) (i : Int) (w : World) (hown : Txt w B sv bs) (hB : B ≤ w.heap.size) (hl : bs.length ≤ 100000) (h0 : -9223372036854775808 ≤ i) (h1 : i ≤ 9223372036854775807) (hT : Pow B w) :
    Calls Tryd.prog 61 #[sv, .int .i64 i] w (GaveT B (bs ++ Lib.itoa i) w) := by
  have H := Lib.hid (Tryd.strconv_AppendInt_10 B bs.length i h0 h1 sv (Lib.byteCells bs) w hown hB (by omega) hT)
  clear hown hT
  go_enter Tryd.func61, Tryd.ntmps61
  go_wp2_with (go_at_call 68; refine H.out.mono ?_; rintro e w1 ⟨v1, rfl, hown1, hb1, hk1⟩)
  go_ret
  refine ⟨_, rfl, ?_, hb1, hk1⟩
  unfold Txt
  rw [byteCells_app, List.length_append]
  exact hown1

/-- What a call gives that lays a text behind another one, and leaves every other block as it was. -/
def GaveG (B : Nat) (sv : Value) (bs : List UInt8) (w : World) (e : Ending) (w' : World) : Prop := ∃ v', e = .returned v' ∧ Txt w' B v' bs ∧ w.grownBy w' sv.ownBlock
theorem appendNat_any (B : Nat) (sv : Value) (bs : List UInt8) (i : Int) (w : World) (hown : Txt w B sv bs) (hB : B ≤ w.heap.size) (hl : bs.length ≤ 100000) (h0 : 0 ≤ i) (h1 : i ≤ 9223372036854775807) (hT : Pow B w) :
    Calls Tryd.prog 61 #[sv, .int .i64 i] w (GaveG B sv (bs ++ Lib.itoa i) w) := by
  obtain ⟨u, rfl⟩ : ∃ u : Nat, i = u := ⟨i.toNat, by omega⟩
  have H := Lib.hid (appendNat_lib B bs.length u sv (Lib.byteCells bs) w (by omega) hown hB hl hT.here)
  clear hown hT
  go_enter Tryd.func61, Tryd.ntmps61
  go_wp2_with (go_at_call 68; refine H.out.mono ?_; rintro e w1 ⟨v1, rfl, hown1, hg1⟩)
  go_ret
  refine ⟨_, rfl, ?_, hg1⟩
  unfold Txt
  rw [byteCells_app, List.length_append, itoa_pos (by omega)]
  exact hown1

/-- A block that holds an operation. -/
def Box (w : World) (H : Nat) (x : Op) : Prop := w.heap[H]? = some (.cells #[.int .i64 x.k, .int .i64 x.a, .int .i64 x.v] 52 (0, 0))
theorem Box.cell {w : World} {H : Nat} {x : Op} (h : Box w H x) (i : Nat) : w.cell? ⟨H, i, none⟩ = (#[.int .i64 x.k, .int .i64 x.a, .int .i64 x.v] : Array Value)[i]? := by simp [World.cell?, show w.heap[H]? = _ from h]
theorem Box.new (w : World) (x : Op) : Box (w.alloc (.cells #[.int .i64 x.k, .int .i64 x.a, .int .i64 x.v] 52)) w.heap.size x := heap_alloc_new w _
theorem Box.lt {w : World} {H : Nat} {x : Op} (h : Box w H x) : H < w.heap.size := (Array.getElem?_eq_some_iff.1 h).1
theorem Box.alloc {w : World} {H : Nat} {x : Op} (h : Box w H x) (o : Obj) : Box (w.alloc o) H x := (Below.heap_alloc _ _ _ h.lt).trans h
theorem Box.drew {w : World} {H : Nat} {x : Op} (h : Box w H x) : Box w.drew H x := h
theorem Box.kept {w w' : World} {H : Nat} {x : Op} (h : Box w H x) (hk : Lib.OthersKept 5 none w w') : Box w' H x := hk H _ h (by simp) (fun c fz e => by injection e with _ e _; exact absurd e (by decide))
/-- Behind an append to a row of bytes. -/
theorem txt_kept {w w' : World} {B : Nat} {v : Value} {bs : List UInt8} (h : Txt w B v bs) (hg : w.grownBy w' v.ownBlock) : Lib.OthersKept 5 none w w' := by
  refine (Lib.OthersKept.refl _ _ w).grown hg (fun g hgb => ?_)
  rcases h.2 with ⟨rfl, _⟩ | ⟨g', cap, cur, rfl, _, hh, _⟩
  · simp [Value.ownBlock] at hgb
  · simp [Value.ownBlock] at hgb
    subst hgb
    exact ⟨_, _, hh⟩

theorem Txt.alloc {w : World} {B : Nat} {v : Value} {bs : List UInt8} (h : Txt w B v bs) (o : Obj) : Txt (w.alloc o) B v bs := World.ownsRow.alloc h o
theorem Txt.more {w : World} {B : Nat} {v : Value} {bs : List UInt8} {c : UInt8} {n : Int} (hn : n = c.toNat) (h : w.ownsRow B 5 1 v (bs.length + 1) (Lib.byteCells bs ++ [.int .u8 n])) : Txt w B v (bs ++ [c]) := by
  unfold Txt
  rw [byteCells_app, List.length_append]
  subst hn
  exact h
theorem grown_below {w w' : World} {B : Nat} {v : Value} {bs : List UInt8} (h : Txt w B v bs) (hB : B ≤ w.heap.size) (hg : w.grownBy w' v.ownBlock) : Below B w w' := (Below.refl _ _).grown hg hB (fun k hk => (h.lt k hk).1)

/-- The same block in both worlds. -/
theorem same_cell {w w' : World} {k : Nat} {o : Obj} (h : w.heap[k]? = some o) (hg : w'.heap[k]? = w.heap[k]?) : w'.heap[k]? = some o := hg.trans h

/-- A block that holds one byte. -/
def Byte (w : World) (H : Nat) (c : Int) : Prop := w.heap[H]? = some (.cells #[.int .u8 c] 5 (0, 0))
theorem Byte.new (w : World) (c : Int) : Byte (w.alloc (.cells #[.int .u8 c] 5)) w.heap.size c := heap_alloc_new w _
theorem Byte.lt {w : World} {H : Nat} {c : Int} (h : Byte w H c) : H < w.heap.size := (Array.getElem?_eq_some_iff.1 h).1

theorem Box.c0 {w : World} {H : Nat} {x : Op} (h : Box w H x) : w.cell? ⟨H, 0, none⟩ = some (.int .i64 x.k) := h.cell 0
theorem Box.c1 {w : World} {H : Nat} {x : Op} (h : Box w H x) : w.cell? ⟨H, 1, none⟩ = some (.int .i64 x.a) := h.cell 1
theorem Box.c2 {w : World} {H : Nat} {x : Op} (h : Box w H x) : w.cell? ⟨H, 2, none⟩ = some (.int .i64 x.v) := h.cell 2

/-- What stands at each step of laying a text: the operation's box; nothing below has changed, and nothing but rows of bytes. -/
structure Lay (B H : Nat) (x : Op) (w w' : World) : Prop where
  box : Box w' H x
  below : Below B w w'
  kept : Lib.OthersKept 5 none w w'
  pow : Pow B w'
theorem Lay.size {B H : Nat} {x : Op} {w w' : World} (h : Lay B H x w w') (hB : B ≤ w.heap.size) : B ≤ w'.heap.size := Nat.le_trans hB h.below.size
theorem Lay.alloc {B H : Nat} {x : Op} {w w' : World} (h : Lay B H x w w') (hB : B ≤ w.heap.size) (o : Obj) : Lay B H x w (w'.alloc o) :=
  ⟨h.box.alloc o, h.below.alloc (h.size hB) o, h.kept.alloc o, h.pow.on ((Below.refl _ _).alloc (h.size hB) o)⟩
theorem Lay.drew {B H : Nat} {x : Op} {w w' : World} (h : Lay B H x w w') : Lay B H x w w'.drew := ⟨h.box, h.below.drew, h.kept.drew, h.pow.on (Below.refl _ _).drew⟩
theorem Lay.grown {B H : Nat} {x : Op} {w w1 w2 : World} {v : Value} {bs : List UInt8} (h : Lay B H x w w1) (hB : B ≤ w.heap.size) (ht : Txt w1 B v bs) (hg : w1.grownBy w2 v.ownBlock) : Lay B H x w w2 :=
  ⟨h.box.kept (txt_kept ht hg), h.below.trans (grown_below ht (h.size hB) hg), h.kept.trans (txt_kept ht hg), h.pow.on (grown_below ht (h.size hB) hg)⟩
theorem Lay.call {B H : Nat} {x : Op} {w w1 w2 : World} (h : Lay B H x w w1) (hb : Below B w1 w2) (hk : Lib.OthersKept 5 none w1 w2) : Lay B H x w w2 :=
  ⟨h.box.kept hk, h.below.trans hb, h.kept.trans hk, h.pow.on hb⟩
theorem Lay.new {B : Nat} {x : Op} {w : World} (hB : B ≤ w.heap.size) (hT : Pow B w) : Lay B w.heap.size x w (w.alloc (.cells #[.int .i64 x.k, .int .i64 x.a, .int .i64 x.v] 52)) :=
  ⟨Box.new w x, (Below.refl _ _).alloc hB _, (Lib.OthersKept.refl _ _ _).alloc _, hT.on ((Below.refl _ _).alloc hB _)⟩
theorem Txt.drew {w : World} {B : Nat} {v : Value} {bs : List UInt8} (h : Txt w B v bs) : Txt w.drew B v bs := h
/-- A byte's block is no row of the text: it was made behind it. -/
theorem byte_after {w w1 : World} {B : Nat} {c : Int} {v : Value} {bs : List UInt8} {o : Obj} (ht : Txt w B v bs) (hg : ((w.alloc o).alloc (.cells #[.int .u8 c] 5)).drew.grownBy w1 v.ownBlock) : Byte w1 (w.heap.size + 1) c := by
  have h : Byte ((w.alloc o).alloc (.cells #[.int .u8 c] 5)) (w.heap.size + 1) c := by
    have := Byte.new (w.alloc o) c
    simpa using this
  exact (hg.block (w.heap.size + 1) (by have := h.lt; exact this) (fun e => by have := (ht.lt _ e.symm).2; omega)).trans h

set_option maxRecDepth 100000 in
set_option maxHeartbeats 4000000 in
theorem appendBoth_any (B : Nat) (sv : Value) (bs : List UInt8) (x : Op) (w : World) (hown : Txt w B sv bs) (hB : B ≤ w.heap.size) (hl : bs.length ≤ 90000) (hm : mayB x = true) (hT : Pow B w) :
    Calls Tryd.prog 62 #[sv, ov x] w (GaveT B (bs ++ (Lib.itoa x.a ++ 61 :: Lib.itoa x.v)) w) := by
  obtain ⟨i0, hi0, hz0, hz1, hz2⟩ := info_parts Tryd.infoByte
  obtain ⟨m0, m1, m2, m3, -⟩ := may_iff.1 hm
  have la := itoa_len4 m0 m1
  have L0 := Lib.hid (Lay.new (x := x) hB hT)
  have T := Lib.hid hown
  have T0 := Lib.hid (hown.alloc (.cells #[.int .i64 x.k, .int .i64 x.a, .int .i64 x.v] 52))
  have hc1 := L0.out.box.c1
  have hc2 := L0.out.box.c2
  clear hown hT hm
  obtain ⟨k, a, v⟩ := x
  have m0' : 0 ≤ a := m0
  have m1' : a ≤ 8191 := m1
  have m2' : -2147483648 ≤ v := m2
  have m3' : v ≤ 2147483647 := m3
  have la' : (Lib.itoa a).length ≤ 4 := la
  clear m0 m1 m2 m3 la
  go_enter Tryd.func62, Tryd.ntmps62
  go_wp2_with fail
  go_region_held3 (fun w' => w'.cell? ⟨w.heap.size, 1, none⟩ = some (.int .i64 a) ∧ w'.cell? ⟨w.heap.size, 2, none⟩ = some (.int .i64 v))
    (first | exact ⟨L3.out.box.c1, L3.out.box.c2⟩ | exact ⟨L2.out.box.c1, L2.out.box.c2⟩ | exact ⟨L1.out.box.c1, L1.out.box.c2⟩ | exact ⟨(L1.out.box.alloc _).c1, (L1.out.box.alloc _).c2⟩ | exact ⟨(L0.out.box.alloc _).c1, (L0.out.box.alloc _).c2⟩ | go_keep)
    (first
      | (go_at_call 61; refine (appendNat_any B sv bs a _ (by first | exact T0.out | exact T0.out.alloc _) (by simp; omega) (by omega) m0' (by omega) (by first | exact L0.out.drew.pow | exact (L0.out.alloc hB _).drew.pow)).mono ?_; rintro e w1 ⟨v1, rfl, T1, g1⟩; obtain ⟨b1, hb1⟩ : ∃ b1, b1 = bs ++ Lib.itoa a := ⟨_, rfl⟩; rw [← hb1] at T1; have lb1 : b1.length ≤ 90004 := (by rw [hb1, List.length_append]; omega); have HB1 := Lib.hid hb1; clear hb1; have L1 := (by first | exact Lib.hid (L0.out.drew.grown hB T0.out g1) | exact Lib.hid ((L0.out.alloc hB _).drew.grown hB (T0.out.alloc _) g1)); try (have Y1 := Lib.hid (byte_after T.out g1)))
      | (refine step_append_lies _ (by rfl) _ _ _ (by rfl) B 5 i0 _ 1 1 Tryd.underlying47 hi0 hz0 hz1 hz2 rfl (by omega) v1 b1.length (Lib.byteCells b1) (by rfl) T1 ⟨w.heap.size + 1, 0, none⟩ 1 1 [.int .u8 61] (by rfl) (by rfl) (World.news_of_block (cs := #[.int .u8 61]) (t := 5) (fr := (0, 0)) Y1.out) (by simp [Value.oneCell']) (by omega) (by unfold maxLen; omega) (by omega) (L1.out.size hB) w1.heap.size rfl ?_; intro gg cap w2 hown2 hg2 hat hlt; have L2 := Lib.hid (L1.out.grown hB T1 hg2); have T2 := Lib.hid (Txt.more (c := 61) rfl hown2))
      | (refine step_append_lies _ (by rfl) _ _ _ (by rfl) B 5 i0 _ 1 1 Tryd.underlying47 hi0 hz0 hz1 hz2 rfl (by omega) v1 b1.length (Lib.byteCells b1) (by rfl) (T1.alloc _) ⟨w1.heap.size, 0, none⟩ 1 1 [.int .u8 61] (by rfl) (by rfl) (World.news_of_block (cs := #[.int .u8 61]) (t := 5) (fr := (0, 0)) (Byte.new w1 61)) (by simp [Value.oneCell']) (by omega) (by unfold maxLen; omega) (by omega) ((L1.out.alloc hB _).size hB) (w1.heap.size + 1) (by simp) ?_; intro gg cap w2 hown2 hg2 hat hlt; have L2 := Lib.hid ((L1.out.alloc hB _).grown hB (T1.alloc _) hg2); have T2 := Lib.hid (Txt.more (c := 61) rfl hown2))
      | (go_at_call 61; refine (appendNumber_any B _ _ v _ T2.out (L2.out.size hB) (by simp; omega) (by omega) (by omega) L2.out.pow).mono ?_; rintro e w3 ⟨v3, rfl, T3, b3, k3⟩; have L3 := Lib.hid (L2.out.call b3 k3)))
  all_goals
    go_wp2
    go_ret
    refine ⟨_, rfl, ?_, L3.out.below, L3.out.kept⟩
    rw [HB1.out] at T3
    simpa using T3

theorem byte_new2 (w : World) (o : Obj) (c : Int) : ((w.alloc o).alloc (.cells #[.int .u8 c] 5)).drew.heap[w.heap.size + 1]? = some (.cells #[.int .u8 c] 5 (0, 0)) := by
  have h : Byte ((w.alloc o).alloc (.cells #[.int .u8 c] 5)) (w.heap.size + 1) c := by
    have := Byte.new (w.alloc o) c
    simpa using this
  exact h

set_option maxRecDepth 100000 in
set_option maxHeartbeats 4000000 in
theorem appendOp_1 (B : Nat) (sv : Value) (bs : List UInt8) (x : Op) (w : World) (hown : Txt w B sv bs) (hB : B ≤ w.heap.size) (hl : bs.length ≤ 80000) (hm : mayB x = true) (hT : Pow B w) (hk : (x.k == 1) = true) :
    Calls Tryd.prog 56 #[sv, ov x] w (GaveT B (bs ++ 76 :: Lib.itoa x.a) w) := by
  obtain ⟨i0, hi0, hz0, hz1, hz2⟩ := info_parts Tryd.infoByte
  obtain ⟨m0, m1, m2, m3, -⟩ := may_iff.1 hm
  have HM := Lib.hid hm
  have L0 := Lib.hid (Lay.new (x := x) hB hT)
  have T0 := Lib.hid (hown.alloc (.cells #[.int .i64 x.k, .int .i64 x.a, .int .i64 x.v] 52))
  have hc0 := L0.out.box.c0
  have hc1 := L0.out.box.c1
  have hc2 := L0.out.box.c2
  clear hown hT hm
  go_enter Tryd.func56, Tryd.ntmps56
  go_wp2_with fail
  go_region_held3 (fun w' => w'.cell? ⟨w.heap.size, 1, none⟩ = some (.int .i64 x.a))
    (first | exact L2.out.box.c1 | exact L1.out.box.c1 | exact (L0.out.box.alloc _).c1 | go_keep)
    (first
      | (refine step_append_lies _ (by rfl) _ _ _ (by rfl) B 5 i0 _ 1 1 Tryd.underlying47 hi0 hz0 hz1 hz2 rfl (by omega) sv bs.length (Lib.byteCells bs) (by rfl) (T0.out.alloc _) ⟨w.heap.size + 1, 0, none⟩ 1 1 [.int .u8 76] (by rfl) (by rfl) (World.news_of_block (cs := #[.int .u8 76]) (t := 5) (fr := (0, 0)) (byte_new2 w _ 76)) (by simp [Value.oneCell']) (by omega) (by unfold maxLen; omega) (by omega) (by simp; omega) (w.heap.size + 2) (by simp) ?_; intro gg cap w1 hown1 hg1 hat hlt; have L1 := Lib.hid ((L0.out.alloc hB _).drew.grown hB (T0.out.alloc _).drew hg1); have T1 := Lib.hid (Txt.more (c := 76) rfl hown1))
      | (go_at_call 61; refine (appendNumber_any B _ _ x.a _ T1.out (L1.out.size hB) (by simp; omega) (by omega) (by omega) L1.out.pow).mono ?_; rintro e w2 ⟨v2, rfl, T2, b2, k2⟩; have L2 := Lib.hid (L1.out.call b2 k2)))
  all_goals
    go_wp2
    go_ret
    refine ⟨_, rfl, ?_, L2.out.below, L2.out.kept⟩
    simpa using T2

set_option maxRecDepth 100000 in
set_option maxHeartbeats 4000000 in
theorem appendOp_2 (B : Nat) (sv : Value) (bs : List UInt8) (x : Op) (w : World) (hown : Txt w B sv bs) (hB : B ≤ w.heap.size) (hl : bs.length ≤ 80000) (hm : mayB x = true) (hT : Pow B w) (h1 : (x.k == 1) = false) (hk : (x.k == 2) = true) :
    Calls Tryd.prog 56 #[sv, ov x] w (GaveT B (bs ++ 83 :: (Lib.itoa x.a ++ 61 :: Lib.itoa x.v)) w) := by
  obtain ⟨i0, hi0, hz0, hz1, hz2⟩ := info_parts Tryd.infoByte
  obtain ⟨m0, m1, m2, m3, -⟩ := may_iff.1 hm
  have HM := Lib.hid hm
  have L0 := Lib.hid (Lay.new (x := x) hB hT)
  have T0 := Lib.hid (hown.alloc (.cells #[.int .i64 x.k, .int .i64 x.a, .int .i64 x.v] 52))
  have hc0 := L0.out.box.c0
  have hc1 := L0.out.box.c1
  have hc2 := L0.out.box.c2
  clear hown hT hm
  go_enter Tryd.func56, Tryd.ntmps56
  go_wp2_with fail
  go_region_held3 (fun w' => w'.cell? ⟨w.heap.size, 0, none⟩ = some (.int .i64 x.k) ∧ w'.cell? ⟨w.heap.size, 1, none⟩ = some (.int .i64 x.a) ∧ w'.cell? ⟨w.heap.size, 2, none⟩ = some (.int .i64 x.v))
    (first | exact ⟨L2.out.box.c0, L2.out.box.c1, L2.out.box.c2⟩ | exact ⟨L1.out.box.c0, L1.out.box.c1, L1.out.box.c2⟩ | exact ⟨(L0.out.box.alloc _).c0, (L0.out.box.alloc _).c1, (L0.out.box.alloc _).c2⟩ | go_keep)
    (first
      | (refine step_append_lies _ (by rfl) _ _ _ (by rfl) B 5 i0 _ 1 1 Tryd.underlying47 hi0 hz0 hz1 hz2 rfl (by omega) sv bs.length (Lib.byteCells bs) (by rfl) (T0.out.alloc _) ⟨w.heap.size + 1, 0, none⟩ 1 1 [.int .u8 83] (by rfl) (by rfl) (World.news_of_block (cs := #[.int .u8 83]) (t := 5) (fr := (0, 0)) (byte_new2 w _ 83)) (by simp [Value.oneCell']) (by omega) (by unfold maxLen; omega) (by omega) (by simp; omega) (w.heap.size + 2) (by simp) ?_; intro gg cap w1 hown1 hg1 hat hlt; have L1 := Lib.hid ((L0.out.alloc hB _).drew.grown hB (T0.out.alloc _).drew hg1); have T1 := Lib.hid (Txt.more (c := 83) rfl hown1))
      | (go_at_call 62; refine (appendBoth_any B _ _ x _ T1.out (L1.out.size hB) (by simp; omega) HM.out L1.out.pow).mono ?_; rintro e w2 ⟨v2, rfl, T2, b2, k2⟩; have L2 := Lib.hid (L1.out.call b2 k2)))
  all_goals
    go_wp2
    go_ret
    refine ⟨_, rfl, ?_, L2.out.below, L2.out.kept⟩
    simpa using T2

set_option maxRecDepth 100000 in
set_option maxHeartbeats 4000000 in
theorem appendOp_3 (B : Nat) (sv : Value) (bs : List UInt8) (x : Op) (w : World) (hown : Txt w B sv bs) (hB : B ≤ w.heap.size) (hl : bs.length ≤ 80000) (hm : mayB x = true) (hT : Pow B w) (h1 : (x.k == 1) = false) (h2 : (x.k == 2) = false) (hk : (x.k == 3) = true) :
    Calls Tryd.prog 56 #[sv, ov x] w (GaveT B (bs ++ 88 :: (Lib.itoa x.a ++ 61 :: Lib.itoa x.v)) w) := by
  obtain ⟨i0, hi0, hz0, hz1, hz2⟩ := info_parts Tryd.infoByte
  obtain ⟨m0, m1, m2, m3, -⟩ := may_iff.1 hm
  have HM := Lib.hid hm
  have L0 := Lib.hid (Lay.new (x := x) hB hT)
  have T0 := Lib.hid (hown.alloc (.cells #[.int .i64 x.k, .int .i64 x.a, .int .i64 x.v] 52))
  have hc0 := L0.out.box.c0
  have hc1 := L0.out.box.c1
  have hc2 := L0.out.box.c2
  clear hown hT hm
  go_enter Tryd.func56, Tryd.ntmps56
  go_wp2_with fail
  go_region_held3 (fun w' => w'.cell? ⟨w.heap.size, 0, none⟩ = some (.int .i64 x.k) ∧ w'.cell? ⟨w.heap.size, 1, none⟩ = some (.int .i64 x.a) ∧ w'.cell? ⟨w.heap.size, 2, none⟩ = some (.int .i64 x.v))
    (first | exact ⟨L2.out.box.c0, L2.out.box.c1, L2.out.box.c2⟩ | exact ⟨L1.out.box.c0, L1.out.box.c1, L1.out.box.c2⟩ | exact ⟨(L0.out.box.alloc _).c0, (L0.out.box.alloc _).c1, (L0.out.box.alloc _).c2⟩ | go_keep)
    (first
      | (refine step_append_lies _ (by rfl) _ _ _ (by rfl) B 5 i0 _ 1 1 Tryd.underlying47 hi0 hz0 hz1 hz2 rfl (by omega) sv bs.length (Lib.byteCells bs) (by rfl) (T0.out.alloc _) ⟨w.heap.size + 1, 0, none⟩ 1 1 [.int .u8 88] (by rfl) (by rfl) (World.news_of_block (cs := #[.int .u8 88]) (t := 5) (fr := (0, 0)) (byte_new2 w _ 88)) (by simp [Value.oneCell']) (by omega) (by unfold maxLen; omega) (by omega) (by simp; omega) (w.heap.size + 2) (by simp) ?_; intro gg cap w1 hown1 hg1 hat hlt; have L1 := Lib.hid ((L0.out.alloc hB _).drew.grown hB (T0.out.alloc _).drew hg1); have T1 := Lib.hid (Txt.more (c := 88) rfl hown1))
      | (go_at_call 62; refine (appendBoth_any B _ _ x _ T1.out (L1.out.size hB) (by simp; omega) HM.out L1.out.pow).mono ?_; rintro e w2 ⟨v2, rfl, T2, b2, k2⟩; have L2 := Lib.hid (L1.out.call b2 k2)))
  all_goals
    go_wp2
    go_ret
    refine ⟨_, rfl, ?_, L2.out.below, L2.out.kept⟩
    simpa using T2

set_option maxRecDepth 100000 in
set_option maxHeartbeats 4000000 in
theorem appendOp_4 (B : Nat) (sv : Value) (bs : List UInt8) (x : Op) (w : World) (hown : Txt w B sv bs) (hB : B ≤ w.heap.size) (hl : bs.length ≤ 80000) (hm : mayB x = true) (hT : Pow B w) (h1 : (x.k == 1) = false) (h2 : (x.k == 2) = false) (h3 : (x.k == 3) = false) :
    Calls Tryd.prog 56 #[sv, ov x] w (GaveT B (bs ++ [70]) w) := by
  obtain ⟨i0, hi0, hz0, hz1, hz2⟩ := info_parts Tryd.infoByte
  obtain ⟨m0, m1, m2, m3, -⟩ := may_iff.1 hm
  have HM := Lib.hid hm
  have L0 := Lib.hid (Lay.new (x := x) hB hT)
  have T0 := Lib.hid (hown.alloc (.cells #[.int .i64 x.k, .int .i64 x.a, .int .i64 x.v] 52))
  have hc0 := L0.out.box.c0
  have hc1 := L0.out.box.c1
  have hc2 := L0.out.box.c2
  clear hown hT hm
  go_enter Tryd.func56, Tryd.ntmps56
  go_wp2_with (at_builtin; refine wpList_append_own _ rfl _ _ 47 rfl B 5 i0 (.int .u8 0) 1 1 Tryd.underlying47 hi0 hz0 hz1 hz2 rfl (by decide) _ _ _ rfl (T0.out.alloc _) ⟨w.heap.size + 1, 0, none⟩ 1 1 [Value.int .u8 70] rfl rfl (World.news_of_block (cs := #[.int .u8 70]) (t := 5) (fr := (0, 0)) (byte_new2 w _ 70)) (by simp [Value.oneCell']) (by unfold maxLen; omega) (by omega) (by simp; omega) ?_)
  intro v1 w1 hown1 hg1 _
  have L1 := Lib.hid ((L0.out.alloc hB _).grown hB (T0.out.alloc _) hg1)
  have T1 := Lib.hid (Txt.more (c := 70) rfl hown1)
  clear hown1 hg1
  go_wp2
  go_ret
  exact ⟨_, rfl, T1.out, L1.out.below, L1.out.kept⟩

/-- appendOp: an operation's text behind another one. -/
theorem appendOp_any (B : Nat) (sv : Value) (bs : List UInt8) (x : Op) (w : World) (hown : Txt w B sv bs) (hB : B ≤ w.heap.size) (hl : bs.length ≤ 80000) (hm : mayB x = true) (hT : Pow B w) :
    Calls Tryd.prog 56 #[sv, ov x] w (GaveT B (bs ++ txt x) w) := by
  by_cases h1 : x.k = 1
  · rw [txt_1 h1]; exact appendOp_1 B sv bs x w hown hB hl hm hT (by simpa using h1)
  · by_cases h2 : x.k = 2
    · rw [txt_2 h2]; exact appendOp_2 B sv bs x w hown hB hl hm hT (by simpa using h1) (by simpa using h2)
    · by_cases h3 : x.k = 3
      · rw [txt_3 h3]; exact appendOp_3 B sv bs x w hown hB hl hm hT (by simpa using h1) (by simpa using h2) (by simpa using h3)
      · have e : txt x = [70] := by simp [txt, h1, h2, h3]
        rw [e]; exact appendOp_4 B sv bs x w hown hB hl hm hT (by simpa using h1) (by simpa using h2) (by simpa using h3)

end Go.Proofs.YtjnbpohjdgnknaaDoor
