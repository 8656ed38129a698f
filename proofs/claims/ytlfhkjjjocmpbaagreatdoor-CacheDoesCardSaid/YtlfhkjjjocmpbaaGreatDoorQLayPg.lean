import Derived.Lib.ItoaNum
import Derived.Test.YtlfhkjjjocmpbaaGreatDoorLayBase
import Derived.Deep.RegionHeld3
import Derived.Laws.MakeOwn

namespace Go.Proofs.YtlfhkjjjocmpbaaGreatDoor.Pg
open Go

structure Op where
 k : Int
 a : Int
 v : Int

theorem Op.ext' {x y : Op} (h1 : x.k = y.k) (h2 : x.a = y.a) (h3 : x.v = y.v) : x = y := by
 cases x; cases y; simp_all

def mayB (x : Op) : Bool := decide (0 ≤ x.a ∧ x.a ≤ 8191 ∧ -2147483648 ≤ x.v ∧ x.v ≤ 2147483647 ∧ (x.k = 2 ∨ x.k = 3 ∨ (x.k = 1 ∧ x.v = 0) ∨ (x.k = 4 ∧ x.a = 0 ∧ x.v = 0)))

theorem may_iff {x : Op} : mayB x = true ↔ (0 ≤ x.a ∧ x.a ≤ 8191 ∧ -2147483648 ≤ x.v ∧ x.v ≤ 2147483647 ∧ (x.k = 2 ∨ x.k = 3 ∨ (x.k = 1 ∧ x.v = 0) ∨ (x.k = 4 ∧ x.a = 0 ∧ x.v = 0))) := by
 unfold mayB; exact decide_eq_true_iff

def txt (x : Op) : List UInt8 :=
 if x.k = 1 then 76 :: Lib.itoa x.a
 else if x.k = 2 then 83 :: (Lib.itoa x.a ++ 61 :: Lib.itoa x.v)
 else if x.k = 3 then 88 :: (Lib.itoa x.a ++ 61 :: Lib.itoa x.v)
 else [70]

def done (l : List Op) : List UInt8 := l.flatMap fun x => txt x ++ [32]

theorem dec_small {u : Nat} (h : u < 10) : Lib.decDigits u = [UInt8.ofNat (48 + u)] := by rw [Lib.decDigits, dif_pos h]
theorem dec_big {u : Nat} (h : ¬ u < 10) : Lib.decDigits u = Lib.decDigits (u / 10) ++ [UInt8.ofNat (48 + u % 10)] := by rw [Lib.decDigits, dif_neg h]
theorem dec_more {u d : Nat} (hu : u ≠ 0) (hd : d < 10) : Lib.decDigits (10 * u + d) = Lib.decDigits u ++ [UInt8.ofNat (48 + d)] := by
 rw [dec_big (by omega), show (10 * u + d) / 10 = u by omega, show (10 * u + d) % 10 = d by omega]
theorem itoa_pos {n : Int} (h : 0 ≤ n) : Lib.itoa n = Lib.decDigits n.toNat := by unfold Lib.itoa; rw [if_neg (by omega)]
theorem itoa_below {n : Int} (h : n < 0) : Lib.itoa n = 45 :: Lib.decDigits n.natAbs := by unfold Lib.itoa; rw [if_pos h]
theorem toNat_dig {d : Nat} (h : d < 10) : (UInt8.ofNat (48 + d)).toNat = 48 + d := by
 simp [UInt8.toNat_ofNat']; omega
structure Num where
 neg : Bool
 dg : Nat
 sz : Nat

structure St where
 ops : List Op
 op : Op
 pl : Nat
 num : Num
def num0 : Num := ⟨false, 0, 0⟩
def Num.digit (n : Num) (r : Nat) : Option Num :=
 if 48 ≤ r ∧ r ≤ 57 ∧ ¬ (0 < n.dg ∧ n.sz = 0) ∧ 10 * n.sz + (r - 48) ≤ 2147483648 then some ⟨n.neg, n.dg + 1, 10 * n.sz + (r - 48)⟩ else none
def Num.minus (n : Num) : Option Num := if n.neg = false ∧ n.dg = 0 then some ⟨true, n.dg, n.sz⟩ else none
def Num.val (n : Num) : Option Int := if n.dg = 0 ∨ (n.neg = true ∧ n.sz = 0) then none else some (if n.neg = true then -(n.sz : Int) else n.sz)
def kindR (r : Nat) : Int := if r = 76 then 1 else if r = 83 then 2 else if r = 88 then 3 else if r = 70 then 4 else 0
def St.letter (σ : St) (r : Nat) : Option St := if kindR r = 0 then none else some ⟨σ.ops, ⟨kindR r, σ.op.a, σ.op.v⟩, if kindR r = 4 then 3 else 1, σ.num⟩
def St.equals (σ : St) : Option St := if σ.op.k = 1 then none else σ.num.val.map fun n => ⟨σ.ops, ⟨σ.op.k, n, σ.op.v⟩, 2, num0⟩
def St.whole (σ : St) : Option Op :=
 if σ.pl = 1 then (if σ.op.k = 1 then σ.num.val.map fun n => ⟨σ.op.k, n, σ.op.v⟩ else none)
 else if σ.pl = 2 then σ.num.val.map fun n => ⟨σ.op.k, σ.op.a, n⟩
 else if σ.pl = 3 then some σ.op else none
def St.fin (σ : St) : Option St := σ.whole.bind fun x => if mayB x = true then some ⟨σ.ops ++ [x], ⟨0, 0, 0⟩, 0, if σ.pl = 3 then σ.num else num0⟩ else none
def St.put (σ : St) (n : Num) : St := ⟨σ.ops, σ.op, σ.pl, n⟩
def St.take (σ : St) (r : Nat) : Option St :=
 if r = 32 then σ.fin
 else if σ.pl = 0 then σ.letter r
 else if σ.pl = 1 then (if r = 61 then σ.equals else (σ.num.digit r).map σ.put)
 else if σ.pl = 2 then (if r = 45 then σ.num.minus.map σ.put else (σ.num.digit r).map σ.put)
 else none
def NumInv (n : Num) (ds : List UInt8) : Prop := ds = (if n.neg = true then [45] else []) ++ (if n.dg = 0 then [] else Lib.decDigits n.sz) ∧ (n.dg = 0 → n.sz = 0)

def CurInv (σ : St) (cur : List UInt8) : Prop :=
 (σ.pl = 0 ∧ cur = [] ∧ σ.op = ⟨0, 0, 0⟩ ∧ σ.num = num0) ∨
 (σ.pl = 1 ∧ ∃ c ds, cur = c :: ds ∧ ((σ.op.k = 1 ∧ c = 76) ∨ (σ.op.k = 2 ∧ c = 83) ∨ (σ.op.k = 3 ∧ c = 88)) ∧ NumInv σ.num ds ∧ σ.num.neg = false ∧ σ.op.v = 0) ∨
 (σ.pl = 2 ∧ ∃ c ds, cur = c :: (Lib.itoa σ.op.a ++ 61 :: ds) ∧ ((σ.op.k = 2 ∧ c = 83) ∨ (σ.op.k = 3 ∧ c = 88)) ∧ NumInv σ.num ds) ∨
 (σ.pl = 3 ∧ cur = [70] ∧ σ.op = ⟨4, 0, 0⟩ ∧ σ.num = num0)
def Inv (σ : St) (p : List UInt8) : Prop := ∃ cur, p = done σ.ops ++ cur ∧ (∀ x ∈ σ.ops, mayB x = true) ∧ CurInv σ cur

theorem u8_ext {c d : UInt8} (h : c.toNat = d.toNat) : c = d := UInt8.toNat_inj.1 h
theorem NumInv.digit {n m : Num} {ds : List UInt8} {c : UInt8} (h : NumInv n ds) (e : n.digit c.toNat = some m) : NumInv m (ds ++ [c]) ∧ m.neg = n.neg := by
 unfold Num.digit at e
 split at e
 ·rename_i hh
  obtain ⟨h0, h1, h2, h3⟩ := hh
  injection e with e
  subst e
  obtain ⟨rfl, hz⟩ := h
  refine ⟨⟨?_, by simp⟩, rfl⟩
  have hc : c = UInt8.ofNat (48 + (c.toNat - 48)) := u8_ext (by rw [toNat_dig (by omega)]; omega)
  by_cases hd : n.dg = 0
  ·have hs := hz hd
   simp only [hd, hs, if_pos]
   rw [if_neg (show ¬ (0 + 1 = 0) by omega), dec_small (by omega), List.append_nil]
   congr 2
   simpa using hc
  ·have hs : n.sz ≠ 0 := fun e => h2 ⟨by omega, e⟩
   simp only [if_neg hd]
   rw [if_neg (show ¬ (n.dg + 1 = 0) by omega), dec_more hs (by omega), List.append_assoc]
   congr 3
 ·cases e
theorem NumInv.minus {n m : Num} {ds : List UInt8} (h : NumInv n ds) (e : n.minus = some m) : NumInv m (ds ++ [45]) := by
 unfold Num.minus at e
 split at e
 ·rename_i hh
  injection e with e
  subst e
  obtain ⟨rfl, hz⟩ := h
  refine ⟨?_, hz⟩
  simp [hh.1, hh.2]
 ·cases e
theorem NumInv.val {n : Num} {ds : List UInt8} {q : Int} (h : NumInv n ds) (e : n.val = some q) : ds = Lib.itoa q := by
 unfold Num.val at e
 split at e
 ·cases e
 ·rename_i hh
  injection e with e
  obtain ⟨rfl, hz⟩ := h
  have hd : n.dg ≠ 0 := fun e => hh (.inl e)
  rw [if_neg hd]
  cases hn : n.neg with
  | false =>
   rw [hn] at e
   simp at e
   rw [← e, itoa_pos (by omega)]
   simp
  | true =>
   rw [hn] at e
   simp at e
   have hs : n.sz ≠ 0 := fun e => hh (.inr ⟨hn, e⟩)
   rw [← e, itoa_below (by omega)]
   simp

end Go.Proofs.YtlfhkjjjocmpbaaGreatDoor.Pg

namespace Go.Proofs.YtlfhkjjjocmpbaaGreatDoor.Pg
open Go Go.RowKit

abbrev ov (x : Op) : Value := .agg #[.int .i64 x.k, .int .i64 x.a, .int .i64 x.v]

def rngB (x : Op) : Bool := decide (0 ≤ x.a ∧ x.a ≤ 8191 ∧ -2147483648 ≤ x.v ∧ x.v ≤ 2147483647)
theorem may_of {x : Op} (h : rngB x = true) : mayB x = decide (x.k = 2 ∨ x.k = 3 ∨ (x.k = 1 ∧ x.v = 0) ∨ (x.k = 4 ∧ x.a = 0 ∧ x.v = 0)) := by
 unfold rngB at h
 unfold mayB
 simp only [decide_eq_true_eq] at h
 obtain ⟨h0, h1, h2, h3⟩ := h
 simp [h0, h1, h2, h3]

set_option maxHeartbeats 1000000 in
theorem may_any (x : Op) (w : World) :
  Calls Tryz.prog 97 #[ov x] w fun e w' => e = .returned (.bool (mayB x)) ∧ Below w.heap.size w w' := by
 obtain ⟨k, a, v⟩ := x
 go_enter Tryz.func97, Tryz.ntmps97
 go_wp2
 all_goals
  go_ret
  refine ⟨ret_bool ?_, (Below.refl _ _).alloc (Nat.le_refl _) _⟩
  rw [Bool.eq_iff_iff]
  simp [mayB] at *
  omega

end Go.Proofs.YtlfhkjjjocmpbaaGreatDoor.Pg

namespace Go.Proofs.YtlfhkjjjocmpbaaGreatDoor.Me
open Go.Proofs.YtlfhkjjjocmpbaaGreatDoor.Pg
open Go Go.RowKit

def lft (v : Int) (x : Pg.Op) : Int := if x.k = 2 ∨ x.k = 3 then x.v else v
def tld (v : Int) (x : Pg.Op) : Int := if x.k = 1 ∨ x.k = 3 then v else 0

def apP (c : Cfg) (d : Wd) (x : Pg.Op) : Wd × Int × Int := if adOk c x.a = true ∧ mayB x = true ∧ x.k ≠ 4 then (d.put (x.a % c.wo).toNat (lft (d.at (x.a % c.wo).toNat) x), tld (d.at (x.a % c.wo).toNat) x, 0) else (d0, 0, 1)

theorem balloc (w : World) (o : Obj) : Below w.heap.size w (w.alloc o) := (Below.refl _ _).alloc (Nat.le_refl _) _

theorem box_at {w w1 : World} {o : Obj} (h : Below (w.alloc o).heap.size (w.alloc o) w1) : w1.heap[w.heap.size]? = some o := (h.block w.heap.size (by simp)).trans (heap_alloc_new w o)

theorem blk_cell {w : World} {b : Nat} {L : Array Value} {t : TypeId} (h : w.heap[b]? = some (.cells L t (0, 0))) (i : Nat) : w.cell? ⟨b, i, none⟩ = L[i]? := by simp [World.cell?, h]

theorem blk_free {w : World} {b : Nat} {L : Array Value} {t : TypeId} (h : w.heap[b]? = some (.cells L t (0, 0))) (i : Nat) : w.frozen? ⟨b, i, none⟩ = false := by simp [World.frozen?, h]

theorem lt_of_block {w : World} {b : Nat} {o : Obj} (h : w.heap[b]? = some o) : b < w.heap.size := (Array.getElem?_eq_some_iff.1 h).1

theorem done_any (v : Int) (x : Pg.Op) (w : World) :
  Calls Tryz.prog 98 #[.int .i64 v, ov x] w fun e w' => e = .returned (.tuple #[.int .i64 (lft v x), .int .i64 (tld v x)]) ∧ Below w.heap.size w w' := by
 obtain ⟨k, a, u⟩ := x
 have hb := balloc w (.cells #[.int .i64 k, .int .i64 a, .int .i64 u] 43)
 go_enter Tryz.func98, Tryz.ntmps98
 go_wp2
 all_goals
  go_ret2
  refine ⟨ret2 ?_ ?_, hb⟩ <;> simp_all [lft, tld]

theorem results_cell_three {P : Program} {fn : Func} {p q r : Tmp} {ty : TypeId} (h : fn.results = #[.cell p ty, .tmp q, .tmp r]) (tmps : Array Value) (w : World) (g : Nat) (t : TypeId) (cs : Array Value) (fr : Nat × Nat) (d : TypeDesc)
  (hp : tmps.getD p undef = .pointer (some ⟨g, 0, none⟩)) (hg : w.heap[g]? = some (.cells cs t fr))
  (hu : P.underlying ty = some d) (hd : (match d with | .struct _ | .array _ _ => true | _ => false) = true) (hi : (P.info? ty).map (·.size) = some cs.size) :
  (results fn tmps).run P w = .ok (.tuple #[.agg cs, tmps.getD q undef, tmps.getD r undef]) w := by
 have hp' : tmps[p]?.getD undef = .pointer (some ⟨g, 0, none⟩) := by simpa using hp
 simp [results, h, hp', asAddr, run_loadVar_row w g t ty cs fr d hg hu hd hi]

structure H4 (w : World) (o0 o1 o2 o3 : Obj) (wr : World) : Prop where
 c0 : wr.heap[w.heap.size]? = some o0
 c1 : wr.heap[w.heap.size + 1]? = some o1
 c2 : wr.heap[w.heap.size + 2]? = some o2
 c3 : wr.heap[w.heap.size + 3]? = some o3
 bl : Below w.heap.size w wr
theorem H4.new (w : World) (o0 o1 o2 o3 : Obj) : H4 w o0 o1 o2 o3 ((((w.alloc o0).alloc o1).alloc o2).alloc o3) := by
 have s1 : (w.alloc o0).heap.size = w.heap.size + 1 := by simp
 have s2 : ((w.alloc o0).alloc o1).heap.size = w.heap.size + 2 := by simp
 have s3 : (((w.alloc o0).alloc o1).alloc o2).heap.size = w.heap.size + 3 := by simp
 have n0 := heap_alloc_new w o0
 have n1 := heap_alloc_new (w.alloc o0) o1
 have n2 := heap_alloc_new ((w.alloc o0).alloc o1) o2
 have n3 := heap_alloc_new (((w.alloc o0).alloc o1).alloc o2) o3
 rw [s1] at n1
 rw [s2] at n2
 rw [s3] at n3
 refine ⟨?_, ?_, ?_, n3, ((((Below.refl _ w).alloc (Nat.le_refl _) _).alloc (by omega) _).alloc (by omega) _).alloc (by omega) _⟩
 ·rw [heap_alloc_old _ _ (by omega), heap_alloc_old _ _ (by omega), heap_alloc_old _ _ (by omega)]
  exact n0
 ·rw [heap_alloc_old _ _ (by omega), heap_alloc_old _ _ (by omega)]
  exact n1
 ·rw [heap_alloc_old _ _ (by omega)]
  exact n2
theorem H4.step {w wr wr' : World} {o0 o1 o2 o3 : Obj} (h : H4 w o0 o1 o2 o3 wr) (hb : Below wr.heap.size wr wr') : H4 w o0 o1 o2 o3 wr' :=
   ⟨(hb.block _ (lt_of_block h.c0)).trans h.c0, (hb.block _ (lt_of_block h.c1)).trans h.c1, (hb.block _ (lt_of_block h.c2)).trans h.c2, (hb.block _ (lt_of_block h.c3)).trans h.c3, bstep h.bl hb⟩
theorem H4.drew {w wr : World} {o0 o1 o2 o3 : Obj} (h : H4 w o0 o1 o2 o3 wr) : H4 w o0 o1 o2 o3 wr.drew := ⟨h.c0, h.c1, h.c2, h.c3, h.bl.drew⟩

theorem set_words {w : World} {b : Nat} {d : Wd} {t : TypeId} (h : w.heap[b]? = some (.cells (dcells d) t (0, 0))) (k : Nat) (hk : k < 8) (v : Int) : (w.setCell ⟨b, k, none⟩ (.int .i64 v)).heap[b]? = some (.cells (dcells (d.put k v)) t (0, 0)) := by
 rw [heap_setCell_same w b k _ _ _ h]
 rcases (show k = 0 ∨ k = 1 ∨ k = 2 ∨ k = 3 ∨ k = 4 ∨ k = 5 ∨ k = 6 ∨ k = 7 by omega) with rfl | rfl | rfl | rfl | rfl | rfl | rfl | rfl
 all_goals rfl
theorem word_cell (d : Wd) (k : Nat) (hk : k < 8) : (dcells d)[k]? = some (.int .i64 (d.at k)) := by
 rcases (show k = 0 ∨ k = 1 ∨ k = 2 ∨ k = 3 ∨ k = 4 ∨ k = 5 ∨ k = 6 ∨ k = 7 by omega) with rfl | rfl | rfl | rfl | rfl | rfl | rfl | rfl
 all_goals rfl

def RetP (w : World) (d : Wd) (k n : Int) (e : Ending) (w' : World) : Prop := e = .returned (.tuple #[.agg (dcells d), .int .i64 k, .int .i64 n]) ∧ Below w.heap.size w w'
theorem apply_ret {w wr : World} {d : Wd} {k n : Int} {a : Act} {g : Nat} (hp : a.tmps.getD 6 undef = .pointer (some ⟨g, 0, none⟩)) (hk : a.tmps.getD 7 undef = .int .i64 k) (hn : a.tmps.getD 8 undef = .int .i64 n) (hd : a.defers = []) (hg : wr.heap[g]? = some (.cells (dcells d) 36 (0, 0))) (hb : Below w.heap.size w wr) :
  bodyPost Tryz.prog Tryz.f48 (RetP w d k n) Exit.ret a wr :=
 bodyPost_ret (v := .tuple #[.agg (dcells d), a.tmps.getD 7 undef, a.tmps.getD 8 undef]) (results_cell_three Tryz.results48 _ _ g 36 _ (0, 0) _ hp hg Tryz.underlying36 rfl (by kernel_rfl)) hd ⟨by rw [hk, hn], hb⟩

abbrev ccells (c : Cfg) : Array Value := #[.int .i64 c.co, .int .i64 c.ho, .int .i64 c.se, .int .i64 c.wa, .int .i64 c.wo, .int .i64 c.li, .int .i64 c.po, .int .i64 c.ms, .int .i64 c.bu, .int .i64 c.wb, .int .i64 c.r0, .int .i64 c.r1, .int .i64 c.r2]
abbrev H5 (w : World) (c : Cfg) (d : Wd) (k a v : Int) (wr : World) : Prop := H4 w (.cells (ccells c) 24) (.cells (dcells d) 36) (.cells #[.int .i64 k, .int .i64 a, .int .i64 v] 43) (.cells (dcells d0) 36) wr

set_option maxRecDepth 100000 in
set_option maxHeartbeats 2000000 in
theorem apply_bad1 (c : Cfg) (d : Wd) (x : Pg.Op) (w : World) (hc : c.fits) (hT : Tb w) (h : adOk c x.a = false) :
  Calls Tryz.prog 48 #[cv c, .agg (dcells d), ov x] w (RetP w d0 0 1) := by
 obtain ⟨k, a, v⟩ := x
 have H0 := Lib.hid (H4.new w (.cells (ccells c) 24) (.cells (dcells d) 36) (.cells #[.int .i64 k, .int .i64 a, .int .i64 v] 43) (.cells (dcells d0) 36))
 have HA := Lib.hid (fun w1 (hb : Below w.heap.size w w1) => addr_any c a w1 hc (hT.keeps hb))
 have e : adL c a = 0 ∧ adW c a = 0 ∧ adE c a = 1 := by simp at h; simp [adL, adW, adE, h]
 rw [e.1, e.2.1, e.2.2] at HA
 clear hc hT h e
 go_enter Tryz.func48, Tryz.ntmps48
 go_wp2_with (first
  | (go_at_call 19; refine (HA.out _ H0.out.bl).mono ?_; rintro e w1 ⟨rfl, hb1⟩; have H1 := Lib.hid (H0.out.step hb1))
  | ((with_reducible refine wpList_store_row (o := ⟨none, _, _, _, _, _⟩) rfl 36 (.tmp 6) (.tmp 34) rfl (w.heap.size + 3) (dcells d0) ?sx ?sy 36 ?old ?sg ?si ?so ?s1 ?_); (case sx => rfl); (case sy => rfl); (case old => exact dcells d0); (case sg => exact H1.out.c3); (case si => kernel_rfl); (case so => rfl); (case s1 => kernel_rfl)))
 exact apply_ret rfl rfl rfl rfl (setRow_heap _ _ _ _ _ _ H1.out.c3) (below_setRow H1.out.bl (by omega) _)

set_option maxRecDepth 100000 in
set_option maxHeartbeats 2000000 in
theorem apply_bad2 (c : Cfg) (d : Wd) (x : Pg.Op) (w : World) (hc : c.fits) (hT : Tb w) (h : mayB x = false ∨ x.k = 4) :
  Calls Tryz.prog 48 #[cv c, .agg (dcells d), ov x] w (RetP w d0 0 1) := by
 rcases Bool.eq_false_or_eq_true (adOk c x.a) with ha | ha
 ·obtain ⟨k, a, v⟩ := x
  have H0 := Lib.hid (H4.new w (.cells (ccells c) 24) (.cells (dcells d) 36) (.cells #[.int .i64 k, .int .i64 a, .int .i64 v] 43) (.cells (dcells d0) 36))
  have HA := Lib.hid (fun w1 (hb : Below w.heap.size w w1) => addr_any c a w1 hc (hT.keeps hb))
  have e : adE c a = 0 := by simp at ha; simp [adE, ha]
  rw [e] at HA
  have HM := Lib.hid (fun w => may_any ⟨k, a, v⟩ w)
  generalize adL c a = al at *
  generalize adW c a = aw at *
  clear hc hT ha e
  rcases Bool.eq_false_or_eq_true (mayB ⟨k, a, v⟩) with hm | hm
  ·have hk : (k == 4) = true := by simpa [hm] using h
   rw [hm] at HM
   clear h hm
   go_enter Tryz.func48, Tryz.ntmps48
   go_wp2_with (first
    | (go_at_call 19; refine (HA.out _ H0.out.bl).mono ?_; rintro e w1 ⟨rfl, hb1⟩; have H1 := Lib.hid (H0.out.step hb1); have hcc := blk_cell H1.out.c2)
    | (go_at_call 97; refine (HM.out _).mono ?_; rintro e w2 ⟨rfl, hb2⟩; have H2 := Lib.hid (H1.out.step hb2); have hcc2 := blk_cell H2.out.c2)
    | ((with_reducible refine wpList_store_row (o := ⟨none, _, _, _, _, _⟩) rfl 36 (.tmp 6) (.tmp 34) rfl (w.heap.size + 3) (dcells d0) ?sx ?sy 36 ?old ?sg ?si ?so ?s1 ?_); (case sx => rfl); (case sy => rfl); (case old => exact dcells d0); (case sg => exact H2.out.c3); (case si => kernel_rfl); (case so => rfl); (case s1 => kernel_rfl)))
   exact apply_ret rfl rfl rfl rfl (setRow_heap _ _ _ _ _ _ H2.out.c3) (below_setRow H2.out.bl (by omega) _)
  ·rw [hm] at HM
   clear h hm
   go_enter Tryz.func48, Tryz.ntmps48
   go_wp2_with (first
    | (go_at_call 19; refine (HA.out _ H0.out.bl).mono ?_; rintro e w1 ⟨rfl, hb1⟩; have H1 := Lib.hid (H0.out.step hb1); have hcc := blk_cell H1.out.c2)
    | (go_at_call 97; refine (HM.out _).mono ?_; rintro e w2 ⟨rfl, hb2⟩; have H2 := Lib.hid (H1.out.step hb2); have hcc2 := blk_cell H2.out.c2)
    | ((with_reducible refine wpList_store_row (o := ⟨none, _, _, _, _, _⟩) rfl 36 (.tmp 6) (.tmp 34) rfl (w.heap.size + 3) (dcells d0) ?sx ?sy 36 ?old ?sg ?si ?so ?s1 ?_); (case sx => rfl); (case sy => rfl); (case old => exact dcells d0); (case sg => exact H2.out.c3); (case si => kernel_rfl); (case so => rfl); (case s1 => kernel_rfl)))
   exact apply_ret rfl rfl rfl rfl (setRow_heap _ _ _ _ _ _ H2.out.c3) (below_setRow H2.out.bl (by omega) _)
 ·exact apply_bad1 c d x w hc hT ha

set_option maxRecDepth 100000 in
set_option maxHeartbeats 2000000 in
theorem apply_good (c : Cfg) (d : Wd) (x : Pg.Op) (w : World) (hc : c.fits) (hT : Tb w) (ha : adOk c x.a = true) (hm : mayB x = true) (hk : x.k ≠ 4) :
  Calls Tryz.prog 48 #[cv c, .agg (dcells d), ov x] w (RetP w (d.put (x.a % c.wo).toNat (lft (d.at (x.a % c.wo).toNat) x)) (tld (d.at (x.a % c.wo).toNat) x) 0) := by
 obtain ⟨k, a, v⟩ := x
 have H0 := Lib.hid (H4.new w (.cells (ccells c) 24) (.cells (dcells d) 36) (.cells #[.int .i64 k, .int .i64 a, .int .i64 v] 43) (.cells (dcells d0) 36))
 have HA := Lib.hid (fun w1 (hb : Below w.heap.size w w1) => addr_any c a w1 hc (hT.keeps hb))
 have hb := sz_bound c (ok_of_adOk ha).1
 obtain ⟨m, hmm, hm8⟩ : ∃ m : Nat, a % c.wo = m ∧ m < 8 := ⟨(a % c.wo).toNat, by
  have := Int.emod_nonneg a (show c.wo ≠ 0 by omega)
  omega, by
  have := Int.emod_lt_of_pos a (show 0 < c.wo by omega)
  omega⟩
 have e : adE c a = 0 ∧ adW c a = m := by
  have ha' : adOk c a = true := ha
  refine ⟨by simp [adE, ha'], ?_⟩
  rw [← hmm]
  simp [adW, ha']
 rw [e.1, e.2] at HA
 have HM := Lib.hid (fun w => may_any ⟨k, a, v⟩ w)
 rw [hm] at HM
 have HD := Lib.hid (fun w => done_any (d.at m) ⟨k, a, v⟩ w)
 have hk' : (k == 4) = false := by simpa using hk
 show Calls _ _ _ _ (RetP w (d.put (a % c.wo).toNat (lft (d.at (a % c.wo).toNat) ⟨k, a, v⟩)) (tld (d.at (a % c.wo).toNat) ⟨k, a, v⟩) 0)
 rw [hmm, Int.toNat_natCast]
 generalize adL c a = al at *
 generalize lft (d.at m) ⟨k, a, v⟩ = lf at *
 generalize tld (d.at m) ⟨k, a, v⟩ = tl at *
 have hm0 : (0 : Int) ≤ (m : Int) := by omega
 have hm7 : (m : Int) < 8 := by omega
 have hcm := word_cell d m hm8
 have HMM := Lib.hid hcm
 have HSW := Lib.hid (fun (w1 : World) (b : Nat) (h : w1.heap[b]? = some (.cells (dcells d) 36 (0, 0))) => set_words h m hm8 lf)
 obtain ⟨D, hD⟩ : ∃ D, D = d.put m lf := ⟨_, rfl⟩
 rw [← hD] at HSW ⊢
 generalize d.at m = dv at *
 clear hc hT ha hm hk hb e hmm hcm hD
 go_enter Tryz.func48, Tryz.ntmps48
 go_wp2_with (first
  | (go_at_call 19; refine (HA.out _ H0.out.bl).mono ?_; rintro e w1 ⟨rfl, hb1⟩; have H1 := Lib.hid (H0.out.step hb1); have hcc := blk_cell H1.out.c2)
  | (go_at_call 97; refine (HM.out _).mono ?_; rintro e w2 ⟨rfl, hb2⟩; have H2 := Lib.hid (H1.out.step hb2); have hcc2 := blk_cell H2.out.c2))
 clear hcc
 have hcm := (blk_cell H2.out.c1 m).trans HMM.out
 go_region_held3 (fun w' => (∀ o, w'.cell? ⟨w.heap.size + 2, o, none⟩ = (#[Value.int .i64 k, .int .i64 a, .int .i64 v])[o]?) ∧ w'.cell? ⟨w.heap.size + 1, m, none⟩ = some (.int .i64 dv))
  (first | exact ⟨blk_cell H3.out.c2, (blk_cell H3.out.c1 m).trans HMM.out⟩ | exact ⟨hcc2, hcm⟩ | go_keep)
  (first
   | (go_at_call 98; refine (HD.out _).mono ?_; rintro e w3 ⟨rfl, hb3⟩; have H3 := (by first | exact Lib.hid (H2.out.step hb3) | exact Lib.hid (H2.out.drew.step hb3)); clear hb3))
 have q1 := (blk_cell H3.out.c1 m).trans HMM.out
 have q2 := blk_free H3.out.c1 m
 have q3 := HSW.out _ _ H3.out.c1
 have q4 : (w3.setCell ⟨w.heap.size + 1, m, none⟩ (.int .i64 lf)).heap[w.heap.size + 3]? = some (.cells (dcells d0) 36 (0, 0)) := (heap_setCell_other _ _ _ _ (by show w.heap.size + 3 ≠ w.heap.size + 1; omega)).trans H3.out.c3
 have q5 : Below w.heap.size w (w3.setCell ⟨w.heap.size + 1, m, none⟩ (.int .i64 lf)) := H3.out.bl.trans ⟨rfl, rfl, rfl, by simp, fun j hj => heap_setCell_other _ _ _ _ (by show j ≠ w.heap.size + 1; omega)⟩
 go_wp2_with (first
  | ((with_reducible refine wpList_load_row (o := ⟨some 46, _, _, _, _, _⟩) rfl 36 (.tmp 4) rfl (w.heap.size + 1) ?lx 36 (dcells D) (0, 0) _ ?lg Tryz.underlying36 ?ld ?li ?_); (case lx => rfl); (case lg => exact q3); (case ld => rfl); (case li => kernel_rfl))
  | ((with_reducible refine wpList_store_row (o := ⟨none, _, _, _, _, _⟩) rfl 36 (.tmp 6) (.tmp 46) rfl (w.heap.size + 3) (dcells D) ?sx ?sy 36 ?old ?sg ?si ?so ?s1 ?_); (case sx => rfl); (case sy => rfl); (case old => exact dcells d0); (case sg => exact q4); (case si => kernel_rfl); (case so => rfl); (case s1 => kernel_rfl)))
 exact apply_ret rfl rfl rfl rfl (setRow_heap _ _ _ _ _ _ q4) (below_setRow q5 (by omega) _)

theorem apply_any (c : Cfg) (d : Wd) (x : Pg.Op) (w : World) (hc : c.fits) (hT : Tb w) :
  Calls Tryz.prog 48 #[cv c, .agg (dcells d), ov x] w (RetP w (apP c d x).1 (apP c d x).2.1 (apP c d x).2.2) := by
 by_cases h : adOk c x.a = true ∧ mayB x = true ∧ x.k ≠ 4
 ·have e : apP c d x = _ := if_pos h
  rw [e]
  exact apply_good c d x w hc hT h.1 h.2.1 h.2.2
 ·have e : apP c d x = _ := if_neg h
  rw [e]
  rcases Bool.eq_false_or_eq_true (adOk c x.a) with ha | ha
  ·refine apply_bad2 c d x w hc hT ?_
   rcases Bool.eq_false_or_eq_true (mayB x) with hm | hm
   ·exact .inr (Classical.byContradiction fun q => h ⟨ha, hm, q⟩)
   ·exact .inl hm
  ·exact apply_bad1 c d x w hc hT ha

end Go.Proofs.YtlfhkjjjocmpbaaGreatDoor.Me
