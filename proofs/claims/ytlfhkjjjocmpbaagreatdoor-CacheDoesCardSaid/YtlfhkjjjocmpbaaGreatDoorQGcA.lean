import Derived.Test.YtlfhkjjjocmpbaaGreatDoorQLayAr
import Derived.Test.YtlfhkjjjocmpbaaGreatDoorQLayMh
import Derived.Test.YtlfhkjjjocmpbaaGreatDoorQLayWb
import Derived.Test.YtlfhkjjjocmpbaaGreatDoorQLayPg
import Derived.Test.YtlfhkjjjocmpbaaGreatDoorLayMs
import Derived.Test.YtlfhkjjjocmpbaaGreatDoorSx

namespace Go.Proofs.YtlfhkjjjocmpbaaGreatDoor.Cc
open Go Go.RowKit

structure St where
 A : List Ar.Wy
 F : List Mh.Ms
 B : List Wb.En

def msg (kd ln fr to wh ac ow : Int) (d : Wd) : Msg := ⟨kd, ln, fr, to, wh, ac, ow, d.w0, d.w1, d.w2, d.w3, d.w4, d.w5, d.w6, d.w7⟩
abbrev words (m : Msg) : Wd := ⟨m.w0, m.w1, m.w2, m.w3, m.w4, m.w5, m.w6, m.w7⟩

def letsB (x : Ar.Wy) (writes : Bool) : Bool := if writes = true then x.st == 2 || x.st == 4 else x.st != 0
def ownsB (x : Ar.Wy) : Bool := x.st == 3 || letsB x true
def look (c : Cfg) (s : St) (line : Int) : Ar.Wy := (Ar.fnd c s.A line).1
def there (c : Cfg) (s : St) (line : Int) : Bool := (Ar.fnd c s.A line).2.2
def atP (c : Cfg) (s : St) (set way : Int) : Ar.Wy × Bool :=
 if 0 ≤ set ∧ set < c.se ∧ 0 ≤ way ∧ way < c.wa then (s.A.getD (set.toNat * c.wa.toNat + way.toNat) Ar.y0, true) else (Ar.y0, false)
def busyB (s : St) (line : Int) : Bool := (Mh.getP s.F line).2 || (Wb.getP s.B line).2
def toHomeP (c : Cfg) (core kind line : Int) : Msg := msg kind line core (lnH c line) 0 0 0 d0

def refP (c : Cfg) (s : St) (line kind : Int) : Int :=
 if (lnE c line != 0 || (kind != 1 && kind != 2)) = true then 1
 else if (busyB s line || letsB (look c s line) (kind == 2)) = true then 6
 else if (s.F.length : Int) = c.ms then 4
 else if (!there c s line && decide (Ar.oi (Ar.fre c s.A line) < 0)) = true then 5
 else 0
def layA (c : Cfg) (s : St) (line : Int) : List Ar.Wy := if there c s line = true then s.A else (Ar.layP c s.A line (Ar.oi (Ar.fre c s.A line))).2
def askP (c : Cfg) (core : Int) (s : St) (line kind : Int) : (Msg × Int) × St :=
 if refP c s line kind ≠ 0 then ((m0, refP c s line kind), s)
 else ((toHomeP c core kind line, 0), ⟨(Ar.lockP c (layA c s line) line true).2, (Mh.openP c.ms s.F line kind).2, s.B⟩)
def setA (c : Cfg) (s : St) (line st : Int) (d : Wd) : St := { s with A := (Ar.setP c s.A line st d).2 }

abbrev Rp := Msg × Bool × Int
def evictP (c : Cfg) (core : Int) (s : St) (set way : Int) : Rp × St :=
 let x := (atP c s set way).1
 if (!(atP c s set way).2 || x.st == 0) = true then ((m0, false, 5), s)
 else if x.lk = true then ((m0, false, 6), s)
 else if (x.st != 1 && (c.wb - s.B.length == 0)) = true then ((m0, false, 4), s)
 else if x.st = 1 then ((m0, false, 0), setA c s x.ln 0 d0)
 else ((msg 3 x.ln core (lnH c x.ln) 0 0 0 x.wd, true, 0), { setA c s x.ln 0 d0 with B := (Wb.putP c.wb s.B x.ln x.wd).2 })
def finishP (c : Cfg) (core : Int) (s : St) : (Msg × Bool) × St :=
 if (Mh.owingP s.F).2 = true then ((toHomeP c core 11 (Mh.owingP s.F).1, true), ⟨(Ar.lockP c s.A (Mh.owingP s.F).1 false).2, (Mh.closeP s.F (Mh.owingP s.F).1).2, s.B⟩)
 else ((m0, false), s)
def doP (c : Cfg) (s : St) (x : Pg.Op) : (Int × Int) × St :=
 let w := look c s (adL c x.a)
 let r := Me.apP c w.wd x
 if r.2.2 ≠ 0 then ((0, r.2.2), s)
 else if letsB w (x.k != 1) = false then ((0, 5), s)
 else ((r.2.1, 0), if (x.k != 1) = true then setA c s (adL c x.a) 4 r.1 else s)

def leaveP (c : Cfg) (s : St) (f : Wb.En → Wb.En) (line state : Int) : (Wd × Int) × St :=
 let w := look c s line
 if ownsB w = true then ((w.wd, 0), setA c s line state w.wd) else ((Wb.ansP f s.B line).1, { s with B := (Wb.ansP f s.B line).2 })
def tellP (c : Cfg) (core : Int) (s : St) (f : Wb.En → Wb.En) (m : Msg) (left own : Int) : Rp × St :=
 let r := leaveP c s f m.ln left
 if r.1.2 ≠ 0 then ((m0, false, 7), r.2) else ((msg 7 m.ln core m.wh 1 m.ac own r.1.1, true, 0), r.2)
def forgetP (c : Cfg) (core : Int) (s : St) (m : Msg) : Rp × St :=
 let w := look c s m.ln
 if ownsB w = true then ((m0, false, 7), s)
 else ((msg 9 m.ln core m.wh 0 0 0 d0, true, 0), if w.st = 1 then setA c s m.ln 0 d0 else s)
def wordsP (c : Cfg) (s : St) (x : Mh.Ms) : Wd := if x.gr = true then (look c s x.ln).wd else x.wd
def cameP (c : Cfg) (s : St) (line err : Int) : Rp × St :=
 if err ≠ 0 then ((m0, false, 7), s)
 else let r := Mh.oweP s.F line
  ((m0, false, 0), if r.1.2 = true then { setA c s line r.1.1.ow (wordsP c s r.1.1) with F := r.2 } else { s with F := r.2 })
def fillP (c : Cfg) (s : St) (m : Msg) : Rp × St := let r := Mh.chg s.F m.ln (Mh.dataF m.ac m.ow (words m)); cameP c { s with F := r.2 } m.ln r.1
def grantP (c : Cfg) (s : St) (m : Msg) : Rp × St :=
 if (look c s m.ln).st ≠ 3 then ((m0, false, 7), s) else let r := Mh.chg s.F m.ln (Mh.grantF m.ac); cameP c { s with F := r.2 } m.ln r.1
def countP (c : Cfg) (s : St) (m : Msg) : Rp × St := let r := Mh.chg s.F m.ln Mh.ackF; cameP c { s with F := r.2 } m.ln r.1
def dropP (s : St) (m : Msg) : Rp × St := let r := Wb.dropP s.B m.ln; if r.1 ≠ 0 then ((m0, false, 7), { s with B := r.2 }) else ((m0, false, 0), { s with B := r.2 })

def becomeP (c : Cfg) (core : Int) (s : St) (m : Msg) : Rp × St :=
 if m.kd = 4 then tellP c core s id m 3 1
 else if m.kd = 5 then tellP c core s Wb.gone m 0 4
 else if m.kd = 6 then forgetP c core s m
 else if m.kd = 7 then fillP c s m
 else if m.kd = 8 then grantP c s m
 else if m.kd = 9 then countP c s m
 else dropP s m
def takeP (c : Cfg) (core : Int) (s : St) (m : Msg) : Rp × St :=
 if 4 ≤ m.kd ∧ m.kd ≤ 10 ∧ mayM c m = true ∧ m.to = core then becomeP c core s m else ((m0, false, 1), s)

end Go.Proofs.YtlfhkjjjocmpbaaGreatDoor.Cc

namespace Go.Proofs.YtlfhkjjjocmpbaaGreatDoor.Cc
open Go Go.RowKit

abbrev Bx := List (Nat × Obj)

structure Sp (w0 : World) (bx : Bx) (w : World) : Prop where
 ok : ∀ p ∈ bx, w.heap[p.1]? = some p.2 ∧ w0.heap.size ≤ p.1
 nd : (bx.map Prod.fst).Nodup
 bl : Below w0.heap.size w0 w
theorem lt_blk {w : World} {b : Nat} {o : Obj} (h : w.heap[b]? = some o) : b < w.heap.size := (Array.getElem?_eq_some_iff.1 h).1
theorem b_alloc (w : World) (o : Obj) : Below w.heap.size w (w.alloc o) := (Below.refl _ _).alloc (Nat.le_refl _) _
theorem b_step {w w1 w2 : World} (h : Below w.heap.size w w1) (h2 : Below w1.heap.size w1 w2) : Below w.heap.size w w2 := h.trans (h2.mono h.size)
theorem b_setRow {B : Nat} {w w' : World} (h : Below B w w') {g : Nat} (hg : B ≤ g) (cs : Array Value) : Below B w (w'.setRow g cs) :=
 h.trans ⟨rfl, rfl, rfl, by simp, fun k hk => setRow_other w' g k cs (by omega)⟩
theorem c_cell {w : World} {b : Nat} {L : Array Value} {t : TypeId} (h : w.heap[b]? = some (.cells L t (0, 0))) (i : Nat) : w.cell? ⟨b, i, none⟩ = L[i]? := by simp [World.cell?, h]
variable {w0 w w' : World} {bx cx : Bx}
theorem Sp.step (h : Sp w0 bx w) (hb : Below w.heap.size w w') : Sp w0 bx w' :=
   ⟨fun p hp => ⟨(hb.block p.1 (lt_blk (h.ok p hp).1)).trans (h.ok p hp).1, (h.ok p hp).2⟩, h.nd, b_step h.bl hb⟩
theorem Sp.perm (h : Sp w0 bx w) (hp : bx.Perm cx) : Sp w0 cx w := ⟨fun p hm => h.ok p (hp.mem_iff.2 hm), (hp.map _).nodup_iff.1 h.nd, h.bl⟩
theorem Sp.add (h : Sp w0 bx w) (o : Obj) : Sp w0 ((w.heap.size, o) :: bx) (w.alloc o) := by
 have hs := h.step (b_alloc w o)
 refine ⟨fun p hp => ?_, ?_, hs.bl⟩
 ·rcases List.mem_cons.1 hp with rfl | hp
  ·exact ⟨heap_alloc_new w o, h.bl.size⟩
  ·exact hs.ok p hp
 ·rw [List.map_cons, List.nodup_cons]
  refine ⟨fun hm => ?_, h.nd⟩
  obtain ⟨p, hp, e⟩ := List.mem_map.1 hm
  have := lt_blk (h.ok p hp).1
  omega

theorem Sp.swap {xs ys rest : Bx} (h : Sp w0 (xs ++ rest) w) (hos : w'.os = w.os ∧ w'.tape = w.tape ∧ w'.output = w.output ∧ w.heap.size ≤ w'.heap.size) (hk : ∀ k, k < w.heap.size → k ∉ xs.map Prod.fst → w'.heap[k]? = w.heap[k]?)
  (hy : ∀ p ∈ ys, w'.heap[p.1]? = some p.2) (hf : ∀ p ∈ ys, p.1 ∈ xs.map Prod.fst ∨ w.heap.size ≤ p.1) (nd : (ys.map Prod.fst).Nodup) : Sp w0 (ys ++ rest) w' := by
 have hnd := h.nd
 rw [List.map_append, List.nodup_append] at hnd
 obtain ⟨_, n2, n3⟩ := hnd
 have hxs : ∀ k ∈ xs.map Prod.fst, w0.heap.size ≤ k := fun k hk => by
  obtain ⟨p, hp, rfl⟩ := List.mem_map.1 hk
  exact (h.ok p (List.mem_append_left _ hp)).2
 refine ⟨fun p hp => ?_, ?_, ⟨hos.1.trans h.bl.os, hos.2.1.trans h.bl.tape, hos.2.2.1.trans h.bl.output, Nat.le_trans h.bl.size hos.2.2.2, fun k hk0 => ?_⟩⟩
 ·rcases List.mem_append.1 hp with hp | hp
  ·refine ⟨hy p hp, ?_⟩
   rcases hf p hp with e | e
   ·exact hxs _ e
   ·exact Nat.le_trans h.bl.size e
  ·have := h.ok p (List.mem_append_right _ hp)
   exact ⟨(hk p.1 (lt_blk this.1) fun hm => n3 _ hm _ (List.mem_map.2 ⟨p, hp, rfl⟩) rfl).trans this.1, this.2⟩
 ·rw [List.map_append, List.nodup_append]
  refine ⟨nd, n2, fun a ha b hb e => ?_⟩
  obtain ⟨p, hp, rfl⟩ := List.mem_map.1 ha
  rcases hf p hp with e1 | e1
  ·exact n3 _ e1 _ hb e
  ·obtain ⟨q, hq, rfl⟩ := List.mem_map.1 hb
   have := lt_blk (h.ok q (List.mem_append_right _ hq)).1
   omega
 ·exact (hk k (Nat.lt_of_lt_of_le hk0 h.bl.size) fun hm => by have := hxs k hm; omega).trans (h.bl.block k hk0)

theorem Sp.setRow {n : Nat} {cs cs' : Array Value} {T : TypeId} (h : Sp w0 ((n, .cells cs T (0, 0)) :: bx) w) : Sp w0 ((n, .cells cs' T (0, 0)) :: bx) (w.setRow n cs') := by
 have g1 := (h.ok _ mz0).1
 exact Sp.swap (xs := [(n, .cells cs T (0, 0))]) (ys := [(n, .cells cs' T (0, 0))]) h ⟨rfl, rfl, rfl, by simp⟩ (fun k _ hne => setRow_other w n k cs' (fun e => hne (by simp [e]))) (fun p hp => by obtain rfl := List.mem_singleton.1 hp; exact setRow_heap _ _ _ _ _ _ g1) (fun p hp => .inl (by obtain rfl := List.mem_singleton.1 hp; simp)) (by simp)
theorem Sp.drop {p : Nat × Obj} (h : Sp w0 (p :: bx) w) : Sp w0 bx w := ⟨fun q hq => h.ok q (List.mem_cons_of_mem _ hq), (List.nodup_cons.1 (by rw [← List.map_cons]; exact h.nd)).2, h.bl⟩

abbrev Holds (xs : Bx) (W : World) : Prop := ∀ p ∈ xs, W.heap[p.1]? = some p.2
theorem ar_keep {a g : Nat} {c : Cfg} {L : List Ar.Wy} (h : Ar.Ar w a g c L) (h1 : w'.heap[a]? = w.heap[a]?) (h2 : w'.heap[g]? = w.heap[g]?) : Ar.Ar w' a g c L :=
   ⟨fun o => (World.cell?_of_block (a := ⟨a, o, none⟩) h1).trans (h.hd o), by
  have := Array.getElem?_eq_getElem h.bl; rw [this] at h1; exact lt_blk h1, fun o => (World.cell?_of_block (a := ⟨g, o, none⟩) h2).trans (h.row o), fun o => (World.frozen?_of_block (a := ⟨g, o, none⟩) h2).trans (h.fz o), by
  have := Array.getElem?_eq_getElem h.gl; rw [this] at h2; exact lt_blk h2, h.ne, h.sz, h.fits⟩
theorem ar_boxes {a g : Nat} {c : Cfg} {L : List Ar.Wy} (h : Ar.Ar w a g c L) : ∃ xs : Bx, xs.map Prod.fst = [a, g] ∧ Holds xs w ∧ ∀ W, Holds xs W → Ar.Ar W a g c L := by
 have e1 := Array.getElem?_eq_getElem h.bl
 have e2 := Array.getElem?_eq_getElem h.gl
 refine ⟨[(a, w.heap[a]'h.bl), (g, w.heap[g]'h.gl)], rfl, fun p hp => ?_, fun W hW => ar_keep h ((hW _ mz0).trans e1.symm) ((hW _ mz1).trans e2.symm)⟩
 simp only [List.mem_cons, List.not_mem_nil, or_false] at hp
 rcases hp with rfl | rfl
 ·exact e1
 ·exact e2
theorem mh_boxes {T e : TypeId} {B b : Nat} {room : Int} {l : List Mh.Ms} {v : Value} (h : Mh.Bg T e 15 Mh.mc w B b room l v) :
  ∃ xs : Bx, (∀ n, n ∈ xs.map Prod.fst ↔ n = b ∨ v.ownBlock = some n) ∧ (xs.map Prod.fst).Nodup ∧ Holds xs w ∧ ∀ W, Holds xs W → Mh.Bg T e 15 Mh.mc W B b room l v := by
 rcases h.row.2 with ⟨e0, h0⟩ | ⟨g, cap, cur, e0, hB, hgg, rest⟩
 ·refine ⟨[(b, .cells #[.int .i64 room, v] T (0, 0))], fun n => ?_, by simp, fun q hq => ?_, fun W hW => ?_⟩
  ·rw [e0]; simp [Value.ownBlock]
  ·obtain rfl := List.mem_singleton.1 hq
   exact h.blk
  ·exact ⟨hW _ mz0, ⟨h.row.1, .inl ⟨e0, h0⟩⟩, h.off, h.big⟩
 ·have hbg : b ≠ g := fun e => h.off (by rw [e0, e]; rfl)
  refine ⟨[(b, .cells #[.int .i64 room, v] T (0, 0)), (g, .cells cur e (0, 0))], fun n => ?_, by simpa using hbg, fun q hq => ?_, fun W hW => ?_⟩
  ·rw [e0]; simp [Value.ownBlock, eq_comm]
  ·simp only [List.mem_cons, List.not_mem_nil, or_false] at hq
   rcases hq with rfl | rfl
   ·exact h.blk
   ·exact hgg
  ·exact ⟨hW _ mz0, ⟨h.row.1, .inr ⟨g, cap, cur, e0, hB, hW _ mz1, rest⟩⟩, h.off, h.big⟩
theorem wb_boxes {T e : TypeId} {B b : Nat} {room : Int} {l : List Wb.En} {v : Value} (h : Wb.Bg T e 10 Wb.mc w B b room l v) :
  ∃ xs : Bx, (∀ n, n ∈ xs.map Prod.fst ↔ n = b ∨ v.ownBlock = some n) ∧ (xs.map Prod.fst).Nodup ∧ Holds xs w ∧ ∀ W, Holds xs W → Wb.Bg T e 10 Wb.mc W B b room l v := by
 rcases h.row.2 with ⟨e0, h0⟩ | ⟨g, cap, cur, e0, hB, hgg, rest⟩
 ·refine ⟨[(b, .cells #[.int .i64 room, v] T (0, 0))], fun n => ?_, by simp, fun q hq => ?_, fun W hW => ?_⟩
  ·rw [e0]; simp [Value.ownBlock]
  ·obtain rfl := List.mem_singleton.1 hq
   exact h.blk
  ·exact ⟨hW _ mz0, ⟨h.row.1, .inl ⟨e0, h0⟩⟩, h.off, h.big⟩
 ·have hbg : b ≠ g := fun e => h.off (by rw [e0, e]; rfl)
  refine ⟨[(b, .cells #[.int .i64 room, v] T (0, 0)), (g, .cells cur e (0, 0))], fun n => ?_, by simpa using hbg, fun q hq => ?_, fun W hW => ?_⟩
  ·rw [e0]; simp [Value.ownBlock, eq_comm]
  ·simp only [List.mem_cons, List.not_mem_nil, or_false] at hq
   rcases hq with rfl | rfl
   ·exact h.blk
   ·exact hgg
  ·exact ⟨hW _ mz0, ⟨h.row.1, .inr ⟨g, cap, cur, e0, hB, hW _ mz1, rest⟩⟩, h.off, h.big⟩

structure Tys where
 t : TypeId
 ft : TypeId
 fe : TypeId
 bt : TypeId
 be : TypeId
abbrev tyP : Tys := ⟨110, 151, 117, 153, 97⟩

structure Kb where
 k : Nat
 a : Nat
 f : Nat
 b : Nat
abbrev kcells (c : Cfg) (core : Int) (K : Kb) : Array Value := #[.int .i64 c.co, .int .i64 c.ho, .int .i64 c.se, .int .i64 c.wa, .int .i64 c.wo, .int .i64 c.li, .int .i64 c.po, .int .i64 c.ms, .int .i64 c.bu, .int .i64 c.wb, .int .i64 c.r0, .int .i64 c.r1, .int .i64 c.r2, .int .i64 core, .pointer (some ⟨K.a, 0, none⟩), .pointer (some ⟨K.f, 0, none⟩), .pointer (some ⟨K.b, 0, none⟩)]
def ArT (a : Nat) (c : Cfg) (L : List Ar.Wy) (xs : Bx) : Prop := (∃ g, xs.map Prod.fst = [a, g] ∧ ∀ W, Holds xs W → Ar.Ar W a g c L) ∧ Ar.Good c L
def FlT (T e : TypeId) (B f : Nat) (room n : Int) (l : List Mh.Ms) (xs : Bx) : Prop := (∃ v, (∀ k, k ∈ xs.map Prod.fst ↔ k = f ∨ v.ownBlock = some k) ∧ ∀ W, Holds xs W → Mh.Bg T e 15 Mh.mc W B f room l v) ∧ Mh.Good room n l ∧ 0 ≤ n
def BfT (T e : TypeId) (B b : Nat) (room : Int) (l : List Wb.En) (xs : Bx) : Prop := (∃ v, (∀ k, k ∈ xs.map Prod.fst ↔ k = b ∨ v.ownBlock = some k) ∧ ∀ W, Holds xs W → Wb.Bg T e 10 Wb.mc W B b room l v) ∧ Wb.Good room l

structure Own (ty : Tys) (w0 : World) (K : Kb) (c : Cfg) (core n : Int) (s : St) (bx : Bx) (w : World) : Prop where
 ex : ∃ xa xf xb, ArT K.a c s.A xa ∧ FlT ty.ft ty.fe w0.heap.size K.f c.ms n s.F xf ∧ BfT ty.bt ty.be w0.heap.size K.b c.wb s.B xb ∧ Sp w0 (xa ++ (xf ++ (xb ++ ((K.k, .cells (kcells c core K) ty.t (0, 0)) :: bx)))) w
 tb : Tb w0
variable {ty : Tys} {K : Kb} {c : Cfg} {core n : Int} {s : St}
theorem Own.step (h : Own ty w0 K c core n s bx w) (hb : Below w.heap.size w w') : Own ty w0 K c core n s bx w' := by
 obtain ⟨xa, xf, xb, h1, h2, h3, h4⟩ := h.ex
 exact ⟨⟨xa, xf, xb, h1, h2, h3, h4.step hb⟩, h.tb⟩
theorem Own.below (h : Own ty w0 K c core n s bx w) : Below w0.heap.size w0 w := by obtain ⟨xa, xf, xb, h1, h2, h3, h4⟩ := h.ex; exact h4.bl
theorem Own.tbs (h : Own ty w0 K c core n s bx w) : Tb w := h.tb.keeps h.below

theorem Own.boxed (h : Own ty w0 K c core n s bx w) (f : ∀ ys, Sp w0 (ys ++ bx) w → Sp w0 (ys ++ cx) w') : Own ty w0 K c core n s cx w' := by
 obtain ⟨xa, xf, xb, h1, h2, h3, h4⟩ := h.ex
 refine ⟨⟨xa, xf, xb, h1, h2, h3, ?_⟩, h.tb⟩
 have := f (xa ++ (xf ++ (xb ++ [(K.k, .cells (kcells c core K) ty.t (0, 0))]))) (by simpa using h4)
 simpa using this
theorem Own.add (h : Own ty w0 K c core n s bx w) (o : Obj) : Own ty w0 K c core n s ((w.heap.size, o) :: bx) (w.alloc o) := h.boxed fun _ hs => (hs.add o).perm List.perm_middle.symm
theorem Own.setRow {m : Nat} {cs cs' : Array Value} {T : TypeId} (h : Own ty w0 K c core n s ((m, .cells cs T (0, 0)) :: bx) w) : Own ty w0 K c core n s ((m, .cells cs' T (0, 0)) :: bx) (w.setRow m cs') := h.boxed fun _ hs => (hs.perm List.perm_middle).setRow.perm List.perm_middle.symm
theorem Own.drop {p : Nat × Obj} (h : Own ty w0 K c core n s (p :: bx) w) : Own ty w0 K c core n s bx w := h.boxed fun _ hs => (hs.perm List.perm_middle).drop
theorem Own.perm (h : Own ty w0 K c core n s bx w) (hp : bx.Perm cx) : Own ty w0 K c core n s cx w := h.boxed fun ys hs => hs.perm (hp.append_left ys)
theorem Own.ok (h : Own ty w0 K c core n s bx w) {p : Nat × Obj} (hp : p ∈ bx) : w.heap[p.1]? = some p.2 ∧ w0.heap.size ≤ p.1 := by
 obtain ⟨xa, xf, xb, h1, h2, h3, h4⟩ := h.ex
 exact h4.ok p (by simp [hp])
theorem Own.box (h : Own ty w0 K c core n s bx w) {m : Nat} {o : Obj} (hp : (m, o) ∈ bx) : w.heap[m]? = some o := (h.ok hp).1
theorem Own.cells (h : Own ty w0 K c core n s bx w) {m : Nat} {cs : Array Value} {T : TypeId} (hp : (m, .cells cs T (0, 0)) ∈ bx) : ∀ i, w.cell? ⟨m, i, none⟩ = cs[i]? := c_cell (h.box hp)
theorem Own.kblk (h : Own ty w0 K c core n s bx w) : w.heap[K.k]? = some (.cells (kcells c core K) ty.t (0, 0)) := by
 obtain ⟨xa, xf, xb, h1, h2, h3, h4⟩ := h.ex
 exact (h4.ok (K.k, .cells (kcells c core K) ty.t (0, 0)) (by simp)).1
theorem Own.kc (h : Own ty w0 K c core n s bx w) : ∀ i, w.cell? ⟨K.k, i, none⟩ = (kcells c core K)[i]? := c_cell h.kblk
theorem Own.nums (h : Own ty w0 K c core n s bx w) : okC c = true ∧ c.fits ∧ Ar.Good c s.A ∧ Ar.Sized c s.A ∧ Mh.Good c.ms n s.F ∧ 0 ≤ n ∧ Wb.Good c.wb s.B := by
 obtain ⟨xa, xf, xb, ⟨⟨g, _, h1⟩, h1'⟩, h2, h3, h4⟩ := h.ex
 have ha := h1 w fun p hp => (h4.ok p (by simp [hp])).1
 exact ⟨ha.sz.ok, ha.fits, h1', ha.sz, h2.2.1, h2.2.2, h3.2⟩
theorem Own.more {n' : Int} (h : Own ty w0 K c core n s bx w) (hn : n ≤ n') : Own ty w0 K c core n' s bx w := by
 obtain ⟨xa, xf, xb, h1, ⟨h2, g2, g3⟩, h3, h4⟩ := h.ex
 exact ⟨⟨xa, xf, xb, h1, ⟨h2, g2.more hn, Int.le_trans g3 hn⟩, h3, h4⟩, h.tb⟩

theorem Own.ar (h : Own ty w0 K c core n s bx w) : ∃ g, Ar.Ar w K.a g c s.A ∧ ∀ e w' r, Ar.GaveA w K.a g c r e w' → Ar.Good c r.2 → Own ty w0 K c core n { s with A := r.2 } bx w' := by
 obtain ⟨xa, xf, xb, ⟨⟨g, e1, h1⟩, h1'⟩, h2, h3, h4⟩ := h.ex
 refine ⟨g, h1 w fun p hp => (h4.ok p (List.mem_append_left _ hp)).1, fun e w' r hg gd => ?_⟩
 obtain ⟨ya, y1, y2, y3⟩ := ar_boxes hg.ar
 refine ⟨⟨ya, xf, xb, ⟨⟨g, y1, y3⟩, gd⟩, h2, h3, h4.swap ⟨hg.turn.os, hg.turn.tape, hg.turn.output, hg.turn.size⟩ (fun k hk hm => hg.turn.other k hk fun e => hm (by rw [e1, e]; simp)) y2 (fun p hp => .inl ?_) ?_⟩, h.tb⟩
 ·rw [e1, ← y1]; exact List.mem_map.2 ⟨p, hp, rfl⟩
 ·rw [y1]; simpa using hg.ar.ne
theorem mid_perm {xa xf r : Bx} : (xa ++ (xf ++ r)).Perm (xf ++ (xa ++ r)) := by
 rw [← List.append_assoc, ← List.append_assoc]
 exact List.perm_append_comm.append_right r

theorem Own.fl (h : Own ty w0 K c core n s bx w) : ∃ v, Mh.Bg ty.ft ty.fe 15 Mh.mc w w0.heap.size K.f c.ms s.F v ∧ ∀ w' m n', Mh.PutGave ty.ft ty.fe 15 Mh.mc w w0.heap.size K.f c.ms m v w' → Mh.Good c.ms n' m → n ≤ n' → Own ty w0 K c core n' { s with F := m } bx w' := by
 obtain ⟨xa, xf, xb, h1, ⟨⟨v, e2, h2⟩, g2, g3⟩, h3, h4⟩ := h.ex
 refine ⟨v, h2 w fun p hp => (h4.ok p (by simp [hp])).1, fun w' m n' ⟨v', p1, p2, p3⟩ gd hn => ?_⟩
 obtain ⟨ys, y1, y2, y3, y4⟩ := mh_boxes p1
 refine ⟨⟨xa, ys, xb, h1, ⟨⟨v', y1, y4⟩, gd, Int.le_trans g3 hn⟩, h3, Sp.perm (Sp.swap (h4.perm mid_perm) ⟨p2.os, p2.tape, p2.output, p2.size⟩ (fun k hk hm => p2.other k hk (fun e => hm ((e2 k).2 (.inl e))) (fun e => hm ((e2 k).2 (.inr e)))) y3 (fun p hp => ?_) y2) mid_perm⟩, h.tb⟩
 rcases (y1 p.1).1 (List.mem_map.2 ⟨p, hp, rfl⟩) with e | e
 ·exact .inl ((e2 _).2 (.inl e))
 ·rcases p3 _ e with e | e
  ·exact .inl ((e2 _).2 (.inr e))
  ·exact .inr e

theorem Own.bf (h : Own ty w0 K c core n s bx w) : ∃ v, Wb.Bg ty.bt ty.be 10 Wb.mc w w0.heap.size K.b c.wb s.B v ∧ ∀ w' m, Wb.PutGave ty.bt ty.be 10 Wb.mc w w0.heap.size K.b c.wb m v w' → Wb.Good c.wb m → Own ty w0 K c core n { s with B := m } bx w' := by
 obtain ⟨xa, xf, xb, h1, h2, ⟨⟨v, e2, h3⟩, g3⟩, h4⟩ := h.ex
 refine ⟨v, h3 w fun p hp => (h4.ok p (by simp [hp])).1, fun w' m ⟨v', p1, p2, p3⟩ gd => ?_⟩
 obtain ⟨ys, y1, y2, y3, y4⟩ := wb_boxes p1
 have pp : ∀ ys : Bx, (xa ++ (xf ++ (ys ++ ((K.k, Obj.cells (kcells c core K) ty.t (0, 0)) :: bx)))).Perm (ys ++ ((xa ++ xf) ++ ((K.k, Obj.cells (kcells c core K) ty.t (0, 0)) :: bx))) := fun ys => by
  have := mid_perm (xa := xa ++ xf) (xf := ys) (r := (K.k, Obj.cells (kcells c core K) ty.t (0, 0)) :: bx)
  rwa [List.append_assoc] at this
 refine ⟨⟨xa, xf, ys, h1, h2, ⟨⟨v', y1, y4⟩, gd⟩, Sp.perm (Sp.swap (h4.perm (pp xb)) ⟨p2.os, p2.tape, p2.output, p2.size⟩ (fun k hk hm => p2.other k hk (fun e => hm ((e2 k).2 (.inl e))) (fun e => hm ((e2 k).2 (.inr e)))) y3 (fun p hp => ?_) y2) (pp ys).symm⟩, h.tb⟩
 rcases (y1 p.1).1 (List.mem_map.2 ⟨p, hp, rfl⟩) with e | e
 ·exact .inl ((e2 _).2 (.inl e))
 ·rcases p3 _ e with e | e
  ·exact .inl ((e2 _).2 (.inr e))
  ·exact .inr e

end Go.Proofs.YtlfhkjjjocmpbaaGreatDoor.Cc

namespace Go.Proofs.YtlfhkjjjocmpbaaGreatDoor.Cc
open Go Go.RowKit

def lkd (A : List Ar.Wy) : List Int := (A.filter fun x => x.lk).map fun x => x.ln
def one (x : Ar.Wy) : List Int := if x.lk = true then [x.ln] else []
structure Inv (c : Cfg) (s : St) : Prop where
 gA : Ar.Good c s.A
 sA : Ar.Sized c s.A
 uF : (s.F.map Mh.Ms.ln).Nodup
 uB : (s.B.map Wb.En.ln).Nodup
 stA : ∀ x ∈ s.A, Ar.stOk x.st = true ∧ Ar.wOk c x.wd = true
 okF : ∀ m ∈ s.F, Ar.stOk m.ow = true ∧ Ar.wOk c m.wd = true
 pm : (lkd s.A).Perm (s.F.map Mh.Ms.ln)
 nFB : ∀ m ∈ s.F, ∀ b ∈ s.B, m.ln ≠ b.ln
 nAB : ∀ x ∈ s.A, Ar.tk x = true → ∀ b ∈ s.B, x.ln ≠ b.ln
variable {c : Cfg} {s : St}

theorem lkd_cons (x : Ar.Wy) (A : List Ar.Wy) : lkd (x :: A) = one x ++ lkd A := by
 unfold lkd one
 rw [List.filter_cons]
 split <;> simp_all
theorem lkd_append (A B : List Ar.Wy) : lkd (A ++ B) = lkd A ++ lkd B := by unfold lkd; rw [List.filter_append, List.map_append]
theorem two_front (a b r : List Int) : (a ++ (b ++ r)).Perm (b ++ (a ++ r)) := by
 rw [← List.append_assoc, ← List.append_assoc]
 exact List.perm_append_comm.append_right r
theorem lkd_set {A : List Ar.Wy} {i : Nat} {x : Ar.Wy} (y : Ar.Wy) (h : A[i]? = some x) : ∃ r, (lkd A).Perm (one x ++ r) ∧ (lkd (A.set i y)).Perm (one y ++ r) := by
 obtain ⟨hi, rfl⟩ := List.getElem?_eq_some_iff.1 h
 refine ⟨lkd (A.take i) ++ lkd (A.drop (i + 1)), ?_, ?_⟩
 ·have e : A = A.take i ++ A[i] :: A.drop (i + 1) := by rw [← List.drop_eq_getElem_cons hi, List.take_append_drop]
  rw [show lkd A = lkd (A.take i ++ A[i] :: A.drop (i + 1)) from congrArg lkd e, lkd_append, lkd_cons]
  exact two_front _ _ _
 ·rw [List.set_eq_take_append_cons_drop, if_pos hi, lkd_append, lkd_cons]
  exact two_front _ _ _
theorem lkd_same {A : List Ar.Wy} {i : Nat} {x y : Ar.Wy} (h : A[i]? = some x) (h1 : y.ln = x.ln) (h2 : y.lk = x.lk) : (lkd (A.set i y)).Perm (lkd A) := by
 obtain ⟨r, p1, p2⟩ := lkd_set y h
 have e : one y = one x := by unfold one; rw [h1, h2]
 rw [e] at p2
 exact p2.trans p1.symm
theorem mem_lkd {A : List Ar.Wy} {line : Int} : line ∈ lkd A ↔ ∃ x ∈ A, x.lk = true ∧ x.ln = line := by
 unfold lkd
 rw [List.mem_map]
 constructor
 ·rintro ⟨x, hx, e⟩
  rw [List.mem_filter] at hx
  exact ⟨x, hx.1, hx.2, e⟩
 ·rintro ⟨x, hx, h1, h2⟩
  exact ⟨x, List.mem_filter.2 ⟨hx, h1⟩, h2⟩
theorem tk_lk {x : Ar.Wy} (h : x.lk = true) : Ar.tk x = true := by simp [Ar.tk, h]
theorem tk_st {x : Ar.Wy} (h : x.st ≠ 0) : Ar.tk x = true := by simp [Ar.tk, h]
theorem d0_fit (c : Cfg) : Ar.wOk c d0 = true := by
 unfold Ar.wOk
 rw [List.all_eq_true]
 intro k hk
 have : k = 0 ∨ k = 1 ∨ k = 2 ∨ k = 3 ∨ k = 4 ∨ k = 5 ∨ k = 6 ∨ k = 7 := by have := List.mem_range.1 hk; omega
 rcases this with rfl | rfl | rfl | rfl | rfl | rfl | rfl | rfl <;> simp [d0, Wd.at]

theorem fnd_cases (sz : Ar.Sized c s.A) (line : Int) : (Ar.plc c s.A line = none ∧ look c s line = Ar.y0 ∧ there c s line = false) ∨
  ∃ k, Ar.plc c s.A line = some k ∧ s.A[Ar.soN c line + k]? = some (look c s line) ∧ (look c s line).ln = line ∧ Ar.tk (look c s line) = true ∧ there c s line = true ∧ k < c.wa.toNat := by
 rcases hp : Ar.plc c s.A line with _ | k
 ·left
  unfold look there
  rw [Ar.fnd_none hp]
  exact ⟨rfl, rfl, rfl⟩
 ·right
  obtain ⟨_, hk, x, hx, hl⟩ := sz.plc_some hp
  unfold look there
  rw [Ar.fnd_some hp hx]
  exact ⟨k, rfl, hx, (Ar.isL_iff.1 hl).1, (Ar.isL_iff.1 hl).2, rfl, hk⟩
theorem Inv.st (h : Inv c s) (line : Int) : Ar.stOk (look c s line).st = true ∧ Ar.wOk c (look c s line).wd = true := by
 rcases fnd_cases h.sA line with ⟨_, e, _⟩ | ⟨k, _, hx, _⟩
 ·rw [e]
  exact ⟨by decide, d0_fit c⟩
 ·exact h.stA _ (List.mem_of_getElem? hx)

theorem Inv.look_of (h : Inv c s) {i : Nat} {x : Ar.Wy} (hx : s.A[i]? = some x) (ht : Ar.tk x = true) : look c s x.ln = x ∧ there c s x.ln = true ∧ ∃ k, Ar.plc c s.A x.ln = some k ∧ i = Ar.soN c x.ln + k := by
 have hp := h.gA.plc_of h.sA hx ht
 have hi := (h.gA.ins i x hx ht).2.1
 have hx' : s.A[Ar.soN c x.ln + (i - Ar.soN c x.ln)]? = some x := by rw [show Ar.soN c x.ln + (i - Ar.soN c x.ln) = i by omega]; exact hx
 unfold look there
 rw [Ar.fnd_some hp hx']
 exact ⟨rfl, rfl, _, hp, by omega⟩
theorem Inv.locked (h : Inv c s) {line : Int} : (∃ m ∈ s.F, m.ln = line) ↔ (there c s line = true ∧ (look c s line).lk = true) := by
 have h1 : (∃ m ∈ s.F, m.ln = line) ↔ line ∈ lkd s.A := by
  rw [h.pm.mem_iff, List.mem_map]
 rw [h1, mem_lkd]
 constructor
 ·rintro ⟨x, hx, hl, rfl⟩
  obtain ⟨i, hi, rfl⟩ := List.getElem_of_mem hx
  have := h.look_of (List.getElem?_eq_getElem hi) (tk_lk hl)
  rw [this.1]
  exact ⟨this.2.1, hl⟩
 ·rintro ⟨ht, hl⟩
  rcases fnd_cases h.sA line with ⟨_, _, e⟩ | ⟨k, _, hx, hln, _⟩
  ·rw [e] at ht; cases ht
  ·exact ⟨_, List.mem_of_getElem? hx, hl, hln⟩

theorem Inv.apart (h : Inv c s) {b : Wb.En} (hb : b ∈ s.B) : look c s b.ln = Ar.y0 := by
 rcases fnd_cases h.sA b.ln with ⟨_, e, _⟩ | ⟨k, _, hx, hln, ht, _⟩
 ·exact e
 ·exact absurd hln (h.nAB _ (List.mem_of_getElem? hx) ht b hb)

theorem setA_there {line st : Int} {d : Wd} {k : Nat} {x : Ar.Wy} (hp : Ar.plc c s.A line = some k) (hx : s.A[Ar.soN c line + k]? = some x) (hs : Ar.stOk st = true) (hd : Ar.wOk c d = true) : setA c s line st d = { s with A := s.A.set (Ar.soN c line + k) (Ar.setY st d x) } := by
 unfold setA
 rw [Ar.setP_yes st d hp ⟨hs, hd⟩ hx]
theorem setA_none {line st : Int} {d : Wd} (hp : Ar.plc c s.A line = none) : setA c s line st d = s := by
 unfold setA
 rw [Ar.setP_no st d hp]
theorem Inv.setA (h : Inv c s) (line st : Int) (d : Wd) : Inv c (setA c s line st d) := by
 rcases hp : Ar.plc c s.A line with _ | k
 ·rw [setA_none hp]; exact h
 ·by_cases hs : Ar.stOk st = true ∧ Ar.wOk c d = true
  ·obtain ⟨_, hk, x, hx, hl⟩ := h.sA.plc_some hp
   have g := h.gA.setP h.sA line st d
   rw [Ar.setP_yes st d hp hs hx] at g
   rw [setA_there hp hx hs.1 hs.2]
   have hl := Ar.isL_iff.1 hl
   refine ⟨g.1, g.2, h.uF, h.uB, fun y hy => ?_, h.okF, (lkd_same (y := Ar.setY st d x) hx rfl rfl).trans h.pm, h.nFB, fun y hy ht => ?_⟩
   ·rcases List.mem_or_eq_of_mem_set hy with hy | rfl
    ·exact h.stA y hy
    ·refine ⟨hs.1, ?_⟩
     show Ar.wOk c (if st = 0 then d0 else d) = true
     split
     ·exact d0_fit c
     ·exact hs.2
   ·rcases List.mem_or_eq_of_mem_set hy with hy | rfl
    ·exact h.nAB y hy ht
    ·exact h.nAB x (List.mem_of_getElem? hx) hl.2
  ·have e : Cc.setA c s line st d = s := by
    unfold Cc.setA
    rw [Ar.setP_bad st d hp hs]
   rw [e]; exact h

end Go.Proofs.YtlfhkjjjocmpbaaGreatDoor.Cc
