/-
  A home in memory: its block, a map of its lines' entries, a memory's two blocks, the entries' pointers, and a queue; beside boxes of a law's own and blocks that are to stay. What a change of one part makes of it.
-/
import Derived.Test.YtpknfbgnclgpmaaGreatDoorHoM
import Derived.Test.YtpknfbgnclgpmaaGreatDoorQuL
import Derived.Test.YtpknfbgnclgpmaaGreatDoorLayMe
import Derived.Test.YtpknfbgnclgpmaaGreatDoorTbH
import Derived.Maps.OwnOps
import Derived.Maps.OwnSet
import Derived.Maps.Views
import Derived.Carry
namespace Go.Proofs.YtpknfbgnclgpmaaGreatDoor.Ho
open Go Go.RowKit Go.Maps

abbrev Bx := List (Nat × Obj)
abbrev ptr (k : Nat) : Value := .pointer (some ⟨k, 0, none⟩)
abbrev Holds (xs : Bx) (W : World) : Prop := ∀ p ∈ xs, W.heap[p.1]? = some p.2
theorem law3 : Keyed Tryz.prog 3 := int_keyed Tryz.underlying3

/-! Entries as a map's elements. -/
structure Ec where
  ow : Int
  c : Int
  m : Int
  p : Option Addr
  n : Nat
  cap : Nat
  al : Bool
abbrev rcells (x : Ec) : Array Value := #[.int .i64 x.ow, .int .i64 x.c, .int .i64 x.m, .slice x.p x.n x.cap, .bool x.al]
def z : Ec := ⟨0, 0, 0, none, 0, 0, false⟩
abbrev ecOf (e : Sh.En) (p : Option Addr) (cap : Nat) : Ec := ⟨e.ow, e.s.c, e.s.m, p, e.s.l.length, cap, e.s.al⟩
theorem rcells_inj {a b : Ec} (h : rcells a = rcells b) : a = b := by
  obtain ⟨a0, a1, a2, a3, a4, a5, a6⟩ := a
  obtain ⟨b0, b1, b2, b3, b4, b5, b6⟩ := b
  simp [rcells] at h
  obtain ⟨h0, h1, h2, ⟨h3, h4, h5⟩, h6⟩ := h
  subst h0 h1 h2 h3 h4 h5 h6
  rfl
open Classical in
/-- How an entry reads: as itself. -/
noncomputable def entR (v : Value) : Option (DataW Ec × List MemPlace) := if h : ∃ d : Ec, v = .agg (rcells d) then some (.held (Classical.choose h), []) else none
theorem entR_mk (d : Ec) : entR (.agg (rcells d)) = some (.held d, []) := by
  have h : ∃ d' : Ec, Value.agg (rcells d) = .agg (rcells d') := ⟨d, rfl⟩
  unfold entR
  rw [dif_pos h]
  have := Classical.choose_spec h
  rw [← rcells_inj (Value.agg.inj this)]
theorem entR_inv {v : Value} {d : Ec} {ps : List MemPlace} (h : entR v = some (.held d, ps)) : v = .agg (rcells d) := by
  unfold entR at h
  split at h
  · rename_i hd
    have e := Classical.choose_spec hd
    simp only [Option.some.injEq, Prod.mk.injEq, DataW.held.injEq] at h
    rw [e, h.1]
  · cases h
/-- A map to entries, in plain words: which lines it has, what it says of each, and how many there are at most. -/
structure Mp (D : DataW Ec) (f : Int → Bool) (g : Int → Ec) : Prop where
  tidy : Tidy D
  has : ∀ y : Int, Maps.has D (.int .i64 y) = f y
  at_ : ∀ y : Int, D.atKey (.int .i64 y) (.held z) = .held (g y)
theorem Mp.empty : Mp (.map []) (fun _ => false) (fun _ => z) := ⟨tidy_empty, fun y => by rw [has_eq]; rfl, fun _ => rfl⟩
theorem Mp.put {D : DataW Ec} {f : Int → Bool} {g : Int → Ec} (h : Mp D f g) (x : Int) (d : Ec) : Mp (D.put (.int .i64 x) (.held d)) (fun y => if y = x then true else f y) (fun y => if y = x then d else g y) := by
  have hk : ∀ z : Int, WideAt.IsKeyLit (.int .i64 z) := fun _ => trivial
  refine ⟨h.tidy.put (hk x) _, fun y => ?_, fun y => ?_⟩
  · by_cases hy : y = x
    · subst hy
      rw [has_put_same h.tidy.isMap (hk _), if_pos rfl]
    · rw [has_put_other (by simpa using hy), h.has, if_neg hy]
  · by_cases hy : y = x
    · subst hy
      rw [atKey_put_same h.tidy.isMap (hk _), if_pos rfl]
    · rw [atKey_put_other (by simpa using hy), h.at_, if_neg hy]
theorem Mp.congr {D : DataW Ec} {f f' : Int → Bool} {g g' : Int → Ec} (h : Mp D f g) (e : ∀ y, f' y = f y) (e2 : ∀ y, g' y = g y) : Mp D f' g' := ⟨h.tidy, fun y => by rw [e, h.has], fun y => by rw [e2, h.at_]⟩
abbrev isMap (w : World) (mb n : Nat) (D : DataW Ec) : Prop := w.ownsMap Tryz.prog 3 entR mb n D
theorem tight {w : World} {mb n : Nat} {D : DataW Ec} (h : isMap w mb n D) : isMap w mb (Maps.size D) D := by
  obtain ⟨es, clock, h1, h2, h3, rfl⟩ := h
  refine ⟨es, clock, h1, h2, ?_, rfl⟩
  rw [Maps.size_eq, length_sorted, List.length_map, Array.length_toList]
  exact Nat.le_refl _
/-- A block's content is a map. -/
def MapO (o : Obj) (mb : Nat) (D : DataW Ec) : Prop := ∀ W : World, W.heap[mb]? = some o → isMap W mb (Maps.size D) D
theorem MapO.of {w : World} {mb n : Nat} {D : DataW Ec} (h : isMap w mb n D) : ∃ o, w.heap[mb]? = some o ∧ MapO o mb D := by
  obtain ⟨es, clock, h1, h2⟩ := tight h
  exact ⟨_, h1, fun W hW => ⟨es, clock, hW, h2⟩⟩
theorem MapO.new (mb : Nat) : MapO (.map #[] 0) mb (.map []) := fun W hW => by
  have hm : isMap (W.alloc (.map #[] 0)) W.heap.size 0 (.map []) := World.ownsMap_made _ _ _ _
  obtain ⟨es, clock, h1, h2⟩ := hm
  rw [heap_alloc_new] at h1
  cases h1
  exact ⟨_, _, hW, h2⟩
theorem zeroE (w : World) : (zeroValue 65).run Tryz.prog w = .ok (.agg (rcells z)) w := by kernel_rfl
set_option maxRecDepth 100000 in
theorem MapO.look {o : Obj} {mb : Nat} {D : DataW Ec} {f : Int → Bool} {g : Int → Ec} {wr : World} (h : MapO o mb D) (hb : wr.heap[mb]? = some o) (hf : Mp D f g) {x : Int} (hx : (Lit.int .i64 x).wf = true) {d : Ec} (hd : g x = d) : (Instr.lookup 92 (.map (some mb)) (.int .i64 x) false).run Tryz.prog wr = .ok (.agg (rcells d)) wr := by
  obtain ⟨v, ps, hr, hv⟩ := (h wr hb).lookup law3 Tryz.underlying92 (zeroE wr) (entR_mk z) (keyOf_int_mk Tryz.underlying3 hx)
  rw [hf.at_] at hv
  rw [hr, entR_inv hv, hd]
set_option maxRecDepth 100000 in
theorem MapO.lookOk {o : Obj} {mb : Nat} {D : DataW Ec} {f : Int → Bool} {g : Int → Ec} {wr : World} (h : MapO o mb D) (hb : wr.heap[mb]? = some o) (hf : Mp D f g) {x : Int} (hx : (Lit.int .i64 x).wf = true) {d : Ec} {q : Bool} (hd : g x = d) (hq : f x = q) : (Instr.lookup 92 (.map (some mb)) (.int .i64 x) true).run Tryz.prog wr = .ok (.tuple #[.agg (rcells d), .bool q]) wr := by
  obtain ⟨v, ps, hr, hv⟩ := (h wr hb).look_ok law3 Tryz.underlying92 (zeroE wr) (entR_mk z) (keyOf_int_mk Tryz.underlying3 hx)
  rw [hf.at_] at hv
  rw [hr, entR_inv hv, hd, hf.has, hq]
set_option maxRecDepth 100000 in
/-- An entry is written. -/
theorem MapO.upd {o : Obj} {mb : Nat} {D : DataW Ec} {f : Int → Bool} {g : Int → Ec} {wr : World} (h : MapO o mb D) (hb : wr.heap[mb]? = some o) (hf : Mp D f g) (hs : Maps.size D < 5000) {x : Int} (hx : (Lit.int .i64 x).wf = true) (d : Ec) :
    ∃ w' o' D', (Instr.mapUpdate 92 (.map (some mb)) (.int .i64 x) (.agg (rcells d))).run Tryz.prog wr = .ok () w' ∧ w'.heap[mb]? = some o' ∧ MapO o' mb D' ∧ Mp D' (fun y => if y = x then true else f y) (fun y => if y = x then d else g y) ∧ wr.grownBy w' (some mb) ∧ (Maps.size D' = if f x = true then Maps.size D else Maps.size D + 1) := by
  obtain ⟨w', h1, h2, h3⟩ := (h wr hb).update law3 Tryz.underlying92 (by unfold maxLen; omega) (keyOf_int_mk Tryz.underlying3 hx) (entR_mk d)
  obtain ⟨o', h4, h5⟩ := MapO.of h2
  exact ⟨w', o', _, h1, h4, h5, hf.put x d, h3, by rw [Maps.size_put hf.tidy, hf.has]⟩

/-! Where an entry's pointers lie: in boxes that stay. -/
def NumsAt (P : Bx) (p : Option Addr) (l : List Int) : Prop := ∀ W, Holds P W → Sh.NumsIn W p l
theorem NumsAt.more {P P' : Bx} {p : Option Addr} {l : List Int} (h : NumsAt P p l) (hs : ∀ x ∈ P, x ∈ P') : NumsAt P' p l := fun W hW => h W fun x hx => hW x (hs x hx)
theorem NumsAt.nil (P : Bx) (p : Option Addr) : NumsAt P p [] := fun _ _ => Sh.NumsIn.nil _ _
/-- Numbers lie in one block: it alone is wanted. -/
theorem nums_one {w : World} {p : Option Addr} {l : List Int} (h : Sh.NumsIn w p l) : l = [] ∨ ∃ k o, w.heap[k]? = some o ∧ (∃ off, p = some ⟨k, off, none⟩) ∧ NumsAt [(k, o)] p l := by
  by_cases hl : l = []
  · exact .inl hl
  · right
    have h0 : 0 < l.length := by cases l with | nil => exact absurd rfl hl | cons x l => simp
    obtain ⟨k, off, rfl, hk, -⟩ := h 0 h0
    refine ⟨k, w.heap[k], Array.getElem?_eq_getElem hk, ⟨off, rfl⟩, fun W hW j hj => ?_⟩
    obtain ⟨k', off', e, -, hc⟩ := h j hj
    cases e
    have e1 := hW _ (List.mem_singleton.2 rfl)
    exact ⟨k, off, rfl, (Array.getElem?_eq_some_iff.1 e1).1, (World.cell?_of_block (a := ⟨k, off + j, none⟩) (e1.trans (Array.getElem?_eq_getElem hk).symm)).trans hc⟩

/-- Where a home's block, its map, its memory, the memory's words and its queue are. -/
structure Kb where
  h : Nat
  m : Nat
  b : Nat
  g : Nat
  q : Nat
abbrev hcells (c : Cfg) (n : Int) (K : Kb) (od : Int) : Array Value := #[.int .i64 c.co, .int .i64 c.ho, .int .i64 c.se, .int .i64 c.wa, .int .i64 c.wo, .int .i64 c.li, .int .i64 c.po, .int .i64 c.ms, .int .i64 c.bu, .int .i64 c.wb, .int .i64 c.r0, .int .i64 c.r1, .int .i64 c.r2, .int .i64 n, .map (some K.m), ptr K.b, ptr K.q, .int .i64 od]
/-- What a map's block and the pointers' boxes tell of lines. -/
structure Ents (f : Int → Bool) (E : Int → Sh.En) (o : Obj) (mb : Nat) (P : Bx) (D : DataW Ec) (g : Int → Ec) : Prop where
  mo : MapO o mb D
  mp : Mp D f g
  sz : Maps.size D ≤ 1024
  yes : ∀ y, f y = true → ∃ p cap, g y = ecOf (E y) p cap ∧ NumsAt P p (E y).s.l
  no : ∀ y, f y = false → g y = z
/-- A home's own boxes. -/
abbrev hb (c : Cfg) (n : Int) (K : Kb) (s : Hs) (o : Obj) (P : Bx) : Bx := (K.h, .cells (hcells c n K s.od) 95 (0, 0)) :: (K.m, o) :: (K.b, .cells (Me.mcells c K.g s.L.length) 138 (0, 0)) :: (K.g, .cells (Me.icells s.L).toArray 3 (0, 0)) :: P
/-- A law's own home. -/
structure Own (w0 : World) (K : Kb) (c : Cfg) (n : Int) (s : Hs) (X : Nat → Obj → Prop) (bx : Bx) (wr : World) : Prop where
  ex : ∃ o P D g, Ents (ownB c n) s.E o K.m P D g ∧ Qu.OwnP w0 K.q c.bu s.Q X (hb c n K s o P ++ bx) wr
  gd : Good c n s
  sz : Me.Sized c s.L
  fits : c.fits
  tb : Tb w0
variable {w0 wr wr' : World} {K : Kb} {c : Cfg} {n : Int} {s : Hs} {X : Nat → Obj → Prop} {bx cx : Bx}
/-- The boxes alone change. -/
theorem Own.boxed (h : Own w0 K c n s X bx wr) (f : ∀ ys, Qu.OwnP w0 K.q c.bu s.Q X (ys ++ bx) wr → Qu.OwnP w0 K.q c.bu s.Q X (ys ++ cx) wr') : Own w0 K c n s X cx wr' := by
  obtain ⟨o, P, D, g, h1, h2⟩ := h.ex
  exact ⟨⟨o, P, D, g, h1, f _ h2⟩, h.gd, h.sz, h.fits, h.tb⟩
theorem Own.step (h : Own w0 K c n s X bx wr) (hb : Below wr.heap.size wr wr') : Own w0 K c n s X bx wr' := h.boxed fun _ q => q.step hb
theorem Own.drew (h : Own w0 K c n s X bx wr) : Own w0 K c n s X bx wr.drew := h.boxed fun _ q => q.drew
theorem Own.drewN (h : Own w0 K c n s X bx wr) (k : Nat) : Own w0 K c n s X bx (wr.drewN k) := h.boxed fun _ q => q.drewN k
theorem Own.add (h : Own w0 K c n s X bx wr) (o : Obj) : Own w0 K c n s X ((wr.heap.size, o) :: bx) (wr.alloc o) := h.boxed fun _ q => (q.add o).perm List.perm_middle.symm
theorem Own.setRow {k : Nat} {cs cs' : Array Value} {t : TypeId} (h : Own w0 K c n s X ((k, .cells cs t (0, 0)) :: bx) wr) : Own w0 K c n s X ((k, .cells cs' t (0, 0)) :: bx) (wr.setRow k cs') := h.boxed fun _ q => (q.perm List.perm_middle).setRow.perm List.perm_middle.symm
theorem Own.drop {p : Nat × Obj} (h : Own w0 K c n s X (p :: bx) wr) : Own w0 K c n s X bx wr := h.boxed fun _ q => (q.perm List.perm_middle).drop
theorem Own.perm (h : Own w0 K c n s X bx wr) (hp : bx.Perm cx) : Own w0 K c n s X cx wr := h.boxed fun ys q => q.perm (hp.append_left ys)
theorem Own.addRow (h : Own w0 K c n s X bx wr) (old cs : Array Value) (t : TypeId) : Own w0 K c n s X ((wr.heap.size, .cells cs t (0, 0)) :: bx) ((wr.alloc (.cells old t)).setRow wr.heap.size cs) := (h.add (.cells old t)).setRow
theorem Own.add2 (h : Own w0 K c n s X bx wr) (o1 o2 : Obj) : Own w0 K c n s X ((wr.heap.size + 1, o2) :: (wr.heap.size, o1) :: bx) ((wr.alloc o1).alloc o2) := by
  have := (h.add o1).add o2
  rwa [show (wr.alloc o1).heap.size = wr.heap.size + 1 by simp] at this
theorem Own.bl (h : Own w0 K c n s X bx wr) : Below w0.heap.size w0 wr := by obtain ⟨o, P, D, g, h1, h2⟩ := h.ex; exact h2.bl
theorem Own.tbs (h : Own w0 K c n s X bx wr) : Tb wr := h.tb.keeps h.bl
theorem Own.box (h : Own w0 K c n s X bx wr) {k : Nat} {o : Obj} (hm : (k, o) ∈ bx) : wr.heap[k]? = some o := by obtain ⟨o', P, D, g, h1, h2⟩ := h.ex; exact h2.box (List.mem_append_right _ hm)
theorem Own.cells (h : Own w0 K c n s X bx wr) {k : Nat} {cs : Array Value} {t : TypeId} (hm : (k, .cells cs t (0, 0)) ∈ bx) : ∀ i, wr.cell? ⟨k, i, none⟩ = cs[i]? := Qu.blk_cell (h.box hm)
theorem Own.kept (h : Own w0 K c n s X bx wr) {k : Nat} {o : Obj} (hk : X k o) : wr.heap[k]? = some o := by obtain ⟨o', P, D, g, h1, h2⟩ := h.ex; exact h2.kept hk
theorem Own.hblk (h : Own w0 K c n s X bx wr) : wr.heap[K.h]? = some (.cells (hcells c n K s.od) 95 (0, 0)) := by obtain ⟨o', P, D, g, h1, h2⟩ := h.ex; exact h2.box (by simp)
theorem Own.hc (h : Own w0 K c n s X bx wr) : ∀ i, wr.cell? ⟨K.h, i, none⟩ = (hcells c n K s.od)[i]? := Qu.blk_cell h.hblk
theorem Own.lt {k : Nat} {o : Obj} (h : Own w0 K c n s X bx wr) (hm : (k, o) ∈ bx) : k < wr.heap.size := Qu.lt_of_block (h.box hm)
/-- The memory alone, and what a change of it makes. -/
theorem Own.mm (h : Own w0 K c n s X bx wr) : Me.Mm wr K.b K.g c s.L := by
  obtain ⟨o, P, D, g, h1, l0, v, h2, h3, h4, h5⟩ := h.ex
  have hbb := (h5.at_ (K.b, .cells (Me.mcells c K.g s.L.length) 138 (0, 0)) (by simp)).1
  have hg := (h5.at_ (K.g, .cells (Me.icells s.L).toArray 3 (0, 0)) (by simp)).1
  refine ⟨hbb, hg, fun e => ?_, h.sz, h.fits⟩
  have := h5.nd
  simp only [hb, List.cons_append, List.map_cons, List.nodup_cons, List.mem_cons, not_or] at this
  exact this.2.2.1.1 e
/-- The queue alone, and what a change of it makes. -/
theorem Own.qu (h : Own w0 K c n s X bx wr) : ∃ ys, Qu.OwnP w0 K.q c.bu s.Q X ys wr ∧ ∀ l' w', Qu.OwnP w0 K.q c.bu l' X ys w' → (∀ x ∈ l', Rq c n x.m) → (∀ x ∈ l', ∀ m ∈ x.l, Sd n x.m.ln m) → Own w0 K c n { s with Q := l' } X bx w' := by
  obtain ⟨o, P, D, g, h1, h2⟩ := h.ex
  exact ⟨_, h2, fun l' w' hq hr hs => ⟨⟨o, P, D, g, h1, hq⟩, ⟨h.gd.ok, h.gd.n0, h.gd.n1, hq.gd, hr, hs, h.gd.en⟩, h.sz, h.fits, h.tb⟩⟩
/-- A box within others turns. -/
theorem turn_mid {q : Nat} {b : Int} {l : List Qu.En} {A B : Bx} {k : Nat} {o o' : Obj} (h : Qu.OwnP w0 q b l X (A ++ (k, o) :: B) wr) (hg : wr.grownBy wr' (some k)) (ho : wr'.heap[k]? = some o') : Qu.OwnP w0 q b l X (A ++ (k, o') :: B) wr' :=
  ((h.perm List.perm_middle).goes (Qu.mv_turn hg ho)).perm List.perm_middle.symm
theorem grown_of {k : Nat} (h : Me.TurnG k wr wr') : wr.grownBy wr' (some k) := ⟨h.os, h.tape, h.output, h.size, fun i hi hne => h.other i hi fun e => hne (by rw [e])⟩
/-- Words are written. -/
theorem Own.written {M : List Int} {r : Value} {e : Ending} (h : Own w0 K c n s X bx wr) (hg : Me.GaveM wr K.b K.g c r M e wr') : Own w0 K c n { s with L := M } X bx wr' := by
  obtain ⟨o, P, D, g, h1, h2⟩ := h.ex
  have hl : M.length = s.L.length := by have h3 := hg.mm.sz.2; have h4 := h.sz.2; omega
  refine ⟨⟨o, P, D, g, h1, ?_⟩, ⟨h.gd.ok, h.gd.n0, h.gd.n1, h.gd.q, h.gd.rq, h.gd.sd, h.gd.en⟩, hg.mm.sz, h.fits, h.tb⟩
  have h3 := turn_mid (A := [(K.h, .cells (hcells c n K s.od) 95 (0, 0)), (K.m, o), (K.b, .cells (Me.mcells c K.g s.L.length) 138 (0, 0))]) (B := P ++ bx) (o' := .cells (Me.icells M).toArray 3 (0, 0)) (by simpa using h2) (grown_of hg.turn) hg.mm.hg
  simpa [hb, hl] using h3
/-- One request more was odd. -/
theorem Own.odd (h : Own w0 K c n s X bx wr) (v : Int) : Own w0 K c n { s with od := v } X bx (wr.setCell ⟨K.h, 17, none⟩ (.int .i64 v)) := by
  obtain ⟨o, P, D, g, h1, h2⟩ := h.ex
  refine ⟨⟨o, P, D, g, h1, ?_⟩, ⟨h.gd.ok, h.gd.n0, h.gd.n1, h.gd.q, h.gd.rq, h.gd.sd, h.gd.en⟩, h.sz, h.fits, h.tb⟩
  have hh := h.hblk
  have e := heap_setCell_same wr K.h 17 _ _ (.int .i64 v) hh
  have hg : wr.grownBy (wr.setCell ⟨K.h, 17, none⟩ (.int .i64 v)) (some K.h) := ⟨rfl, rfl, rfl, by simp [World.setCell], fun i hi hne => heap_setCell_other _ _ _ _ (by simp only; intro e; exact hne (by rw [e]))⟩
  have h3 := turn_mid (A := []) (o' := .cells (hcells c n K v) 95 (0, 0)) (by simpa using h2) hg (by rw [e]; rfl)
  simpa [hb] using h3
/-- A box that a call has made. -/
theorem mv_gain {k : Nat} {o : Obj} (hb : Below wr.heap.size wr wr') (hk : wr.heap.size ≤ k) (ho : wr'.heap[k]? = some o) : Qu.Mv w0 bx wr ((k, o) :: bx) wr' := fun F X h => by
  obtain ⟨h1, h2, h3⟩ := Qu.mv_step (w0 := w0) (bx := bx) hb F X h
  refine ⟨⟨h1.bl, fun p hp => ?_, ?_, h1.ft, fun j oj hj => ⟨(h1.kp j oj hj).1, (h1.kp j oj hj).2.1, fun p hp => ?_⟩⟩, h2, h3⟩
  · rcases List.mem_cons.1 hp with rfl | hp
    · exact ⟨ho, Nat.le_trans h.bl.size hk, fun e => by have := (h.ft _ e).2; simp only at this; omega⟩
    · exact h1.at_ p hp
  · rw [List.map_cons, List.nodup_cons]
    refine ⟨fun hm => ?_, h.nd⟩
    obtain ⟨p, hp, e⟩ := List.mem_map.1 hm
    have := Qu.lt_of_block (h.at_ p hp).1
    simp only at e
    omega
  · rcases List.mem_cons.1 hp with rfl | hp
    · have := Qu.lt_of_block (h.kp j oj hj).1
      simp only
      omega
    · exact (h1.kp j oj hj).2.2 p hp
theorem Own.gain {k : Nat} {o : Obj} (h : Own w0 K c n s X bx wr) (hb : Below wr.heap.size wr wr') (hk : wr.heap.size ≤ k) (ho : wr'.heap[k]? = some o) : Own w0 K c n s X ((k, o) :: bx) wr' := h.boxed fun _ q => (q.goes (mv_gain hb hk ho)).perm List.perm_middle.symm
/-- Numbers that a call has made, as boxes. -/
theorem Own.gains {p : Option Addr} {l : List Int} (h : Own w0 K c n s X bx wr) (hb : Below wr.heap.size wr wr') (hn : Sh.NumsIn wr' p l) (hf : l ≠ [] → ∀ a, p = some a → wr.heap.size ≤ a.block) : ∃ zs, Own w0 K c n s X (zs ++ bx) wr' ∧ NumsAt zs p l := by
  rcases nums_one hn with rfl | ⟨k, o, hk, ⟨off, rfl⟩, hat⟩
  · exact ⟨[], h.step hb, NumsAt.nil _ _⟩
  · by_cases hl : l = []
    · subst hl
      exact ⟨[], h.step hb, NumsAt.nil _ _⟩
    · exact ⟨[(k, o)], h.gain hb (hf hl _ rfl) hk, hat⟩
/-- What a line's entry is. -/
theorem Own.ent (h : Own w0 K c n s X bx wr) (y : Int) (hy : ownB c n y = true) (hw : (Lit.int .i64 y).wf = true) : ∃ p cap, (∀ q, (Instr.lookup 92 (.map (some K.m)) (.int .i64 y) q).run Tryz.prog wr = .ok (if q = true then .tuple #[Sh.ev (s.E y) p cap, .bool true] else Sh.ev (s.E y) p cap) wr) ∧ Sh.NumsIn wr p (s.E y).s.l := by
  obtain ⟨o, P, D, g, h1, h2⟩ := h.ex
  obtain ⟨p, cap, e1, e2⟩ := h1.yes y hy
  have hb : wr.heap[K.m]? = some o := h2.box (by simp)
  refine ⟨p, cap, fun q => ?_, e2 wr fun x hx => h2.box (by simp [hx])⟩
  cases q
  · exact h1.mo.look hb h1.mp hw e1
  · exact h1.mo.lookOk hb h1.mp hw e1 hy
theorem Own.noent (h : Own w0 K c n s X bx wr) (y : Int) (hy : ownB c n y = false) (hw : (Lit.int .i64 y).wf = true) : (Instr.lookup 92 (.map (some K.m)) (.int .i64 y) true).run Tryz.prog wr = .ok (.tuple #[.agg (rcells z), .bool false]) wr := by
  obtain ⟨o, P, D, g, h1, h2⟩ := h.ex
  have hb : wr.heap[K.m]? = some o := h2.box (by simp)
  exact h1.mo.lookOk hb h1.mp hw (h1.no y hy) hy
/-- An own line's entry is another one: its pointers lie in boxes. -/
theorem Own.entered {zs : Bx} (h : Own w0 K c n s X (zs ++ bx) wr) {y : Int} (hy : ownB c n y = true) (e : Sh.En) (he : Et c e) (p : Option Addr) (cap : Nat) (hn : NumsAt zs p e.s.l) :
    ∃ w', (Instr.mapUpdate 92 (.map (some K.m)) (.int .i64 y) (Sh.ev e p cap)).run Tryz.prog wr = .ok () w' ∧ Own w0 K c n { s with E := upd s.E y e } X bx w' := by
  obtain ⟨o, P, D, g, h1, h2⟩ := h.ex
  have hb : wr.heap[K.m]? = some o := h2.box (by simp)
  obtain ⟨w', o', D', k1, k2, k3, k4, k5, k6⟩ := h1.mo.upd hb h1.mp (by have := h1.sz; omega) (own_wf h.gd.ok hy) (ecOf e p cap)
  rw [hy, if_pos rfl] at k6
  have h3 := turn_mid (A := [(K.h, .cells (hcells c n K s.od) 95 (0, 0))]) (by simpa using h2) k5 k2
  refine ⟨w', k1, ⟨o', P ++ zs, D', _, ⟨k3, k4.congr (fun y' => ?_) (fun _ => rfl), by rw [k6]; exact h1.sz, fun y' hy' => ?_, fun y' hy' => ?_⟩, ?_⟩, ⟨h.gd.ok, h.gd.n0, h.gd.n1, h.gd.q, h.gd.rq, h.gd.sd, fun y' hy' => ?_⟩, h.sz, h.fits, h.tb⟩
  · by_cases e1 : y' = y
    · rw [if_pos e1, e1, hy]
    · rw [if_neg e1]
  · by_cases e1 : y' = y
    · subst e1
      refine ⟨p, cap, by simp [upd], ?_⟩
      simp only [upd, if_true]
      exact hn.more fun x hx => List.mem_append_right _ hx
    · obtain ⟨p', cap', q1, q2⟩ := h1.yes y' hy'
      refine ⟨p', cap', by simp [upd, e1, q1], ?_⟩
      simp only [upd, e1, if_false]
      exact q2.more fun x hx => List.mem_append_left _ hx
  · by_cases e1 : y' = y
    · subst e1; rw [hy] at hy'; cases hy'
    · simp only [e1, if_false]
      exact h1.no y' hy'
  · simpa [hb] using h3
  · show Et c (if y' = y then e else s.E y')
    split
    · exact he
    · exact h.gd.en y' hy'

end Go.Proofs.YtpknfbgnclgpmaaGreatDoor.Ho
