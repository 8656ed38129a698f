/-
  What the laws of layer 7 carry from call to call.
-/
import Derived.Test.YtdggjbaapnkcgaaNtJ
import Derived.Test.YtdggjbaapnkcgaaNtOpen
import Derived.Test.YtdggjbaapnkcgaaMsP
namespace Go.Proofs.Ytdggjbaapnkcgaa
open Go Go.RowKit Go.Sort

theorem wpList_load_at {P : Program} {ops : Array Oper} {rest : List Oper} {op : Oper} {a : Act} {w : World} {Q : Exit → Act → World → Prop} (hgd : op.guard = none) (ty : TypeId) (x : Operand) (ho : op.op = .load ty x)
    (b o : Nat) (hx : a.eval x = .pointer (some ⟨b, o, none⟩)) (cs : Array Value) (d : TypeDesc) (hc : w.rangeAt b o cs.toList)
    (hu : P.underlying ty = some d) (hd : d.isRow = true) (hi : (P.info? ty).map (·.size) = some cs.toList.length)
    (h : wpList P ops Q rest (a.put op.dst (.agg cs)) w) : wpList P ops Q (op :: rest) a w :=
  wpList_load_mid hgd ty x ho b o hx cs.toList d hc hu hd hi (by simpa using h)

/-- What a law answers. -/
def Holds7 (w : World) (e : Ending) (w' : World) : Prop := e = .returned (.bool true) ∧ Below w.heap.size w w'
/-- Each network has messages of its kinds alone, which may be. -/
def Good (c : Cfg) (l : Nat → List Msg) : Prop := ∀ i, i < 3 → ∀ m ∈ l i, net m.kd = i ∧ mayM c m = true
theorem good_nil (c : Cfg) : Good c (fun _ => []) := fun i _ m hm => by simp at hm
theorem Good.send {c : Cfg} {l : Nat → List Msg} (h : Good c l) {j : Nat} {m : Msg} (hn : net m.kd = j) (hm : mayM c m = true) : Good c (upd l j (l j ++ [m])) := fun i hi x hx => by
  by_cases e : i = j
  · subst e
    rw [upd_same] at hx
    rcases List.mem_append.1 hx with hx | hx
    · exact h i hi x hx
    · rw [List.mem_singleton.1 hx]
      exact ⟨hn, hm⟩
  · rw [upd_other _ _ _ _ e] at hx
    exact h i hi x hx
theorem Good.take {c : Cfg} {l : Nat → List Msg} (h : Good c l) (j i : Nat) : Good c (upd l j ((l j).eraseIdx i)) := fun q hq x hx => by
  by_cases e : q = j
  · subst e
    rw [upd_same] at hx
    exact h q hq x (List.mem_of_mem_eraseIdx hx)
  · rw [upd_other _ _ _ _ e] at hx
    exact h q hq x hx

theorem net_cases {c : Cfg} {m : Msg} (h : mayM c m = true) : ∃ j : Nat, j < 3 ∧ net m.kd = j := by
  obtain ⟨_, _, hk, _, _⟩ := may_all h
  have := isKind_of hk
  unfold net
  rw [if_pos hk]
  by_cases h1 : m.kd ≤ 3
  · exact ⟨0, by omega, by rw [if_pos h1]; rfl⟩
  · rw [if_neg h1]
    by_cases h2 : m.kd ≤ 6
    · exact ⟨1, by omega, by rw [if_pos h2]; rfl⟩
    · exact ⟨2, by omega, by rw [if_neg h2]; rfl⟩

/-- A net, the sizes' box, and whatever else there was. -/
structure Hd (w : World) (B n : Nat) (c : Cfg) (b : Nat → Nat) (l : Nat → List Msg) (v : Nat → Value) (wr : World) : Prop where
  net : NetP wr B n c b l v
  cfg : ∀ o, wr.cell? ⟨w.heap.size, o, none⟩ = (ccells c)[o]?
  lt : w.heap.size < B
  size : B ≤ wr.heap.size
  below : Below w.heap.size w wr
variable {w wr w' : World} {B n : Nat} {c : Cfg} {b : Nat → Nat} {l l' : Nat → List Msg} {v : Nat → Value}
theorem Hd.step (h : Hd w B n c b l v wr) (hb : Below wr.heap.size wr w') : Hd w B n c b l v w' where
  net := h.net.below hb
  cfg := fun o => (hb.cell (p := ⟨w.heap.size, o, none⟩) (Nat.lt_of_lt_of_le h.lt h.size)).trans (h.cfg o)
  lt := h.lt
  size := Nat.le_trans h.size hb.size
  below := bstep h.below hb
theorem Hd.drew (h : Hd w B n c b l v wr) : Hd w B n c b l v wr.drew := h.step ⟨rfl, rfl, rfl, Nat.le_refl _, fun _ _ => rfl⟩
theorem Hd.gave (h : Hd w B n c b l v wr) (hg : NetGave wr B n c b l' v w') : ∃ v', Hd w B n c b l' v' w' := by
  have hb := hg.below h.net h.size
  obtain ⟨u, h1, ht, _⟩ := hg
  exact ⟨u, h1, fun o => (hb.cell (p := ⟨w.heap.size, o, none⟩) h.lt).trans (h.cfg o), h.lt, Nat.le_trans h.size hb.size, h.below.trans (hb.mono (Nat.le_of_lt h.lt))⟩
/-- A block's cells. -/
structure Cl (g : Nat) (A : Array Value) (wr : World) : Prop where
  c : ∀ o, wr.cell? ⟨g, o, none⟩ = A[o]?
  lt : g < wr.heap.size
theorem Cl.new {t : TypeId} {A : Array Value} (wr : World) : Cl wr.heap.size A (wr.alloc (.cells A t)) := ⟨fun o => blk_cell (heap_alloc_new wr _) o, by simp⟩
theorem Cl.step {g : Nat} {A : Array Value} (h : Cl g A wr) (hb : Below wr.heap.size wr w') : Cl g A w' := ⟨fun o => (hb.cell (p := ⟨g, o, none⟩) h.lt).trans (h.c o), Nat.lt_of_lt_of_le h.lt hb.size⟩
/-- It stands beside a net that changes. -/
theorem Cl.gave {g : Nat} {A : Array Value} {W0 : World} (h : Cl g A wr) (h0 : NetP W0 B n c b l v) (hg : NetGave wr B n c b l' v w') (hlo : W0.heap.size ≤ g) : Cl g A w' :=
  ⟨fun o => (World.cell?_of_block (hg.aside h0 g hlo h.lt)).trans (h.c o), by obtain ⟨u, _, ht, _⟩ := hg; exact Nat.lt_of_lt_of_le h.lt ht.size⟩

/-- Where a slice's messages lie. -/
def MgsIn (w : World) (p : Option Addr) (l : List Msg) : Prop := ∀ i x, l[i]? = some x → ∃ k, p = some ⟨k, 0, none⟩ ∧ k < w.heap.size ∧ w.rangeAt k (i * 15) (mg x)
theorem MgsIn.step {w w' : World} {p : Option Addr} {l : List Msg} (h : MgsIn w p l) (hb : Below w.heap.size w w') : MgsIn w' p l := fun i x hx => by
  obtain ⟨k, e, hk, hr⟩ := h i x hx
  exact ⟨k, e, Nat.lt_of_lt_of_le hk hb.size, fun j v hv => (hb.cell (p := ⟨k, i * 15 + j, none⟩) hk).trans (hr j v hv)⟩
theorem own_mgs {w : World} {base : Nat} {u : Value} {l : List Msg} (h : w.ownsRow base 37 15 u l.length (cellsOf mg l)) : ∃ p cap, u = .slice p l.length cap ∧ MgsIn w p l := by
  rcases h.2 with ⟨rfl, h0⟩ | ⟨k, cap, cur, rfl, _, hk, _⟩
  · refine ⟨none, 0, by rw [h0], fun i x hx => ?_⟩
    have := (List.getElem?_eq_some_iff.1 hx).1
    omega
  · exact ⟨_, cap, rfl, fun i x hx => ⟨k, rfl, lt_of_block hk, mg_range h hx⟩⟩
/-- A list of a network, as a walk wants it. -/
theorem nlistN (h : NetP wr B n c b l v) (j : Nat) (k : Int) (hkj : k = j) (hj : j < 3) (N : Nat) (hN : (l j).length = N) :
    Calls Try.prog 17 #[.pointer (some ⟨n, 0, none⟩), .int .i64 k] wr fun e w' => (∃ p cap, e = .returned (.slice p N cap) ∧ MgsIn w' p (l j)) ∧ Below wr.heap.size wr w' := by
  subst hN
  refine (nlist_yes h j k hkj hj).mono fun e w' ⟨u, he, ho, hb⟩ => ?_
  obtain ⟨p, cap, rfl, hm⟩ := own_mgs ho
  exact ⟨⟨p, cap, he, hm⟩, hb⟩

end Go.Proofs.Ytdggjbaapnkcgaa
