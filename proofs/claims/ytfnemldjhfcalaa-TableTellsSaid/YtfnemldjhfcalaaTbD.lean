/-
  What is laid then, but for a write: leave, share.
-/
import Derived.Test.YtfnemldjhfcalaaTbC
import Derived.Deep.MidRow
import Derived.Lib.SliceRun
namespace Go.Proofs.Ytfnemldjhfcalaa
open Go Go.RowKit Go.Sort

/-! A store into a block that is known whole. -/
/-- Nothing has changed but one block, which is this then. -/
structure Stb (b : Nat) (new : Array Value) (t : TypeId) (w w' : World) : Prop where
  blk : w'.heap[b]? = some (.cells new t (0, 0))
  other : ∀ k, k ≠ b → w'.heap[k]? = w.heap[k]?
  os : w'.os = w.os
  tape : w'.tape = w.tape
  output : w'.output = w.output
  size : w'.heap.size = w.heap.size
theorem Stb.one {w : World} {b : Nat} {A : Array Value} {t : TypeId} (h : w.heap[b]? = some (.cells A t (0, 0))) (i : Nat) (u : Value) : Stb b (A.setIfInBounds i u) t w (w.setCell ⟨b, i, none⟩ u) :=
  ⟨heap_setCell_same w b i _ _ u h, fun k hk => heap_setCell_other _ _ _ _ hk, rfl, rfl, rfl, by simp⟩
theorem Stb.trans {w w1 w2 : World} {b : Nat} {A B : Array Value} {t : TypeId} (h : Stb b A t w w1) (k : Stb b B t w1 w2) : Stb b B t w w2 :=
  ⟨k.blk, fun i hi => (k.other i hi).trans (h.other i hi), k.os.trans h.os, k.tape.trans h.tape, k.output.trans h.output, k.size.trans h.size⟩
theorem Stb.below {w w' : World} {b : Nat} {A : Array Value} {t : TypeId} (h : Stb b A t w w') : Below b w w' := ⟨h.os, h.tape, h.output, by rw [h.size]; exact Nat.le_refl _, fun k hk => h.other k (by omega)⟩
theorem stb_many (b : Nat) (t : TypeId) : ∀ (vs : List Value) (o : Nat) (cur : Array Value) (w : World), w.heap[b]? = some (.cells cur t (0, 0)) → ∃ new, Stb b new t w (w.setCells b o vs) ∧ new.size = cur.size ∧ ∀ i, i < cur.size → new[i]? = if o ≤ i ∧ i < o + vs.length then vs[i - o]? else cur[i]?
  | [], o, cur, w, h => ⟨cur, ⟨h, fun _ _ => rfl, rfl, rfl, rfl, rfl⟩, rfl, fun i _ => by rw [if_neg (by simp)]⟩
  | v :: r, o, cur, w, h => by
    have h1 := Stb.one h o v
    obtain ⟨new, h2, h3, h4⟩ := stb_many b t r (o + 1) _ _ h1.blk
    refine ⟨new, h1.trans h2, by rw [h3]; simp, fun i hi => ?_⟩
    rw [h4 i (by simpa using hi)]
    by_cases hc : o + 1 ≤ i ∧ i < o + 1 + r.length
    · rw [if_pos hc, if_pos (by simp; omega), show i - o = (i - (o + 1)) + 1 by omega, List.getElem?_cons_succ]
    · rw [if_neg hc]
      by_cases ho : i = o
      · subst ho
        rw [if_pos (by simp), Nat.sub_self, List.getElem?_cons_zero, Array.getElem?_setIfInBounds_self_of_lt hi]
      · rw [if_neg (by simp; omega), Array.getElem?_setIfInBounds_ne (by omega)]
theorem stb_new {w : World} {b o : Nat} {cur new : Array Value} {vs : List Value} {t : TypeId} (h : w.heap[b]? = some (.cells cur t (0, 0))) (hs : new.size = cur.size) (hn : ∀ i, i < cur.size → new[i]? = if o ≤ i ∧ i < o + vs.length then vs[i - o]? else cur[i]?) :
    Stb b new t w (w.setCells b o vs) := by
  obtain ⟨n2, h1, h2, h3⟩ := stb_many b t vs o cur w h
  have e : new = n2 := by
    refine Array.ext (by omega) fun i h4 h5 => ?_
    have := (hn i (by omega)).trans (h3 i (by omega)).symm
    rw [Array.getElem?_eq_getElem h4, Array.getElem?_eq_getElem h5] at this
    exact Option.some.inj this
  rw [e]
  exact h1
theorem there_blk {w : World} {b o n : Nat} {cur : Array Value} {t : TypeId} (h : w.heap[b]? = some (.cells cur t (0, 0))) (hl : o + n ≤ cur.size) : w.there b o n := fun j hj =>
  ⟨by rw [blk_cell h, Array.getElem?_eq_getElem (by omega)]; rfl, blk_free h _⟩
theorem wp_store_blk {P : Program} {op : Oper} {a : Act} {w : World} {K : Act → World → Prop} {Q : Exit → Act → World → Prop} (ty : TypeId) (x y : Operand) (ho : op.op = .store ty x y)
    (b o : Nat) (cells : Array Value) (hx : a.eval x = .pointer (some ⟨b, o, none⟩)) (hy : a.eval y = .agg cells) (t : TypeId) (cur new : Array Value) (hg : w.heap[b]? = some (.cells cur t (0, 0)))
    (hl : o + cells.size ≤ cur.size) (hs : new.size = cur.size) (hn : ∀ i, i < cur.size → new[i]? = if o ≤ i ∧ i < o + cells.toList.length then cells.toList[i - o]? else cur[i]?) (hi : (P.info? ty).map (·.size) = some cells.size) (h1 : cells.all (·.oneCell') = true)
    (h : ∀ w', Stb b new t w w' → K (a.put op.dst undef) w') : op.wp P a w K Q :=
  wp_store_mid ty x y ho b o cells hx hy (there_blk hg hl) hi h1 (h _ (stb_new hg hs hn))
theorem wpList_store_blk {P : Program} {ops : Array Oper} {rest : List Oper} {op : Oper} {a : Act} {w : World} {Q : Exit → Act → World → Prop} (hgd : op.guard = none) (ty : TypeId) (x y : Operand) (ho : op.op = .store ty x y)
    (b o : Nat) (cells : Array Value) (hx : a.eval x = .pointer (some ⟨b, o, none⟩)) (hy : a.eval y = .agg cells) (t : TypeId) (cur new : Array Value) (hg : w.heap[b]? = some (.cells cur t (0, 0)))
    (hl : o + cells.size ≤ cur.size) (hs : new.size = cur.size) (hn : ∀ i, i < cur.size → new[i]? = if o ≤ i ∧ i < o + cells.toList.length then cells.toList[i - o]? else cur[i]?) (hi : (P.info? ty).map (·.size) = some cells.size) (h1 : cells.all (·.oneCell') = true)
    (h : ∀ w', Stb b new t w w' → wpList P ops Q rest (a.put op.dst undef) w') : wpList P ops Q (op :: rest) a w :=
  wpList_store_mid hgd ty x y ho b o cells hx hy (there_blk hg hl) hi h1 (h _ (stb_new hg hs hn))

theorem Tu.set {w w1 w' : World} {B b : Nat} {t : Tn} {p : Option Addr} {cap : Nat} {v : Value} (h : Tu w B b t p cap v) (hw : Below w.heap.size w w1) {e' : En} {r' : Bool} {p' : Option Addr} {cap' : Nat}
    (hs : Stb b (tcells ⟨e', t.sent, r'⟩ p' cap' v) 42 w1 w') (hn : NumsIn w1 p' e'.s.l) (hsep : e'.s.l ≠ [] → ∀ a, p' = some a → a.block ≠ b ∧ v.ownBlock ≠ some a.block ∧ B ≤ a.block) : TuGave w B b v ⟨e', t.sent, r'⟩ (.returned (.tuple #[])) w' := by
  obtain ⟨v', h1, h2, h3⟩ := h.turned hw hs.blk hs.other ⟨hs.os, hs.tape, hs.output, hs.size⟩ hn hsep
  exact ⟨⟨_, rfl⟩, p', cap', v', h1, h2, h3⟩
theorem TuGave.any {w : World} {B b : Nat} {v : Value} {t' : Tn} {r : Ending} {w' : World} (h : TuGave w B b v t' r w') (u : Value) : TuGave w B b v t' (.returned u) w' := ⟨⟨u, rfl⟩, h.2⟩

set_option maxHeartbeats 2000000 in
theorem leave_any {w : World} {B b : Nat} {t : Tn} {p : Option Addr} {cap : Nat} {v : Value} (h : Tu w B b t p cap v) (e : En) (pe : Option Addr) (ce : Nat) (m : Msg) (u : W8) :
    Calls Try.prog 39 #[qv e pe ce m u, .pointer (some ⟨b, 0, none⟩)] w (TuGave w B b v (leaveT e m t)) := by
  have K := Kp.box w (qcells e pe ce m u) 68
  have hc := K.1
  have h1 := h.step K.2.2
  by_cases ho : e.ow = m.fr
  · have hq : (e.ow != m.fr) = false := by simpa using ho
    have s1 := Stb.one h1.blk 0 (.int .i64 (-1))
    have s2 := Stb.one s1.blk 6 (.bool true)
    have f0 := blk_free h1.blk 0
    have f6 := blk_free s1.blk 6
    have c0 := blk_cell h1.blk 0
    have c6 := blk_cell s1.blk 6
    simp at c0 c6
    have R := Lib.hid (h.set K.2.2 (e' := ⟨-1, t.e.s⟩) (r' := true) (p' := p) (cap' := cap) (s1.trans s2) h1.nums h1.sep)
    have e1 : leaveT e m t = ⟨⟨-1, t.e.s⟩, t.sent, true⟩ := by unfold leaveT; rw [if_pos ho]
    rw [e1]
    clear h h1 ho s1 s2 e1
    go_enter Try.func39, Try.ntmps39
    go_wp2
    go_end0
    exact R.out.any _
  · have hq : (e.ow != m.fr) = true := by simpa using ho
    have e1 : leaveT e m t = t := by unfold leaveT; rw [if_neg ho]
    rw [e1]
    have R := Lib.hid (show TuGave w B b v t (.returned (.tuple #[])) _ from ⟨⟨_, rfl⟩, p, cap, v, h1, .of_below K.2.2, .refl _ _⟩)
    clear h h1 ho e1
    go_enter Try.func39, Try.ntmps39
    go_wp2
    go_end0
    exact R.out.any _

set_option maxHeartbeats 2000000 in
theorem share_any {w : World} {B b : Nat} {t : Tn} {p : Option Addr} {cap : Nat} {v : Value} (h : Tu w B b t p cap v) (e : En) (pe : Option Addr) (ce : Nat) (m : Msg) (u : W8) (hl : e.s.l.length ≤ 5000) (hn : NumsIn w pe e.s.l) :
    Calls Try.prog 33 #[qv e pe ce m u, .pointer (some ⟨b, 0, none⟩)] w (TuGave w B b v (shareT e m t)) := by
  have K := Kp.box w (qcells e pe ce m u) 68
  have hc := K.1
  have HN := Lib.hid hn
  rcases Bool.eq_false_or_eq_true e.free with hf | hf
  · have HF := Lib.hid hf
    have e1 : shareT e m t = ⟨⟨m.fr, t.e.s⟩, t.sent, t.wr⟩ := by unfold shareT; rw [if_pos hf]
    rw [e1]
    have H := Lib.hid h
    clear h hn hf e1
    go_enter Try.func33, Try.ntmps33
    go_wp2_with (go_at_call 46; refine (free_is HF.out pe ce _ (HN.out.step K.2.2) hl).mono ?_; rintro _ w1 ⟨rfl, hb1⟩; have K2 := K.step hb1; have hc2 := K2.1; have h2 := Lib.hid (H.out.step K2.2.2); have f0 := blk_free h2.out.blk 0; have c0 := blk_cell h2.out.blk 0; simp at c0; clear hc hb1)
    have R := H.out.set K2.2.2 (e' := ⟨m.fr, t.e.s⟩) (r' := t.wr) (p' := p) (cap' := cap) (Stb.one h2.out.blk 0 (.int .i64 m.fr)) h2.out.nums h2.out.sep
    go_end0
    exact R.any _
  · have HF := Lib.hid hf
    have e1 : shareT e m t = ⟨⟨t.e.ow, (addS e.s m.fr).1⟩, t.sent, t.wr⟩ := by unfold shareT; rw [if_neg (by rw [hf]; simp)]
    rw [e1]
    have H := Lib.hid h
    clear h hn hf e1
    go_enter Try.func33, Try.ntmps33
    go_wp2_with (first
      | (go_at_call 46; refine (free_is HF.out pe ce _ (HN.out.step K.2.2) hl).mono ?_; rintro _ w1 ⟨rfl, hb1⟩; have K2 := K.step hb1; have hc2 := K2.1; clear hc hb1)
      | (go_at_call 47; refine (add_any e.s pe ce m.fr _ (HN.out.step K2.2.2) hl).mono ?_; rintro _ w2 ⟨_, rfl, pa, ca, rfl, hi2, hb2, hf2⟩; generalize (addS e.s m.fr).1 = s' at *; have h3 := Lib.hid (H.out.step (bstep K2.2.2 hb2)); have HB2 := Lib.hid (bstep K2.2.2 hb2); have HI2 := Lib.hid hi2; have HF2 := Lib.hid (fun a ha => Nat.le_trans K2.2.2.size (hf2 a ha)); clear hi2 hf2 hb2 hc2 K2)
      | ((with_reducible refine wpList_store_blk (op := ⟨none, _, _, _, _, _⟩) rfl 24 (.tmp 27) (.tmp 23) rfl b 1 (sval s' pa ca) ?sx ?sy 42 (tcells t p cap v) (tcells ⟨⟨t.e.ow, s'⟩, t.sent, t.wr⟩ pa ca v) ?sg ?sl ?ss ?sn ?si ?s1 ?_); (case sx => rfl); (case sy => rfl); (case sg => exact h3.out.blk); (case sl => simp); (case ss => rfl); (case sn => (intro i hi; match i, hi with | 0, _ => rfl | 1, _ => rfl | 2, _ => rfl | 3, _ => rfl | 4, _ => rfl | 5, _ => rfl | 6, _ => rfl)); (case si => kernel_rfl); (case s1 => kernel_rfl); intro w3 hst))
    have R := H.out.set HB2.out (e' := ⟨t.e.ow, s'⟩) (r' := t.wr) (p' := pa) (cap' := ca) hst HI2.out (fun _ a ha => by have h5 := HF2.out a ha; have h6 := H.out.lt; exact ⟨by omega, fun e => by have := (H.out.row.lt _ e).2; omega, by have := H.out.big; omega⟩)
    go_end0
    exact R.any _

end Go.Proofs.Ytfnemldjhfcalaa
