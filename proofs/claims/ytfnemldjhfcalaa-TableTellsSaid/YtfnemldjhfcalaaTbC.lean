/-
  A turn in memory: its block, and the row of the messages that it sends; what sending one leaves.
-/
import Derived.Test.YtfnemldjhfcalaaTbB
import Derived.Deep.AppendLies
import Derived.Deep.RegionLaw
namespace Go.Proofs.Ytfnemldjhfcalaa
open Go Go.RowKit Go.Sort

/-! Things as cells. -/
def tcs (l : List Msg) : List Value := l.flatMap fun m => (mcells m).toList
theorem tcs_append (l m : List Msg) : tcs (l ++ m) = tcs l ++ tcs m := by simp [tcs]
theorem tcs_one (m : Msg) : tcs [m] = (mcells m).toList := by simp [tcs]
theorem tcs_len (l : List Msg) : (tcs l).length = l.length * 15 := by
  induction l with
  | nil => simp [tcs]
  | cons x l ih =>
    have e : tcs (x :: l) = (mcells x).toList ++ tcs l := rfl
    rw [e, List.length_append, ih, List.length_cons]
    simp
    omega
theorem tcs_at (l : List Msg) (i j : Nat) (h : i < l.length) (hj : j < 15) : (tcs l)[i * 15 + j]? = (mcells l[i])[j]? := by
  induction l generalizing i with
  | nil => simp at h
  | cons x l ih =>
    have e : tcs (x :: l) = (mcells x).toList ++ tcs l := rfl
    cases i with
    | zero => rw [e, Nat.zero_mul, Nat.zero_add, List.getElem?_append_left (by simpa using hj)]; simp
    | succ i =>
      rw [e, show (i + 1) * 15 + j = 15 + (i * 15 + j) by omega, List.getElem?_append_right (by simp)]
      have := ih i (by simpa using h)
      simpa using this
theorem tcs_cells (l : List Msg) : ∀ u ∈ tcs l, u.oneCell' = true := by
  intro u hu
  obtain ⟨m, _, hm⟩ := List.mem_flatMap.1 hu
  simp at hm
  rcases hm with rfl | rfl | rfl | rfl | rfl | rfl | rfl | rfl | rfl | rfl | rfl | rfl | rfl | rfl | rfl <;> rfl
theorem A30 : (Try.prog.info? 30).map (fun i => (i.zero, i.size, i.bytes)) = some (some (.agg zm), 15, 120) := by kernel_rfl

theorem NumsIn.keep {w w' : World} {p : Option Addr} {l : List Int} (h : NumsIn w p l) (hs : w.heap.size ≤ w'.heap.size) (hk : l ≠ [] → ∀ a, p = some a → a.block < w.heap.size → w'.heap[a.block]? = w.heap[a.block]?) : NumsIn w' p l := fun j hj => by
  obtain ⟨g, off, rfl, hg, hc⟩ := h j hj
  exact ⟨g, off, rfl, Nat.lt_of_lt_of_le hg hs, (World.cell?_of_block (a := ⟨g, off + j, none⟩) (hk (fun e => by rw [e] at hj; simp at hj) ⟨g, off, none⟩ rfl hg)).trans hc⟩

/-- Of what was there nothing has changed but one block, and the block of one row. -/
structure Chg (b : Nat) (v : Value) (w w' : World) : Prop where
  os : w'.os = w.os
  tape : w'.tape = w.tape
  output : w'.output = w.output
  size : w.heap.size ≤ w'.heap.size
  other : ∀ k, k < w.heap.size → k ≠ b → v.ownBlock ≠ some k → w'.heap[k]? = w.heap[k]?
/-- A row's block is the one of before, or new. -/
def Frs (w : World) (v v' : Value) : Prop := ∀ k, v'.ownBlock = some k → v.ownBlock = some k ∨ w.heap.size ≤ k
theorem Chg.of_below {b : Nat} {v : Value} {w w' : World} (h : Below w.heap.size w w') : Chg b v w w' := ⟨h.os, h.tape, h.output, h.size, fun k hk _ _ => h.block k hk⟩
theorem Chg.trans {b : Nat} {v v' : Value} {w w1 w2 : World} (h : Chg b v w w1) (k : Chg b v' w1 w2) (hf : Frs w v v') : Chg b v w w2 :=
  ⟨k.os.trans h.os, k.tape.trans h.tape, k.output.trans h.output, Nat.le_trans h.size k.size, fun i hi h1 h2 => (k.other i (Nat.lt_of_lt_of_le hi h.size) h1 (fun e => by rcases hf i e with e | e; exact h2 e; omega)).trans (h.other i hi h1 h2)⟩
theorem Frs.trans {v v' v'' : Value} {w w1 : World} (h : Frs w v v') (k : Frs w1 v' v'') (hs : w.heap.size ≤ w1.heap.size) : Frs w v v'' := fun i hi => by
  rcases k i hi with e | e
  · exact h i e
  · right; omega
theorem Frs.refl (w : World) (v : Value) : Frs w v v := fun _ h => .inl h

/-- A turn's cells. -/
abbrev tcells (t : Tn) (p : Option Addr) (cap : Nat) (v : Value) : Array Value := #[.int .i64 t.e.ow, .int .i64 t.e.s.c, .int .i64 t.e.s.m, .slice p t.e.s.l.length cap, .bool t.e.s.al, v, .bool t.wr]
structure Tu (w : World) (B b : Nat) (t : Tn) (p : Option Addr) (cap : Nat) (v : Value) : Prop where
  blk : w.heap[b]? = some (.cells (tcells t p cap v) 42 (0, 0))
  nums : NumsIn w p t.e.s.l
  row : w.ownsRow B 30 15 v t.sent.length (tcs t.sent)
  off : v.ownBlock ≠ some b
  big : B ≤ b
  sep : t.e.s.l ≠ [] → ∀ a, p = some a → a.block ≠ b ∧ v.ownBlock ≠ some a.block ∧ B ≤ a.block
theorem Tu.lt {w : World} {B b : Nat} {t : Tn} {p : Option Addr} {cap : Nat} {v : Value} (h : Tu w B b t p cap v) : b < w.heap.size := lt_of_block h.blk
theorem own_kept {w w' : World} {base e sz n : Nat} {v : Value} {xs : List Value} (h : w.ownsRow base e sz v n xs) (hb : ∀ k, v.ownBlock = some k → w'.heap[k]? = w.heap[k]?) : w'.ownsRow base e sz v n xs := by
  refine ⟨h.1, ?_⟩
  rcases h.2 with hn | ⟨g, cap, cur, rfl, hb', hgg, rest⟩
  · exact .inl hn
  · exact .inr ⟨g, cap, cur, rfl, hb', (hb g rfl).trans hgg, rest⟩
theorem Tu.step {w w' : World} {B b : Nat} {t : Tn} {p : Option Addr} {cap : Nat} {v : Value} (h : Tu w B b t p cap v) (hb : Below w.heap.size w w') : Tu w' B b t p cap v :=
  ⟨(hb.block b h.lt).trans h.blk, h.nums.step hb, own_kept h.row fun k hk => hb.block k (h.row.lt k hk).2, h.off, h.big, h.sep⟩
theorem Chg.below {w w' : World} {B b : Nat} {t : Tn} {p : Option Addr} {cap : Nat} {v : Value} (h : Chg b v w w') (hb : Tu w B b t p cap v) (hB : B ≤ w.heap.size) : Below B w w' :=
  ⟨h.os, h.tape, h.output, h.size, fun k hk => h.other k (by omega) (by have := hb.big; omega) (fun e => by have := hb.row.lt k e; omega)⟩

/-- A row of before the turn's own is set anew. -/
theorem Tu.past {w : World} {B b : Nat} {t : Tn} {p : Option Addr} {cap : Nat} {v : Value} (h : Tu w B b t p cap v) {g : Nat} (hg : g < B) (cs : Array Value) : Tu (w.setRow g cs) B b t p cap v :=
  ⟨(setRow_other w g b cs (by have := h.big; omega)).trans h.blk, h.nums.keep (by simp) fun hl a ha _ => setRow_other w g _ cs (by have := (h.sep hl a ha).2.2; omega), own_kept h.row fun k hk => setRow_other w g k cs (by have := (h.row.lt k hk).1; omega), h.off, h.big, h.sep⟩
/-- What is behind a call that turns a turn. -/
def TuGave (w : World) (B b : Nat) (v : Value) (t' : Tn) (r : Ending) (w' : World) : Prop := (∃ u, r = .returned u) ∧ ∃ p' cap' v', Tu w' B b t' p' cap' v' ∧ Chg b v w w' ∧ Frs w v v'

theorem tu_blk {w w1 w2 : World} {B b : Nat} {t : Tn} {p : Option Addr} {cap : Nat} {v : Value} (h : Tu w B b t p cap v) (hw : Below w.heap.size w w1) (hgrow : w1.grownBy w2 v.ownBlock) : w2.heap[b]? = some (.cells (tcells t p cap v) 42 (0, 0)) :=
  (hgrow.block b (Nat.lt_of_lt_of_le h.lt hw.size) (fun e => h.off e.symm)).trans ((hw.block b h.lt).trans h.blk)
theorem tu_sent {w w1 w2 : World} {B b : Nat} {t : Tn} {p : Option Addr} {cap : Nat} {v : Value} {x : Msg} {g c : Nat} (h : Tu w B b t p cap v) (hw : Below w.heap.size w w1)
    (hown : w2.ownsRow B 30 15 (.slice (some ⟨g, 0, none⟩) (t.sent.length + 1) c) (t.sent.length + 1) (tcs t.sent ++ (mcells x).toList)) (hgrow : w1.grownBy w2 v.ownBlock) (hat : v.ownBlock = some g ∨ w.heap.size ≤ g) :
    ∃ v', Tu (w2.setCell ⟨b, 5, none⟩ (.slice (some ⟨g, 0, none⟩) (t.sent.length + 1) c)) B b ⟨t.e, t.sent ++ [x], t.wr⟩ p cap v' ∧ Chg b v w (w2.setCell ⟨b, 5, none⟩ (.slice (some ⟨g, 0, none⟩) (t.sent.length + 1) c)) ∧ Frs w v v' := by
  have hbl := h.lt
  have hb2 := tu_blk h hw hgrow
  have hgb : g ≠ b := by
    rcases hat with hat | hat
    · exact fun e => h.off (e ▸ hat)
    · omega
  have hch : Chg b v w (w2.setCell ⟨b, 5, none⟩ (.slice (some ⟨g, 0, none⟩) (t.sent.length + 1) c)) := by
    refine ⟨?_, ?_, ?_, ?_, fun k hk h1 h2 => ?_⟩
    · exact hgrow.os.trans hw.os
    · exact hgrow.tape.trans hw.tape
    · exact hgrow.output.trans hw.output
    · have h3 := hw.size; have h4 := hgrow.size; simp [World.setCell]; omega
    · exact (heap_setCell_other _ _ _ _ h1).trans ((hgrow.block k (Nat.lt_of_lt_of_le hk hw.size) (fun e => h2 e.symm)).trans (hw.block k hk))
  refine ⟨.slice (some ⟨g, 0, none⟩) (t.sent.length + 1) c, ⟨?_, ?_, ?_, ?_, h.big, ?_⟩, hch, ?_⟩
  · rw [heap_setCell_same w2 b 5 _ _ _ hb2]
    rfl
  · exact h.nums.keep hch.size fun hl a ha hlt => hch.other _ hlt (h.sep hl a ha).1 (h.sep hl a ha).2.1
  · have := own_kept (w' := w2.setCell ⟨b, 5, none⟩ (.slice (some ⟨g, 0, none⟩) (t.sent.length + 1) c)) hown fun k hk => by
      simp only [Value.ownBlock, Option.some.injEq] at hk
      exact heap_setCell_other _ _ _ _ (by simp only; omega)
    simp only [List.length_append, List.length_singleton, tcs_append, tcs_one]
    exact this
  · simpa [Value.ownBlock] using hgb
  · intro hl a ha
    obtain ⟨g', off', e, hg', _⟩ := h.nums 0 (by cases hq : t.e.s.l with | nil => exact absurd hq hl | cons => simp)
    rw [ha] at e
    cases e
    refine ⟨(h.sep hl _ ha).1, ?_, (h.sep hl _ ha).2.2⟩
    simp only [Value.ownBlock, ne_eq, Option.some.injEq]
    intro e
    rcases hat with hat | hat
    · exact (h.sep hl _ ha).2.1 (e ▸ hat)
    · omega
  · intro k hk
    simp only [Value.ownBlock, Option.some.injEq] at hk
    rcases hat with hat | hat
    · exact .inl (hk ▸ hat)
    · exact .inr (hk ▸ hat)

/-- Some cells of the block are set anew, but for the row's. -/
theorem Tu.turned {w w1 w' : World} {B b : Nat} {t : Tn} {p : Option Addr} {cap : Nat} {v : Value} (h : Tu w B b t p cap v) (hw : Below w.heap.size w w1) {e' : En} {r' : Bool} {p' : Option Addr} {cap' : Nat}
    (hblk : w'.heap[b]? = some (.cells (tcells ⟨e', t.sent, r'⟩ p' cap' v) 42 (0, 0))) (ho : ∀ k, k ≠ b → w'.heap[k]? = w1.heap[k]?) (hr : w'.os = w1.os ∧ w'.tape = w1.tape ∧ w'.output = w1.output ∧ w'.heap.size = w1.heap.size)
    (hn : NumsIn w1 p' e'.s.l) (hsep : e'.s.l ≠ [] → ∀ a, p' = some a → a.block ≠ b ∧ v.ownBlock ≠ some a.block ∧ B ≤ a.block) : ∃ v', Tu w' B b ⟨e', t.sent, r'⟩ p' cap' v' ∧ Chg b v w w' ∧ Frs w v v' := by
  have hz := hw.size
  refine ⟨v, ⟨hblk, hn.keep (by rw [hr.2.2.2]; exact Nat.le_refl _) fun hl a ha _ => ho _ (hsep hl a ha).1, own_kept h.row fun k hk => (ho k fun e => h.off (e ▸ hk)).trans (hw.block k (h.row.lt k hk).2), h.off, h.big, hsep⟩, ⟨hr.1.trans hw.os, hr.2.1.trans hw.tape, hr.2.2.1.trans hw.output, by rw [hr.2.2.2]; exact hz, fun k hk h1 _ => (ho k h1).trans (hw.block k hk)⟩, Frs.refl _ _⟩

/-- The cells of a message as it is sent. -/
abbrev scells (m x : Msg) : Array Value := #[.int .i64 x.kd, .int .i64 m.ln, .int .i64 m.to, .int .i64 x.to, .int .i64 x.wh, .int .i64 x.ac, .int .i64 x.ow, .int .i64 x.w0, .int .i64 x.w1, .int .i64 x.w2, .int .i64 x.w3, .int .i64 x.w4, .int .i64 x.w5, .int .i64 x.w6, .int .i64 x.w7]
set_option maxRecDepth 100000 in
set_option maxHeartbeats 2000000 in
theorem send_any {w : World} {B b : Nat} {t : Tn} {p : Option Addr} {cap : Nat} {v : Value} (h : Tu w B b t p cap v) (e : En) (pe : Option Addr) (ce : Nat) (m : Msg) (u : W8) (x : Msg) (hB : B ≤ w.heap.size) (hl : t.sent.length ≤ 1000) :
    Calls Try.prog 22 #[qv e pe ce m u, .pointer (some ⟨b, 0, none⟩), mv x] w (TuGave w B b v (t.send m x)) := by
  obtain ⟨i0, hi, hz0, hz1, hz2⟩ := info_parts A30
  have K := H2.box w (qcells e pe ce m u) (scells m x) 68 30
  have hlt := h.lt
  have H := Lib.hid h
  clear h
  go_enter Try.func22, Try.ntmps22
  go_wp2_with fail
  obtain ⟨w1, hw1⟩ : ∃ w1, w1 = (w.alloc (.cells (qcells e pe ce m u) 68)).alloc (.cells (scells m x) 30) := ⟨_, rfl⟩
  rw [← hw1] at K
  rw [← hw1]
  clear hw1
  have H1 := Lib.hid (H.out.step K.below)
  have c5 := blk_cell H1.out.blk 5
  have f5 := blk_free H1.out.blk 5
  have hlt1 := H1.out.lt
  have cx := K.cellsB
  have hsz := K.below.size
  have HB1 := Lib.hid K.below
  have hlB := lt_of_block K.b
  simp at c5
  clear K
  go_region_law
    ((refine step_append_lies _ (by rfl) _ _ _ (by rfl) B 30 i0 _ 15 120 Try.underlying40 hi hz0 hz1 hz2 rfl (by omega) v t.sent.length (tcs t.sent) (by rfl) ((H1.out.row.alloc _).drew)
        ⟨w1.heap.size, 0, none⟩ 1 1 (scells m x).toList (by rfl) (by rfl) (World.news_of_block (cs := scells m x) (t := 30) (fr := (0, 0)) (heap_alloc_new w1 _)) (by intro u hu; exact tcs_cells [sendM m x] u (by rw [tcs_one]; exact hu))
        (by omega) (by unfold maxLen; omega) (by omega) (by simp; omega) (w1.heap.size + 1) (by simp) ?_; intro gg cap2 w2 hown hgrow hat hlt2; have hb2 := tu_blk H1.out (((Below.refl _ w1).alloc (Nat.le_refl _) _).drew) hgrow; have c2 := blk_cell hb2 5; have f2 := blk_free hb2 5; simp at c2; clear hb2))
  all_goals
    have R := tu_sent (x := sendM m x) H.out ((HB1.out.alloc hsz (.cells (scells m x) 30)).drew) hown hgrow (hat.imp id fun h => by omega)
    clear hown hgrow hat hlt2
    go_wp2
    go_end0
    obtain ⟨v', h1, h2, h3⟩ := R
    exact ⟨⟨_, rfl⟩, p, cap, v', h1, h2, h3⟩

end Go.Proofs.Ytfnemldjhfcalaa
