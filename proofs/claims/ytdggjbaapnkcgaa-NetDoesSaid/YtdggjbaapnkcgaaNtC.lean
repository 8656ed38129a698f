/-
  A net in memory: its block, three bags of messages and their rows; what a call on one may change.
-/
import Derived.Test.YtdggjbaapnkcgaaNtB
import Derived.Test.YtdggjbaapnkcgaaSize
namespace Go.Proofs.Ytdggjbaapnkcgaa
open Go Go.RowKit

/-- A net's cells: sizes, and where its bags are. -/
abbrev ncells (c : Cfg) (b : Nat → Nat) : Array Value := #[.int .i64 c.co, .int .i64 c.ho, .int .i64 c.se, .int .i64 c.wa, .int .i64 c.wo, .int .i64 c.li, .int .i64 c.po, .int .i64 c.ms, .int .i64 c.bu, .int .i64 c.wb, .int .i64 c.r0, .int .i64 c.r1, .int .i64 c.r2, .pointer (some ⟨b 0, 0, none⟩), .pointer (some ⟨b 1, 0, none⟩), .pointer (some ⟨b 2, 0, none⟩)]
/-- One of them is another one. -/
def upd {α : Type} (l : Nat → α) (i : Nat) (x : α) : Nat → α := fun k => if k = i then x else l k
theorem upd_same {α : Type} (l : Nat → α) (i : Nat) (x : α) : upd l i x i = x := by simp [upd]
theorem upd_other {α : Type} (l : Nat → α) (i k : Nat) (x : α) (h : k ≠ i) : upd l i x k = l k := by simp [upd, h]

/-- A net in memory. -/
structure NetP (w : World) (B n : Nat) (c : Cfg) (b : Nat → Nat) (l : Nat → List Msg) (v : Nat → Value) : Prop where
  blk : w.heap[n]? = some (.cells (ncells c b) 59 (0, 0))
  bag : ∀ k, k < 3 → BgM w B (b k) (room c k) (l k) (v k)
  len : ∀ k, k < 3 → ((l k).length : Int) ≤ room c k
  nb : ∀ k, k < 3 → b k ≠ n
  nv : ∀ k, k < 3 → (v k).ownBlock ≠ some n
  bb : ∀ i j, i < 3 → j < 3 → i ≠ j → b i ≠ b j
  vb : ∀ i j, i < 3 → j < 3 → (v i).ownBlock ≠ some (b j)
  vv : ∀ i j, i < 3 → j < 3 → i ≠ j → ∀ k, (v i).ownBlock = some k → (v j).ownBlock ≠ some k
  big : B ≤ n
  ok : okC c = true
/-- Its blocks. -/
def Foot (n : Nat) (b : Nat → Nat) (v : Nat → Value) (k : Nat) : Prop := k = n ∨ ∃ i, i < 3 ∧ (k = b i ∨ (v i).ownBlock = some k)
/-- Of what was there nothing has changed but some blocks. -/
structure TurnF (F : Nat → Prop) (w w' : World) : Prop where
  os : w'.os = w.os
  tape : w'.tape = w.tape
  output : w'.output = w.output
  size : w.heap.size ≤ w'.heap.size
  other : ∀ k, k < w.heap.size → ¬ F k → w'.heap[k]? = w.heap[k]?
/-- Blocks that were among these, or new. -/
def FreshF (w : World) (F F' : Nat → Prop) : Prop := ∀ k, F' k → F k ∨ w.heap.size ≤ k
theorem TurnF.of_below {F : Nat → Prop} {w w' : World} (h : Below w.heap.size w w') : TurnF F w w' := ⟨h.os, h.tape, h.output, h.size, fun k hk _ => h.block k hk⟩
theorem TurnF.below {F : Nat → Prop} {w w' : World} {B : Nat} (h : TurnF F w w') (hF : ∀ k, F k → B ≤ k) (hB : B ≤ w.heap.size) : Below B w w' := ⟨h.os, h.tape, h.output, h.size, fun k hk => h.other k (by omega) (fun e => by have := hF k e; omega)⟩

theorem room_le {c : Cfg} (h : okC c = true) (k : Nat) (hk : k < 3) : 1 ≤ room c k ∧ room c k ≤ 64 := by
  rw [okC_eq] at h
  simp only [Bool.and_eq_true] at h
  obtain ⟨_, ⟨h10, h11⟩, h12⟩ := h
  rcases (show k = 0 ∨ k = 1 ∨ k = 2 by omega) with rfl | rfl | rfl
  · exact inB_of h10
  · exact inB_of h11
  · exact inB_of h12

variable {w w' : World} {B n : Nat} {c : Cfg} {b : Nat → Nat} {l : Nat → List Msg} {v : Nat → Value}
theorem NetP.len64 (h : NetP w B n c b l v) (k : Nat) (hk : k < 3) : (l k).length ≤ 64 := by have := h.len k hk; have := (room_le h.ok k hk).2; omega
theorem NetP.lt (h : NetP w B n c b l v) : n < w.heap.size := lt_of_block h.blk
theorem NetP.foot (h : NetP w B n c b l v) (k : Nat) (hk : Foot n b v k) : B ≤ k ∧ k < w.heap.size := by
  rcases hk with rfl | ⟨i, hi, rfl | e⟩
  · exact ⟨h.big, h.lt⟩
  · exact ⟨(h.bag i hi).big, (h.bag i hi).lt⟩
  · exact (h.bag i hi).row.lt k e
/-- It stands where none of its blocks has changed. -/
theorem NetP.keep (h : NetP w B n c b l v) (hk : ∀ k, Foot n b v k → w'.heap[k]? = w.heap[k]?) : NetP w' B n c b l v :=
  ⟨(hk n (.inl rfl)).trans h.blk, fun k hk3 => (h.bag k hk3).keep (hk _ (.inr ⟨k, hk3, .inl rfl⟩)) (fun q hq => hk q (.inr ⟨k, hk3, .inr hq⟩)), h.len, h.nb, h.nv, h.bb, h.vb, h.vv, h.big, h.ok⟩
theorem NetP.below (h : NetP w B n c b l v) (hb : Below w.heap.size w w') : NetP w' B n c b l v := h.keep fun k hk => hb.block k (h.foot k hk).2
/-- What is behind a call that changes one. -/
def NetGave (w : World) (B n : Nat) (c : Cfg) (b : Nat → Nat) (l : Nat → List Msg) (v : Nat → Value) (w' : World) : Prop := ∃ v', NetP w' B n c b l v' ∧ TurnF (Foot n b v) w w' ∧ FreshF w (Foot n b v) (Foot n b v')
theorem NetP.turn (h : NetP w B n c b l v) (i : Nat) (hi : i < 3) {l' : List Msg} (hl : (l'.length : Int) ≤ room c i) (hg : PutGave 77 37 15 mg w B (b i) (room c i) l' (v i) w') :
    NetGave w B n c b (upd l i l') v w' := by
  obtain ⟨u, h1, h2, h3⟩ := hg
  have hne : ∀ k, Foot n b v k → k ≠ b i → (v i).ownBlock ≠ some k → w'.heap[k]? = w.heap[k]? := fun k hk e1 e2 => h2.other k (h.foot k hk).2 e1 e2
  have hu : ∀ k, u.ownBlock = some k → (v i).ownBlock = some k ∨ w.heap.size ≤ k := h3
  refine ⟨upd v i u, ⟨?_, ?_, ?_, h.nb, ?_, h.bb, ?_, ?_, h.big, h.ok⟩, ⟨h2.os, h2.tape, h2.output, h2.size, ?_⟩, ?_⟩
  · exact (hne n (.inl rfl) (h.nb i hi).symm (h.nv i hi)).trans h.blk
  · intro k hk
    by_cases e : k = i
    · subst e
      rw [upd_same, upd_same]
      exact h1
    · rw [upd_other _ _ _ _ e, upd_other _ _ _ _ e]
      refine (h.bag k hk).keep (hne _ (.inr ⟨k, hk, .inl rfl⟩) (h.bb k i hk hi e) (h.vb i k hi hk)) fun q hq => ?_
      exact hne q (.inr ⟨k, hk, .inr hq⟩) (fun e2 => h.vb k i hk hi (e2 ▸ hq)) (fun e2 => h.vv k i hk hi e q hq e2)
  · intro k hk
    by_cases e : k = i
    · subst e
      rw [upd_same]
      exact hl
    · rw [upd_other _ _ _ _ e]
      exact h.len k hk
  · intro k hk
    by_cases e : k = i
    · subst e
      rw [upd_same]
      intro e2
      rcases hu n e2 with e3 | e3
      · exact h.nv k hk e3
      · have := h.lt; omega
    · rw [upd_other _ _ _ _ e]
      exact h.nv k hk
  · intro k j hk hj
    by_cases e : k = i
    · subst e
      rw [upd_same]
      intro e2
      rcases hu (b j) e2 with e3 | e3
      · exact h.vb k j hk hj e3
      · have := (h.bag j hj).lt; omega
    · rw [upd_other _ _ _ _ e]
      exact h.vb k j hk hj
  · intro k j hk hj hkj q
    by_cases e : k = i
    · subst e
      rw [upd_same, upd_other _ _ _ _ hkj.symm]
      intro e2 e4
      rcases hu q e2 with e3 | e3
      · exact h.vv k j hk hj hkj q e3 e4
      · have := ((h.bag j hj).row.lt q e4).2; omega
    · rw [upd_other _ _ _ _ e]
      by_cases e' : j = i
      · subst e'
        rw [upd_same]
        intro e2 e4
        rcases hu q e4 with e3 | e3
        · exact h.vv k j hk hj hkj q e2 e3
        · have := ((h.bag k hk).row.lt q e2).2; omega
      · rw [upd_other _ _ _ _ e']
        exact h.vv k j hk hj hkj q
  · intro k hk hF
    exact h2.other k hk (fun e => hF (.inr ⟨i, hi, .inl e⟩)) (fun e => hF (.inr ⟨i, hi, .inr e⟩))
  · intro k hk
    rcases hk with rfl | ⟨j, hj, rfl | e⟩
    · exact .inl (.inl rfl)
    · exact .inl (.inr ⟨j, hj, .inl rfl⟩)
    · by_cases ej : j = i
      · subst ej
        rw [upd_same] at e
        rcases hu k e with e3 | e3
        · exact .inl (.inr ⟨j, hj, .inr e3⟩)
        · exact .inr e3
      · rw [upd_other _ _ _ _ ej] at e
        exact .inl (.inr ⟨j, hj, .inr e⟩)

end Go.Proofs.Ytdggjbaapnkcgaa
