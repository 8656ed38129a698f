/-
  What read does with any text up to 4000 bytes, and Parse with any text: one contract each.
-/
import Derived.Test.YtjnbpohjdgnknaaDoorPgF
namespace Go.Proofs.YtjnbpohjdgnknaaDoor
open Go Go.RowKit

/-! ### Plain facts on the reader -/

theorem take_high (σ : St) {r : Nat} (h : 128 ≤ r) : σ.take r = none := by
  have e1 : r ≠ 32 := by omega
  have e2 : r ≠ 61 := by omega
  have e3 : r ≠ 45 := by omega
  have e4 : kindR r = 0 := by
    unfold kindR
    rw [if_neg (by omega), if_neg (by omega), if_neg (by omega), if_neg (by omega)]
  have e5 : σ.num.digit r = none := by
    unfold Num.digit
    rw [if_neg (by omega)]
  unfold St.take
  rw [if_neg e1]
  split
  · simp [St.letter, e4]
  · split
    · simp [e5]
    · split
      · simp [e5]
      · rfl
theorem digit_bounds {n m : Num} {r : Nat} (e : n.digit r = some m) : m.dg = n.dg + 1 ∧ m.sz ≤ 2147483648 := by
  unfold Num.digit at e
  split at e
  · rename_i h
    injection e with e
    subst e
    exact ⟨rfl, h.2.2.2⟩
  · cases e
/-- What a reader has read is no more than there was. -/
def Within (σ : St) (k : Nat) : Prop := σ.num.dg ≤ k ∧ σ.num.sz ≤ 2147483648 ∧ σ.ops.length ≤ k
theorem fin_within {σ τ : St} {k : Nat} (h : Within σ k) (e : σ.fin = some τ) : Within τ (k + 1) := by
  obtain ⟨h0, h1, h2⟩ := h
  unfold St.fin at e
  obtain ⟨x, _, e⟩ := Option.bind_eq_some_iff.1 e
  split at e
  · injection e with e
    subst e
    refine ⟨?_, ?_, by simp; omega⟩
    · show (if σ.pl = 3 then σ.num else num0).dg ≤ k + 1
      split
      · omega
      · simp [num0]
    · show (if σ.pl = 3 then σ.num else num0).sz ≤ _
      split
      · exact h1
      · simp [num0]
  · cases e
theorem take_within {σ τ : St} {k r : Nat} (h : Within σ k) (e : σ.take r = some τ) : Within τ (k + 1) := by
  unfold St.take at e
  split at e
  · exact fin_within h e
  · obtain ⟨h0, h1, h2⟩ := h
    split at e
    · unfold St.letter at e
      split at e
      · cases e
      · injection e with e
        subst e
        exact ⟨Nat.le_succ_of_le h0, h1, Nat.le_succ_of_le h2⟩
    · split at e
      · split at e
        · unfold St.equals at e
          split at e
          · cases e
          · obtain ⟨q, hq, rfl⟩ := Option.map_eq_some_iff.1 e
            exact ⟨by simp [num0], by simp [num0], Nat.le_succ_of_le h2⟩
        · obtain ⟨m, hm, rfl⟩ := Option.map_eq_some_iff.1 e
          have := digit_bounds hm
          exact ⟨by simp [St.put]; omega, this.2, Nat.le_succ_of_le h2⟩
      · split at e
        · split at e
          · obtain ⟨m, hm, rfl⟩ := Option.map_eq_some_iff.1 e
            unfold Num.minus at hm
            split at hm
            · injection hm with hm
              subst hm
              exact ⟨Nat.le_succ_of_le h0, h1, Nat.le_succ_of_le h2⟩
            · cases hm
          · obtain ⟨m, hm, rfl⟩ := Option.map_eq_some_iff.1 e
            have := digit_bounds hm
            exact ⟨by simp [St.put]; omega, this.2, Nat.le_succ_of_le h2⟩
        · cases e
theorem within0 : Within st0 0 := ⟨by simp [st0, num0], by simp [st0, num0], by simp [st0]⟩

theorem list_ne {s : ByteArray} (h : 0 < s.size) : s.data.toList ≠ [] := fun e => by
  have h2 : s.data.toList.length = s.size := rfl
  rw [e] at h2
  simp at h2
  omega
theorem some_text {s : ByteArray} (h : 0 < s.size) : s.toList.isEmpty = false := by
  rw [ByteArray.toList_eq]
  cases hl : s.data.toList with
  | nil => exact absurd hl (list_ne h)
  | cons _ _ => rfl
theorem take_succ_list (s : ByteArray) (k : Nat) (h : k < s.size) : s.data.toList.take (k + 1) = s.data.toList.take k ++ [s[k]] := by
  rw [List.take_succ_eq_append_getElem (by simpa using h)]; rfl
theorem feed_next (s : ByteArray) (k : Nat) (h : k < s.size) {σ : St} (hf : feed st0 (s.data.toList.take k) = some σ) : feed st0 (s.data.toList.take (k + 1)) = σ.take (s[k]).toNat := by
  rw [take_succ_list s k h, feed_append, hf]
  show (σ.take (s[k]).toNat).bind _ = _
  cases σ.take (s[k]).toNat <;> rfl
theorem read_stop (s : ByteArray) (k : Nat) (h : k < s.size) {σ : St} (hf : feed st0 (s.data.toList.take k) = some σ) (hn : σ.take (s[k]).toNat = none) : readM s.data.toList = none := by
  have e : feed st0 s.data.toList = none := by
    rw [← List.take_append_drop (k + 1) s.data.toList, feed_append, feed_next s k h hf, hn]
    rfl
  have hne : s.data.toList ≠ [] := list_ne (by omega)
  unfold readM
  rw [if_neg hne, e]
  rfl
theorem read_end (s : ByteArray) (k : Nat) (h : ¬ k < s.size) (h0 : 0 < s.size) {σ : St} (hf : feed st0 (s.data.toList.take k) = some σ) : readM s.data.toList = (σ.fin).map (·.ops) := by
  have hne : s.data.toList ≠ [] := list_ne (by omega)
  have e : feed st0 s.data.toList = some σ := by
    rw [List.take_of_length_le (by simp; have : s.data.size = s.size := rfl; omega)] at hf
    exact hf
  unfold readM
  rw [if_neg hne, e]
  rfl

/-! ### Slices of operations -/

/-- A slice value that holds just these operations. -/
def OpsAt (w : World) (v : Value) (l : List Op) : Prop :=
  (∃ p cap, v = .slice p 0 cap ∧ (p = none → cap = 0) ∧ l = []) ∨ ∃ g off cap, v = .slice (some ⟨g, off, none⟩) l.length cap ∧ g < w.heap.size ∧ ∀ i u, (opCells l)[i]? = some u → w.cell? ⟨g, off + i, none⟩ = some u
theorem OpsAt.step {w w' : World} {v : Value} {l : List Op} (h : OpsAt w v l) (hb : Below w.heap.size w w') : OpsAt w' v l := by
  rcases h with h | ⟨g, off, cap, e, hg, hc⟩
  · exact .inl h
  · exact .inr ⟨g, off, cap, e, Nat.lt_of_lt_of_le hg hb.size, fun i u hu => (hb.cell (p := ⟨g, off + i, none⟩) hg).trans (hc i u hu)⟩
theorem OpsAt.nil_ (w : World) : OpsAt w (.slice none 0 0) [] := .inl ⟨none, 0, rfl, fun _ => rfl, rfl⟩
theorem ops_of_own {w : World} {base : Nat} {v : Value} {l : List Op} (h : w.ownsRow base 52 3 v l.length (opCells l)) : OpsAt w v l := by
  rcases h.2 with ⟨rfl, hn⟩ | ⟨g, cap, cur, rfl, _, hg, _, _, _, ht⟩
  · exact .inl ⟨none, 0, rfl, fun _ => rfl, List.eq_nil_of_length_eq_zero hn⟩
  · refine .inr ⟨g, 0, cap, rfl, (Array.getElem?_eq_some_iff.1 hg).1, fun i u hu => ?_⟩
    rw [← ht, List.getElem?_take] at hu
    split at hu
    · simp only [World.cell?, hg]
      simpa using hu
    · cases hu

/-- What a call gives that makes a list of operations and tells a bool. -/
def RetB (w : World) (l : List Op) (q : Bool) (e : Ending) (w' : World) : Prop := ∃ v, e = .returned (.tuple #[v, .bool q]) ∧ w'.ownsRow w.heap.size 52 3 v l.length (opCells l) ∧ Below w.heap.size w w'
/-- The same, of an error's number. -/
def RetO (w : World) (l : List Op) (n : Int) (e : Ending) (w' : World) : Prop := ∃ v, e = .returned (.tuple #[v, .int .i64 n]) ∧ w'.ownsRow w.heap.size 52 3 v l.length (opCells l) ∧ Below w.heap.size w w'
theorem own_base {w : World} {base base' e sz n : Nat} {v : Value} {xs : List Value} (h : w.ownsRow base e sz v n xs) (hb : base' ≤ base) : w.ownsRow base' e sz v n xs := by
  refine ⟨h.1, ?_⟩
  rcases h.2 with hn | ⟨g, cap, cur, e, hb', rest⟩
  · exact .inl hn
  · exact .inr ⟨g, cap, cur, e, by omega, rest⟩
/-- The same, with an error's number. -/
def RetE (w : World) (l : List Op) (n : Int) (e : Ending) (w' : World) : Prop := ∃ v, e = .returned (.tuple #[v, .int .i64 n]) ∧ OpsAt w' v l ∧ Below w.heap.size w w'

theorem rd_iter {b base : Nat} {w : World} {σ : St} {s : ByteArray} {k pos : Nat} (h : Rd b base w σ) (hk : k ≠ b) (hk2 : k < base) : Rd b base (w.iterAt k s pos) σ := by
  obtain ⟨v, h, hown⟩ := h
  refine ⟨v, (Lib.iterAt_other w k b s pos (Ne.symm hk)).trans h, hown.1, ?_⟩
  rcases hown.2 with hn | ⟨g, cap, cur, e, hb', hgg, rest⟩
  · exact .inl hn
  · exact .inr ⟨g, cap, cur, e, hb', (Lib.iterAt_other w k g s pos (by omega)).trans hgg, rest⟩

/-- What holds at each round's head. -/
def ReadRel (w : World) (s : ByteArray) (wr : World) : Prop := ∃ (pos : Nat) (σ : St), pos ≤ s.size ∧ feed st0 (s.data.toList.take pos) = some σ ∧ Within σ pos ∧ Rd w.heap.size (w.heap.size + 2) wr σ ∧ wr.heap[w.heap.size + 1]? = some (.stringIter s pos) ∧ Below w.heap.size w wr

set_option maxHeartbeats 4000000 in
set_option maxRecDepth 1000000 in
theorem read_any (s : ByteArray) (w : World) (hs : s.size ≤ 4000) (h0 : 0 < s.size) :
    Calls Tryd.prog 54 #[.string s] w (RetB w ((readM s.data.toList).getD []) (readM s.data.toList).isSome) := by
  have hemp := some_text h0
  go_enter Tryd.func54, Tryd.ntmps54
  go_wp2
  go_loopw [] (fun wr => ReadRel w s wr) (fun wr => s.size - wr.iterPos (w.heap.size + 1))
  case atStart =>
    refine ⟨0, st0, Nat.zero_le _, rfl, within0, ?_, ?_, ?_⟩
    · refine ⟨.slice none 0 0, ?_, World.ownsRow_nil _ _ _ _⟩
      show (World.iter _ s 0).heap[w.heap.size]? = _
      exact (Below.heap_alloc _ _ _ (by simp)).trans (heap_alloc_new w _)
    · have := World.iter_heap (w.alloc (.cells #[.slice none 0 0, .int .i64 0, .int .i64 0, .int .i64 0, .int .i64 0, .bool false, .int .i64 0, .int .i64 0] 102)) s 0
      simpa using this
    · exact ((Below.refl _ w).alloc (Nat.le_refl _) _).alloc (by simp) _
  case round =>
    obtain ⟨pos, σ, hpos, hf, hw, hrd, hit, hbw⟩ := hrel
    have hsz : w.heap.size + 1 < wr.heap.size := (Array.getElem?_eq_some_iff.1 hit).1
    have HF := Lib.hid hf
    have HW := Lib.hid hw
    have HR := Lib.hid hrd
    have hw0 := hw.1
    have hw1 := hw.2.1
    have hw2 := hw.2.2
    clear hf hw hrd
    by_cases hp : pos < s.size
    · by_cases ha : (s[pos]).toNat < 128
      · have hnx : ∀ ty, (Instr.next (.pointer (some ⟨w.heap.size + 1, 0, none⟩)) true ty).run Tryd.prog wr = _ := fun ty => Lib.run_next_ascii_at wr (w.heap.size + 1) s pos ty hit hp ha
        have HR2 := Lib.hid (rd_iter (s := s) (k := w.heap.size + 1) (pos := pos + 1) HR.out (by omega) (by omega))
        have hit2 := Lib.hid (Lib.iterAt_heap wr (w.heap.size + 1) s pos (pos + 1) hit)
        have hbw2 := Lib.below_iterAt hbw (k := w.heap.size + 1) (by omega) s (pos + 1)
        have hsz2 : w.heap.size + 2 ≤ (wr.iterAt (w.heap.size + 1) s (pos + 1)).heap.size := by rw [Lib.iterAt_size]; omega
        have HT := Lib.hid (take_any w.heap.size (w.heap.size + 2) σ (s[pos]).toNat (wr.iterAt (w.heap.size + 1) s (pos + 1)) (by omega) hsz2 HR2.out (by omega) hw1 (by omega) (by omega))
        have HN := Lib.hid (feed_next s pos hp HF.out)
        have HX := Lib.hid (fun h => read_stop s pos hp HF.out h)
        have HWN := Lib.hid (fun τ (h : σ.take (s[pos]).toNat = some τ) => take_within HW.out h)
        generalize (s[pos]).toNat = r at *
        cases ho : σ.take r with
        | none =>
          have HO := Lib.hid ho
          clear ho
          go_wp2_with (go_at_call 57; refine HT.out.mono ?_; rintro e w1 ⟨rfl, hk, -⟩; rw [HO.out])
          go_ret2
          exact ⟨_, by rw [HX.out HO.out]; rfl, by rw [HX.out HO.out]; exact World.ownsRow_nil _ _ _ _, hbw2.trans hk.below⟩
        | some τ =>
          have HO := Lib.hid ho
          clear ho
          go_wp2_with (go_at_call 57; refine HT.out.mono ?_; rintro e w1 ⟨rfl, hk, hg⟩; rw [HO.out])
          have hit3 := (hk.other (w.heap.size + 1) (by omega) (by omega)).trans hit2.out
          go_roundw
          case rel => exact ⟨pos + 1, τ, by omega, HN.out.trans HO.out, HWN.out τ HO.out, hg τ HO.out, hit3, hbw2.trans hk.below⟩
          case measure =>
            simp only [World.iterPos, hit3, hit]
            omega
      · have hnx : ∀ ty, (Instr.next (.pointer (some ⟨w.heap.size + 1, 0, none⟩)) true ty).run Tryd.prog wr = _ := fun ty => Lib.run_next_any_at wr (w.heap.size + 1) s pos ty hit hp
        have hd := decode_high s pos hp (by omega)
        have hd1 := decode_le s pos
        have HX := Lib.hid (read_stop s pos hp HF.out (take_high σ (by omega)))
        have HR2 := Lib.hid (rd_iter (s := s) (k := w.heap.size + 1) (pos := pos + (Utf8.decode s pos).2) HR.out (by omega) (by omega))
        have hbw2 := Lib.below_iterAt hbw (k := w.heap.size + 1) (by omega) s (pos + (Utf8.decode s pos).2)
        have hsz2 : w.heap.size + 2 ≤ (wr.iterAt (w.heap.size + 1) s (pos + (Utf8.decode s pos).2)).heap.size := by rw [Lib.iterAt_size]; omega
        have HT := Lib.hid (take_any w.heap.size (w.heap.size + 2) σ (Utf8.decode s pos).1 (wr.iterAt (w.heap.size + 1) s (pos + (Utf8.decode s pos).2)) (by omega) hsz2 HR2.out (by omega) hw1 (by omega) (by omega))
        have HO := Lib.hid (take_high σ hd.1)
        clear ha hd hd1
        go_wp2_with (go_at_call 57; refine HT.out.mono ?_; rintro e w1 ⟨rfl, hk, -⟩; rw [HO.out])
        go_ret2
        exact ⟨_, by rw [HX.out]; rfl, by rw [HX.out]; exact World.ownsRow_nil _ _ _ _, hbw2.trans hk.below⟩
    · have hnx : ∀ ty, (Instr.next (.pointer (some ⟨w.heap.size + 1, 0, none⟩)) true ty).run Tryd.prog wr = _ := fun ty => Lib.run_next_end_at wr (w.heap.size + 1) s pos ty hit hp
      have HE := Lib.hid (read_end s pos hp h0 HF.out)
      have HT := Lib.hid (fin_any w.heap.size (w.heap.size + 2) σ wr (by omega) (by omega) HR.out hw1 (by omega))
      cases ho : σ.fin with
      | none =>
        have HO := Lib.hid ho
        clear ho
        go_wp2_with (go_at_call 58; refine HT.out.mono ?_; rintro e w1 ⟨rfl, hk, -⟩; rw [HO.out])
        go_ret2
        exact ⟨_, by rw [HE.out, HO.out]; rfl, by rw [HE.out, HO.out]; exact World.ownsRow_nil _ _ _ _, hbw.trans hk.below⟩
      | some τ =>
        have HO := Lib.hid ho
        clear ho
        go_wp2_with (go_at_call 58; refine HT.out.mono ?_; rintro e w1 ⟨rfl, hk, hg⟩; rw [HO.out]; obtain ⟨v, hat, hown⟩ := hg τ HO.out; have hc0 := hat.cell 0; simp at hc0)
        go_ret2
        exact ⟨_, by rw [HE.out, HO.out]; rfl, by rw [HE.out, HO.out]; exact own_base hown (by omega), hbw.trans hk.below⟩

theorem no_text {s : ByteArray} (h : s.size = 0) : s.data.toList = [] := List.eq_nil_of_length_eq_zero h
theorem readEmpty_any (s : ByteArray) (w : World) (h0 : s.size = 0) :
    Calls Tryd.prog 54 #[.string s] w (RetB w ((readM s.data.toList).getD []) (readM s.data.toList).isSome) := by
  have hemp : s.toList.isEmpty = true := by rw [ByteArray.toList_eq, no_text h0]; rfl
  have HE : Hid (readM s.data.toList = some []) := Lib.hid (by rw [no_text h0]; rfl)
  clear h0
  go_enter Tryd.func54, Tryd.ntmps54
  go_wp2
  go_ret2
  exact ⟨_, by rw [HE.out]; rfl, by rw [HE.out]; exact World.ownsRow_nil _ _ _ _, Below.refl _ _⟩
theorem readAll_any (s : ByteArray) (w : World) (hs : s.size ≤ 4000) :
    Calls Tryd.prog 54 #[.string s] w (RetB w ((readM s.data.toList).getD []) (readM s.data.toList).isSome) := by
  rcases Nat.eq_zero_or_pos s.size with h | h
  · exact readEmpty_any s w h
  · exact read_any s w hs h
theorem OpsAt.form {w : World} {v : Value} {l : List Op} (h : OpsAt w v l) : ∃ a cap, v = .slice a l.length cap := by
  rcases h with ⟨p, cap, rfl, _, rfl⟩ | ⟨g, off, cap, e, _, _⟩
  · exact ⟨p, cap, rfl⟩
  · exact ⟨_, cap, e⟩

set_option maxHeartbeats 1000000 in
/-- Parse, the program's: what it hands out is its own. -/
theorem parse_own (s : ByteArray) (w : World) (hm : s.size ≤ 9223372036854775807) :
    Calls Tryd.prog 50 #[.string s] w (RetO w (prs s.data.toList).1 (prs s.data.toList).2) := by
  have hlen : s.data.toList.length = s.size := rfl
  by_cases h4 : 4000 < s.size
  · have HE : Hid (prs s.data.toList = ([], 4)) := Lib.hid (by unfold prs; rw [if_pos (by omega)])
    clear hlen
    go_enter Tryd.func50, Tryd.ntmps50
    go_wp2
    go_ret2
    exact ⟨_, by rw [HE.out]; rfl, by rw [HE.out]; exact World.ownsRow_nil _ _ _ _, Below.refl _ _⟩
  · have HR := Lib.hid (fun w => readAll_any s w (by omega))
    cases hr : readM s.data.toList with
    | none =>
      have HE : Hid (prs s.data.toList = ([], 2)) := Lib.hid (by unfold prs; rw [if_neg (by omega), hr])
      have HN := Lib.hid hr
      clear hlen hr
      go_enter Tryd.func50, Tryd.ntmps50
      go_wp2_with (go_at_call 54; refine (HR.out _).mono ?_; rintro e w1 ⟨v, rfl, hv, hb⟩; rw [HN.out])
      go_ret2
      exact ⟨_, by rw [HE.out]; rfl, by rw [HE.out]; exact World.ownsRow_nil _ _ _ _, hb⟩
    | some l =>
      have HN := Lib.hid hr
      by_cases h64 : 64 < l.length
      · have HE : Hid (prs s.data.toList = ([], 4)) := Lib.hid (by unfold prs; rw [if_neg (by omega), hr]; simp [h64])
        clear hlen hr
        go_enter Tryd.func50, Tryd.ntmps50
        go_wp2_with (go_at_call 54; refine (HR.out _).mono ?_; rintro e w1 ⟨v, rfl, hv, hb⟩; rw [HN.out] at hv ⊢; obtain ⟨a, cap, rfl⟩ := (ops_of_own hv).form; simp only [Option.getD_some])
        go_ret2
        exact ⟨_, by rw [HE.out]; rfl, by rw [HE.out]; exact World.ownsRow_nil _ _ _ _, hb⟩
      · have HE : Hid (prs s.data.toList = (l, 0)) := Lib.hid (by unfold prs; rw [if_neg (by omega), hr]; simp [h64])
        clear hlen hr
        go_enter Tryd.func50, Tryd.ntmps50
        go_wp2_with (go_at_call 54; refine (HR.out _).mono ?_; rintro e w1 ⟨v, rfl, hv, hb⟩; rw [HN.out] at hv ⊢; obtain ⟨a, cap, rfl⟩ := (ops_of_own hv).form; simp only [Option.getD_some])
        go_ret2
        exact ⟨_, by rw [HE.out]; rfl, by rw [HE.out]; exact hv, hb⟩

/-- Parse, the program's. -/
theorem parse_any (s : ByteArray) (w : World) (hm : s.size ≤ 9223372036854775807) :
    Calls Tryd.prog 50 #[.string s] w (RetE w (prs s.data.toList).1 (prs s.data.toList).2) :=
  (parse_own s w hm).mono fun _ _ ⟨v, he, hv, hb⟩ => ⟨v, he, ops_of_own hv, hb⟩

end Go.Proofs.YtjnbpohjdgnknaaDoor
