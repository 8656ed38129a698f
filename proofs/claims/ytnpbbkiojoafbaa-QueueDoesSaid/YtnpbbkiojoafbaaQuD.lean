/-
  A queue in memory with its messages; Clone of entries, List; Ready, Get, Next.
-/
import Derived.Test.YtnpbbkiojoafbaaQuC
namespace Go.Proofs.Ytnpbbkiojoafbaa
open Go Go.RowKit

/-! Lists of entries that may be read. -/
def EIn (w : World) (p : Option Addr) (l : List Ep) : Prop := (∀ i x, l[i]? = some x → ∃ g o, p = some ⟨g, o, none⟩ ∧ g < w.heap.size ∧ w.rangeAt g (o + i * 17) (ec x)) ∧ ∀ x ∈ l, MIn w x.p x.l
/-- They lie in blocks from n on. -/
def Frsh (n : Nat) (p : Option Addr) (l : List Ep) : Prop := (∀ a, p = some a → n ≤ a.block) ∧ ∀ x ∈ l, ∀ a, x.p = some a → n ≤ a.block
theorem EIn.keep {w w' : World} {p : Option Addr} {l : List Ep} (h : EIn w p l) (hs : w.heap.size ≤ w'.heap.size) (hk : ∀ a, p = some a → a.block < w.heap.size → w'.heap[a.block]? = w.heap[a.block]?) (hm : ∀ x ∈ l, x.l ≠ [] → ∀ a, x.p = some a → a.block < w.heap.size → w'.heap[a.block]? = w.heap[a.block]?) : EIn w' p l :=
  ⟨fun i x hx => by
    obtain ⟨g, o, rfl, hg, hr⟩ := h.1 i x hx
    exact ⟨g, o, rfl, Nat.lt_of_lt_of_le hg hs, fun j v hv => (World.cell?_of_block (a := ⟨g, o + i * 17 + j, none⟩) (hk ⟨g, o, none⟩ rfl hg)).trans (hr j v hv)⟩,
   fun x hx => (h.2 x hx).keep hs (hm x hx)⟩
theorem EIn.step {w w' : World} {p : Option Addr} {l : List Ep} (h : EIn w p l) (hb : Below w.heap.size w w') : EIn w' p l := h.keep hb.size (fun _ _ hlt => hb.block _ hlt) fun _ _ _ _ _ hlt => hb.block _ hlt
theorem EIn.nil (w : World) (p : Option Addr) : EIn w p [] := ⟨fun i x hx => (by cases hx), fun x hx => (by cases hx)⟩
theorem EIn.at {w : World} {p : Option Addr} {l : List Ep} (h : EIn w p l) {i : Nat} {x : Ep} (hx : l[i]? = some x) : (∃ g o, p = some ⟨g, o, none⟩ ∧ g < w.heap.size ∧ w.rangeAt g (o + i * 17) (ec x)) ∧ MIn w x.p x.l := ⟨h.1 i x hx, h.2 x (List.mem_of_getElem? hx)⟩

/-- A queue in memory: its block, the row of its entries, and that their messages lie where it writes nothing. -/
structure Qu (T e : TypeId) (w : World) (B b : Nat) (room : Int) (l : List Ep) (v : Value) : Prop where
  bg : Bg T e 17 ec w B b room l v
  sd : ∀ x ∈ l, MIn w x.p x.l ∧ (x.l ≠ [] → ∀ a, x.p = some a → B ≤ a.block ∧ a.block ≠ b ∧ v.ownBlock ≠ some a.block)
  cp : ∀ x ∈ l, x.l.length ≤ x.c
theorem Qu.keep {T e : TypeId} {w w' : World} {B b : Nat} {room : Int} {l : List Ep} {v : Value} (h : Qu T e w B b room l v) (hs : w.heap.size ≤ w'.heap.size) (h1 : w'.heap[b]? = w.heap[b]?) (h2 : ∀ k, v.ownBlock = some k → w'.heap[k]? = w.heap[k]?) (h3 : ∀ x ∈ l, x.l ≠ [] → ∀ a, x.p = some a → a.block < w.heap.size → w'.heap[a.block]? = w.heap[a.block]?) : Qu T e w' B b room l v :=
  ⟨h.bg.keep h1 h2, fun x hx => ⟨(h.sd x hx).1.keep hs (h3 x hx), (h.sd x hx).2⟩, h.cp⟩
theorem Qu.below {T e : TypeId} {w w' : World} {B b : Nat} {room : Int} {l : List Ep} {v : Value} (h : Qu T e w B b room l v) (hb : Below w.heap.size w w') : Qu T e w' B b room l v :=
  ⟨h.bg.below hb, fun x hx => ⟨(h.sd x hx).1.step hb, (h.sd x hx).2⟩, h.cp⟩
abbrev QuP := Qu 66 57
abbrev QuR := Qu 53 61

/-! One entry of a row of the call's own is set anew. -/
theorem own_store {w : World} {B e g cap : Nat} {l : List Ep} (h : w.ownsRow B e 17 (.slice (some ⟨g, 0, none⟩) l.length cap) l.length (cellsOf ec l)) {i : Nat} {x : Ep} (hx : l[i]? = some x) (y : Ep) :
    (w.setCells g (i * 17) (ec y)).ownsRow B e 17 (.slice (some ⟨g, 0, none⟩) l.length cap) (l.set i y).length (cellsOf ec (l.set i y)) := by
  have hi := (List.getElem?_eq_some_iff.1 hx).1
  obtain ⟨hlen, hh⟩ := h
  rcases hh with ⟨e0, h0⟩ | ⟨g', cap', cur, e0, hB, hgg, h1, h2, h3, h4⟩
  · cases e0
  · obtain ⟨rfl, rfl⟩ : g = g' ∧ cap = cap' := by simpa using e0
    have hfit : l.length * 17 ≤ cap * 17 := Nat.mul_le_mul_right _ h1
    have hi17 : (i + 1) * 17 ≤ l.length * 17 := Nat.mul_le_mul_right _ hi
    rw [Nat.add_mul] at hi17
    have hvl : (ec y).length = 17 := rfl
    have hst := heap_setCells_row g e (ec y) (i * 17) cur w hgg (by omega)
    rw [List.length_set]
    refine ⟨by rw [cellsOf_len ec_len, List.length_set], .inr ⟨g, cap, _, rfl, hB, hst, h1, h2, ?_, ?_⟩⟩
    · simp only [List.size_toArray, List.length_append, List.length_take, List.length_drop, Array.length_toList]
      omega
    · rw [List.toList_toArray]
      have e5 : cur.toList.drop (i * 17 + (ec y).length) = (cellsOf ec l).drop (i * 17 + (ec y).length) ++ cur.toList.drop (l.length * 17) := by
        have : cur.toList = cellsOf ec l ++ cur.toList.drop (l.length * 17) := by rw [← h4, List.take_append_drop]
        conv => lhs; rw [this]
        rw [List.drop_append_of_le_length (by rw [hlen]; omega)]
      have e6 : cur.toList.take (i * 17) = (cellsOf ec l).take (i * 17) := by
        rw [← h4, List.take_take, Nat.min_eq_left (by omega)]
      have e7 := cells_set hx (y := y) 0 (ec y) (by rw [hvl]; omega) (fun m _ => by rw [Nat.zero_add]) (fun m hm h => by omega)
      rw [Nat.add_zero] at e7
      rw [e5, e6, ← List.append_assoc, e7]
      have : (cellsOf ec (l.set i y)).length = l.length * 17 := by rw [cellsOf_len ec_len, List.length_set]
      rw [← this, List.take_left']
      rfl
theorem own_there {w : World} {B e g cap : Nat} {l : List Ep} (h : w.ownsRow B e 17 (.slice (some ⟨g, 0, none⟩) l.length cap) l.length (cellsOf ec l)) {i : Nat} (hi : i < l.length) : w.there g (i * 17) 17 := by
  rcases h.2 with ⟨e0, h0⟩ | ⟨g', cap', cur, e0, hB, hgg, h1, h2, h3, h4⟩
  · cases e0
  · obtain ⟨rfl, rfl⟩ : g = g' ∧ cap = cap' := by simpa using e0
    have hfit : l.length * 17 ≤ cap * 17 := Nat.mul_le_mul_right _ h1
    have hi17 : (i + 1) * 17 ≤ l.length * 17 := Nat.mul_le_mul_right _ hi
    rw [Nat.add_mul] at hi17
    exact fun j hj => ⟨by rw [blk_cell hgg, Array.getElem?_eq_getElem (by omega)]; rfl, blk_free hgg _⟩
theorem only_setCells (g o : Nat) (vs : List Value) (w : World) : Only g w (w.setCells g o vs) := by
  obtain ⟨h1, h2, h3, h4⟩ := setCells_rest g vs o w
  exact ⟨h1, h2, h3, h4, fun k hk => heap_setCells_other g vs o w k hk⟩
theorem Only.below {g B : Nat} {w w1 w2 : World} (h : Below B w w1) (ho : Only g w1 w2) (hg : B ≤ g) : Below B w w2 :=
  h.trans ⟨ho.os, ho.tape, ho.output, by have := ho.size; omega, fun k hk => ho.other k (by omega)⟩
/-- The store of a whole entry: the world behind is a variable. -/
theorem wpList_store_elem {P : Program} {ops : Array Oper} {rest : List Oper} {op : Oper} {a : Act} {w : World} {Q : Exit → Act → World → Prop} (hgd : op.guard = none) (ty : TypeId) (x y : Operand) (ho : op.op = .store ty x y)
    (B e g i cap : Nat) (M : List Ep) (z nw : Ep) (hax : a.eval x = .pointer (some ⟨g, i * 17, none⟩)) (hay : a.eval y = .agg (ecells nw)) (hown : w.ownsRow B e 17 (.slice (some ⟨g, 0, none⟩) M.length cap) M.length (cellsOf ec M)) (hz : M[i]? = some z) (hi : (P.info? ty).map (·.size) = some 17)
    (h : ∀ w', w'.ownsRow B e 17 (.slice (some ⟨g, 0, none⟩) M.length cap) (M.set i nw).length (cellsOf ec (M.set i nw)) → Only g w w' → wpList P ops Q rest (a.put op.dst undef) w') : wpList P ops Q (op :: rest) a w :=
  wpList_store_mid hgd ty x y ho g (i * 17) (ecells nw) hax hay (own_there hown (List.getElem?_eq_some_iff.1 hz).1) (by simpa using hi) (all_oneCell_toArray (ec_one nw)) (h _ (own_store hown hz nw) (only_setCells _ _ _ _))

/-- Clone of entries. -/
theorem cloneE_any {w : World} {B : Nat} {v : Value} {l : List Ep} (h : w.ownsRow B 57 17 v l.length (cellsOf ec l)) (hl : l.length ≤ 5000) :
    Calls Try.prog 31 #[v] w (RowGave 57 17 ec l w) := by
  obtain ⟨i0, hi0, hz0, hz1, hz2⟩ := info_parts A57
  have hq := fun (w : World) (a : Option Addr) (n c n' c' : Nat) => Lib.run_eql_slice_nil (P := Try.prog) w 50 57 a n c n' c' Try.underlying50
  rcases h.2 with ⟨rfl, h0⟩ | ⟨g, cap, cur, rfl, hb, hg, rest⟩
  · have e : l = [] := List.eq_nil_of_length_eq_zero h0
    subst e
    clear h h0 hl
    go_enter Try.func31, Try.ntmps31
    go_wp2
    go_ret
    exact ⟨_, rfl, World.ownsRow_nil _ _ _ _, Below.refl _ _⟩
  · have hcell := h.cells (g := g) rfl
    have HC := Lib.hid hcell
    have HL := Lib.hid (cellsOf_len ec_len l)
    have H1 : Hid (∀ u ∈ cellsOf ec l, u.oneCell' = true) := Lib.hid (ecs_one l)
    clear h hcell hg rest
    go_enter Try.func31, Try.ntmps31
    go_wp2_with (at_builtin; refine wpList_append_own _ rfl (.tmp 5) (.tmp 6) 50 rfl w.heap.size 57 i0 (.agg (ecells e0)) 17 152 Try.underlying50 hi0 hz0 hz1 hz2 rfl (by decide) _ _ _ rfl (World.ownsRow_made w #[] 0 (Nat.le_refl _) (Nat.zero_le _) rfl) ⟨g, 0, none⟩ l.length cap (cellsOf ec l) rfl HL.out ?c1 H1.out ?c3 ?c4 ?c5 ?_)
    case c1 => exact fun j u hj => (Lib.cell?_alloc_some _ (HC.out j u hj))
    case c3 => simp only [maxLen]; omega
    case c4 => omega
    case c5 => simp
    intro v' w1 hown hgrow hnil
    go_wp2
    go_ret
    exact ⟨v', rfl, by simpa using hown, ((Below.refl _ w).alloc (Nat.le_refl _) _).grown hgrow (by simp) (by intro k hk; simp [Value.ownBlock] at hk; omega)⟩

theorem below_box (wr : World) (o : Obj) (cs : Array Value) : Below wr.heap.size wr ((wr.alloc o).setRow wr.heap.size cs) := below_setRow (balloc wr o) (Nat.le_refl _) _
/-- What a list of entries gives whose rows are its own. -/
def ListGave (l : List Ep) (w : World) (e : Ending) (w' : World) : Prop := ∃ p c M, e = .returned (.slice p M.length c) ∧ M.map Ep.pl = l.map Ep.pl ∧ EIn w' p M ∧ Frsh w.heap.size p M ∧ Below w.heap.size w w'
/-- Behind so many rounds of List. -/
def LsRel (w w1 : World) (l : List Ep) (g cap k : Nat) (M : List Ep) (wr : World) : Prop :=
  M.length = l.length ∧ M.map Ep.pl = l.map Ep.pl ∧ wr.ownsRow w.heap.size 57 17 (.slice (some ⟨g, 0, none⟩) M.length cap) M.length (cellsOf ec M) ∧ (∀ i x, M[i]? = some x → MIn wr x.p x.l ∧ (i < k → ∀ a, x.p = some a → w1.heap.size ≤ a.block) ∧ (k ≤ i → l[i]? = some x)) ∧ Below w.heap.size w wr ∧ w1.heap.size ≤ wr.heap.size
theorem LsRel.next {w w1 wr w2 w3 : World} {l M : List Ep} {g cap k : Nat} {x y : Ep} (h : LsRel w w1 l g cap k M wr) (hl : ∀ x ∈ l, MIn w x.p x.l) (hg : w.heap.size ≤ g) (hg1 : g < w1.heap.size) (hb : Below wr.heap.size wr w2) (hx : M[k]? = some x) (hy : y.pl = x.pl) (hm : MIn w2 y.p y.l) (hf : ∀ a, y.p = some a → wr.heap.size ≤ a.block)
    (hown : w3.ownsRow w.heap.size 57 17 (.slice (some ⟨g, 0, none⟩) M.length cap) (M.set k y).length (cellsOf ec (M.set k y))) (ho : Only g w2 w3) : LsRel w w1 l g cap (k + 1) (M.set k y) w3 := by
  obtain ⟨h1, h2, h3, h4, h5, h6⟩ := h
  have hk := (List.getElem?_eq_some_iff.1 hx).1
  refine ⟨by rw [List.length_set, h1], ?_, by rw [List.length_set] at hown ⊢; exact hown, fun i z hz => ?_, Only.below (bstep h5 hb) ho hg, by have := hb.size; have := ho.size; omega⟩
  · rw [List.map_set, hy, ← h2]
    refine List.ext_getElem? fun i => ?_
    rw [List.getElem?_set]
    split
    · rename_i e
      subst e
      rw [List.getElem?_map, hx, if_pos (by simpa using hk)]
      rfl
    · rfl
  · rw [List.getElem?_set] at hz
    split at hz
    · rename_i e
      subst e
      cases hz
      refine ⟨hm.keep (by have := ho.size; omega) fun _ a ha _ => ho.other _ (by have := hf a ha; omega), fun _ a ha => by have := hf a ha; omega, fun h => by omega⟩
    · rename_i e
      obtain ⟨q1, q2, q3⟩ := h4 i z hz
      refine ⟨(q1.step hb).keep (by have := ho.size; omega) fun hne a ha _ => ho.other _ ?_, fun hi => q2 (by omega), fun hi => q3 (by omega)⟩
      by_cases hi : i < k
      · have := q2 hi a ha
        omega
      · have := (hl z (List.mem_of_getElem? (q3 (by omega)))).lt hne a ha
        omega

set_option maxHeartbeats 4000000 in
theorem list_any {w : World} {B b : Nat} {room : Int} {l : List Ep} {v : Value} (h : QuP w B b room l v) (hl : l.length ≤ 5000) (hf : ∀ x ∈ l, x.l.length ≤ 5000) :
    Calls Try.prog 18 #[.pointer (some ⟨b, 0, none⟩)] w (ListGave l w) := by
  have HC := Lib.hid (cloneE_any h.bg.row hl)
  have HM := Lib.hid (fun x hx => (h.sd x hx).1)
  have HF := Lib.hid hf
  have c1 := blk_cell h.bg.blk 1
  simp at c1
  clear h hf
  go_enter Try.func18, Try.ntmps18
  go_wp2_with fail
  refine HC.out.mono ?_
  rintro e w1 ⟨v1, rfl, hown, hb1⟩
  rcases hown.2 with ⟨rfl, h0⟩ | ⟨g, cap, cur, rfl, hg, hgg, -⟩
  · have e : l = [] := List.eq_nil_of_length_eq_zero h0
    subst e
    clear hown h0 hl
    go_wp2_with fail
    go_loopw [13] (fun t wr => t = .int .i64 0 ∧ wr = w1) (fun _ _ => 0)
    case atStart => exact ⟨rfl, rfl⟩
    case round =>
      obtain ⟨rfl, rfl⟩ := hrel
      go_wp2
      go_ret
      exact ⟨none, 0, [], rfl, rfl, EIn.nil _ _, ⟨fun a ha => (by cases ha), fun x hx => (by cases hx)⟩, hb1⟩
  · have hg1 := lt_of_block hgg
    have HR : Hid (LsRel w w1 l g cap 0 l w1) := Lib.hid ⟨rfl, rfl, hown, fun i x hx => ⟨(HM.out x (List.mem_of_getElem? hx)).step hb1, fun h => by omega, fun _ => hx⟩, hb1, Nat.le_refl _⟩
    clear hown hgg hb1
    go_wp2_with fail
    go_loopw [13] (fun t wr => ∃ k : Nat, k ≤ l.length ∧ t = .int .i64 k ∧ ∃ M, LsRel w w1 l g cap k M wr) (fun t _ => l.length - (intOf t).toNat)
    case atStart => exact ⟨0, Nat.zero_le _, rfl, l, HR.out⟩
    case round =>
      obtain ⟨k, hk, rfl, M, hM⟩ := hrel
      have H := Lib.hid hM
      clear hM HR
      by_cases hlt : k < l.length
      · obtain ⟨x, hx⟩ : ∃ x, M[k]? = some x := ⟨_, List.getElem?_eq_getElem (by rw [H.out.1]; exact hlt)⟩
        obtain ⟨q1, -, q3⟩ := H.out.2.2.2.1 k x hx
        have HQ := Lib.hid q1
        have hxl := HF.out x (List.mem_of_getElem? (q3 (Nat.le_refl _)))
        have hr : wr.rangeAt g (k * 17) (ec x) := by
          obtain ⟨p', c', e', hin⟩ := own_ins H.out.2.2.1
          obtain ⟨rfl, -⟩ : some (⟨g, 0, none⟩ : Addr) = p' ∧ cap = c' := by simpa using e'
          obtain ⟨g', e2, -, hr⟩ := hin k x hx
          cases e2
          exact hr
        have HR := Lib.hid hr
        have HX := Lib.hid hx
        clear q1 q3 hx hr
        have HB2 := Lib.hid (below_box wr (.cells zec 57) (ecells x))
        have HG2 : Hid (((wr.alloc (.cells zec 57)).setRow wr.heap.size (ecells x)).heap[wr.heap.size]? = some (.cells (ecells x) 57 (0, 0))) := Lib.hid (setRow_heap _ _ _ _ _ _ (heap_alloc_new wr _))
        go_wp2_with (first
          | ((with_reducible refine wpList_load_at (op := ⟨some 17, _, _, _, _, _⟩) rfl 57 (.tmp 16) rfl g (k * 17) ?lx (ecells x) _ ?lc Try.underlying57 ?ld ?li ?_); (case lx => rfl); (case lc => exact HR.out); (case ld => rfl); (case li => kernel_rfl))
          | ((with_reducible refine wpList_store_row (o := ⟨none, _, _, _, _, _⟩) rfl 57 (.tmp 5) (.tmp 17) rfl wr.heap.size (ecells x) ?sx ?sy 57 ?old ?sg ?si ?so ?s1 ?_); (case sx => rfl); (case sy => rfl); (case old => exact zec); (case sg => exact heap_alloc_new wr _); (case si => kernel_rfl); (case so => rfl); (case s1 => kernel_rfl); generalize (wr.alloc (.cells zec 57)).setRow wr.heap.size (ecells x) = w2 at *)
          | ((with_reducible refine wpList_load_row (o := ⟨some 20, _, _, _, _, _⟩) rfl 57 (.tmp 5) rfl wr.heap.size ?lx 57 (ecells x) (0, 0) _ ?lg Try.underlying57 ?ld ?li ?_); (case lx => rfl); (case lg => exact HG2.out); (case ld => rfl); (case li => kernel_rfl))
          | fail)
        refine (copied_any x _ hxl (HQ.out.step HB2.out)).mono ?_
        rintro e w3 ⟨y, rfl, hy, hm, hfr, hb3⟩
        have HN : Hid (∀ w4, w4.ownsRow w.heap.size 57 17 (.slice (some ⟨g, 0, none⟩) M.length cap) (M.set k y).length (cellsOf ec (M.set k y)) → Only g w3 w4 → LsRel w w1 l g cap (k + 1) (M.set k y) w4) := Lib.hid (fun w4 ho hon => H.out.next HM.out hg hg1 (bstep HB2.out hb3) HX.out hy hm (fun a ha => by have := hfr a ha; have := HB2.out.size; omega) ho hon)
        have HO := Lib.hid (own_block H.out.2.2.1 fun q hq => (bstep HB2.out hb3).block q (H.out.2.2.1.lt q hq).2)
        have hML : M.length = l.length := H.out.1
        have HL := Lib.hid hML
        clear hy hm hfr hb3 hML
        go_wp2_with ((with_reducible refine wpList_store_elem (op := ⟨none, _, _, _, _, _⟩) rfl 57 (.tmp 22) (.tmp 21) rfl w.heap.size 57 g k cap M x y ?sx ?sy ?so ?sz ?si ?_); (case sx => rfl); (case sy => rfl); (case so => exact HO.out); (case sz => exact HX.out); (case si => kernel_rfl); intro w4 hown4 hon4; have HN4 := Lib.hid (HN.out w4 hown4 hon4); clear hown4 hon4)
        go_roundw
        case rel => exact ⟨k + 1, by omega, by go_num, M.set k y, HN4.out⟩
        case measure => simp [intOf]; omega
      · have hkl : k = l.length := by omega
        obtain ⟨h1, h2, h3, h4, h5, h6⟩ := H.out
        have HE : Hid (ListGave l w (.returned (.slice (some ⟨g, 0, none⟩) l.length cap)) wr) := Lib.hid (by
          obtain ⟨p', c', e', hin⟩ := own_ins h3
          obtain ⟨rfl, -⟩ : some (⟨g, 0, none⟩ : Addr) = p' ∧ cap = c' := by simpa using e'
          refine ⟨some ⟨g, 0, none⟩, cap, M, by rw [h1], h2, ⟨fun i x hx => ?_, fun x hx => ?_⟩, ⟨fun a ha => by cases ha; exact hg, fun x hx a ha => ?_⟩, h5⟩
          · obtain ⟨g', e2, hg', hr⟩ := hin i x hx
            cases e2
            exact ⟨g, 0, rfl, hg', by rw [Nat.zero_add]; exact hr⟩
          · obtain ⟨i, hi, rfl⟩ := List.getElem_of_mem hx
            exact (h4 i _ (List.getElem?_eq_getElem hi)).1
          · obtain ⟨i, hi, rfl⟩ := List.getElem_of_mem hx
            have := (h4 i _ (List.getElem?_eq_getElem hi)).2.1 (by omega) a ha
            omega)
        clear h1 h2 h3 h4 h5 h6 hkl
        go_wp2_with fail
        go_ret
        exact HE.out

end Go.Proofs.Ytnpbbkiojoafbaa
