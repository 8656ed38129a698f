/-
  The program's net and the document's, side by side, call by call.
-/
import Derived.Test.YtdggjbaapnkcgaaNtW
import Derived.Test.YtdggjbaapnkcgaaNtK
namespace Go.Proofs.Ytdggjbaapnkcgaa
open Go Go.RowKit

theorem range15 {w : World} {g o : Nat} {x : Msg} (h : w.rangeAt g o (mg x)) :
    w.cell? ⟨g, o, none⟩ = some (.int .i64 x.kd) ∧ w.cell? ⟨g, o + 1, none⟩ = some (.int .i64 x.ln) ∧ w.cell? ⟨g, o + 2, none⟩ = some (.int .i64 x.fr) ∧ w.cell? ⟨g, o + 3, none⟩ = some (.int .i64 x.to) ∧ w.cell? ⟨g, o + 4, none⟩ = some (.int .i64 x.wh) ∧
    w.cell? ⟨g, o + 5, none⟩ = some (.int .i64 x.ac) ∧ w.cell? ⟨g, o + 6, none⟩ = some (.int .i64 x.ow) ∧ w.cell? ⟨g, o + 7, none⟩ = some (.int .i64 x.w0) ∧ w.cell? ⟨g, o + 8, none⟩ = some (.int .i64 x.w1) ∧ w.cell? ⟨g, o + 9, none⟩ = some (.int .i64 x.w2) ∧
    w.cell? ⟨g, o + 10, none⟩ = some (.int .i64 x.w3) ∧ w.cell? ⟨g, o + 11, none⟩ = some (.int .i64 x.w4) ∧ w.cell? ⟨g, o + 12, none⟩ = some (.int .i64 x.w5) ∧ w.cell? ⟨g, o + 13, none⟩ = some (.int .i64 x.w6) ∧ w.cell? ⟨g, o + 14, none⟩ = some (.int .i64 x.w7) :=
  ⟨h 0 _ rfl, h 1 _ rfl, h 2 _ rfl, h 3 _ rfl, h 4 _ rfl, h 5 _ rfl, h 6 _ rfl, h 7 _ rfl, h 8 _ rfl, h 9 _ rfl, h 10 _ rfl, h 11 _ rfl, h 12 _ rfl, h 13 _ rfl, h 14 _ rfl⟩

set_option maxRecDepth 100000 in
set_option maxHeartbeats 2000000 in
theorem same7_any (p q : Option Addr) (cap cap' N : Nat) (L : List Msg) (w : World) (hN : L.length = N) (hN64 : N ≤ 1000) (h1 : MgsIn w p L) (h2 : MgsIn w q L) :
    Calls Try.prog 16 #[.slice p N cap, .slice q N cap'] w fun e w' => e = .returned (.bool true) ∧ Below w.heap.size w w' := by
  have H1 := Lib.hid h1
  have H2 := Lib.hid h2
  have HN := Lib.hid hN
  have hne : ((N : Int) != (N : Int)) = false := by simp
  clear h1 h2 hN
  go_enter Try.func16, Try.ntmps16
  go_wp2
  go_loopw [5] (fun i wr => ∃ k : Nat, k ≤ N ∧ i = .int .i64 k ∧ ∃ n, wr = w.drewN n) (fun i _ => N - (intOf i).toNat)
  case atStart => exact ⟨0, Nat.zero_le _, rfl, 0, rfl⟩
  case round =>
    obtain ⟨k, hk, rfl, n, rfl⟩ := hrel
    by_cases hlt : k < N
    · obtain ⟨x, hx⟩ : ∃ x, L[k]? = some x := ⟨_, List.getElem?_eq_getElem (by rw [HN.out]; exact hlt)⟩
      obtain ⟨g, rfl, hg, hr⟩ := H1.out k x hx
      obtain ⟨g', rfl, hg', hr'⟩ := H2.out k x hx
      obtain ⟨a0, a1, a2, a3, a4, a5, a6, a7, a8, a9, a10, a11, a12, a13, a14⟩ := range15 hr
      obtain ⟨b0, b1, b2, b3, b4, b5, b6, b7, b8, b9, b10, b11, b12, b13, b14⟩ := range15 hr'
      have hq := msg_neq x
      clear hx hr hr'
      go_wp2
      go_quiet (fail)
      go_wp2
      go_roundw
      case rel => exact ⟨k + 1, by omega, by go_num, _, rfl⟩
      case measure => simp [intOf]; omega
    · go_wp2
      go_ret
      exact ⟨rfl, below_drewN (Below.refl _ _) _⟩

/-- Two nets that share nothing, and boxes of the caller's own beside them. -/
structure TwoN (w : World) (B n r : Nat) (c : Cfg) (b : Nat → Nat) (l m : Nat → List Msg) (G : List (Nat × Array Value)) (v u : Nat → Value) (wr : World) : Prop where
  net : NetP wr B n c b l v
  ref : RefP wr B r c m u
  dis : ∀ k, Foot n b v k → ¬ RFoot r u k
  box : ∀ p ∈ G, Cl p.1 p.2 wr ∧ ¬ Foot n b v p.1 ∧ ¬ RFoot r u p.1
  lo : w.heap.size ≤ B
  size : B ≤ wr.heap.size
  below : Below w.heap.size w wr
def Two (w : World) (B n r : Nat) (c : Cfg) (b : Nat → Nat) (l m : Nat → List Msg) (G : List (Nat × Array Value)) (wr : World) : Prop := ∃ v u, TwoN w B n r c b l m G v u wr
variable {w wr w' : World} {B n r : Nat} {c : Cfg} {b : Nat → Nat} {l m l' : Nat → List Msg} {G : List (Nat × Array Value)}
theorem Two.below (h : Two w B n r c b l m G wr) : Below w.heap.size w wr := by obtain ⟨v, u, h⟩ := h; exact h.below
theorem Two.ok (h : Two w B n r c b l m G wr) : okC c = true := by obtain ⟨v, u, h⟩ := h; exact h.net.ok
theorem Two.len (h : Two w B n r c b l m G wr) (k : Nat) (hk : k < 3) : ((l k).length : Int) ≤ room c k := by obtain ⟨v, u, h⟩ := h; exact h.net.len k hk
theorem Two.cl (h : Two w B n r c b l m G wr) {g : Nat} {A : Array Value} (hg : (g, A) ∈ G) : Cl g A wr := by obtain ⟨v, u, h⟩ := h; exact (h.box _ hg).1
theorem Two.step (h : Two w B n r c b l m G wr) (hb : Below wr.heap.size wr w') : Two w B n r c b l m G w' := by
  obtain ⟨v, u, h⟩ := h
  exact ⟨v, u, h.net.below hb, h.ref.below hb, h.dis, fun p hp => ⟨(h.box p hp).1.step hb, (h.box p hp).2⟩, h.lo, Nat.le_trans h.size hb.size, bstep h.below hb⟩
theorem Two.drew (h : Two w B n r c b l m G wr) : Two w B n r c b l m G wr.drew := h.step ⟨rfl, rfl, rfl, Nat.le_refl _, fun _ _ => rfl⟩
/-- One box more. -/
theorem Two.add (h : Two w B n r c b l m G wr) {t : TypeId} (A : Array Value) : Two w B n r c b l m ((wr.heap.size, A) :: G) (wr.alloc (.cells A t)) := by
  have hb : Below wr.heap.size wr (wr.alloc (.cells A t)) := (Below.refl _ _).alloc (Nat.le_refl _) _
  obtain ⟨v, u, h⟩ := h
  refine ⟨v, u, h.net.below hb, h.ref.below hb, h.dis, fun p hp => ?_, h.lo, Nat.le_trans h.size hb.size, bstep h.below hb⟩
  rcases List.mem_cons.1 hp with rfl | hp
  · exact ⟨Cl.new wr, fun e => by have := (h.net.foot _ e).2; simp only at this; omega, fun e => by have := (h.ref.foot _ e).2; simp only at this; omega⟩
  · exact ⟨(h.box p hp).1.step hb, (h.box p hp).2⟩
theorem Two.drop (h : Two w B n r c b l m G wr) : Two w B n r c b l m [] wr := by
  obtain ⟨v, u, h⟩ := h
  exact ⟨v, u, h.net, h.ref, h.dis, fun p hp => (by cases hp), h.lo, h.size, h.below⟩
/-- The program's net has changed. -/
theorem TwoN.gave {v u : Nat → Value} (h : TwoN w B n r c b l m G v u wr) (hg : NetGave wr B n c b l' v w') : Two w B n r c b l' m G w' := by
  have hb := hg.below h.net h.size
  obtain ⟨v', h1, ht, hf⟩ := hg
  have key : ∀ k, k < wr.heap.size → ¬ Foot n b v k → ¬ Foot n b v' k := fun k hk h0 e => by
    rcases hf k e with e | e
    · exact h0 e
    · omega
  refine ⟨v', u, h1, h.ref.keep fun k hk => ht.other k (h.ref.foot k hk).2 (fun e => h.dis k e hk), fun k hk hr => ?_, fun p hp => ?_, h.lo, Nat.le_trans h.size hb.size, h.below.trans (hb.mono h.lo)⟩
  · exact key k (h.ref.foot k hr).2 (fun e => h.dis k e hr) hk
  · obtain ⟨h2, h3, h4⟩ := h.box p hp
    exact ⟨⟨fun o => (World.cell?_of_block (ht.other p.1 h2.lt h3)).trans (h2.c o), Nat.lt_of_lt_of_le h2.lt ht.size⟩, key p.1 h2.lt h3, h4⟩
/-- The document's net has changed. -/
theorem TwoN.rgave {v u : Nat → Value} (h : TwoN w B n r c b l m G v u wr) (hg : RefGave wr B r c l' u w') : Two w B n r c b l l' G w' := by
  obtain ⟨u', h1, ht, hf⟩ := hg
  have hb : Below B wr w' := ht.below (fun k hk => (h.ref.foot k hk).1) h.size
  have key : ∀ k, k < wr.heap.size → ¬ RFoot r u k → ¬ RFoot r u' k := fun k hk h0 e => by
    rcases hf k e with e | e
    · exact h0 e
    · omega
  refine ⟨v, u', h.net.keep fun k hk => ht.other k (h.net.foot k hk).2 (h.dis k hk), h1, fun k hk hr => ?_, fun p hp => ?_, h.lo, Nat.le_trans h.size hb.size, h.below.trans (hb.mono h.lo)⟩
  · exact key k (h.net.foot k hk).2 (h.dis k hk) hr
  · obtain ⟨h2, h3, h4⟩ := h.box p hp
    exact ⟨⟨fun o => (World.cell?_of_block (ht.other p.1 h2.lt h4)).trans (h2.c o), Nat.lt_of_lt_of_le h2.lt ht.size⟩, h3, key p.1 h2.lt h4⟩

/-- At, of both: the same. -/
theorem both_at (c : Cfg) (l : Nat → List Msg) (k i : Int) : ∃ x q, (∀ m G wr, Two w B n r c b l m G wr → Calls Try.prog 8 #[.pointer (some ⟨n, 0, none⟩), .int .i64 k, .int .i64 i] wr (RetM wr x (.bool q))) ∧
    (∀ m G wr, Two w B n r c b m l G wr → Calls Try.prog 9 #[.pointer (some ⟨r, 0, none⟩), .int .i64 k, .int .i64 i] wr (RetM wr x (.bool q))) := by
  by_cases hk : k < 0 ∨ 3 ≤ k
  · exact ⟨m0, false, fun _ _ wr _ => nat_no _ k i wr hk, fun _ _ wr _ => rat_out _ k i wr hk⟩
  · obtain ⟨j, rfl⟩ : ∃ j : Nat, (j : Int) = k := ⟨k.toNat, by omega⟩
    have hj : j < 3 := by omega
    by_cases hi : i < 0 ∨ ((l j).length : Int) ≤ i
    · exact ⟨m0, false, fun _ _ wr ⟨_, _, h⟩ => nat_none h.net j j i rfl hj hi, fun _ _ wr ⟨_, _, h⟩ => rat_none h.ref j i hj hi⟩
    · obtain ⟨q, rfl⟩ : ∃ q : Nat, (q : Int) = i := ⟨i.toNat, by omega⟩
      obtain ⟨x, hx⟩ : ∃ x, (l j)[q]? = some x := ⟨_, List.getElem?_eq_getElem (by omega)⟩
      exact ⟨x, true, fun _ _ wr ⟨_, _, h⟩ => nat_yes h.net j j q x rfl hj hx, fun _ _ wr ⟨_, _, h⟩ => rat_yes h.ref j q x hj hx⟩
/-- Left, of both. -/
theorem both_left (c : Cfg) (l : Nat → List Msg) (k : Int) : ∃ z : Int, (∀ m G wr, Two w B n r c b l m G wr → Calls Try.prog 10 #[.pointer (some ⟨n, 0, none⟩), .int .i64 k] wr fun e w' => e = .returned (.int .i64 z) ∧ Below wr.heap.size wr w') ∧
    (∀ m G wr, Two w B n r c b m l G wr → Calls Try.prog 11 #[.pointer (some ⟨r, 0, none⟩), .int .i64 k] wr fun e w' => e = .returned (.int .i64 z) ∧ Below wr.heap.size wr w') := by
  by_cases hk : k < 0 ∨ 3 ≤ k
  · exact ⟨0, fun _ _ wr _ => nleft_no _ k wr hk, fun _ _ wr _ => rleft_no _ k wr hk⟩
  · obtain ⟨j, rfl⟩ : ∃ j : Nat, (j : Int) = k := ⟨k.toNat, by omega⟩
    have hj : j < 3 := by omega
    exact ⟨_, fun _ _ wr ⟨_, _, h⟩ => nleft_yes h.net j j rfl hj, fun _ _ wr ⟨_, _, h⟩ => rleft_yes h.ref j hj⟩
/-- Send, of both. -/
theorem both_send (l : Nat → List Msg) (x : Msg) (hlen : ∀ k, k < 3 → ((l k).length : Int) ≤ room c k) : ∃ (z : Int) (l' : Nat → List Msg), (∀ m G wr, Two w B n r c b l m G wr → Calls Try.prog 12 #[.pointer (some ⟨n, 0, none⟩), mv x] wr fun e w' => e = .returned (.int .i64 z) ∧ Two w B n r c b l' m G w') ∧
    (∀ m G wr, Two w B n r c b m l G wr → Calls Try.prog 13 #[.pointer (some ⟨r, 0, none⟩), mv x] wr fun e w' => e = .returned (.int .i64 z) ∧ Two w B n r c b m l' G w') := by
  rcases Bool.eq_false_or_eq_true (mayM c x) with hm | hm
  · obtain ⟨j, hj, hn⟩ := net_cases hm
    by_cases hf : ((l j).length : Int) < room c j
    · refine ⟨0, upd l j (l j ++ [x]), fun _ _ wr ⟨v, u, h⟩ => (nsend_ok h.net h.size x j hj hm hn hf).mono fun _ _ ⟨he, hg⟩ => ⟨he, h.gave hg⟩, fun _ _ wr ⟨v, u, h⟩ => (rsend_ok h.ref h.size x j hj hm hn hf).mono fun _ _ ⟨he, hg⟩ => ⟨he, h.rgave hg⟩⟩
    · have hr : room c j = (l j).length := by have := hlen j hj; omega
      exact ⟨4, l, fun _ _ wr h => (by obtain ⟨v, u, h'⟩ := h; exact (nsend_full h'.net x j hj hm hn hr).mono fun _ _ ⟨he, hb⟩ => ⟨he, Two.step ⟨v, u, h'⟩ hb⟩), fun _ _ wr h => (by obtain ⟨v, u, h'⟩ := h; exact (rsend_full h'.ref x j hj hm hn hr).mono fun _ _ ⟨he, hb⟩ => ⟨he, Two.step ⟨v, u, h'⟩ hb⟩)⟩
  · exact ⟨1, l, fun _ _ wr h => (by obtain ⟨v, u, h'⟩ := h; exact (nsend_bad h'.net x hm).mono fun _ _ ⟨he, hb⟩ => ⟨he, Two.step ⟨v, u, h'⟩ hb⟩), fun _ _ wr h => (by obtain ⟨v, u, h'⟩ := h; exact (rsend_bad h'.ref x hm).mono fun _ _ ⟨he, hb⟩ => ⟨he, Two.step ⟨v, u, h'⟩ hb⟩)⟩
/-- Take, of both. -/
theorem both_take (c : Cfg) (l : Nat → List Msg) (k i : Int) : ∃ (x : Msg) (z : Int) (l' : Nat → List Msg), (∀ m G wr, Two w B n r c b l m G wr → Calls Try.prog 14 #[.pointer (some ⟨n, 0, none⟩), .int .i64 k, .int .i64 i] wr (TakM x z (Two w B n r c b l' m G))) ∧
    (∀ m G wr, Two w B n r c b m l G wr → Calls Try.prog 15 #[.pointer (some ⟨r, 0, none⟩), .int .i64 k, .int .i64 i] wr (TakM x z (Two w B n r c b m l' G))) := by
  by_cases hk : k < 0 ∨ 3 ≤ k
  · exact ⟨m0, 5, l, fun _ _ wr h => (ntake_no _ k i wr hk).mono fun _ _ ⟨he, hb⟩ => ⟨he, h.step hb⟩, fun _ _ wr h => (rtake_out _ k i wr hk).mono fun _ _ ⟨he, hb⟩ => ⟨he, h.step hb⟩⟩
  · obtain ⟨j, rfl⟩ : ∃ j : Nat, (j : Int) = k := ⟨k.toNat, by omega⟩
    have hj : j < 3 := by omega
    by_cases hi : i < 0 ∨ ((l j).length : Int) ≤ i
    · exact ⟨m0, 5, l, fun _ _ wr h => (by obtain ⟨v, u, h'⟩ := h; exact (ntake_none h'.net j j i rfl hj hi).mono fun _ _ ⟨he, hb⟩ => ⟨he, Two.step ⟨v, u, h'⟩ hb⟩), fun _ _ wr h => (by obtain ⟨v, u, h'⟩ := h; exact (rtake_none h'.ref j i hj hi).mono fun _ _ ⟨he, hb⟩ => ⟨he, Two.step ⟨v, u, h'⟩ hb⟩)⟩
    · obtain ⟨q, rfl⟩ : ∃ q : Nat, (q : Int) = i := ⟨i.toNat, by omega⟩
      obtain ⟨x, hx⟩ : ∃ x, (l j)[q]? = some x := ⟨_, List.getElem?_eq_getElem (by omega)⟩
      exact ⟨x, 0, upd l j ((l j).eraseIdx q), fun _ _ wr ⟨v, u, h⟩ => (ntake_yes h.net j j q x rfl hj hx).mono fun _ _ ⟨he, hg⟩ => ⟨he, h.gave hg⟩, fun _ _ wr ⟨v, u, h⟩ => (rtake_yes h.ref h.size j q x hj hx).mono fun _ _ ⟨he, hg⟩ => ⟨he, h.rgave hg⟩⟩

/-- List, of whatever network. -/
def nls (l : Nat → List Msg) (k : Int) : List Msg := if 0 ≤ k ∧ k < 3 then l k.toNat else []
theorem both_list (h : Two w B n r c b l m G wr) (k : Int) (N : Nat) (hN : (nls l k).length = N) :
    Calls Try.prog 17 #[.pointer (some ⟨n, 0, none⟩), .int .i64 k] wr fun e w' => (∃ p cap, e = .returned (.slice p N cap) ∧ MgsIn w' p (nls l k)) ∧ Below wr.heap.size wr w' := by
  obtain ⟨v, u, h⟩ := h
  unfold nls at hN ⊢
  by_cases hk : 0 ≤ k ∧ k < 3
  · rw [if_pos hk] at hN ⊢
    exact nlistN h.net k.toNat k (by omega) (by omega) N hN
  · rw [if_neg hk] at hN ⊢
    subst hN
    refine (nlist_no _ k wr (by omega)).mono fun e w' ⟨y, he, ho, hb⟩ => ?_
    obtain ⟨p, cap, rfl, hm⟩ := own_mgs ho
    exact ⟨⟨p, cap, he, hm⟩, hb⟩
theorem both_of (h : Two w B n r c b l m G wr) (line : Int) (N : Nat) (hN : (flt line (allOf l)).length = N) :
    Calls Try.prog 20 #[.pointer (some ⟨n, 0, none⟩), .int .i64 line] wr fun e w' => (∃ p cap, e = .returned (.slice p N cap) ∧ MgsIn w' p (flt line (allOf l))) ∧ Below wr.heap.size wr w' := by
  subst hN
  obtain ⟨v, u, h⟩ := h
  refine (nof_any h.net line).mono fun e w' ⟨y, he, ho, hb⟩ => ?_
  obtain ⟨p, cap, rfl, hm⟩ := own_mgs ho
  exact ⟨⟨p, cap, he, hm⟩, hb⟩
theorem both_rof (h : Two w B n r c b m l G wr) (line : Int) (N : Nat) (hN : (flt line (allOf l)).length = N) :
    Calls Try.prog 21 #[.pointer (some ⟨r, 0, none⟩), .int .i64 line] wr fun e w' => (∃ p cap, e = .returned (.slice p N cap) ∧ MgsIn w' p (flt line (allOf l))) ∧ Below wr.heap.size wr w' := by
  subst hN
  obtain ⟨v, u, h⟩ := h
  refine (rof_any h.ref line).mono fun e w' ⟨y, he, ho, hb⟩ => ?_
  obtain ⟨p, cap, rfl, hm⟩ := own_mgs ho
  exact ⟨⟨p, cap, he, hm⟩, hb⟩
/-- A row of the document's, as a load finds it. -/
theorem both_row (h : Two w B n r c b m l G wr) (j : Nat) (hj : j < 3) : ∃ p cap, wr.cell? ⟨r, 13 + j, none⟩ = some (.slice p (l j).length cap) ∧ r < wr.heap.size ∧ MgsIn wr p (l j) := by
  obtain ⟨v, u, h⟩ := h
  obtain ⟨p, cap, -, c1, -, -, hm⟩ := h.ref.cells j hj
  exact ⟨p, cap, c1, h.ref.lt, hm⟩

end Go.Proofs.Ytdggjbaapnkcgaa
