/-
  A bag of messages beside a map that counts its lines, call by call.
-/
import Derived.Test.YtnimaogdjfenpaaBgN
import Derived.Test.YtnimaogdjfenpaaBgI
import Derived.Maps.OwnOps
import Derived.Maps.OwnSet
import Derived.Maps.Views
import Derived.Maps.RangeWalk
namespace Go.Proofs.Ytnimaogdjfenpaa
open Go Go.RowKit Go.Maps

theorem law3 : Keyed Try.prog 3 := int_keyed Try.underlying3
theorem zero3 (w : World) : (zeroValue 3).run Try.prog w = .ok (.int .i64 0) w := by kernel_rfl
/-- What a count stands at. -/
def Cnt (D : DataW Unit) (g : Int → Int) : Prop := ∀ q, D.atKey (.int .i64 q) (.lit (.int .i64 0)) = .lit (.int .i64 (g q))
/-- One count is another one. -/
def bump (g : Int → Int) (q c : Int) : Int → Int := fun p => if p = q then c else g p
theorem Cnt.put {D : DataW Unit} {g : Int → Int} (h : Cnt D g) (hD : IsMap D) (q c : Int) : Cnt (D.put (.int .i64 q) (.lit (.int .i64 c))) (bump g q c) := by
  intro p
  unfold bump
  by_cases hp : p = q
  · subst hp
    rw [if_pos rfl, atKey_put_same hD (by trivial)]
  · rw [if_neg hp, atKey_put_other (by simpa using hp)]
    exact h p
theorem cnt_empty : Cnt (.map []) (fun _ => 0) := fun _ => rfl

theorem own_map_block {w w' : World} {mb n : Nat} {D : DataW Unit} (h : w.ownsMap Try.prog 3 (plainElem (H := Unit) Try.prog 3) mb n D) (hb : w'.heap[mb]? = w.heap[mb]?) : w'.ownsMap Try.prog 3 (plainElem (H := Unit) Try.prog 3) mb n D := by
  obtain ⟨es, clock, h1, h2⟩ := h
  exact ⟨es, clock, hb.trans h1, h2⟩
theorem own_map_lt {w : World} {mb n : Nat} {D : DataW Unit} (h : w.ownsMap Try.prog 3 (plainElem (H := Unit) Try.prog 3) mb n D) : mb < w.heap.size := by
  obtain ⟨es, clock, h1, _⟩ := h
  exact (Array.getElem?_eq_some_iff.1 h1).1

/-- A bag of messages, and a map beside it: both the call's own. -/
structure KSt (w : World) (b mb : Nat) (room : Int) (l : List Mg) (g : Int → Int) (n : Nat) (v : Value) (D : DataW Unit) (wr : World) : Prop where
  bag : BgM wr w.heap.size b room l v
  map : wr.ownsMap Try.prog 3 (plainElem (H := Unit) Try.prog 3) mb n D
  big : w.heap.size ≤ mb
  cnt : Cnt D g
  below : Below w.heap.size w wr
def KS (w : World) (b mb : Nat) (room : Int) (l : List Mg) (g : Int → Int) (n : Nat) (wr : World) : Prop := ∃ v D, KSt w b mb room l g n v D wr
variable {w wr : World} {b mb n : Nat} {room : Int} {l : List Mg} {g : Int → Int}
theorem KSt.ne {v : Value} {D : DataW Unit} (h : KSt w b mb room l g n v D wr) : mb ≠ b ∧ v.ownBlock ≠ some mb := by
  obtain ⟨es, clock, h1, _⟩ := h.map
  refine ⟨fun e => ?_, fun e => ?_⟩
  · subst e
    rw [h.bag.blk] at h1
    cases h1
  · rcases h.bag.row.2 with ⟨rfl, _⟩ | ⟨g', cap, cur, rfl, _, hg, _⟩
    · simp [Value.ownBlock] at e
    · simp only [Value.ownBlock, Option.some.injEq] at e
      subst e
      rw [hg] at h1
      cases h1
theorem KS.below (h : KS w b mb room l g n wr) : Below w.heap.size w wr := by obtain ⟨v, D, h⟩ := h; exact h.below
theorem KS.step {w' : World} (h : KS w b mb room l g n wr) (hb : Below wr.heap.size wr w') : KS w b mb room l g n w' := by
  obtain ⟨v, D, h⟩ := h
  exact ⟨v, D, h.bag.below hb, own_map_block h.map (hb.block mb (own_map_lt h.map)), h.big, h.cnt, bstep h.below hb⟩
theorem KSt.turn {v : Value} {D : DataW Unit} {w' : World} {l' : List Mg} (h : KSt w b mb room l g n v D wr) (hg : PutGave 69 52 15 mg wr w.heap.size b room l' v w') : KS w b mb room l' g n w' := by
  obtain ⟨v', h1, h2, _⟩ := hg
  exact ⟨v', D, h1, own_map_block h.map (h2.other mb (own_map_lt h.map) h.ne.1 h.ne.2), h.big, h.cnt, h.below.trans (h2.below h.bag h.below.size)⟩
/-- A count has been stored. -/
theorem KSt.stored {v : Value} {D : DataW Unit} {w' : World} (h : KSt w b mb room l g n v D wr) (q c : Int) (hm : w'.ownsMap Try.prog 3 (plainElem (H := Unit) Try.prog 3) mb (n + 1) (D.put (.int .i64 q) (.lit (.int .i64 c)))) (hg : wr.grownBy w' (some mb)) : KS w b mb room l (bump g q c) (n + 1) w' := by
  refine ⟨v, _, h.bag.keep ?_ ?_, hm, h.big, h.cnt.put (h.map.tidy law3).isMap q c, h.below.grown hg h.below.size (fun k hk => by cases hk; exact h.big)⟩
  · exact hg.block b h.bag.lt (by intro e; exact h.ne.1 (by simpa using e.symm))
  · exact fun k hk => hg.block k (h.bag.row.lt k hk).2 (by rw [← hk]; exact h.ne.2)

theorem KS.new (w wr : World) (room : Int) (hb : Below w.heap.size w wr) (h1 : 1 ≤ room) (h2 : room ≤ 4096) :
    Calls Try.prog 19 #[.int .i64 room] wr fun e w' => e = .returned (.tuple #[.pointer (some ⟨wr.heap.size, 0, none⟩), .int .i64 0]) ∧ KS w wr.heap.size w'.heap.size room [] (fun _ => 0) 0 (w'.alloc (.map #[] 0)) := by
  refine (newM_yes room wr h1 h2).mono fun e w' ⟨he, hw⟩ => ⟨he, .slice none 0 0, .map [], ?_⟩
  subst hw
  have hB := hb.size
  have ha : Below wr.heap.size wr (wr.alloc (.cells #[.int .i64 room, .slice none 0 0] 69)) := (Below.refl _ _).alloc (Nat.le_refl _) _
  have hw2 := ha.size
  have ha2 := (Below.refl _ (wr.alloc (.cells #[.int .i64 room, .slice none 0 0] 69))).alloc (Nat.le_refl _) (.map #[] 0)
  exact ⟨(Bg.new hB).below ha2, World.ownsMap_made _ _ _ _, by omega, cnt_empty, bstep (bstep hb ha) ha2⟩
theorem KS.put (h : KS w b mb room l g n wr) (x : Mg) (h2 : room ≤ 4096) (hl : (l.length : Int) < room) :
    Calls Try.prog 20 #[.pointer (some ⟨b, 0, none⟩), .agg (mga x)] wr fun e w' => e = .returned (.int .i64 0) ∧ KS w b mb room (l ++ [x]) g n w' := by
  obtain ⟨v, D, h⟩ := h
  exact (putM_ok h.bag x h.below.size (by omega) h2 hl).mono fun _ _ ⟨he, hg⟩ => ⟨he, h.turn hg⟩
theorem KS.full (h : KS w b mb room l g n wr) (x : Mg) (h2 : room ≤ 4096) (hl : room = l.length) :
    Calls Try.prog 20 #[.pointer (some ⟨b, 0, none⟩), .agg (mga x)] wr fun e w' => e = .returned (.int .i64 4) ∧ KS w b mb room l g n w' := by
  have h' := h
  obtain ⟨v, D, h⟩ := h
  exact (putM_full h.bag x (by omega) h2 hl).mono fun _ _ ⟨he, hb⟩ => ⟨he, h'.step hb⟩
theorem KS.take (h : KS w b mb room l g n wr) (i : Nat) (x : Mg) (hl : l.length ≤ 5000) (hx : l[i]? = some x) :
    Calls Try.prog 21 #[.pointer (some ⟨b, 0, none⟩), .int .i64 i] wr fun e w' => e = .returned (.tuple #[.agg (mga x), .int .i64 0]) ∧ KS w b mb room (l.eraseIdx i) g n w' := by
  obtain ⟨v, D, h⟩ := h
  exact (takeM_yes h.bag i x hl hx).mono fun _ _ ⟨he, hg⟩ => ⟨he, h.turn hg⟩
theorem KS.takeNo (h : KS w b mb room l g n wr) (i : Int) (hl : l.length ≤ 5000) (hn : i < 0 ∨ (l.length : Int) ≤ i) :
    Calls Try.prog 21 #[.pointer (some ⟨b, 0, none⟩), .int .i64 i] wr fun e w' => e = .returned (.tuple #[.agg (mga m0), .int .i64 5]) ∧ KS w b mb room l g n w' := by
  have h' := h
  obtain ⟨v, D, h⟩ := h
  exact (takeM_no h.bag i hl hn).mono fun _ _ ⟨he, hb⟩ => ⟨he, h'.step hb⟩
theorem KS.left (h : KS w b mb room l g n wr) (h1 : 0 ≤ room) (h2 : room ≤ 4096) (hl : l.length ≤ 5000) :
    Calls Try.prog 23 #[.pointer (some ⟨b, 0, none⟩)] wr fun e w' => e = .returned (.int .i64 (room - l.length)) ∧ KS w b mb room l g n w' := by
  have h' := h
  obtain ⟨v, D, h⟩ := h
  exact (leftM_any h.bag h1 h2 hl).mono fun _ _ ⟨he, k, hw⟩ => ⟨he, hw ▸ h'.step (below_drewN (Below.refl _ _) k)⟩
/-- Put, with a block of the caller's own beside it. -/
theorem KS.putX (h : KS w b mb room l g n wr) (o : Obj) (x : Mg) (h2 : room ≤ 4096) (hl : (l.length : Int) < room) :
    Calls Try.prog 20 #[.pointer (some ⟨b, 0, none⟩), .agg (mga x)] (wr.alloc o) fun e w' => e = .returned (.int .i64 0) ∧ KS w b mb room (l ++ [x]) g n w' ∧ w'.heap[wr.heap.size]? = some o := by
  have hal : Below wr.heap.size wr (wr.alloc o) := (Below.refl _ _).alloc (Nat.le_refl _) _
  obtain ⟨v, D, h⟩ := h
  have h' : KSt w b mb room l g n v D (wr.alloc o) := ⟨h.bag.below hal, own_map_block h.map (hal.block mb (own_map_lt h.map)), h.big, h.cnt, bstep h.below hal⟩
  have hb := h.bag.lt
  refine (putM_ok h'.bag x h'.below.size (by omega) h2 hl).mono fun _ _ ⟨he, hg⟩ => ⟨he, h'.turn hg, ?_⟩
  obtain ⟨v', _, ht, _⟩ := hg
  exact (ht.other wr.heap.size (by simp) (by omega) (fun e => by have := (h.bag.row.lt _ e).2; omega)).trans (heap_alloc_new wr o)
/-- Take of a place that there is not. -/
theorem KS.takeNoX (h : KS w b mb room l g n wr) (i : Int) (hl : l.length ≤ 5000) (hn : i < 0 ∨ (l.length : Int) ≤ i) :
    Calls Try.prog 21 #[.pointer (some ⟨b, 0, none⟩), .int .i64 i] wr fun e w' => e = .returned (.tuple #[.agg (mga m0), .int .i64 5]) ∧ Below wr.heap.size wr w' := by
  obtain ⟨v, D, h⟩ := h
  exact takeM_no h.bag i hl hn
/-- Where a slice's messages lie. -/
def MgsIn (w : World) (p : Option Addr) (l : List Mg) : Prop := ∀ i x, l[i]? = some x → ∃ k, p = some ⟨k, 0, none⟩ ∧ k < w.heap.size ∧ w.rangeAt k (i * 15) (mg x)
theorem MgsIn.step {w w' : World} {p : Option Addr} {l : List Mg} (h : MgsIn w p l) (hb : Below w.heap.size w w') : MgsIn w' p l := fun i x hx => by
  obtain ⟨k, e, hk, hr⟩ := h i x hx
  exact ⟨k, e, Nat.lt_of_lt_of_le hk hb.size, fun j v hv => (hb.cell (p := ⟨k, i * 15 + j, none⟩) hk).trans (hr j v hv)⟩
theorem MgsIn.stored {w w' : World} {p : Option Addr} {l : List Mg} {D : DataW Unit} (h : MgsIn w p l) (hm : w.ownsMap Try.prog 3 (plainElem (H := Unit) Try.prog 3) mb n D) (hg : w.grownBy w' (some mb)) : MgsIn w' p l := fun i x hx => by
  obtain ⟨k, e, hk, hr⟩ := h i x hx
  obtain ⟨es, clock, h1, _⟩ := hm
  have hne : k ≠ mb := fun e => by
    subst e
    have := hr 0 (.int .i64 x.k) rfl
    simp [World.cell?, h1] at this
  exact ⟨k, e, Nat.lt_of_lt_of_le hk hg.size, fun j v hv => hg.cell (hr j v hv) (by simpa using hne)⟩
theorem KS.list (h : KS w b mb room l g n wr) (hl : l.length ≤ 5000) :
    Calls Try.prog 22 #[.pointer (some ⟨b, 0, none⟩)] wr fun e w' => (∃ p cap, e = .returned (.slice p l.length cap) ∧ MgsIn w' p l) ∧ KS w b mb room l g n w' := by
  have h' := h
  obtain ⟨v, D, h⟩ := h
  refine (listM_any h.bag hl).mono fun e w' ⟨u, he, hown, hb⟩ => ⟨?_, h'.step hb⟩
  rcases hown.2 with ⟨rfl, h0⟩ | ⟨k, cap, cur, rfl, _, hk, _⟩
  · refine ⟨none, 0, by rw [he, h0], fun i x hx => ?_⟩
    have := (List.getElem?_eq_some_iff.1 hx).1
    omega
  · exact ⟨_, cap, he, fun i x hx => ⟨k, rfl, lt_of_block hk, mg_range hown hx⟩⟩

theorem KS.listN (h : KS w b mb room l g n wr) (hl : l.length ≤ 5000) (N : Nat) (hN : l.length = N) :
    Calls Try.prog 22 #[.pointer (some ⟨b, 0, none⟩)] wr fun e w' => (∃ p cap, e = .returned (.slice p N cap) ∧ MgsIn w' p l) ∧ KS w b mb room l g n w' := by
  subst hN
  exact h.list hl
theorem KS.leftN (h : KS w b mb room l g n wr) (h1 : 0 ≤ room) (h2 : room ≤ 4096) (hl : l.length ≤ 5000) (a : Int) (ha : (l.length : Int) = a) :
    Calls Try.prog 23 #[.pointer (some ⟨b, 0, none⟩)] wr fun e w' => e = .returned (.int .i64 (room - a)) ∧ KS w b mb room l g n w' := by
  subst ha
  exact h.left h1 h2 hl

end Go.Proofs.Ytnimaogdjfenpaa
