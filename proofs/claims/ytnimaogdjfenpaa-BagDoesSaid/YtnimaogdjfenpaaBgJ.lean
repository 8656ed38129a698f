/-
  The program's bag and the document's, side by side, call by call.
-/
import Derived.Test.YtnimaogdjfenpaaBgI
import Derived.Test.YtnimaogdjfenpaaBgFirst
namespace Go.Proofs.Ytnimaogdjfenpaa
open Go Go.RowKit

/-- Two bags of numbers, the call's own, that share nothing. -/
structure TwoB (w : World) (b r : Nat) (room : Int) (l m : List Int) (v u : Value) (wr : World) : Prop where
  bag : BgI wr w.heap.size b room l v
  ref : BgR wr w.heap.size r room m u
  br : b ≠ r
  vr : v.ownBlock ≠ some r
  ub : u.ownBlock ≠ some b
  uv : ∀ k, v.ownBlock = some k → u.ownBlock ≠ some k
  below : Below w.heap.size w wr
def Two (w : World) (b r : Nat) (room : Int) (l m : List Int) (wr : World) : Prop := ∃ v u, TwoB w b r room l m v u wr
theorem Two.below {w wr : World} {b r : Nat} {room : Int} {l m : List Int} (h : Two w b r room l m wr) : Below w.heap.size w wr := by obtain ⟨v, u, h⟩ := h; exact h.below
theorem Two.step {w wr w' : World} {b r : Nat} {room : Int} {l m : List Int} (h : Two w b r room l m wr) (hb : Below wr.heap.size wr w') : Two w b r room l m w' := by
  obtain ⟨v, u, h⟩ := h
  exact ⟨v, u, h.bag.below hb, h.ref.below hb, h.br, h.vr, h.ub, h.uv, bstep h.below hb⟩
/-- The program's bag has changed. -/
theorem TwoB.turn {w wr w' : World} {b r : Nat} {room : Int} {l l' m : List Int} {v u : Value} (h : TwoB w b r room l m v u wr) (hg : PutGave 64 3 1 one wr w.heap.size b room l' v w') : Two w b r room l' m w' := by
  obtain ⟨v', h1, h2, h3⟩ := hg
  have hr := h.ref.lt
  refine ⟨v', u, h1, h.ref.keep ?_ ?_, h.br, ?_, h.ub, ?_, h.below.trans (h2.below h.bag h.below.size)⟩
  · exact h2.other r hr (Ne.symm h.br) h.vr
  · intro k hk
    exact h2.other k (h.ref.row.lt k hk).2 (fun e => h.ub (e ▸ hk)) (fun e => h.uv k e hk)
  · intro e
    rcases h3 r e with e | e
    · exact h.vr e
    · omega
  · intro k hk hu
    rcases h3 k hk with e | e
    · exact h.uv k e hu
    · have := (h.ref.row.lt k hu).2; omega
/-- The document's bag has changed. -/
theorem TwoB.turnR {w wr w' : World} {b r : Nat} {room : Int} {l m m' : List Int} {v u : Value} (h : TwoB w b r room l m v u wr) (hg : RefGave wr w.heap.size r room m' w') : Two w b r room l m' w' := by
  obtain ⟨u', h1, h2, h3⟩ := hg
  have hb := h.bag.lt
  have h0 := h.below.size
  have hn : ∀ k, nilV.ownBlock ≠ some k := fun k e => by simp [Value.ownBlock] at e
  refine ⟨v, u', h.bag.keep ?_ ?_, h1, h.br, h.vr, ?_, ?_, ?_⟩
  · exact h2.other b hb h.br (hn b)
  · intro k hk
    exact h2.other k (h.bag.row.lt k hk).2 (fun e => h.vr (e ▸ hk)) (hn k)
  · intro e
    rcases h3 b e with e | e
    · exact hn b e
    · omega
  · intro k hk hu
    rcases h3 k hu with e | e
    · exact hn k e
    · have := (h.bag.row.lt k hk).2; omega
  · exact ⟨h2.os.trans h.below.os, h2.tape.trans h.below.tape, h2.output.trans h.below.output, Nat.le_trans h0 h2.size, fun k hk => (h2.other k (by omega) (by have := h.ref.big; omega) (hn k)).trans (h.below.block k hk)⟩

variable {w wr : World} {b r : Nat} {room : Int} {l m : List Int}
theorem Two.put (h : Two w b r room l m wr) (x : Int) (h2 : room ≤ 4096) (hl : (l.length : Int) < room) :
    Calls Try.prog 9 #[.pointer (some ⟨b, 0, none⟩), .int .i64 x] wr fun e w' => e = .returned (.int .i64 0) ∧ Two w b r room (l ++ [x]) m w' := by
  obtain ⟨v, u, h⟩ := h
  exact (putI_ok h.bag x h.below.size (by omega) h2 hl).mono fun _ _ ⟨he, hg⟩ => ⟨he, h.turn hg⟩
theorem Two.full (h : Two w b r room l m wr) (x : Int) (h2 : room ≤ 4096) (hl : room = l.length) :
    Calls Try.prog 9 #[.pointer (some ⟨b, 0, none⟩), .int .i64 x] wr fun e w' => e = .returned (.int .i64 4) ∧ Two w b r room l m w' := by
  have h' := h
  obtain ⟨v, u, h⟩ := h
  exact (putI_full h.bag x (by omega) h2 hl).mono fun _ _ ⟨he, n, hw⟩ => ⟨he, hw ▸ h'.step (below_drewN (Below.refl _ _) n)⟩
theorem Two.take (h : Two w b r room l m wr) (i : Nat) (x : Int) (hl : l.length ≤ 5000) (hx : l[i]? = some x) :
    Calls Try.prog 11 #[.pointer (some ⟨b, 0, none⟩), .int .i64 i] wr fun e w' => e = .returned (.tuple #[.int .i64 x, .int .i64 0]) ∧ Two w b r room (l.eraseIdx i) m w' := by
  obtain ⟨v, u, h⟩ := h
  exact (takeI_yes h.bag i x hl hx).mono fun _ _ ⟨he, hg⟩ => ⟨he, h.turn hg⟩
theorem Two.takeNo (h : Two w b r room l m wr) (i : Int) (hl : l.length ≤ 5000) (hn : i < 0 ∨ (l.length : Int) ≤ i) :
    Calls Try.prog 11 #[.pointer (some ⟨b, 0, none⟩), .int .i64 i] wr fun e w' => e = .returned (.tuple #[.int .i64 0, .int .i64 5]) ∧ Two w b r room l m w' := by
  have h' := h
  obtain ⟨v, u, h⟩ := h
  exact (takeI_no h.bag i hl hn).mono fun _ _ ⟨he, hw⟩ => ⟨he, hw ▸ h'⟩
theorem Two.at_ (h : Two w b r room l m wr) (i : Nat) (x : Int) (hl : l.length ≤ 5000) (hx : l[i]? = some x) :
    Calls Try.prog 13 #[.pointer (some ⟨b, 0, none⟩), .int .i64 i] wr fun e w' => e = .returned (.tuple #[.int .i64 x, .bool true]) ∧ wr = w' := by
  obtain ⟨v, u, h⟩ := h
  exact atI_yes h.bag i x hl hx
theorem Two.atNo (h : Two w b r room l m wr) (i : Int) (hl : l.length ≤ 5000) (hn : i < 0 ∨ (l.length : Int) ≤ i) :
    Calls Try.prog 13 #[.pointer (some ⟨b, 0, none⟩), .int .i64 i] wr fun e w' => e = .returned (.tuple #[.int .i64 0, .bool false]) ∧ wr = w' := by
  obtain ⟨v, u, h⟩ := h
  exact atI_no h.bag i hl hn
theorem Two.find (h : Two w b r room l m wr) (x : Int) (hl : l.length ≤ 5000) :
    Calls Try.prog 14 #[.pointer (some ⟨b, 0, none⟩), .int .i64 x] wr fun e w' => e = .returned (.int .i64 (place l x)) ∧ Below wr.heap.size wr w' := by
  obtain ⟨v, u, h⟩ := h
  exact findI_any h.bag x hl
theorem Two.left (h : Two w b r room l m wr) (h1 : 0 ≤ room) (h2 : room ≤ 4096) (hl : l.length ≤ 5000) :
    Calls Try.prog 18 #[.pointer (some ⟨b, 0, none⟩)] wr fun e w' => e = .returned (.int .i64 (room - l.length)) ∧ Below wr.heap.size wr w' := by
  obtain ⟨v, u, h⟩ := h
  exact (leftI_any h.bag h1 h2 hl).mono fun _ _ ⟨he, n, hw⟩ => ⟨he, hw ▸ below_drewN (Below.refl _ _) n⟩
theorem Two.list (h : Two w b r room l m wr) (hl : l.length ≤ 5000) :
    Calls Try.prog 17 #[.pointer (some ⟨b, 0, none⟩)] wr fun e w' => (∃ p cap, e = .returned (.slice p l.length cap) ∧ NumsIn w' p l) ∧ Below wr.heap.size wr w' := by
  obtain ⟨v, u, h⟩ := h
  refine (listI_any h.bag hl).mono fun e w' ⟨u, he, hown, hw⟩ => ⟨?_, hw⟩
  obtain ⟨p, cap, rfl, hin⟩ := own_in hown
  exact ⟨p, cap, he, hin⟩
theorem Two.putR (h : Two w b r room l m wr) (x : Int) (h2 : room ≤ 4096) (hl : (m.length : Int) < room) :
    Calls Try.prog 10 #[.pointer (some ⟨r, 0, none⟩), .int .i64 x] wr fun e w' => e = .returned (.int .i64 0) ∧ Two w b r room l (m ++ [x]) w' := by
  obtain ⟨v, u, h⟩ := h
  exact (putR_ok h.ref x h.below.size hl h2).mono fun _ _ ⟨he, hg⟩ => ⟨he, h.turnR hg⟩
theorem Two.fullR (h : Two w b r room l m wr) (x : Int) (hl : room = m.length) :
    Calls Try.prog 10 #[.pointer (some ⟨r, 0, none⟩), .int .i64 x] wr fun e w' => e = .returned (.int .i64 4) ∧ Two w b r room l m w' := by
  have h' := h
  obtain ⟨v, u, h⟩ := h
  exact (putR_full h.ref x hl).mono fun _ _ ⟨he, n, hw⟩ => ⟨he, hw ▸ h'.step (below_drewN (Below.refl _ _) n)⟩
theorem Two.takeR (h : Two w b r room l m wr) (i : Nat) (x : Int) (hl : m.length ≤ 5000) (hx : m[i]? = some x) :
    Calls Try.prog 12 #[.pointer (some ⟨r, 0, none⟩), .int .i64 i] wr fun e w' => e = .returned (.tuple #[.int .i64 x, .int .i64 0]) ∧ Two w b r room l (m.eraseIdx i) w' := by
  obtain ⟨v, u, h⟩ := h
  exact (takeR_yes h.ref i x h.below.size hl hx).mono fun _ _ ⟨he, hg⟩ => ⟨he, h.turnR hg⟩
theorem Two.takeRNo (h : Two w b r room l m wr) (i : Int) (hl : m.length ≤ 5000) (hn : i < 0 ∨ (m.length : Int) ≤ i) :
    Calls Try.prog 12 #[.pointer (some ⟨r, 0, none⟩), .int .i64 i] wr fun e w' => e = .returned (.tuple #[.int .i64 0, .int .i64 5]) ∧ Two w b r room l m w' := by
  have h' := h
  obtain ⟨v, u, h⟩ := h
  exact (takeR_no h.ref i hl hn).mono fun _ _ ⟨he, hw⟩ => ⟨he, hw ▸ h'⟩
theorem Two.findR (h : Two w b r room l m wr) (x : Int) (hl : m.length ≤ 5000) :
    Calls Try.prog 15 #[.pointer (some ⟨r, 0, none⟩), .int .i64 x] wr fun e w' => e = .returned (.int .i64 (place m x)) ∧ wr = w' := by
  obtain ⟨v, u, h⟩ := h
  exact findR_any h.ref x hl
/-- The document's row, as a load finds it. -/
theorem Two.row (h : Two w b r room l m wr) : ∃ p cap, r < wr.heap.size ∧ wr.cell? ⟨r, 1, none⟩ = some (.slice p m.length cap) ∧ NumsIn wr p m ∧ (∀ i x, m[i]? = some x → ∃ g, p = some ⟨g, 0, none⟩ ∧ g < wr.heap.size ∧ wr.cell? ⟨g, i, none⟩ = some (.int .i64 x)) := by
  obtain ⟨v, u, h⟩ := h
  have hc := blk_cell h.ref.blk 1
  obtain ⟨p, cap, rfl, hin⟩ := own_in h.ref.row
  obtain ⟨p', cap', e, hp⟩ := h.ref.form
  simp only [Value.slice.injEq, true_and] at e
  obtain ⟨rfl, rfl⟩ := e
  refine ⟨p, cap, h.ref.lt, by simpa using hc, hin, fun i x hx => ?_⟩
  obtain ⟨hi, _⟩ := List.getElem?_eq_some_iff.1 hx
  obtain ⟨g, rfl⟩ := hp (by omega)
  exact ⟨g, rfl, (h.ref.row.lt g rfl).2, one_at h.ref.row hx⟩

end Go.Proofs.Ytnimaogdjfenpaa
