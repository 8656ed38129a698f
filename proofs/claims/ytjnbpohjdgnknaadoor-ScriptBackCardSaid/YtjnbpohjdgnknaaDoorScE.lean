/-
  What readPicks does.
-/
import Derived.Test.YtjnbpohjdgnknaaDoorScD
import Derived.Deep.RegionHeld3
import Derived.Deep.AppendLies
import Derived.IntWalk
namespace Go.Proofs.YtjnbpohjdgnknaaDoor
open Go Go.RowKit

theorem infoPick : (Tryd.prog.info? 49).map (fun i => (i.zero, i.size, i.bytes)) = some (some (.agg #[.int .i64 0, .int .i64 0, .int .i64 0]), 3, 24) := by kernel_rfl

theorem idx3 (a b c : UInt8) (w : World) : (Instr.index 9 (.string ⟨#[a, b, c]⟩) (.int .i64 0)).run Tryd.prog w = .ok (.int .u8 a.toNat) w ∧ (Instr.index 9 (.string ⟨#[a, b, c]⟩) (.int .i64 1)).run Tryd.prog w = .ok (.int .u8 b.toNat) w ∧ (Instr.index 9 (.string ⟨#[a, b, c]⟩) (.int .i64 2)).run Tryd.prog w = .ok (.int .u8 c.toNat) w := ⟨by kernel_rfl, by kernel_rfl, by kernel_rfl⟩

theorem byte_wrap (a : UInt8) : IntKind.i64.wrap (a.toNat : Int) = a.toNat := IntWalk.i64_in _ (by have := a.toNat_lt; omega)
theorem next_3 {b1 b2 : Nat} (a b c : UInt8) (r : List UInt8) (w : World) (h : Nx w b1 b2 (a :: b :: c :: r)) :
    Calls Tryd.prog 38 #[.int .i64 3, .pointer (some ⟨b1, 0, none⟩), .pointer (some ⟨b2, 0, none⟩)] w fun e w' => e = .returned (.tuple #[.string ⟨#[a, b, c]⟩, .bool true]) ∧ Nx w' b1 b2 r ∧ Only b2 w w' := next_take [a, b, c] r w h
theorem next_3no {b1 b2 : Nat} (r : List UInt8) (w : World) (h : Nx w b1 b2 r) (hn : r.length < 3) :
    Calls Tryd.prog 38 #[.int .i64 3, .pointer (some ⟨b1, 0, none⟩), .pointer (some ⟨b2, 0, none⟩)] w fun e w' => e = .returned (.tuple #[.string ⟨#[]⟩, .bool false]) ∧ w = w' := next_short r 3 w h hn

/-- What a call of it gives that asks for the three bytes of a pick: these, or none. -/
inductive Asked (r : List UInt8) (b1 b2 : Nat) (w' : World) : Value → Value → Prop where
  | yes (a b c : UInt8) (q : List UInt8) (e : r = a :: b :: c :: q) (h : Nx w' b1 b2 q) : Asked r b1 b2 w' (.string ⟨#[a, b, c]⟩) (.bool true)
  | no (e : r.length < 3) (h : Nx w' b1 b2 r) : Asked r b1 b2 w' (.string ⟨#[]⟩) (.bool false)
theorem next_pick {b1 b2 : Nat} (r : List UInt8) (w : World) (h : Nx w b1 b2 r) :
    Calls Tryd.prog 38 #[.int .i64 3, .pointer (some ⟨b1, 0, none⟩), .pointer (some ⟨b2, 0, none⟩)] w fun e w' => ∃ t o, e = .returned (.tuple #[t, o]) ∧ Asked r b1 b2 w' t o ∧ Only b2 w w' := by
  match r, h with
  | a :: b :: c :: q, h => exact (next_3 a b c q w h).mono fun e w' ⟨he, hn, ho⟩ => ⟨_, _, he, .yes a b c q rfl hn, ho⟩
  | [], h => exact (next_3no [] w h (by simp)).mono fun e w' ⟨he, hw⟩ => ⟨_, _, he, .no (by simp) (by rw [← hw]; exact h), by rw [← hw]; exact Only.refl _ _⟩
  | [a], h => exact (next_3no [a] w h (by simp)).mono fun e w' ⟨he, hw⟩ => ⟨_, _, he, .no (by simp) (by rw [← hw]; exact h), by rw [← hw]; exact Only.refl _ _⟩
  | [a, b], h => exact (next_3no [a, b] w h (by simp)).mono fun e w' ⟨he, hw⟩ => ⟨_, _, he, .no (by simp) (by rw [← hw]; exact h), by rw [← hw]; exact Only.refl _ _⟩

/-- What a call gives that reads the picks. -/
def GaveK (b2 : Nat) (o : List Op × List UInt8) (w : World) (e : Ending) (w' : World) : Prop :=
  Kept b2 w.heap.size w w' ∧ (o.2 = [] → ∃ v, e = .returned (.tuple #[v, .int .i64 0]) ∧ w'.ownsRow w.heap.size 49 3 v o.1.length (opCells o.1)) ∧ (o.2 ≠ [] → e = .returned (.tuple #[.slice none 0 0, .int .i64 3]))

def lenV : Value → Nat
  | .slice _ n _ => n
  | _ => 0
theorem own_len {w : World} {base e sz n : Nat} {v : Value} {xs : List Value} (h : w.ownsRow base e sz v n xs) : lenV v = n := by
  rcases h.2 with ⟨rfl, hn⟩ | ⟨g, cap, cur, rfl, _⟩
  · simp [lenV, hn]
  · rfl
theorem picks_no {r : List UInt8} (h : r.length < 3) : picksM r = ([], r) := by
  match r, h with
  | [], _ => rfl
  | [a], _ => rfl
  | [a, b], _ => rfl
theorem picks_len (r : List UInt8) : 3 * (picksM r).1.length ≤ r.length := by
  have h := (picks_inv r).1
  have hl := congrArg List.length h
  rw [List.length_append] at hl
  have e : ∀ l : List Op, (l.flatMap pickL).length = 3 * l.length := by
    intro l
    induction l with
    | nil => rfl
    | cons x l ih => simp [pickL, ih]; omega
  rw [e] at hl
  omega
/-- The picks so far, and what they are with the rest. -/
def PkRel (r : List UInt8) (l : List Op) (q : List UInt8) : Prop := picksM r = (l ++ (picksM q).1, (picksM q).2)
theorem PkRel.more {r : List UInt8} {l : List Op} {a b c : UInt8} {q : List UInt8} (h : PkRel r l (a :: b :: c :: q)) : PkRel r (l ++ [⟨a.toNat, b.toNat, c.toNat⟩]) q := by
  unfold PkRel at *
  rw [h]
  simp [picksM]
theorem PkRel.len {r : List UInt8} {l : List Op} {a b c : UInt8} {q : List UInt8} (h : PkRel r l (a :: b :: c :: q)) : l.length < r.length := by
  have := picks_len r
  rw [h] at this
  simp [picksM] at this
  omega

set_option maxRecDepth 100000 in
set_option maxHeartbeats 2000000 in
theorem picks_any (b1 b2 : Nat) (r : List UInt8) (w : World) (h : Nx w b1 b2 r) :
    Calls Tryd.prog 24 #[nextV b1 b2] w (GaveK b2 (picksM r) w) := by
  obtain ⟨i0, hi0, hz0, hz1, hz2⟩ := info_parts infoPick
  have hb2 := h.lt
  have hb1 := h.lt1
  have hsm := h.small
  have H := Lib.hid h
  clear h
  go_enter Tryd.func24, Tryd.ntmps24
  go_wp2_with fail
  refine (next_pick r _ H.out).mono ?_
  rintro e w0 ⟨t0, o0, rfl, ha0, ho0⟩
  go_wp2_with fail
  go_loopw [4, 5, 6] (fun v t o wr => ∃ (l : List Op) (q : List UInt8), Hid (PkRel r l q) ∧ Asked q b1 b2 wr t o ∧ Hid (wr.ownsRow w.heap.size 49 3 v l.length (opCells l)) ∧ Kept b2 w.heap.size w wr) (fun v _ _ _ => r.length - lenV v)
  case atStart => exact ⟨[], r, Lib.hid (by simp [PkRel]), ha0, Lib.hid (World.ownsRow_nil _ _ _ _), ho0.kept _⟩
  case round =>
    obtain ⟨l, q, HP, ha, HO, hk⟩ := hrel
    have hsz := hk.below.size
    cases ha with
    | yes a b c q' e hn =>
      subst e
      have hlen := HP.out.len
      have hll := own_len HO.out
      have HPM := Lib.hid HP.out.more
      have hi0' := fun w => (idx3 a b c w).1
      have hi1' := fun w => (idx3 a b c w).2.1
      have hi2' := fun w => (idx3 a b c w).2.2
      have HL := Lib.hid hll
      have hwa : IntKind.i64.wrap (a.toNat : Int) = a.toNat := byte_wrap a
      have hwb : IntKind.i64.wrap (b.toNat : Int) = b.toNat := byte_wrap b
      have hwc : IntKind.i64.wrap (c.toNat : Int) = c.toNat := byte_wrap c
      have hN := Lib.hid hn
      have hK := Lib.hid hk
      clear hll hn hk
      go_wp2_with fail
      go_region_held3 (fun _ => True) (trivial)
        (first
          | (refine step_append_lies _ (by rfl) _ _ _ (by rfl) w.heap.size 49 i0 _ 3 24 Tryd.underlying26 hi0 hz0 hz1 hz2 rfl (by omega) _ l.length (opCells l) (by rfl) (HO.out.alloc _) ⟨wr.heap.size, 0, none⟩ 1 1 [.int .i64 a.toNat, .int .i64 b.toNat, .int .i64 c.toNat] (by rfl) (by rfl) (World.news_of_block (cs := #[.int .i64 a.toNat, .int .i64 b.toNat, .int .i64 c.toNat]) (t := 49) (fr := (0, 0)) (heap_alloc_new wr _)) (by simp [Value.oneCell']) (by omega) (by unfold maxLen; omega) (by omega) (by simp; omega) (wr.heap.size + 1) (by simp) ?_; intro gg cap w1 hown1 hg1 hat hlt))
      all_goals
        have hown2 : Hid (w1.ownsRow w.heap.size 49 3 (.slice (some ⟨gg, 0, none⟩) (l.length + 1) cap) (l.length + 1) (opCells (l ++ [⟨a.toNat, b.toNat, c.toNat⟩]))) := Lib.hid (by rw [opCells_snoc]; exact hown1)
        have hoa : (wr.alloc (.cells #[.int .i64 a.toNat, .int .i64 b.toNat, .int .i64 c.toNat] 49)).drew.ownsRow w.heap.size 49 3 u4 l.length (opCells l) := HO.out.alloc _
        have hbl : Below w.heap.size wr w1 := (((Below.refl w.heap.size wr).alloc hsz _).drew).trans (below_own hoa (by simp; omega) hg1)
        clear hoa
        have hkk := Lib.hid (hK.out.trans ⟨hbl.mono (by omega), fun k hk1 hk2 => hbl.block k hk1⟩)
        have hNN := Lib.hid (hN.out.high hbl (by omega) (by omega))
        clear hown1 hg1 hat hbl
        go_wp2_with fail
        refine (next_pick q' _ hNN.out).mono ?_
        rintro e w2 ⟨t2, o2, rfl, ha2, ho2⟩
        go_wp2
        go_roundw
        case rel => exact ⟨_, q', HPM, ha2, Lib.hid (by have := own_only hown2.out ho2 (by omega); simpa using this), hkk.out.trans (ho2.kept _)⟩
        case measure => rw [HL.out]; show r.length - (l.length + 1) < r.length - l.length; omega
    | no e hn =>
      have HE : Hid (picksM r = (l, q)) := Lib.hid (by rw [HP.out, picks_no e]; simp)
      cases q with
      | nil =>
        go_wp2_with fail
        refine (next_0 _ hn).mono ?_
        rintro e w2 ⟨rfl, rfl⟩
        go_wp2
        go_ret2
        rw [HE.out]
        exact ⟨hk, fun _ => ⟨_, rfl, HO.out⟩, fun h => absurd rfl h⟩
      | cons x q =>
        go_wp2_with fail
        refine (next_1 x q _ hn).mono ?_
        rintro e w2 ⟨rfl, hn2, ho2⟩
        go_wp2
        go_ret2
        rw [HE.out]
        exact ⟨hk.trans (ho2.kept _), (fun h => by cases h), fun _ => rfl⟩

end Go.Proofs.YtjnbpohjdgnknaaDoor
