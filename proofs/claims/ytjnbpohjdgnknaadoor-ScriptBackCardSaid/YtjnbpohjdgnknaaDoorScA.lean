/-
  What the smallest functions of package script and of the document's own answers do, one contract each: isByte, ofPower, powerOf, one, bits; taker and what it hands out.
-/
import Derived.Test.YtjnbpohjdgnknaaDoorScM
import Derived.Test.YtjnbpohjdgnknaaDoorPgY
import Derived.Test.YtjnbpohjdgnknaaDoorShape
namespace Go.Proofs.YtjnbpohjdgnknaaDoor
open Go Go.RowKit

theorem isByte_any (n : Int) (w : World) :
    Calls Tryd.prog 30 #[.int .i64 n] w fun e w' => e = .returned (.bool (byteB n)) ∧ w = w' := by
  go_enter Tryd.func30, Tryd.ntmps30
  go_wp2
  all_goals
    go_ret
    refine ⟨ret_bool ?_, rfl⟩
    rw [Bool.eq_iff_iff]
    simp [byteB] at *
    omega

/-- What a byte tells as a power. -/
theorem ofPower_any (a : UInt8) (w : World) :
    Calls Tryd.prog 39 #[.int .u8 a.toNat] w fun e w' => e = .returned (.int .i64 (pw a)) ∧ w = w' := by
  have ha := a.toNat_lt
  by_cases h : 20 < a.toNat
  · have HE : Hid (pw a = 0) := Lib.hid (by unfold pw; rw [if_pos h])
    go_enter Tryd.func39, Tryd.ntmps39
    go_wp2
    go_ret
    exact ⟨ret_int HE.out.symm, rfl⟩
  · have HE : Hid (pw a = 2 ^ a.toNat) := Lib.hid (by unfold pw; rw [if_neg h])
    generalize a.toNat = n at *
    go_enter Tryd.func39, Tryd.ntmps39
    go_wp2
    go_ret
    refine ⟨ret_int ?_, rfl⟩
    rw [HE.out]
    have hb := two_lt n (by omega)
    unfold wrap64
    omega

theorem powerOf_any (n : Int) (w : World) (h1 : n ≤ 9223372036854775807) (hT : Tab w) :
    Calls Tryd.prog 43 #[.int .i64 n] w fun e w' => e = .returned (.int .u8 (lg n)) ∧ w = w' := by
  have hl := lg_lt n
  have HT := Lib.hid hT
  clear hT
  go_enter Tryd.func43, Tryd.ntmps43
  go_wp2_with (go_at_call 51; refine (power_any n _ h1 HT.out).mono ?_; rintro e w' ⟨rfl, rfl⟩)
  go_ret
  exact ⟨rfl, rfl⟩

theorem byte_text (w : World) (n : Int) (h : byteB n = true) : (convert 47 9 (.slice (some ⟨w.heap.size, 0, none⟩) 1 1)).run Tryd.prog (w.alloc (.cells #[.int .u8 n] 5)) = .ok (.string ⟨#[u8 n]⟩) (w.alloc (.cells #[.int .u8 n] 5)) :=
  run_convert_bytes_back (P := Tryd.prog) _ 47 9 5 ⟨w.heap.size, 0, none⟩ 1 [u8 n] Tryd.underlying47 Tryd.underlying5 Tryd.underlying9 (fun j hj => by
    have hj0 : j = 0 := by simpa using hj
    subst hj0
    have hc := World.cell?_alloc_mark w #[.int .u8 n] 5 (0, 0) 0
    have e : (⟨w.heap.size, 0, none⟩ : Addr).add 0 = ⟨w.heap.size, 0, none⟩ := rfl
    rw [e, hc]
    simp [u8_back h])

set_option maxRecDepth 100000 in
/-- A number as a text of one byte. -/
theorem one_any (n : Int) (w : World) (h0 : 0 ≤ n) (h1 : n ≤ 255) :
    Calls Tryd.prog 18 #[.int .i64 n] w fun e w' => e = .returned (.string ⟨#[u8 n]⟩) ∧ Below w.heap.size w w' := by
  have hcv := byte_text w n (byte_of h0 h1)
  go_enter Tryd.func18, Tryd.ntmps18
  go_wp2
  go_ret
  exact ⟨rfl, (Below.refl _ _).alloc (Nat.le_refl _) _⟩

/-- A power as a text of one byte. -/
theorem bits_any (n : Int) (w : World) :
    Calls Tryd.prog 19 #[.int .i64 n] w fun e w' => e = .returned (.string ⟨#[u8 (lg n)]⟩) ∧ Below w.heap.size w w' := by
  have hl := lg_lt n
  go_enter Tryd.func19, Tryd.ntmps19
  go_wp2_with (first
    | (go_at_call 35; refine (refPower_any n _).mono ?_; rintro e w' ⟨rfl, rfl⟩)
    | (go_at_call 18; refine (one_any _ _ (by omega) (by omega)).mono ?_; rintro e w' ⟨rfl, hb⟩))
  go_ret
  exact ⟨rfl, hb⟩

/-! ### What hands out the next bytes -/

/-- The function value, its bytes, and its place. -/
abbrev nextV (b1 b2 : Nat) : Value := .func (.func 38) #[] #[.pointer (some ⟨b1, 0, none⟩), .pointer (some ⟨b2, 0, none⟩)]
/-- It stands so. -/
structure Next (w : World) (b1 b2 : Nat) (s : ByteArray) (pos : Nat) : Prop where
  bytes : w.heap[b1]? = some (.cells #[.string s] 9 (0, 0))
  place : w.heap[b2]? = some (.cells #[.int .i64 (pos : Int)] 3 (0, 0))
  le : pos ≤ s.size
  small : s.size ≤ 100000000
theorem Next.lt {w : World} {b1 b2 pos : Nat} {s : ByteArray} (h : Next w b1 b2 s pos) : b2 < w.heap.size := lt_of_block h.place
theorem Next.ne {w : World} {b1 b2 pos : Nat} {s : ByteArray} (h : Next w b1 b2 s pos) : b1 ≠ b2 := by
  intro e
  have h1 := h.bytes
  rw [e, h.place] at h1
  cases h1
theorem Next.kept {w w1 : World} {b1 b2 pos : Nat} {s : ByteArray} (h : Next w b1 b2 s pos) (hb : Below w.heap.size w w1) : Next w1 b1 b2 s pos :=
  ⟨(hb.block b1 (lt_of_block h.bytes)).trans h.bytes, (hb.block b2 h.lt).trans h.place, h.le, h.small⟩
theorem Next.put {w : World} {b1 b2 pos : Nat} {s : ByteArray} (h : Next w b1 b2 s pos) (p : Nat) (hp : p ≤ s.size) : Next (w.setCell ⟨b2, 0, none⟩ (.int .i64 (p : Int))) b1 b2 s p := by
  refine ⟨?_, ?_, hp, h.small⟩
  · exact (Below.heap_setCell _ _ _ _ h.ne).trans h.bytes
  · exact one_setCell h.place

/-- What a call of it gives that hands out the next bytes. -/
def GaveX (b1 b2 : Nat) (s : ByteArray) (pos n : Nat) (w : World) (e : Ending) (w' : World) : Prop :=
  e = .returned (.tuple #[.string (s.extract pos (pos + n)), .bool true]) ∧ Next w' b1 b2 s (pos + n) ∧ Only b2 w w'

set_option maxHeartbeats 1000000 in
theorem next_yes (b1 b2 : Nat) (s : ByteArray) (pos n : Nat) (w : World) (h : Next w b1 b2 s pos) (hn : pos + n ≤ s.size) :
    Calls Tryd.prog 38 #[.int .i64 n, .pointer (some ⟨b1, 0, none⟩), .pointer (some ⟨b2, 0, none⟩)] w (GaveX b1 b2 s pos n w) := by
  have hc1 := cell_of_one h.bytes
  have hc2 := cell_of_one h.place
  have hf2 := free_of_one h.place
  have hne := h.ne
  have hsm := h.small
  have H2 := h.put (pos + n) hn
  have hd1 := cell_of_one H2.bytes
  have hd2 := cell_of_one H2.place
  have H := Lib.hid H2
  clear h H2
  go_enter Tryd.func38, Tryd.ntmps38
  go_wp2
  go_ret2
  exact ⟨rfl, H.out, (Only.refl _ _).set 0 _⟩

set_option maxHeartbeats 1000000 in
theorem next_no (b1 b2 : Nat) (s : ByteArray) (pos n : Nat) (w : World) (h : Next w b1 b2 s pos) (hn : s.size < pos + n) :
    Calls Tryd.prog 38 #[.int .i64 n, .pointer (some ⟨b1, 0, none⟩), .pointer (some ⟨b2, 0, none⟩)] w fun e w' => e = .returned (.tuple #[.string ⟨#[]⟩, .bool false]) ∧ w = w' := by
  have hc1 := cell_of_one h.bytes
  have hc2 := cell_of_one h.place
  have hsm := h.small
  have hle := h.le
  clear h
  go_enter Tryd.func38, Tryd.ntmps38
  go_wp2
  go_ret2
  exact ⟨rfl, rfl⟩

/-- taker: nothing is handed out yet. -/
theorem taker_any (s : ByteArray) (w : World) (hs : s.size ≤ 100000000) :
    Calls Tryd.prog 21 #[.string s] w fun e w' => e = .returned (nextV w.heap.size (w.heap.size + 1)) ∧ Next w' w.heap.size (w.heap.size + 1) s 0 ∧ Below w.heap.size w w' := by
  have hmk : ∀ fn first cap (w : World), (Instr.makeFunc fn first cap).run Tryd.prog w = .ok (.func fn first cap) w := fun _ _ _ _ => rfl
  go_enter Tryd.func21, Tryd.ntmps21
  go_wp2
  go_ret
  refine ⟨rfl, ⟨?_, ?_, Nat.zero_le _, hs⟩, ((Below.refl _ _).alloc (Nat.le_refl _) _).alloc (by simp) _⟩
  · exact (Below.heap_alloc _ _ _ (by simp)).trans (heap_alloc_new w _)
  · exact heap_alloc2_new w _ _

end Go.Proofs.YtjnbpohjdgnknaaDoor
