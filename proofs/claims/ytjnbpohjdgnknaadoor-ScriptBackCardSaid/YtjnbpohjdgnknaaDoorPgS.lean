/-
  strconv.AppendInt of a number that is not below 0, at base 10, onto a slice of the call's own: what is laid behind it, and that no other block that was there has changed.
-/
import Derived.Test.YtjnbpohjdgnknaaDoorRows
import Derived.Test.YtjnbpohjdgnknaaDoorShelf
import Derived.Lib.AppendStr
import Derived.Lib.Walk
import Derived.Lib.ItoaWalk
import Derived.Lib.ItoaMem
import Derived.Lib.AppendIntMem
import Derived.Lib.Hide
import Derived.OwnWalk
import Derived.WalkKit
import Derived.BigCall
namespace Go.Proofs.YtjnbpohjdgnknaaDoor
open Go Go.RowKit Go.Sort

theorem Tryd.infoByte : (Tryd.prog.info? 5).map (fun i => (i.zero, i.size, i.bytes)) = some (some (.int .u8 0), 1, 1) := by kernel_rfl

/-- What lies there now: the row with the number's digits behind; no block but the row's has changed. -/
def GaveU (B n u : Nat) (sv : Value) (xs : List Value) (w : World) (e : Ending) (w' : World) : Prop :=
  ∃ v', e = .returned v' ∧ w'.ownsRow B 5 1 v' (n + (Lib.decDigits u).length) (xs ++ Lib.byteCells (Lib.decDigits u)) ∧ w.grownBy w' sv.ownBlock

theorem digs_le (u : Nat) (h : u < 18446744073709551616) : (Lib.decDigits u).length ≤ 20 := by
  rw [Lib.decDigits_length]
  rcases Nat.eq_zero_or_pos u with h0 | h0
  · subst h0; rw [Lib.nDigits_small (by omega)]; omega
  · have := Lib.numDigits_eq u h0 h; split at this <;> omega

set_option maxHeartbeats 4000000 in
set_option maxRecDepth 100000 in
theorem appendUint_small (B n u : Nat) (sv : Value) (xs : List Value) (w : World) (hu : u < 100) (hown : w.ownsRow B 5 1 sv n xs) (hB : B ≤ w.heap.size) (hl : n ≤ 100000) :
    Calls Tryd.prog 72 #[sv, .int .u64 u, .int .i64 10] w (GaveU B n u sv xs w) := by
  obtain ⟨i0, hi, hz0, hz1, hz2⟩ := info_parts Tryd.infoByte
  have hd := digs_le u (by omega)
  have es : (⟨(Lib.decDigits u).toArray⟩ : ByteArray).size = (Lib.decDigits u).length := by simp [ByteArray.size]
  go_enter Tryd.func72, Tryd.ntmps72
  go_wp2_with (first
    | (go_at_call 73; refine (Tryd.internal_strconv_small u hu _).mono ?_; rintro e w' ⟨rfl, rfl⟩)
    | (at_builtin; refine Lib.wpList_append_own_string _ rfl _ _ 47 9 rfl B 5 i0 Tryd.underlying47 Tryd.underlying9 hi hz0 hz1 hz2 _ _ _ rfl hown ⟨(Lib.decDigits u).toArray⟩ rfl (by rw [es]; unfold maxLen; omega) (by rw [es]; omega) hB ?_))
  intro v1 w1 hown1 hg _
  go_wp2
  go_ret
  exact ⟨v1, rfl, hown1, hg⟩

set_option maxHeartbeats 8000000 in
set_option maxRecDepth 100000 in
theorem appendUint_big (B n u : Nat) (sv : Value) (xs : List Value) (w : World) (hu : 100 ≤ u) (hu64 : u < 18446744073709551616) (hown : w.ownsRow B 5 1 sv n xs) (hB : B ≤ w.heap.size) (hl : n ≤ 100000)
    (hT : Lib.TabIs Tryd.prog w "internal/strconv.uint64pow10" .u64 Lib.pow10Tab) :
    Calls Tryd.prog 72 #[sv, .int .u64 u, .int .i64 10] w (GaveU B n u sv xs w) := by
  obtain ⟨i0, hi, hz0, hz1, hz2⟩ := info_parts Tryd.infoByte
  have hd := digs_le u hu64
  rw [Lib.decDigits_length] at hd
  have hal : Tryd.prog.arrayLen 118 = 24 := by simp [Program.arrayLen, Tryd.underlying118]
  have hcut : ∀ W, (Instr.sliceAt 118 (.pointer (some ⟨w.heap.size, 0, none⟩)) none (some (.int .i64 (Lib.nDigits u : Int))) none).run Tryd.prog W = .ok (.slice (some ⟨w.heap.size, 0, none⟩) (Lib.nDigits u) 24) W := fun W => by
    rw [run_sliceAt_array_h W 118 ⟨w.heap.size, 0, none⟩ (by simp [Program.arrayLen, Program.elem, Tryd.underlying118]) .i64 (Lib.nDigits u : Int) (by omega) (by rw [hal]; omega)]
    go_simp
  have hz := Lib.holds_zero0 w 118 (Lib.nDigits u) (by omega)
  have hf := Tryd.internal_strconv_formatBase10 w.heap.size 0 24 u (Array.replicate (Lib.nDigits u) 0) (w.alloc (.cells Lib.zeros24 118)) hz (by rw [Array.size_replicate]; exact Lib.lt_pow_nDigits u) hu64 (by rw [Array.size_replicate]; omega)
  rw [Array.size_replicate] at hf
  have HF := Lib.hid hf
  have HZ := Lib.hid hz
  have HO := Lib.hid hown
  have HT := Lib.hid hT
  have iu : (100 : Int) ≤ (u : Int) := by omega
  clear hz hal hf hown hT
  go_enter Tryd.func72, Tryd.ntmps72
  go_wp2_with (go_at_call 74; refine (Tryd.internal_strconv_numDigits u (by omega) hu64 _ (Lib.tabIs_alloc HT.out _)).mono ?_; rintro e w' ⟨rfl, rfl⟩; refine Hid.out ?_)
  refine Lib.hid ?_
  go_wp2_with fail
  refine HF.out.mono ?_
  rintro e w' ⟨rfl, k, v', dk, rfl, hF⟩
  have hcells : ∀ j c, (Lib.byteCells (Lib.decDigits u))[j]? = some c → ((putRow (fun (b : UInt8) => Value.int .u8 (b.toNat : Int)) (w.alloc (.cells Lib.zeros24 118)) w.heap.size 0 dk).drewN k).cell? ((⟨w.heap.size, 0, none⟩ : Addr).add j) = some c := by
    intro j c hj
    have hjl : j < (Lib.decDigits u).length := by
      have h := (List.getElem?_eq_some_iff.1 hj).1
      rwa [Lib.byteCells_length] at h
    have ec : c = Value.int .u8 ((Lib.decDigits u)[j].toNat : Int) := by
      have : (Lib.byteCells (Lib.decDigits u))[j]? = some (Value.int .u8 ((Lib.decDigits u)[j].toNat : Int)) := by simp [Lib.byteCells, hjl]
      exact Option.some.inj (hj.symm.trans this)
    subst ec
    rw [Lib.row_is_numeral hF j hjl, Lib.add_plain, World.cell?_drewN]
    exact cell?_putRow (fun (b : UInt8) => Value.int .u8 (b.toNat : Int)) _ w.heap.size 0 _ dk HZ.out (by rw [hF.size, Array.size_replicate]) j (by rw [hF.size]; rwa [Lib.decDigits_length] at hjl)
  obtain ⟨os, eo⟩ := Lib.fin_at w (.cells Lib.zeros24 118) dk k 0
  have hown2 : ((putRow (fun (b : UInt8) => Value.int .u8 (b.toNat : Int)) (w.alloc (.cells Lib.zeros24 118)) w.heap.size 0 dk).drewN k).ownsRow B 5 1 sv n xs := by rw [eo]; exact Lib.ownsRow_grow HO.out k os
  have hbel : Below w.heap.size w ((putRow (fun (b : UInt8) => Value.int .u8 (b.toNat : Int)) (w.alloc (.cells Lib.zeros24 118)) w.heap.size 0 dk).drewN k) := by rw [eo]; exact Lib.below_grow w.heap.size w (Nat.le_refl _) k os
  generalize (putRow (fun (b : UInt8) => Value.int .u8 (b.toNat : Int)) (w.alloc (.cells Lib.zeros24 118)) w.heap.size 0 dk).drewN k = W at hcells hown2 hbel ⊢
  clear eo HZ HF hF
  have hsz := hbel.size
  go_wp2_with (at_builtin; refine wpList_append_own _ rfl _ _ 47 rfl B 5 i0 (.int .u8 0) 1 1 Tryd.underlying47 hi hz0 hz1 hz2 rfl (by decide) _ _ _ rfl hown2 ⟨w.heap.size, 0, none⟩ (Lib.nDigits u) 24 (Lib.byteCells (Lib.decDigits u)) rfl ?c0 hcells ?c2 ?c3 ?c4 ?c5 ?_)
  case c0 => rw [Lib.byteCells_length, Lib.decDigits_length, Nat.mul_one]
  case c2 => intro c hc; simp only [Lib.byteCells, List.mem_map] at hc; obtain ⟨b, _, rfl⟩ := hc; rfl
  case c3 => unfold maxLen; omega
  case c4 => omega
  case c5 => omega
  intro v2 w3 hown3 hg _
  go_wp2
  go_ret
  refine ⟨v2, rfl, by rw [Lib.decDigits_length]; exact hown3, hg.os.trans hbel.os, hg.tape.trans hbel.tape, hg.output.trans hbel.output, Nat.le_trans hbel.size hg.size, fun j hj hne => (hg.block j (by omega) hne).trans (hbel.block j hj)⟩

theorem appendUint_any (B n u : Nat) (sv : Value) (xs : List Value) (w : World) (hu64 : u < 18446744073709551616) (hown : w.ownsRow B 5 1 sv n xs) (hB : B ≤ w.heap.size) (hl : n ≤ 100000)
    (hT : Lib.TabIs Tryd.prog w "internal/strconv.uint64pow10" .u64 Lib.pow10Tab) :
    Calls Tryd.prog 72 #[sv, .int .u64 u, .int .i64 10] w (GaveU B n u sv xs w) := by
  by_cases h : u < 100
  · exact appendUint_small B n u sv xs w h hown hB hl
  · exact appendUint_big B n u sv xs w (by omega) hu64 hown hB hl hT

theorem appendInt_core (B n u : Nat) (sv : Value) (xs : List Value) (w : World) (hu : u ≤ 9223372036854775807) (H : Calls Tryd.prog 72 #[sv, .int .u64 u, .int .i64 10] w (GaveU B n u sv xs w)) :
    Calls Tryd.prog 71 #[sv, .int .i64 u, .int .i64 10] w (GaveU B n u sv xs w) := by
  have HH := Lib.hid H
  clear H
  go_enter Tryd.func71, Tryd.ntmps71
  go_wp2_with (go_at_call 72; refine HH.out.mono ?_; rintro e w1 ⟨v1, rfl, h1, h2⟩)
  go_ret
  exact ⟨v1, rfl, h1, h2⟩
theorem appendPub_core (B n u : Nat) (sv : Value) (xs : List Value) (w : World) (H : Calls Tryd.prog 71 #[sv, .int .i64 u, .int .i64 10] w (GaveU B n u sv xs w)) :
    Calls Tryd.prog 68 #[sv, .int .i64 u, .int .i64 10] w (GaveU B n u sv xs w) := by
  have HH := Lib.hid H
  clear H
  go_enter Tryd.func68, Tryd.ntmps68
  go_wp2_with (go_at_call 71; refine HH.out.mono ?_; rintro e w1 ⟨v1, rfl, h1, h2⟩)
  go_ret
  exact ⟨v1, rfl, h1, h2⟩
/-- strconv.AppendInt at a number that is not below 0. -/
theorem appendNat_lib (B n u : Nat) (sv : Value) (xs : List Value) (w : World) (hu : u ≤ 9223372036854775807) (hown : w.ownsRow B 5 1 sv n xs) (hB : B ≤ w.heap.size) (hl : n ≤ 100000)
    (hT : Lib.TabIs Tryd.prog w "internal/strconv.uint64pow10" .u64 Lib.pow10Tab) :
    Calls Tryd.prog 68 #[sv, .int .i64 u, .int .i64 10] w (GaveU B n u sv xs w) :=
  appendPub_core B n u sv xs w (appendInt_core B n u sv xs w hu (appendUint_any B n u sv xs w (by omega) hown hB hl hT))

end Go.Proofs.YtjnbpohjdgnknaaDoor
