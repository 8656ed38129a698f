/-
  The walk of MessageBack: whatever sizes, message and bytes it is given, it returns true, and writes nothing that was there.
-/
import Derived.Test.YtjbodkmjhnlhiaaMsX
namespace Go.Proofs.Ytjbodkmjhnlhiaa
open Go Go.RowKit

/-- Put and Take, as the bytes and the message are known. -/
theorem put_as (c : Cfg) (m : Msg) (l : List UInt8) (n : Int) (B : ByteArray) (hc : c.fits) (h : putM c m = (l, n)) (hB : ByteArray.mk l.toArray = B) (w : World) :
    Calls Try.prog 7 #[cv c, mv m] w fun e w' => e = .returned (.tuple #[.string B, .int .i64 n]) ∧ Below w.heap.size w w' := by
  have hp := put_any c m w hc
  rw [h] at hp
  subst hB
  exact hp
theorem take_as (c : Cfg) (T : ByteArray) (M : Msg) (n : Int) (hc : c.fits) (h : takM c T.data.toList = (M, n)) (w : World) :
    Calls Try.prog 9 #[cv c, .string T] w fun e w' => e = .returned (.tuple #[mv M, .int .i64 n]) ∧ Below w.heap.size w w' := by
  have hp := take_any c T w hc
  rw [h] at hp
  exact hp

set_option maxRecDepth 100000 in
set_option maxHeartbeats 4000000 in
theorem back_m_t (c : Cfg) (m : Msg) (T : ByteArray) (w : World) (hc : c.fits) (h100 : ¬ 100 < T.size) (hm : mayM c m = true) (ht : tkB c T.data.toList = true) :
    Calls Try.prog 4 #[cv c, mv m, .string T] w fun e w' => e = .returned (.bool true) ∧ Below w.heap.size w w' := by
  have HC := Lib.hid hc
  have HM := Lib.hid hm
  obtain ⟨B, hB⟩ : ∃ B : ByteArray, ByteArray.mk (bytesM c m).toArray = B := ⟨_, rfl⟩
  have HP := Lib.hid (put_as c m (bytesM c m) 0 B hc (by unfold putM; rw [if_pos hm]) hB)
  have HTP := Lib.hid (take_as c B m 0 hc (by rw [← hB]; simpa using take_put hm))
  have hq := msg_neq m
  clear hB
  have HT := Lib.hid (take_as c T (tellN T.data.toList (cnt T.data.toList)) 0 hc (by unfold takM; rw [if_pos ht]))
  have HPT := Lib.hid (put_as c (tellN T.data.toList (cnt T.data.toList)) T.data.toList 0 T hc (bytes_tell ht) (by simp))
  have HMT := Lib.hid (tk_all ht).2.2
  generalize tellN T.data.toList (cnt T.data.toList) = M at *
  have h1 : ¬ 100 < (T.size : Int) := by omega
  have K0 := K2.box w (ccells c) (mcells m) 24 28
  clear hc hm ht h100
  go_enter Try.func4, Try.ntmps4
  go_wp2_with (fail)
  refine (awake5_any _).mono ?_
  rintro e w1 ⟨rfl, hb1⟩
  have K1 := K0.step hb1
  have ha := K1.a; have hb := K1.b
  clear hb1 K0
  go_wp2_with (fail)
  refine (HP.out _).mono ?_
  rintro e w2 ⟨rfl, hb2⟩
  have K2' := K1.step hb2
  clear hb2 ha hb K1
  have ha := K2'.a; have hb := K2'.b
  go_wp2_with (fail)
  refine (HTP.out _).mono ?_
  rintro e w3 ⟨rfl, hb3⟩
  have K3' := (K2'.step hb3).step ((Below.refl _ w3).alloc (Nat.le_refl _) (.cells (mcells m) 28))
  clear hb3 ha hb K2'
  have ha := K3'.a; have hb := K3'.b
  go_wp2_with (fail)
  refine (may_any c m _ HC.out).mono ?_
  rintro e w4 ⟨rfl, hb4⟩
  rw [HM.out]
  have K4 := K3'.step hb4
  clear hb4 ha hb K3' hq
  have ha := K4.a
  go_wp2_with (fail)
  refine (HT.out _).mono ?_
  rintro e w5 ⟨rfl, hb5⟩
  have K5 := (K4.step hb5).step ((Below.refl _ w5).alloc (Nat.le_refl _) (.cells (mcells M) 28))
  have N5 := Lib.hid (heap_alloc_new w5 (.cells (mcells M) 28))
  clear hb5 ha K4
  have ha := K5.a
  go_wp2_with (fail)
  refine (HPT.out _).mono ?_
  rintro e w6 ⟨rfl, hb6⟩
  have K6 := K5.step hb6
  have N6 := (hb6.block _ (lt_of_block N5.out)).trans N5.out
  have hn := blk_cell N6
  clear hb6 ha K5
  have ha := K6.a
  go_wp2_with (fail)
  refine (may_any c M _ HC.out).mono ?_
  rintro e w7 ⟨rfl, hb7⟩
  rw [HMT.out]
  have K7 := K6.step hb7
  clear hb7 ha hn K6
  go_wp2
  go_ret
  exact ⟨rfl, K7.below⟩

set_option maxRecDepth 100000 in
set_option maxHeartbeats 4000000 in
theorem back_m_n (c : Cfg) (m : Msg) (T : ByteArray) (w : World) (hc : c.fits) (h100 : ¬ 100 < T.size) (hm : mayM c m = true) (ht : tkB c T.data.toList = false) :
    Calls Try.prog 4 #[cv c, mv m, .string T] w fun e w' => e = .returned (.bool true) ∧ Below w.heap.size w w' := by
  have HC := Lib.hid hc
  have HM := Lib.hid hm
  obtain ⟨B, hB⟩ : ∃ B : ByteArray, ByteArray.mk (bytesM c m).toArray = B := ⟨_, rfl⟩
  have HP := Lib.hid (put_as c m (bytesM c m) 0 B hc (by unfold putM; rw [if_pos hm]) hB)
  have HTP := Lib.hid (take_as c B m 0 hc (by rw [← hB]; simpa using take_put hm))
  have hq := msg_neq m
  clear hB
  have HT := Lib.hid (take_as c T m0 2 hc (by unfold takM; rw [ht]; rfl))
  have h1 : ¬ 100 < (T.size : Int) := by omega
  have K0 := K2.box w (ccells c) (mcells m) 24 28
  clear hc hm ht h100
  go_enter Try.func4, Try.ntmps4
  go_wp2_with (fail)
  refine (awake5_any _).mono ?_
  rintro e w1 ⟨rfl, hb1⟩
  have K1 := K0.step hb1
  have ha := K1.a; have hb := K1.b
  clear hb1 K0
  go_wp2_with (fail)
  refine (HP.out _).mono ?_
  rintro e w2 ⟨rfl, hb2⟩
  have K2' := K1.step hb2
  clear hb2 ha hb K1
  have ha := K2'.a; have hb := K2'.b
  go_wp2_with (fail)
  refine (HTP.out _).mono ?_
  rintro e w3 ⟨rfl, hb3⟩
  have K3' := (K2'.step hb3).step ((Below.refl _ w3).alloc (Nat.le_refl _) (.cells (mcells m) 28))
  clear hb3 ha hb K2'
  have ha := K3'.a; have hb := K3'.b
  go_wp2_with (fail)
  refine (may_any c m _ HC.out).mono ?_
  rintro e w4 ⟨rfl, hb4⟩
  rw [HM.out]
  have K4 := K3'.step hb4
  clear hb4 ha hb K3' hq
  have ha := K4.a
  go_wp2_with (fail)
  refine (HT.out _).mono ?_
  rintro e w5 ⟨rfl, hb5⟩
  have K5 := (K4.step hb5).step ((Below.refl _ w5).alloc (Nat.le_refl _) (.cells (mcells m0) 28))
  clear hb5 ha K4
  have hz := msg_eql m0
  go_wp2
  go_ret
  exact ⟨rfl, K5.below⟩

set_option maxRecDepth 100000 in
set_option maxHeartbeats 4000000 in
theorem back_n_t (c : Cfg) (m : Msg) (T : ByteArray) (w : World) (hc : c.fits) (h100 : ¬ 100 < T.size) (hm : mayM c m = false) (ht : tkB c T.data.toList = true) :
    Calls Try.prog 4 #[cv c, mv m, .string T] w fun e w' => e = .returned (.bool true) ∧ Below w.heap.size w w' := by
  have HC := Lib.hid hc
  have HM := Lib.hid hm
  have HP := Lib.hid (put_as c m [] 1 ⟨#[]⟩ hc (by unfold putM; rw [hm]; rfl) rfl)
  have HT := Lib.hid (take_as c T (tellN T.data.toList (cnt T.data.toList)) 0 hc (by unfold takM; rw [if_pos ht]))
  have HPT := Lib.hid (put_as c (tellN T.data.toList (cnt T.data.toList)) T.data.toList 0 T hc (bytes_tell ht) (by simp))
  have HMT := Lib.hid (tk_all ht).2.2
  generalize tellN T.data.toList (cnt T.data.toList) = M at *
  have h1 : ¬ 100 < (T.size : Int) := by omega
  have K0 := K2.box w (ccells c) (mcells m) 24 28
  clear hc hm ht h100
  go_enter Try.func4, Try.ntmps4
  go_wp2_with (fail)
  refine (awake5_any _).mono ?_
  rintro e w1 ⟨rfl, hb1⟩
  have K1 := K0.step hb1
  have ha := K1.a; have hb := K1.b
  clear hb1 K0
  go_wp2_with (fail)
  refine (HP.out _).mono ?_
  rintro e w2 ⟨rfl, hb2⟩
  have K2' := K1.step hb2
  clear hb2 ha hb K1
  have ha := K2'.a; have hb := K2'.b
  go_wp2_with (fail)
  refine (may_any c m _ HC.out).mono ?_
  rintro e w4 ⟨rfl, hb4⟩
  rw [HM.out]
  have K4 := K2'.step hb4
  clear hb4 ha hb K2'
  have ha := K4.a
  go_wp2_with (fail)
  refine (HT.out _).mono ?_
  rintro e w5 ⟨rfl, hb5⟩
  have K5 := (K4.step hb5).step ((Below.refl _ w5).alloc (Nat.le_refl _) (.cells (mcells M) 28))
  have N5 := Lib.hid (heap_alloc_new w5 (.cells (mcells M) 28))
  clear hb5 ha K4
  have ha := K5.a
  go_wp2_with (fail)
  refine (HPT.out _).mono ?_
  rintro e w6 ⟨rfl, hb6⟩
  have K6 := K5.step hb6
  have N6 := (hb6.block _ (lt_of_block N5.out)).trans N5.out
  have hn := blk_cell N6
  clear hb6 ha K5
  have ha := K6.a
  go_wp2_with (fail)
  refine (may_any c M _ HC.out).mono ?_
  rintro e w7 ⟨rfl, hb7⟩
  rw [HMT.out]
  have K7 := K6.step hb7
  clear hb7 ha hn K6
  go_wp2
  go_ret
  exact ⟨rfl, K7.below⟩

set_option maxRecDepth 100000 in
set_option maxHeartbeats 4000000 in
theorem back_n_n (c : Cfg) (m : Msg) (T : ByteArray) (w : World) (hc : c.fits) (h100 : ¬ 100 < T.size) (hm : mayM c m = false) (ht : tkB c T.data.toList = false) :
    Calls Try.prog 4 #[cv c, mv m, .string T] w fun e w' => e = .returned (.bool true) ∧ Below w.heap.size w w' := by
  have HC := Lib.hid hc
  have HM := Lib.hid hm
  have HP := Lib.hid (put_as c m [] 1 ⟨#[]⟩ hc (by unfold putM; rw [hm]; rfl) rfl)
  have HT := Lib.hid (take_as c T m0 2 hc (by unfold takM; rw [ht]; rfl))
  have h1 : ¬ 100 < (T.size : Int) := by omega
  have K0 := K2.box w (ccells c) (mcells m) 24 28
  clear hc hm ht h100
  go_enter Try.func4, Try.ntmps4
  go_wp2_with (fail)
  refine (awake5_any _).mono ?_
  rintro e w1 ⟨rfl, hb1⟩
  have K1 := K0.step hb1
  have ha := K1.a; have hb := K1.b
  clear hb1 K0
  go_wp2_with (fail)
  refine (HP.out _).mono ?_
  rintro e w2 ⟨rfl, hb2⟩
  have K2' := K1.step hb2
  clear hb2 ha hb K1
  have ha := K2'.a; have hb := K2'.b
  go_wp2_with (fail)
  refine (may_any c m _ HC.out).mono ?_
  rintro e w4 ⟨rfl, hb4⟩
  rw [HM.out]
  have K4 := K2'.step hb4
  clear hb4 ha hb K2'
  have ha := K4.a
  go_wp2_with (fail)
  refine (HT.out _).mono ?_
  rintro e w5 ⟨rfl, hb5⟩
  have K5 := (K4.step hb5).step ((Below.refl _ w5).alloc (Nat.le_refl _) (.cells (mcells m0) 28))
  clear hb5 ha K4
  have hz := msg_eql m0
  go_wp2
  go_ret
  exact ⟨rfl, K5.below⟩

set_option maxRecDepth 100000 in
set_option maxHeartbeats 2000000 in
theorem back_long (c : Cfg) (m : Msg) (T : ByteArray) (w : World) (h1 : 100 < T.size) :
    Calls Try.prog 4 #[cv c, mv m, .string T] w fun e w' => e = .returned (.bool true) ∧ Below w.heap.size w w' := by
  have h2 : 100 < (T.size : Int) := by omega
  have K0 := K2.box w (ccells c) (mcells m) 24 28
  clear h1
  go_enter Try.func4, Try.ntmps4
  go_wp2_with (fail)
  refine (awake5_any _).mono ?_
  rintro e w1 ⟨rfl, hb1⟩
  have K1 := K0.step hb1
  clear hb1 K0
  go_wp2
  go_ret
  exact ⟨rfl, K1.below⟩

/-- MessageBack. -/
theorem messageBack_any (c : Cfg) (m : Msg) (T : ByteArray) (w : World) (hc : c.fits) :
    Calls Try.prog 4 #[cv c, mv m, .string T] w fun e w' => e = .returned (.bool true) ∧ Below w.heap.size w w' := by
  by_cases h1 : 100 < T.size
  · exact back_long c m T w h1
  · rcases Bool.eq_false_or_eq_true (mayM c m) with hm | hm <;> rcases Bool.eq_false_or_eq_true (tkB c T.data.toList) with ht | ht
    · exact back_m_t c m T w hc h1 hm ht
    · exact back_m_n c m T w hc h1 hm ht
    · exact back_n_t c m T w hc h1 hm ht
    · exact back_n_n c m T w hc h1 hm ht

end Go.Proofs.Ytjbodkmjhnlhiaa
