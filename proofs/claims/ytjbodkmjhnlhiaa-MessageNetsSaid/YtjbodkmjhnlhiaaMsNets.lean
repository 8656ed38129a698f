/-
  The walk of MessageNets: whatever sizes and message it is given, it returns true, and writes nothing that was there.
-/
import Derived.Test.YtjbodkmjhnlhiaaMsX
namespace Go.Proofs.Ytjbodkmjhnlhiaa
open Go Go.RowKit

theorem net_in (k : Int) : -1 ≤ net k ∧ net k ≤ 2 := by
  unfold net
  split
  · split
    · omega
    · split <;> omega
  · omega
/-- What a message that may be has. -/
theorem may_ways {c : Cfg} {m : Msg} (h : mayM c m = true) :
    (toHome m.kd = true ∧ (net m.kd = 0 ∨ (net m.kd = 2 ∧ m.kd = 11)) ∧ m.to = m.ln % c.ho ∧ 0 ≤ m.fr ∧ m.fr < c.co)
    ∨ (toHome m.kd = false ∧ m.kd ≠ 11 ∧ ((net m.kd = 1 ∧ m.fr = m.ln % c.ho) ∨ net m.kd = 2) ∧ 0 ≤ m.to ∧ m.to < c.co) := by
  obtain ⟨_, _, hk, hh, _⟩ := may_all h
  obtain ⟨kd, ln, fr, to, wh, ac, ow, w0, w1, w2, w3, w4, w5, w6, w7⟩ := m
  simp only at hk hh ⊢
  unfold holdsB datB sender fwdB ansB cth bare ctc htc another acks isin at hh
  simp only at hh
  rcases kinds hk with rfl | rfl | rfl | rfl | rfl | rfl | rfl | rfl | rfl | rfl | rfl <;> simp [toHome, net, isKind] at hh ⊢ <;> grind

set_option maxRecDepth 100000 in
set_option maxHeartbeats 4000000 in
theorem nets_no (c : Cfg) (m : Msg) (w : World) (hc : c.fits) (hm : mayM c m = false) :
    Calls Try.prog 5 #[cv c, mv m] w fun e w' => e = .returned (.bool true) ∧ Below w.heap.size w w' := by
  have HC := Lib.hid hc
  have HM := Lib.hid hm
  obtain ⟨n1, n2⟩ := net_in m.kd
  have K0 := K2.box w (ccells c) (mcells m) 24 28
  clear hc hm
  go_enter Try.func5, Try.ntmps5
  go_wp2_with (fail)
  refine (awake5_any _).mono ?_
  rintro e w1 ⟨rfl, hb1⟩
  have K1 := K0.step hb1
  have ha := K1.a; have hb := K1.b
  clear hb1 K0
  go_wp2_with (fail)
  refine (net_any _ _).mono ?_
  rintro e w2 ⟨rfl, hb2⟩
  have K2' := K1.step hb2
  clear hb2 ha hb K1
  have ha := K2'.a; have hb := K2'.b
  generalize net m.kd = n at *
  go_wp2_with (fail)
  refine (may_any c m _ HC.out).mono ?_
  rintro e w3 ⟨rfl, hb3⟩
  rw [HM.out]
  have K3' := K2'.step hb3
  clear hb3 ha hb K2'
  go_wp2
  go_ret
  exact ⟨rfl, K3'.below⟩

set_option maxRecDepth 100000 in
set_option maxHeartbeats 4000000 in
theorem nets_home0 (c : Cfg) (m : Msg) (w : World) (hc : c.fits) (hm : mayM c m = true) (hn : net m.kd = 0) (ht : toHome m.kd = true) (h1 : (m.to == m.ln % c.ho) = true) (h2 : 0 ≤ m.fr) (h3 : m.fr < c.co) :
    Calls Try.prog 5 #[cv c, mv m] w fun e w' => e = .returned (.bool true) ∧ Below w.heap.size w w' := by
  have HC := Lib.hid hc
  have HM := Lib.hid hm
  have HN := Lib.hid hn
  have HT := Lib.hid ht
  obtain ⟨ho, hl, _, _, _⟩ := may_all hm
  have hs := (ok_sizes ho).2.1
  have s1 := hs.1
  have s2 := hs.2
  have l0 := (isin_of hl).1
  have hne : (c.ho == 0) = false := by simp; omega
  have K0 := K2.box w (ccells c) (mcells m) 24 28
  clear hc hm hn ht ho hl hs
  go_enter Try.func5, Try.ntmps5
  go_wp2_with (fail)
  refine (awake5_any _).mono ?_
  rintro e w1 ⟨rfl, hb1⟩
  have K1 := K0.step hb1
  have ha := K1.a; have hb := K1.b
  clear hb1 K0
  go_wp2_with (fail)
  refine (net_any _ _).mono ?_
  rintro e w2 ⟨rfl, hb2⟩
  rw [HN.out]
  have K2' := K1.step hb2
  clear hb2 ha hb K1
  have ha := K2'.a; have hb := K2'.b
  go_wp2_with (fail)
  refine (may_any c m _ HC.out).mono ?_
  rintro e w3 ⟨rfl, hb3⟩
  rw [HM.out]
  have K3' := K2'.step hb3
  clear hb3 ha hb K2'
  have ha := K3'.a; have hb := K3'.b
  go_wp2_with (fail)
  refine (home_any _ _).mono ?_
  rintro e w4 ⟨rfl, hb4⟩
  rw [HT.out]
  have K4 := K3'.step hb4
  clear hb4 ha hb K3'
  have ha := K4.a; have hb := K4.b
  go_wp2_with (fail)
  refine (home_any _ _).mono ?_
  rintro e w5 ⟨rfl, hb5⟩
  rw [HT.out]
  have K5 := K4.step hb5
  clear hb5 ha hb K4
  have ha := K5.a; have hb := K5.b
  go_wp2_with (fail)
  go_quiet (fail)
  go_wp2
  go_ret
  exact ⟨rfl, below_drewN K5.below _⟩

set_option maxRecDepth 100000 in
set_option maxHeartbeats 4000000 in
theorem nets_home2 (c : Cfg) (m : Msg) (w : World) (hc : c.fits) (hm : mayM c m = true) (hn : net m.kd = 2) (ht : toHome m.kd = true) (h0 : (m.kd == 11) = true) (h1 : (m.to == m.ln % c.ho) = true) (h2 : 0 ≤ m.fr) (h3 : m.fr < c.co) :
    Calls Try.prog 5 #[cv c, mv m] w fun e w' => e = .returned (.bool true) ∧ Below w.heap.size w w' := by
  have HC := Lib.hid hc
  have HM := Lib.hid hm
  have HN := Lib.hid hn
  have HT := Lib.hid ht
  obtain ⟨ho, hl, _, _, _⟩ := may_all hm
  have hs := (ok_sizes ho).2.1
  have s1 := hs.1
  have s2 := hs.2
  have l0 := (isin_of hl).1
  have hne : (c.ho == 0) = false := by simp; omega
  have K0 := K2.box w (ccells c) (mcells m) 24 28
  clear hc hm hn ht ho hl hs
  go_enter Try.func5, Try.ntmps5
  go_wp2_with (fail)
  refine (awake5_any _).mono ?_
  rintro e w1 ⟨rfl, hb1⟩
  have K1 := K0.step hb1
  have ha := K1.a; have hb := K1.b
  clear hb1 K0
  go_wp2_with (fail)
  refine (net_any _ _).mono ?_
  rintro e w2 ⟨rfl, hb2⟩
  rw [HN.out]
  have K2' := K1.step hb2
  clear hb2 ha hb K1
  have ha := K2'.a; have hb := K2'.b
  go_wp2_with (fail)
  refine (may_any c m _ HC.out).mono ?_
  rintro e w3 ⟨rfl, hb3⟩
  rw [HM.out]
  have K3' := K2'.step hb3
  clear hb3 ha hb K2'
  have ha := K3'.a; have hb := K3'.b
  go_wp2_with (fail)
  refine (home_any _ _).mono ?_
  rintro e w4 ⟨rfl, hb4⟩
  rw [HT.out]
  have K4 := K3'.step hb4
  clear hb4 ha hb K3'
  have ha := K4.a; have hb := K4.b
  go_wp2_with (fail)
  refine (home_any _ _).mono ?_
  rintro e w5 ⟨rfl, hb5⟩
  rw [HT.out]
  have K5 := K4.step hb5
  clear hb5 ha hb K4
  have ha := K5.a; have hb := K5.b
  go_wp2_with (fail)
  go_quiet (fail)
  go_wp2
  go_ret
  exact ⟨rfl, below_drewN K5.below _⟩

set_option maxRecDepth 100000 in
set_option maxHeartbeats 4000000 in
theorem nets_core1 (c : Cfg) (m : Msg) (w : World) (hc : c.fits) (hm : mayM c m = true) (hn : net m.kd = 1) (ht : toHome m.kd = false) (h0 : (m.kd == 11) = false) (h1 : (m.fr == m.ln % c.ho) = true) (h2 : 0 ≤ m.to) (h3 : m.to < c.co) :
    Calls Try.prog 5 #[cv c, mv m] w fun e w' => e = .returned (.bool true) ∧ Below w.heap.size w w' := by
  have HC := Lib.hid hc
  have HM := Lib.hid hm
  have HN := Lib.hid hn
  have HT := Lib.hid ht
  obtain ⟨ho, hl, _, _, _⟩ := may_all hm
  have hs := (ok_sizes ho).2.1
  have s1 := hs.1
  have s2 := hs.2
  have l0 := (isin_of hl).1
  have hne : (c.ho == 0) = false := by simp; omega
  have K0 := K2.box w (ccells c) (mcells m) 24 28
  clear hc hm hn ht ho hl hs
  go_enter Try.func5, Try.ntmps5
  go_wp2_with (fail)
  refine (awake5_any _).mono ?_
  rintro e w1 ⟨rfl, hb1⟩
  have K1 := K0.step hb1
  have ha := K1.a; have hb := K1.b
  clear hb1 K0
  go_wp2_with (fail)
  refine (net_any _ _).mono ?_
  rintro e w2 ⟨rfl, hb2⟩
  rw [HN.out]
  have K2' := K1.step hb2
  clear hb2 ha hb K1
  have ha := K2'.a; have hb := K2'.b
  go_wp2_with (fail)
  refine (may_any c m _ HC.out).mono ?_
  rintro e w3 ⟨rfl, hb3⟩
  rw [HM.out]
  have K3' := K2'.step hb3
  clear hb3 ha hb K2'
  have ha := K3'.a; have hb := K3'.b
  go_wp2_with (fail)
  refine (home_any _ _).mono ?_
  rintro e w4 ⟨rfl, hb4⟩
  rw [HT.out]
  have K4 := K3'.step hb4
  clear hb4 ha hb K3'
  have ha := K4.a; have hb := K4.b
  go_wp2_with (fail)
  refine (home_any _ _).mono ?_
  rintro e w5 ⟨rfl, hb5⟩
  rw [HT.out]
  have K5 := K4.step hb5
  clear hb5 ha hb K4
  have ha := K5.a; have hb := K5.b
  go_wp2_with (fail)
  go_quiet (fail)
  go_wp2
  go_ret
  exact ⟨rfl, below_drewN K5.below _⟩

set_option maxRecDepth 100000 in
set_option maxHeartbeats 4000000 in
theorem nets_core2 (c : Cfg) (m : Msg) (w : World) (hc : c.fits) (hm : mayM c m = true) (hn : net m.kd = 2) (ht : toHome m.kd = false) (h0 : (m.kd == 11) = false) (h2 : 0 ≤ m.to) (h3 : m.to < c.co) :
    Calls Try.prog 5 #[cv c, mv m] w fun e w' => e = .returned (.bool true) ∧ Below w.heap.size w w' := by
  have HC := Lib.hid hc
  have HM := Lib.hid hm
  have HN := Lib.hid hn
  have HT := Lib.hid ht
  obtain ⟨ho, hl, _, _, _⟩ := may_all hm
  have hs := (ok_sizes ho).2.1
  have s1 := hs.1
  have s2 := hs.2
  have l0 := (isin_of hl).1
  have hne : (c.ho == 0) = false := by simp; omega
  have K0 := K2.box w (ccells c) (mcells m) 24 28
  clear hc hm hn ht ho hl hs
  go_enter Try.func5, Try.ntmps5
  go_wp2_with (fail)
  refine (awake5_any _).mono ?_
  rintro e w1 ⟨rfl, hb1⟩
  have K1 := K0.step hb1
  have ha := K1.a; have hb := K1.b
  clear hb1 K0
  go_wp2_with (fail)
  refine (net_any _ _).mono ?_
  rintro e w2 ⟨rfl, hb2⟩
  rw [HN.out]
  have K2' := K1.step hb2
  clear hb2 ha hb K1
  have ha := K2'.a; have hb := K2'.b
  go_wp2_with (fail)
  refine (may_any c m _ HC.out).mono ?_
  rintro e w3 ⟨rfl, hb3⟩
  rw [HM.out]
  have K3' := K2'.step hb3
  clear hb3 ha hb K2'
  have ha := K3'.a; have hb := K3'.b
  go_wp2_with (fail)
  refine (home_any _ _).mono ?_
  rintro e w4 ⟨rfl, hb4⟩
  rw [HT.out]
  have K4 := K3'.step hb4
  clear hb4 ha hb K3'
  have ha := K4.a; have hb := K4.b
  go_wp2_with (fail)
  refine (home_any _ _).mono ?_
  rintro e w5 ⟨rfl, hb5⟩
  rw [HT.out]
  have K5 := K4.step hb5
  clear hb5 ha hb K4
  have ha := K5.a; have hb := K5.b
  go_wp2_with (fail)
  go_quiet (fail)
  go_wp2
  go_ret
  exact ⟨rfl, below_drewN K5.below _⟩

/-- MessageNets. -/
theorem messageNets_any (c : Cfg) (m : Msg) (w : World) (hc : c.fits) :
    Calls Try.prog 5 #[cv c, mv m] w fun e w' => e = .returned (.bool true) ∧ Below w.heap.size w w' := by
  rcases Bool.eq_false_or_eq_true (mayM c m) with hm | hm
  · rcases may_ways hm with ⟨ht, hn | ⟨hn, hk⟩, h1, h2, h3⟩ | ⟨ht, hk, ⟨hn, h1⟩ | hn, h2, h3⟩
    · exact nets_home0 c m w hc hm hn ht (by simpa using h1) h2 h3
    · exact nets_home2 c m w hc hm hn ht (by simpa using hk) (by simpa using h1) h2 h3
    · exact nets_core1 c m w hc hm hn ht (by simpa using hk) (by simpa using h1) h2 h3
    · exact nets_core2 c m w hc hm hn ht (by simpa using hk) h2 h3
  · exact nets_no c m w hc hm

end Go.Proofs.Ytjbodkmjhnlhiaa
