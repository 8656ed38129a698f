/-
  Scripts that lie in memory; which scripts may be, the program's and the document's.
-/
import Derived.Test.YtjnbpohjdgnknaaDoorScG
namespace Go.Proofs.YtjnbpohjdgnknaaDoor
open Go Go.RowKit

theorem ops_of_row {w : World} {base e : Nat} {v : Value} {l : List Op} (h : w.ownsRow base e 3 v l.length (opCells l)) : OpsAt w v l := by
  rcases h.2 with ⟨rfl, hn⟩ | ⟨g, cap, cur, rfl, _, hg, _, _, _, ht⟩
  · exact .inl ⟨none, 0, rfl, fun _ => rfl, List.eq_nil_of_length_eq_zero hn⟩
  · refine .inr ⟨g, 0, cap, rfl, (Array.getElem?_eq_some_iff.1 hg).1, fun i u hu => ?_⟩
    rw [← ht, List.getElem?_take] at hu
    split at hu
    · simp only [World.cell?, hg]
      simpa using hu
    · cases hu

/-- Where a list of programs lies. -/
def LsIn (w : World) (p : Option Addr) (ls : List (List Op)) : Prop :=
  ∀ j, j < ls.length → ∃ g off u, p = some ⟨g, off, none⟩ ∧ g < w.heap.size ∧ w.cell? ⟨g, off + j, none⟩ = some u ∧ OpsAt w u (ls.getD j [])
theorem LsIn.step {w w' : World} {p : Option Addr} {ls : List (List Op)} (h : LsIn w p ls) (hb : Below w.heap.size w w') : LsIn w' p ls := fun j hj => by
  obtain ⟨g, off, u, e, hg, hc, ho⟩ := h j hj
  exact ⟨g, off, u, e, Nat.lt_of_lt_of_le hg hb.size, (hb.cell (p := ⟨g, off + j, none⟩) hg).trans hc, ho.step hb⟩
/-- A script's parts, as they lie. -/
structure ScAt (w : World) (s : Scr) (p q : Option Addr) : Prop where
  ps : LsIn w p s.ps
  pk : OpsIn w q s.pk
theorem ScAt.step {w w' : World} {s : Scr} {p q : Option Addr} (h : ScAt w s p q) (hb : Below w.heap.size w w') : ScAt w' s p q := ⟨h.ps.step hb, h.pk.step hb⟩
abbrev sv (s : Scr) (p : Option Addr) (cp : Nat) (q : Option Addr) (cq : Nat) : Value := .agg (sL s.c (.slice p s.ps.length cp) (.slice q s.pk.length cq))
abbrev sC (s : Scr) (p : Option Addr) (cp : Nat) (q : Option Addr) (cq : Nat) : Array Value := sL s.c (.slice p s.ps.length cp) (.slice q s.pk.length cq)
/-- What was read lies so. -/
theorem own_at {w : World} {B B' : Nat} {pv qv : Value} {s : Scr} (h : OwnLs w B pv s.ps) (k : w.ownsRow B' 49 3 qv s.pk.length (opCells s.pk)) :
    ∃ p cp q cq, pv = .slice p s.ps.length cp ∧ qv = .slice q s.pk.length cq ∧ ScAt w s p q := by
  obtain ⟨q, cq, e, hq⟩ := (ops_of_row k).in_
  obtain ⟨us, h1, h2, h3⟩ := h
  rcases h1.2 with ⟨rfl, hn⟩ | ⟨g, cap, cur, rfl, _, hg, _, _, _, ht⟩
  · refine ⟨none, 0, q, cq, by rw [← h2, hn], e, ⟨fun j hj => ?_, hq⟩⟩
    omega
  · refine ⟨_, cap, q, cq, by rw [← h2], e, ⟨fun j hj => ?_, hq⟩⟩
    refine ⟨g, 0, us.getD j undef, rfl, (Array.getElem?_eq_some_iff.1 hg).1, ?_, ops_of_row (h3 j hj)⟩
    have hu : us[j]? = some (us.getD j undef) := by
      simp only [List.getD_eq_getElem?_getD]
      rw [List.getElem?_eq_getElem (by omega)]
      rfl
    have hu2 : (cur.toList.take (us.length * 1))[j]? = some (us.getD j undef) := by rw [ht]; exact hu
    rw [List.getElem?_take] at hu2
    split at hu2
    · simp only [World.cell?, hg]
      simpa using hu2
    · cases hu2

/-- No part is more than memory holds of such. -/
structure Fine (s : Scr) : Prop where
  c : s.c.fits
  ps : s.ps.length ≤ 5000
  pk : s.pk.length ≤ 5000
  l : ∀ j, j < s.ps.length → (s.ps.getD j []).length ≤ 5000

theorem allD {α : Type} {f : α → Bool} {l : List α} {d : α} (h : ∀ j, j < l.length → f (l.getD j d) = true) : l.all f = true := by
  rw [List.all_eq_true]
  intro x hx
  obtain ⟨j, hj, rfl⟩ := List.getElem_of_mem hx
  have := h j hj
  rwa [List.getD_eq_getElem?_getD, List.getElem?_eq_getElem hj] at this
theorem allD_no {α : Type} {f : α → Bool} {l : List α} {d : α} {j : Nat} (hj : j < l.length) (h : f (l.getD j d) = false) : l.all f = false := by
  rw [List.all_eq_false]
  refine ⟨l[j], List.getElem_mem hj, ?_⟩
  rw [List.getD_eq_getElem?_getD, List.getElem?_eq_getElem hj] at h
  simpa using h
theorem may_no0 {s : Scr} (h : okC s.c = false) : mayS s = false := by simp [mayS, h]
theorem may_no1 {s : Scr} (h : (s.ps.length : Int) ≠ s.c.co) : mayS s = false := by simp [mayS, h]
theorem may_no2 {s : Scr} {j : Nat} (hj : j < s.ps.length) (h : fitsB s.c (s.ps.getD j []) = false) : mayS s = false := by
  unfold mayS; rw [allD_no hj h]; simp
theorem may_no3 {s : Scr} {j : Nat} (hj : j < s.pk.length) (h : pickB (s.pk.getD j ⟨0, 0, 0⟩) = false) : mayS s = false := by
  unfold mayS; rw [allD_no hj h]; simp
theorem may_yes {s : Scr} (h0 : okC s.c = true) (h1 : (s.ps.length : Int) = s.c.co) (h2 : ∀ j, j < s.ps.length → fitsB s.c (s.ps.getD j []) = true) (h3 : ∀ j, j < s.pk.length → pickB (s.pk.getD j ⟨0, 0, 0⟩) = true) : mayS s = true := by
  unfold mayS; rw [h0, allD h2, allD h3]; simpa using h1
theorem pick_parts {x : Op} : pickB x = false ↔ byteB x.k = false ∨ (byteB x.k = true ∧ byteB x.a = false) ∨ (byteB x.k = true ∧ byteB x.a = true ∧ byteB x.v = false) := by
  unfold pickB
  cases byteB x.k <;> cases byteB x.a <;> cases byteB x.v <;> simp
theorem pick_all {x : Op} (h : pickB x = true) : byteB x.k = true ∧ byteB x.a = true ∧ byteB x.v = true := by
  unfold pickB at h
  simpa [Bool.and_eq_true] using h

set_option maxRecDepth 100000 in
set_option maxHeartbeats 4000000 in
theorem may_script (s : Scr) (p : Option Addr) (cp : Nat) (q : Option Addr) (cq : Nat) (w : World) (hs : ScAt w s p q) (hf : Fine s) :
    Calls Tryd.prog 15 #[sv s p cp q cq] w fun e w' => e = .returned (.bool (mayS s)) ∧ Below w.heap.size w w' := by
  have HC := Lib.hid hf.c
  have HF := Lib.hid hf
  have HS := Lib.hid hs
  have hlp := hf.ps
  have hlk := hf.pk
  clear hs hf
  have K0 := Kp.box w (sC s p cp q cq) 28
  rcases Bool.eq_false_or_eq_true (okC s.c) with hok | hok
  · have h0 := chk_ok s.c hok
    have HOK := Lib.hid hok
    clear hok
    by_cases hn : (s.ps.length : Int) = s.c.co
    · have hnb : ((s.ps.length : Int) != s.c.co) = false := by simp [hn]
      have HN := Lib.hid hn
      clear hn
      go_enter Tryd.func15, Tryd.ntmps15
      go_wp2_with fail
      refine (check_any s.c _ HC.out).mono ?_
      rintro e w1 ⟨rfl, hb1⟩
      have K1 := K0.step hb1
      have hc1 := K1.1
      clear hb1
      go_wp2
      clear hc1 K0 hnb h0
      go_loopw [23] (fun i wr => ∃ k : Nat, k ≤ s.ps.length ∧ i = .int .i64 k ∧ Hid (∀ j, j < k → fitsB s.c (s.ps.getD j []) = true) ∧ Kp w (sC s p cp q cq) wr) (fun i _ => s.ps.length - (intOf i).toNat)
      case atStart => exact ⟨0, Nat.zero_le _, rfl, Lib.hid (fun j hj => by omega), K1⟩
      case round =>
        obtain ⟨k, hk, rfl, HJ, K2⟩ := hrel
        have hc2 := K2.1
        by_cases hlt : k < s.ps.length
        · obtain ⟨g, off, u, rfl, hg, hcu, hou⟩ := (HS.out.ps.step K2.2.2) k hlt
          have hl := HF.out.l k hlt
          obtain ⟨pa, cap, rfl⟩ := hou.form
          have HO := Lib.hid hou
          clear hou
          rcases Bool.eq_false_or_eq_true (fitsB s.c (s.ps.getD k [])) with hm | hm
          · have HJ2 : Hid (∀ j, j < k + 1 → fitsB s.c (s.ps.getD j []) = true) := Lib.hid (fun j hj => by
              by_cases e : j = k
              · rw [e]; exact hm
              · exact HJ.out j (by omega))
            have HM := Lib.hid hm
            clear hm HJ
            generalize s.ps.getD k [] = l at *
            go_wp2_with (go_at_call 13; refine (fits_any s.c l _ _ HC.out HO.out hl).mono ?_; rintro e w3 ⟨rfl, hb3⟩; rw [HM.out])
            have K3 := K2.step hb3
            clear hb3 hc2
            go_roundw
            case rel => exact ⟨k + 1, by omega, by go_num, HJ2, K3⟩
            case measure => simp [intOf]; omega
          · have HE := Lib.hid (may_no2 hlt hm)
            have HM := Lib.hid hm
            clear hm HJ
            generalize s.ps.getD k [] = l at *
            go_wp2_with (go_at_call 13; refine (fits_any s.c l _ _ HC.out HO.out hl).mono ?_; rintro e w3 ⟨rfl, hb3⟩; rw [HM.out])
            have K3 := K2.step hb3
            go_ret
            exact ⟨ret_false HE.out, K3.2.2⟩
        · have HJ2 : Hid (∀ j, j < s.ps.length → fitsB s.c (s.ps.getD j []) = true) := Lib.hid (fun j hj => HJ.out j (by omega))
          clear HJ
          go_wp2
          clear hc2
          go_loopw [36] (fun i wr => ∃ k : Nat, k ≤ s.pk.length ∧ i = .int .i64 k ∧ Hid (∀ j, j < k → pickB (s.pk.getD j ⟨0, 0, 0⟩) = true) ∧ Below w.heap.size w wr) (fun i _ => s.pk.length - (intOf i).toNat)
          case atStart => exact ⟨0, Nat.zero_le _, rfl, Lib.hid (fun j hj => by omega), K2.2.2⟩
          case round =>
            obtain ⟨m, hm, rfl, HP, hb⟩ := hrel
            by_cases hlm : m < s.pk.length
            · obtain ⟨g, off, rfl, hg, c0, c1, c2⟩ := (HS.out.pk.step hb) m hlm
              rcases Bool.eq_false_or_eq_true (pickB (s.pk.getD m ⟨0, 0, 0⟩)) with hx | hx
              · have HP2 : Hid (∀ j, j < m + 1 → pickB (s.pk.getD j ⟨0, 0, 0⟩) = true) := Lib.hid (fun j hj => by
                  by_cases e : j = m
                  · rw [e]; exact hx
                  · exact HP.out j (by omega))
                obtain ⟨x1, x2, x3⟩ := pick_all hx
                clear hx HP
                generalize s.pk.getD m ⟨0, 0, 0⟩ = x at *
                go_wp2_with (go_at_call 30; refine (isByte_any _ _).mono ?_; rintro e w3 ⟨rfl, rfl⟩)
                go_roundw
                case rel => exact ⟨m + 1, by omega, by go_num, HP2, hb.alloc hb.size _⟩
                case measure => simp [intOf]; omega
              · have HE := Lib.hid (may_no3 hlm hx)
                have hx3 := pick_parts.1 hx
                clear hx HP
                generalize s.pk.getD m ⟨0, 0, 0⟩ = x at *
                rcases hx3 with x1 | ⟨x1, x2⟩ | ⟨x1, x2, x3⟩
                all_goals
                  go_wp2_with (go_at_call 30; refine (isByte_any _ _).mono ?_; rintro e w3 ⟨rfl, rfl⟩)
                  go_ret
                  exact ⟨ret_false HE.out, hb.alloc hb.size _⟩
            · have HE := Lib.hid (may_yes HOK.out HN.out HJ2.out (fun j hj => HP.out j (by omega)))
              clear HP
              go_wp2
              go_ret
              exact ⟨ret_true HE.out, hb⟩
    · have hnb : ((s.ps.length : Int) != s.c.co) = true := by simp [hn]
      have HE := Lib.hid (may_no1 hn)
      clear hn
      go_enter Tryd.func15, Tryd.ntmps15
      go_wp2_with fail
      refine (check_any s.c _ HC.out).mono ?_
      rintro e w1 ⟨rfl, hb1⟩
      have K1 := K0.step hb1
      have hc1 := K1.1
      clear hb1
      go_wp2
      go_ret
      exact ⟨ret_false HE.out, K1.2.2⟩
  · have h0 := chk_no s.c hok
    have HE := Lib.hid (may_no0 hok)
    clear hok
    go_enter Tryd.func15, Tryd.ntmps15
    go_wp2_with fail
    refine (check_any s.c _ HC.out).mono ?_
    rintro e w1 ⟨rfl, hb1⟩
    go_wp2
    go_ret
    exact ⟨ret_false HE.out, bbox hb1⟩

end Go.Proofs.YtjnbpohjdgnknaaDoor
