/-
  An operation of the law upon an array.
-/
import Derived.Test.YtldbepaclddgmaaDoorArF
namespace Go.Proofs.YtldbepaclddgmaaDoor
open Go Go.RowKit

abbrev ocells (x : Ao) : Array Value := #[.int .i64 x.k, .int .i64 x.ln, .int .i64 x.n, .int .i64 x.wd.w0, .int .i64 x.wd.w1, .int .i64 x.wd.w2, .int .i64 x.wd.w3, .int .i64 x.wd.w4, .int .i64 x.wd.w5, .int .i64 x.wd.w6, .int .i64 x.wd.w7]
theorem GaveA.box {w w' : World} {b g : Nat} {c : Cfg} {r : Int × List Wy} {e : Ending} {o : Obj} (h : GaveA (w.alloc o) b g c r e w') : GaveA w b g c r e w' := ⟨h.res, h.ar, (TurnG.of_below ((Below.refl _ _).alloc (Nat.le_refl _) _)).trans h.turn⟩

set_option maxHeartbeats 1000000 in
theorem do_any {w : World} {b g : Nat} {c : Cfg} {L : List Wy} (h : Ar w b g c L) (hT : Tb w) (x : Ao) :
    Calls Tryd.prog 9 #[.pointer (some ⟨b, 0, none⟩), .agg (ocells x)] w (GaveA w b g c (doP c L x)) := by
  have hB0 : ∀ o, Below w.heap.size w (w.alloc o) := fun o => (Below.refl _ _).alloc (Nat.le_refl _) _
  have HL := Lib.hid (fun o => lay_any (h.below (hB0 o)) (hT.keeps (hB0 o)) x.ln x.n)
  have HS := Lib.hid (fun o => set_any (h.below (hB0 o)) (hT.keeps (hB0 o)) x.ln x.n x.wd)
  have HK := Lib.hid (fun o => lock_any (h.below (hB0 o)) (hT.keeps (hB0 o)) x.ln (x.n != 0))
  by_cases h0 : x.k = 0
  · have e : doP c L x = layP c L x.ln x.n := by unfold doP; rw [if_pos h0]
    have k0 : (x.k == 0) = true := by simpa using h0
    rw [e]
    clear h hT HS HK h0 e
    go_enter Tryd.func9, Tryd.ntmps9
    go_wp2_with (go_at_call 23; refine (HL.out _).mono ?_; rintro e w1 hg; obtain rfl := hg.res; replace hg := hg.box)
    go_ret
    exact hg
  · have k0 : (x.k == 0) = false := by simpa using h0
    by_cases h1 : x.k = 1
    · have e : doP c L x = setP c L x.ln x.n x.wd := by unfold doP; rw [if_neg h0, if_pos h1]
      have k1 : (x.k == 1) = true := by simpa using h1
      rw [e]
      clear h hT HL HK h0 e h1
      go_enter Tryd.func9, Tryd.ntmps9
      go_wp2_with (go_at_call 21; refine (HS.out _).mono ?_; rintro e w1 hg; obtain rfl := hg.res; replace hg := hg.box)
      go_ret
      exact hg
    · have k1 : (x.k == 1) = false := by simpa using h1
      by_cases h2 : x.k = 2
      · have e : doP c L x = lockP c L x.ln (x.n != 0) := by unfold doP; rw [if_neg h0, if_neg h1, if_pos h2]
        have k2 : (x.k == 2) = true := by simpa using h2
        rw [e]
        clear h hT HL HS h0 e h1 h2
        rcases Bool.eq_false_or_eq_true (x.n != 0) with hq | hq
        all_goals
          rw [hq] at HK ⊢
          go_enter Tryd.func9, Tryd.ntmps9
          go_wp2_with (go_at_call 22; refine (HK.out _).mono ?_; rintro e w1 hg; obtain rfl := hg.res; replace hg := hg.box)
          go_ret
          exact hg
      · have k2 : (x.k == 2) = false := by simpa using h2
        have HE : Hid (∀ o, GaveA w b g c (doP c L x) (.returned (.int .i64 0)) (w.alloc o)) := Lib.hid (fun o => by
          unfold doP
          rw [if_neg h0, if_neg h1, if_neg h2]
          exact ⟨rfl, h.below (hB0 o), .of_below (hB0 o)⟩)
        clear h hT HL HS HK h0 h1 h2
        go_enter Tryd.func9, Tryd.ntmps9
        go_wp2
        go_ret
        exact HE.out _

/-- Find, as one. -/
theorem find_any {w : World} {b g : Nat} {c : Cfg} {L : List Wy} (h : Ar w b g c L) (hT : Tb w) (line : Int) :
    Calls Tryd.prog 13 #[.pointer (some ⟨b, 0, none⟩), .int .i64 line] w (RetF w (fnd c L line).1 (fnd c L line).2.1 (fnd c L line).2.2) := by
  rcases hp : plc c L line with _ | k
  · rw [fnd_none hp]
    exact find_no h hT line hp
  · obtain ⟨_, _, x, hx, _⟩ := h.sz.plc_some hp
    rw [fnd_some hp hx]
    exact find_yes h hT line k x hp hx
/-- Free, as one. -/
theorem free_any {w : World} {b g : Nat} {c : Cfg} {L : List Wy} (h : Ar w b g c L) (hT : Tb w) (line : Int) :
    Calls Tryd.prog 15 #[.pointer (some ⟨b, 0, none⟩), .int .i64 line] w fun e w' => e = .returned (.int .i64 (oi (fre c L line))) ∧ Below w.heap.size w w' := by
  rcases Bool.eq_false_or_eq_true (lnOk c line) with hl | hl
  · exact free_yes h hT line hl
  · have e : fre c L line = none := by unfold fre; rw [if_neg (by simp [hl])]
    rw [e]
    exact free_no h hT line hl

end Go.Proofs.YtldbepaclddgmaaDoor
