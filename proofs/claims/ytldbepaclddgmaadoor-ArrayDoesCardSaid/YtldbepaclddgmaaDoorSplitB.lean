/-
  What Line of package split does, over a machine's sizes and any number.
-/
import Derived.Test.YtldbepaclddgmaaDoorSize
import Derived.Test.YtldbepaclddgmaaDoorSplitA
namespace Go.Proofs.YtldbepaclddgmaaDoor
open Go Go.RowKit

/-- What sizes that may be are. -/
theorem ok_pows (c : Cfg) (h : okC c = true) : (isPow c.wo = true ∧ 1 ≤ c.wo ∧ c.wo ≤ 8) ∧ (isPow c.ho = true ∧ 1 ≤ c.ho ∧ c.ho ≤ 16) ∧ (isPow c.se = true ∧ 1 ≤ c.se ∧ c.se ≤ 64) ∧ (isPow c.li = true ∧ 1 ≤ c.li ∧ c.li ≤ 1024) := by
  rw [okC_eq] at h
  simp at h
  have p : ∀ {n hi : Int}, powB n hi = true → isPow n = true ∧ 1 ≤ n ∧ n ≤ hi := fun {n hi} h => ⟨by unfold powB at h; simp at h; exact h.1, (powB_of h).1, (powB_of h).2⟩
  exact ⟨p (by simp [h]), p (by simp [h]), p (by simp [h]), p (by simp [h])⟩

/-- Is there such a line? Such an address? -/
def lnOk (c : Cfg) (l : Int) : Bool := okC c && inR l c.li
def adOk (c : Cfg) (a : Int) : Bool := inR a (sz c)
def joOk (c : Cfg) (l x : Int) : Bool := lnOk c l && inR x c.wo
def tgOk (c : Cfg) (s t : Int) : Bool := lnOk c t && inR s c.se && inR (t * c.se + s) c.li

def adL (c : Cfg) (a : Int) : Int := if adOk c a = true then a / c.wo else 0
def adW (c : Cfg) (a : Int) : Int := if adOk c a = true then a % c.wo else 0
def adE (c : Cfg) (a : Int) : Int := if adOk c a = true then 0 else 1
def lnH (c : Cfg) (l : Int) : Int := if lnOk c l = true then l % c.ho else 0
def lnS (c : Cfg) (l : Int) : Int := if lnOk c l = true then l % c.se else 0
def lnT (c : Cfg) (l : Int) : Int := if lnOk c l = true then l / c.se else 0
def lnE (c : Cfg) (l : Int) : Int := if lnOk c l = true then 0 else 1
def joA (c : Cfg) (l x : Int) : Int := if joOk c l x = true then l * c.wo + x else 0
def joE (c : Cfg) (l x : Int) : Int := if joOk c l x = true then 0 else 1
def tgL (c : Cfg) (s t : Int) : Int := if tgOk c s t = true then t * c.se + s else 0
def tgE (c : Cfg) (s t : Int) : Int := if tgOk c s t = true then 0 else 1

theorem inR_of {n m : Int} (h : inR n m = true) : 0 ≤ n ∧ n < m := by simpa [inR] using h
theorem ok_of_adOk {c : Cfg} {a : Int} (h : adOk c a = true) : okC c = true ∧ 0 ≤ a ∧ a < c.wo * c.li := by
  unfold adOk at h
  have := inR_of h
  rcases Bool.eq_false_or_eq_true (okC c) with h' | h'
  · exact ⟨h', this.1, by simpa [sz, h'] using this.2⟩
  · simp [sz, h'] at this; omega
theorem ok_of_lnOk {c : Cfg} {l : Int} (h : lnOk c l = true) : okC c = true ∧ 0 ≤ l ∧ l < c.li := by
  unfold lnOk at h
  simp at h
  exact ⟨h.1, inR_of h.2⟩
theorem fits_wo {c : Cfg} (h : c.fits) : c.wo ≤ 9223372036854775807 := by unfold Cfg.fits at h; omega
theorem fits_ho {c : Cfg} (h : c.fits) : c.ho ≤ 9223372036854775807 := by unfold Cfg.fits at h; omega
theorem fits_se {c : Cfg} (h : c.fits) : c.se ≤ 9223372036854775807 := by unfold Cfg.fits at h; omega

theorem hasLine_any (c : Cfg) (l : Int) (w : World) (hc : c.fits) :
    Calls Tryd.prog 46 #[cv c, .int .i64 l] w fun e w' => e = .returned (.bool (lnOk c l)) ∧ Below w.heap.size w w' := by
  have HC := Lib.hid hc
  clear hc
  rcases Bool.eq_false_or_eq_true (okC c) with h | h
  · have h0 := chk_ok c h
    have HL : Hid (lnOk c l = inR l c.li) := Lib.hid (by simp [lnOk, h])
    clear h
    go_enter Tryd.func46, Tryd.ntmps46
    go_wp2_with (first
      | (go_at_call 24; refine (check_any c _ HC.out).mono ?_; rintro e w1 ⟨rfl, hb1⟩; have hcl := fun o => hb1.cell (p := ⟨w.heap.size, o, none⟩) (by simp))
      | (go_at_call 59; refine (within_any _ _ _).mono ?_; rintro e w2 ⟨rfl, rfl⟩))
    go_ret
    exact ⟨ret_bool HL.out.symm, ((Below.refl _ _).alloc (Nat.le_refl _) _).trans (hb1.mono (by simp))⟩
  · have h0 := chk_no c h
    have HL : Hid (lnOk c l = false) := Lib.hid (by simp [lnOk, h])
    clear h
    go_enter Tryd.func46, Tryd.ntmps46
    go_wp2_with (go_at_call 24; refine (check_any c _ HC.out).mono ?_; rintro e w1 ⟨rfl, hb1⟩)
    go_ret
    exact ⟨ret_bool HL.out.symm, ((Below.refl _ _).alloc (Nat.le_refl _) _).trans (hb1.mono (by simp))⟩

theorem ret3 {a b c a' b' c' : Int} (h : a = a') (h' : b = b') (h'' : c = c') : Ending.returned (.tuple #[.int .i64 a, .int .i64 b, .int .i64 c]) = .returned (.tuple #[.int .i64 a', .int .i64 b', .int .i64 c']) := by rw [h, h', h'']
theorem ret2 {a b a' b' : Int} (h : a = a') (h' : b = b') : Ending.returned (.tuple #[.int .i64 a, .int .i64 b]) = .returned (.tuple #[.int .i64 a', .int .i64 b']) := by rw [h, h']
theorem ret4 {a b c d a' b' c' d' : Int} (h : a = a') (h' : b = b') (h'' : c = c') (h''' : d = d') : Ending.returned (.tuple #[.int .i64 a, .int .i64 b, .int .i64 c, .int .i64 d]) = .returned (.tuple #[.int .i64 a', .int .i64 b', .int .i64 c', .int .i64 d']) := by rw [h, h', h'', h''']


theorem line_any (c : Cfg) (l : Int) (w : World) (hc : c.fits) (hT : Tb w) :
    Calls Tryd.prog 39 #[cv c, .int .i64 l] w fun e w' => e = .returned (.tuple #[.int .i64 (lnH c l), .int .i64 (lnS c l), .int .i64 (lnT c l), .int .i64 (lnE c l)]) ∧ Below w.heap.size w w' := by
  have HC := Lib.hid hc
  have HT := Lib.hid hT
  clear hT
  have hho := fits_ho hc
  have hse := fits_se hc
  clear hc
  rcases Bool.eq_false_or_eq_true (lnOk c l) with h | h
  · have HL : Hid (lnH c l = l % c.ho ∧ lnS c l = l % c.se ∧ lnT c l = l / c.se ∧ lnE c l = 0) := Lib.hid (by simp [lnH, lnS, lnT, lnE, h])
    obtain ⟨hok, h0, h1⟩ := ok_of_lnOk h
    have hp := ok_pows c hok
    have HH := Lib.hid hp.2.1.1
    have HS := Lib.hid hp.2.2.1.1
    have hl := hp.2.2.2.2.2
    clear hok hp
    go_enter Tryd.func39, Tryd.ntmps39
    go_wp2_with (go_at_call 46; refine (hasLine_any c _ _ HC.out).mono ?_; rintro e w1 ⟨rfl, hb1⟩; have hcl := fun o => hb1.cell (p := ⟨w.heap.size, o, none⟩) (by simp); have hbw : Below w.heap.size w w1 := bbox hb1; have hz1 := zbox hb1)
    refine (parts_any _ _ hho (HT.out.keeps hbw)).mono ?_
    rintro e w3 ⟨rfl, hb3⟩
    have hcl3 := fun o => hb3.cell (p := ⟨w.heap.size, o, none⟩) hz1
    have hbw3 := bstep hbw hb3
    go_wp2_with (fail)
    refine (parts_any _ _ hse (HT.out.keeps hbw3)).mono ?_
    rintro e w4 ⟨rfl, hb4⟩
    have hbw4 := bstep hbw3 hb4
    go_wp2_with (fail)
    refine (below_any _ _ _ HH.out h0 (by omega)).mono ?_
    rintro e w5 ⟨rfl, hb5⟩
    go_wp2_with (fail)
    refine (below_any _ _ _ HS.out h0 (by omega)).mono ?_
    rintro e w6 ⟨rfl, hb6⟩
    go_wp2_with (fail)
    refine (above_any _ _ _ HS.out).mono ?_
    rintro e w7 ⟨rfl, hb7⟩
    go_wp2
    refine bodyPost_ret (v := .tuple #[.int .i64 (l % c.ho), .int .i64 (l % c.se), .int .i64 (l / c.se), .int .i64 0]) (by simp [results, Tryd.results39, go_sem]) rfl ⟨ret4 HL.out.1.symm HL.out.2.1.symm HL.out.2.2.1.symm HL.out.2.2.2.symm, bstep (bstep (bstep hbw4 hb5) hb6) hb7⟩
  · have HL : Hid (lnH c l = 0 ∧ lnS c l = 0 ∧ lnT c l = 0 ∧ lnE c l = 1) := Lib.hid (by simp [lnH, lnS, lnT, lnE, h])
    go_enter Tryd.func39, Tryd.ntmps39
    go_wp2_with (go_at_call 46; refine (hasLine_any c _ _ HC.out).mono ?_; rintro e w1 ⟨rfl, hb1⟩)
    refine bodyPost_ret (v := .tuple #[.int .i64 0, .int .i64 0, .int .i64 0, .int .i64 1]) (by simp [results, Tryd.results39, go_sem]) rfl ⟨ret4 HL.out.1.symm HL.out.2.1.symm HL.out.2.2.1.symm HL.out.2.2.2.symm, bbox hb1⟩

end Go.Proofs.YtldbepaclddgmaaDoor
