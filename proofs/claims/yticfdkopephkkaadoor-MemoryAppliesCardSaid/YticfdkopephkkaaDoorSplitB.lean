/-
  What Line of package split does, over a machine's sizes and any number.
-/
import Derived.Test.YticfdkopephkkaaDoorSize
import Derived.Test.YticfdkopephkkaaDoorSplitA
namespace Go.Proofs.YticfdkopephkkaaDoor
open Go Go.RowKit

/-- What sizes that may be are. -/
theorem ok_pows (c : Cfg) (h : okC c = true) : (isPow c.wo = true ∧ 1 ≤ c.wo ∧ c.wo ≤ 8) ∧ (isPow c.ho = true ∧ 1 ≤ c.ho ∧ c.ho ≤ 16) ∧ (isPow c.se = true ∧ 1 ≤ c.se ∧ c.se ≤ 64) ∧ (isPow c.li = true ∧ 1 ≤ c.li ∧ c.li ≤ 1024) := by
  rw [okC_eq] at h
  simp at h
  have p : ∀ {n hi : Int}, powB n hi = true → isPow n = true ∧ 1 ≤ n ∧ n ≤ hi := fun {n hi} h => ⟨by unfold powB at h; simp at h; exact h.1, (powB_of h).1, (powB_of h).2⟩
  exact ⟨p (by simp [h]), p (by simp [h]), p (by simp [h]), p (by simp [h])⟩

/-- Is there such a line? Such an address? -/
def lnOk (c : Cfg) (l : Int) : Bool := okC c && inR l c.li
def adOk (c : Cfg) (a : Int) : Bool := inR a (sz c)
def joOk (c : Cfg) (l x : Int) : Bool := lnOk c l && inR x c.wo
def tgOk (c : Cfg) (s t : Int) : Bool := lnOk c t && inR s c.se && inR (t * c.se + s) c.li

def adL (c : Cfg) (a : Int) : Int := if adOk c a = true then a / c.wo else 0
def adW (c : Cfg) (a : Int) : Int := if adOk c a = true then a % c.wo else 0
def adE (c : Cfg) (a : Int) : Int := if adOk c a = true then 0 else 1
def lnH (c : Cfg) (l : Int) : Int := if lnOk c l = true then l % c.ho else 0
def lnS (c : Cfg) (l : Int) : Int := if lnOk c l = true then l % c.se else 0
def lnT (c : Cfg) (l : Int) : Int := if lnOk c l = true then l / c.se else 0
def lnE (c : Cfg) (l : Int) : Int := if lnOk c l = true then 0 else 1
def joA (c : Cfg) (l x : Int) : Int := if joOk c l x = true then l * c.wo + x else 0
def joE (c : Cfg) (l x : Int) : Int := if joOk c l x = true then 0 else 1
def tgL (c : Cfg) (s t : Int) : Int := if tgOk c s t = true then t * c.se + s else 0
def tgE (c : Cfg) (s t : Int) : Int := if tgOk c s t = true then 0 else 1

theorem inR_of {n m : Int} (h : inR n m = true) : 0 ≤ n ∧ n < m := by simpa [inR] using h
theorem ok_of_adOk {c : Cfg} {a : Int} (h : adOk c a = true) : okC c = true ∧ 0 ≤ a ∧ a < c.wo * c.li := by
  unfold adOk at h
  have := inR_of h
  rcases Bool.eq_false_or_eq_true (okC c) with h' | h'
  · exact ⟨h', this.1, by simpa [sz, h'] using this.2⟩
  · simp [sz, h'] at this; omega
theorem ok_of_lnOk {c : Cfg} {l : Int} (h : lnOk c l = true) : okC c = true ∧ 0 ≤ l ∧ l < c.li := by
  unfold lnOk at h
  simp at h
  exact ⟨h.1, inR_of h.2⟩
theorem fits_wo {c : Cfg} (h : c.fits) : c.wo ≤ 9223372036854775807 := by unfold Cfg.fits at h; omega
theorem fits_ho {c : Cfg} (h : c.fits) : c.ho ≤ 9223372036854775807 := by unfold Cfg.fits at h; omega
theorem fits_se {c : Cfg} (h : c.fits) : c.se ≤ 9223372036854775807 := by unfold Cfg.fits at h; omega

theorem hasLine_any (c : Cfg) (l : Int) (w : World) (hc : c.fits) :
    Calls Tryd.prog 29 #[cv c, .int .i64 l] w fun e w' => e = .returned (.bool (lnOk c l)) ∧ Below w.heap.size w w' := by
  have HC := Lib.hid hc
  clear hc
  rcases Bool.eq_false_or_eq_true (okC c) with h | h
  · have h0 := chk_ok c h
    have HL : Hid (lnOk c l = inR l c.li) := Lib.hid (by simp [lnOk, h])
    clear h
    go_enter Tryd.func29, Tryd.ntmps29
    go_wp2_with (first
      | (go_at_call 14; refine (check_any c _ HC.out).mono ?_; rintro e w1 ⟨rfl, hb1⟩; have hcl := fun o => hb1.cell (p := ⟨w.heap.size, o, none⟩) (by simp))
      | (go_at_call 20; refine (within_any _ _ _).mono ?_; rintro e w2 ⟨rfl, rfl⟩))
    go_ret
    exact ⟨ret_bool HL.out.symm, ((Below.refl _ _).alloc (Nat.le_refl _) _).trans (hb1.mono (by simp))⟩
  · have h0 := chk_no c h
    have HL : Hid (lnOk c l = false) := Lib.hid (by simp [lnOk, h])
    clear h
    go_enter Tryd.func29, Tryd.ntmps29
    go_wp2_with (go_at_call 14; refine (check_any c _ HC.out).mono ?_; rintro e w1 ⟨rfl, hb1⟩)
    go_ret
    exact ⟨ret_bool HL.out.symm, ((Below.refl _ _).alloc (Nat.le_refl _) _).trans (hb1.mono (by simp))⟩

theorem ret3 {a b c a' b' c' : Int} (h : a = a') (h' : b = b') (h'' : c = c') : Ending.returned (.tuple #[.int .i64 a, .int .i64 b, .int .i64 c]) = .returned (.tuple #[.int .i64 a', .int .i64 b', .int .i64 c']) := by rw [h, h', h'']
theorem ret2 {a b a' b' : Int} (h : a = a') (h' : b = b') : Ending.returned (.tuple #[.int .i64 a, .int .i64 b]) = .returned (.tuple #[.int .i64 a', .int .i64 b']) := by rw [h, h']
theorem ret4 {a b c d a' b' c' d' : Int} (h : a = a') (h' : b = b') (h'' : c = c') (h''' : d = d') : Ending.returned (.tuple #[.int .i64 a, .int .i64 b, .int .i64 c, .int .i64 d]) = .returned (.tuple #[.int .i64 a', .int .i64 b', .int .i64 c', .int .i64 d']) := by rw [h, h', h'', h''']


end Go.Proofs.YticfdkopephkkaaDoor
