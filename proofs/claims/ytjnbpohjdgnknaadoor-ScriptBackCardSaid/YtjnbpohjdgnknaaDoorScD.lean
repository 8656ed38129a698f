/-
  What readPrograms does.
-/
import Derived.Test.YtjnbpohjdgnknaaDoorScC
import Derived.Test.YtjnbpohjdgnknaaDoorPgI
namespace Go.Proofs.YtjnbpohjdgnknaaDoor
open Go Go.RowKit

theorem own_lt {w : World} {base e sz n : Nat} {v : Value} {xs : List Value} (h : w.ownsRow base e sz v n xs) : ∀ g, v.ownBlock = some g → base ≤ g ∧ g < w.heap.size := by
  intro g hg
  rcases h.2 with ⟨rfl, _⟩ | ⟨g', cap, cur, rfl, hb, hh, _⟩
  · simp [Value.ownBlock] at hg
  · simp [Value.ownBlock] at hg
    subst hg
    exact ⟨hb, (Array.getElem?_eq_some_iff.1 hh).1⟩
theorem own_kept {w w' : World} {b base e sz n : Nat} {v : Value} {xs : List Value} (h : w.ownsRow base e sz v n xs) (hk : Kept b w.heap.size w w') (hb : b < base) : w'.ownsRow base e sz v n xs := by
  refine ⟨h.1, ?_⟩
  rcases h.2 with hn | ⟨g, cap, cur, rfl, hb', hgg, rest⟩
  · exact .inl hn
  · exact .inr ⟨g, cap, cur, rfl, hb', (hk.other g (Array.getElem?_eq_some_iff.1 hgg).1 (by omega)).trans hgg, rest⟩
theorem own_others {w w' : World} {base e f sz n : Nat} {v : Value} {xs : List Value} (h : w.ownsRow base e sz v n xs) (hk : Lib.OthersKept f none w w') (hne : e ≠ f) : w'.ownsRow base e sz v n xs := by
  refine ⟨h.1, ?_⟩
  rcases h.2 with hn | ⟨g, cap, cur, rfl, hb', hgg, rest⟩
  · exact .inl hn
  · exact .inr ⟨g, cap, cur, rfl, hb', hk g _ hgg (by simp) (fun c fz heq => hne (by injection heq)), rest⟩
theorem own_grown {w w' : World} {base e sz n : Nat} {v : Value} {xs : List Value} (h : w.ownsRow base e sz v n xs) (hg : w.grownBy w' v.ownBlock) : Lib.OthersKept e none w w' :=
  (Lib.OthersKept.refl _ _ w).grown hg (Lib.ownsRow_kind h)
theorem below_own {w w' : World} {base e sz n : Nat} {v : Value} {xs : List Value} (h : w.ownsRow base e sz v n xs) (hb : base ≤ w.heap.size) (hg : w.grownBy w' v.ownBlock) : Below base w w' :=
  (Below.refl base w).grown hg hb (fun k hk => (own_lt h k hk).1)
theorem Kx.high {w w1 w2 : World} {L : Array Value} {b : Nat} (h : Kx w L b w1) (hb : Below (w.heap.size + 1) w1 w2) (hl : b < w.heap.size) : Kx w L b w2 :=
  ⟨fun o => (hb.cell (p := ⟨w.heap.size, o, none⟩) (by simp)).trans (h.cell o), Nat.lt_of_lt_of_le h.size hb.size, h.kept.trans ⟨hb.mono (by omega), fun c hc _ => hb.block c (by omega)⟩⟩
theorem Kx.keptBy {w w1 w2 : World} {L : Array Value} {b : Nat} (h : Kx w L b w1) (hk : Kept b w1.heap.size w1 w2) (hl : b < w.heap.size) : Kx w L b w2 :=
  ⟨fun o => (cell_of_heap (hk.other w.heap.size h.size (by omega)) o).trans (h.cell o), Nat.lt_of_lt_of_le h.size hk.below.size, h.kept.trans ⟨hk.below, fun c hc hcb => hk.other c (by have := h.size; omega) hcb⟩⟩
theorem Nx.high {w w1 : World} {b1 b2 B : Nat} {r : List UInt8} (h : Nx w b1 b2 r) (hb : Below B w w1) (h1 : b1 < B) (h2 : b2 < B) : Nx w1 b1 b2 r := by
  obtain ⟨s, pos, h, e⟩ := h
  exact ⟨s, pos, ⟨(hb.block b1 h1).trans h.bytes, (hb.block b2 h2).trans h.place, h.le, h.small⟩, e⟩
theorem Nx.lt1 {w : World} {b1 b2 : Nat} {r : List UInt8} (h : Nx w b1 b2 r) : b1 < w.heap.size := by
  obtain ⟨s, pos, h, e⟩ := h
  exact lt_of_block h.bytes

/-- A list of programs, all of it the call's own. -/
def OwnLs (w : World) (B : Nat) (v : Value) (ls : List (List Op)) : Prop :=
  ∃ us : List Value, w.ownsRow B 42 1 v us.length us ∧ us.length = ls.length ∧ ∀ j, j < ls.length → w.ownsRow B 52 3 (us.getD j undef) (ls.getD j []).length (opCells (ls.getD j []))
theorem OwnLs.nil_ (w : World) (B : Nat) : OwnLs w B (.slice none 0 0) [] := ⟨[], World.ownsRow_nil _ _ _ _, rfl, fun j hj => by simp at hj⟩
theorem OwnLs.kept {w w' : World} {b B : Nat} {v : Value} {ls : List (List Op)} (h : OwnLs w B v ls) (hk : Kept b w.heap.size w w') (hb : b < B) : OwnLs w' B v ls := by
  obtain ⟨us, h1, h2, h3⟩ := h
  exact ⟨us, own_kept h1 hk hb, h2, fun j hj => own_kept (h3 j hj) hk hb⟩
theorem OwnLs.step {w w' : World} {B : Nat} {v : Value} {ls : List (List Op)} (h : OwnLs w B v ls) (hb : Below w.heap.size w w') : OwnLs w' B v ls := by
  obtain ⟨us, h1, h2, h3⟩ := h
  exact ⟨us, own_below h1 hb, h2, fun j hj => own_below (h3 j hj) hb⟩
theorem OwnLs.base {w : World} {B B' : Nat} {v : Value} {ls : List (List Op)} (h : OwnLs w B v ls) (hb : B' ≤ B) : OwnLs w B' v ls := by
  obtain ⟨us, h1, h2, h3⟩ := h
  exact ⟨us, own_base h1 hb, h2, fun j hj => own_base (h3 j hj) hb⟩
theorem OwnLs.more {w w' : World} {B : Nat} {v v' u : Value} {ls : List (List Op)} {l : List Op} {us : List Value} (h : w.ownsRow B 42 1 v us.length us) (h2 : us.length = ls.length) (h3 : ∀ j, j < ls.length → w.ownsRow B 52 3 (us.getD j undef) (ls.getD j []).length (opCells (ls.getD j [])))
    (hu : w.ownsRow B 52 3 u l.length (opCells l)) (hg : w.grownBy w' v.ownBlock) (ho : w'.ownsRow B 42 1 v' (us.length + 1) (us ++ [u])) : OwnLs w' B v' (ls ++ [l]) := by
  have hk := own_grown h hg
  refine ⟨us ++ [u], by simpa using ho, by simp [h2], fun j hj => ?_⟩
  by_cases hj2 : j < ls.length
  · have e1 : (us ++ [u]).getD j undef = us.getD j undef := by simp only [List.getD_eq_getElem?_getD]; rw [List.getElem?_append_left (by omega)]
    have e2 : (ls ++ [l]).getD j [] = ls.getD j [] := by simp only [List.getD_eq_getElem?_getD]; rw [List.getElem?_append_left (by omega)]
    rw [e1, e2]
    exact own_others (h3 j hj2) hk (by decide)
  · have hjl : j = ls.length := by simp at hj; omega
    have e1 : (us ++ [u]).getD j undef = u := by simp only [List.getD_eq_getElem?_getD]; rw [List.getElem?_append_right (by omega), show j - us.length = 0 by omega]; rfl
    have e2 : (ls ++ [l]).getD j [] = l := by simp only [List.getD_eq_getElem?_getD]; rw [List.getElem?_append_right (by omega), show j - ls.length = 0 by omega]; rfl
    rw [e1, e2]
    exact own_others hu hk (by decide)

/-- What a call gives that reads the programs. -/
def GaveL (b1 b2 : Nat) (o : Except Int (List (List Op) × List UInt8)) (w : World) (e : Ending) (w' : World) : Prop :=
  Kept b2 w.heap.size w w' ∧ match o with
    | .error x => e = .returned (.tuple #[.slice none 0 0, .int .i64 x])
    | .ok (ls, r) => ∃ v, e = .returned (.tuple #[v, .int .i64 0]) ∧ OwnLs w' w.heap.size v ls ∧ Nx w' b1 b2 r

theorem more_err {c : Cfg} {r : List UInt8} {x : Int} : ∀ {k : Nat}, progsM c r k = .error x → ∀ m, progsM c r (k + m) = .error x
  | k, h, 0 => h
  | k, h, m + 1 => by
    rw [← Nat.add_assoc, progsM, more_err h m]
    rfl
theorem prs_err {s : List UInt8} : (prs s).2 = 0 ∨ (prs s).2 = 2 ∨ (prs s).2 = 4 := by
  unfold prs
  split
  · simp
  · split
    · simp
    · split <;> simp
theorem prog_err {c : Cfg} {r : List UInt8} {x : Int} (h : progM c r = .error x) : (x != 0) = true := by
  unfold progM at h
  cases hq : cntM r with
  | error y =>
    rw [hq] at h
    injection h with h
    have := cnt_err hq
    simp; omega
  | ok p =>
    obtain ⟨n, q⟩ := p
    rw [hq] at h
    simp only [progK] at h
    split at h
    · injection h with h; simp; omega
    · split at h
      · split at h
        · cases h
        · injection h with h; simp; omega
      · rename_i h0
        injection h with h
        simp
        omega

theorem infoOps : (Tryd.prog.info? 42).map (fun i => (i.zero, i.size, i.bytes)) = some (some (.slice none 0 0), 1, 24) := by kernel_rfl

set_option maxRecDepth 100000 in
set_option maxHeartbeats 2000000 in
theorem programs_any (c : Cfg) (b1 b2 : Nat) (r : List UInt8) (w : World) (hc : c.fits) (hok : okC c = true) (h : Nx w b1 b2 r) :
    Calls Tryd.prog 23 #[cv c, nextV b1 b2] w (GaveL b1 b2 (progsM c r c.co.toNat) w) := by
  obtain ⟨i0, hi0, hz0, hz1, hz2⟩ := info_parts infoOps
  have hco := co_nat hok
  have hco1 : c.co ≤ 64 := by
    rw [okC_eq] at hok
    simp only [Bool.and_eq_true] at hok
    exact (inB_of hok.1.1.1.1.1.1.1.1.1.1).2
  have hb2 := h.lt
  have hb1 := h.lt1
  have HC := Lib.hid hc
  have K0 := Lib.hid (Kx.box w (cL c) 24 b2 hb2)
  have H := Lib.hid (h.kept ((Below.refl _ w).alloc (Nat.le_refl _) (.cells (cL c) 24)))
  have hc0 := K0.out.cell
  clear h hc hok
  go_enter Tryd.func23, Tryd.ntmps23
  go_wp2
  generalize hn : c.co.toNat = n at *
  go_loopw [6, 11] (fun v i wr => ∃ (k : Nat) (ls : List (List Op)) (r' : List UInt8), k ≤ n ∧ i = .int .i64 k ∧ Hid (progsM c r k = .ok (ls, r')) ∧ Hid (OwnLs wr (w.heap.size + 1) v ls) ∧ Hid (Nx wr b1 b2 r') ∧ Hid (Kx w (cL c) b2 wr)) (fun _ i _ => n - (intOf i).toNat)
  case atStart => exact ⟨0, [], r, Nat.zero_le _, rfl, Lib.hid rfl, Lib.hid (OwnLs.nil_ _ _), H, K0⟩
  case round =>
    obtain ⟨k, ls, r', hk, rfl, HP, HO, HN, HK⟩ := hrel
    have hcr := HK.out.cell
    have hszr := HK.out.size
    by_cases hlt : k < n
    · cases hp : progM c r' with
      | error x =>
        have hx := prog_err hp
        have HE : Hid (progsM c r n = .error x) := Lib.hid (by
          have e : progsM c r (k + 1) = .error x := by rw [progsM, HP.out]; simp only [moreM]; rw [hp]
          have := more_err e (n - (k + 1))
          rwa [show k + 1 + (n - (k + 1)) = n by omega] at this)
        have HQ := Lib.hid hp
        clear hp
        go_wp2_with fail
        refine (program_any c b1 b2 r' _ HC.out HN.out).mono ?_
        rintro e w1 ⟨hk1, h1⟩
        rw [HQ.out] at h1
        subst h1
        go_wp2
        go_ret2
        rw [HE.out]
        exact ⟨(HK.out.keptBy hk1 hb2).kept, rfl⟩
      | ok p =>
        obtain ⟨l, r2⟩ := p
        have HE : Hid (progsM c r (k + 1) = .ok (ls ++ [l], r2)) := Lib.hid (by rw [progsM, HP.out]; simp only [moreM]; rw [hp])
        have HQ := Lib.hid hp
        clear hp
        go_wp2_with fail
        refine (program_any c b1 b2 r' _ HC.out HN.out).mono ?_
        rintro e w1 ⟨hk1, h1⟩
        rw [HQ.out] at h1
        obtain ⟨u, rfl, hu, hn1⟩ := h1
        obtain ⟨pa, cap, rfl⟩ := (ops_of_own hu).form
        have K1 := Lib.hid (HK.out.keptBy hk1 hb2)
        obtain ⟨us, ho1, ho2, ho3⟩ := HO.out.kept hk1 (by omega)
        have hu1 := own_base hu (base' := w.heap.size + 1) (by omega)
        have hs1 := K1.out.size
        have hlen : us.length ≤ k := by have := (progs_inv HP.out).2.1; omega
        have HA := Lib.hid (ho1.alloc (.cells #[.slice pa l.length cap] 42))
        have HU := Lib.hid (hu1.alloc (.cells #[.slice pa l.length cap] 42))
        have H3 := Lib.hid (fun j hj => (ho3 j hj).alloc (.cells #[.slice pa l.length cap] 42))
        have HN1 := Lib.hid (hn1.kept ((Below.refl _ w1).alloc (Nat.le_refl _) (.cells #[.slice pa l.length cap] 42)))
        have K2 := Lib.hid (K1.out.step ((Below.refl _ w1).alloc (Nat.le_refl _) (.cells #[.slice pa l.length cap] 42)) hb2)
        have HO2 := Lib.hid ho2
        clear hk1 hu hn1 hu1 ho1 ho2 ho3 hcr
        go_wp2_with (at_builtin; refine wpList_append_own _ rfl _ _ 25 rfl (w.heap.size + 1) 42 i0 (.slice none 0 0) 1 24 Tryd.underlying25 hi0 hz0 hz1 hz2 rfl (by decide) _ _ _ rfl HA.out ⟨w1.heap.size, 0, none⟩ 1 1 [Value.slice pa l.length cap] rfl rfl (World.news_of_block (cs := #[.slice pa l.length cap]) (t := 42) (fr := (0, 0)) (heap_alloc_new w1 _)) (by simp [Value.oneCell']) (by unfold maxLen; omega) (by omega) (by simp; omega) ?_)
        intro v2 w2 hown2 hg2 _
        have hbl := below_own HA.out (by simp; omega) hg2
        have HR := Lib.hid (OwnLs.more HA.out HO2.out H3.out HU.out hg2 hown2)
        have HN2 := Lib.hid (HN1.out.high hbl (by omega) (by omega))
        have K3 := Lib.hid (K2.out.high hbl hb2)
        clear hown2 hg2 hbl
        go_wp2
        go_roundw
        case rel => exact ⟨k + 1, _, r2, by omega, by go_num, HE, HR, HN2, K3⟩
        case measure => simp [intOf]; omega
    · have HE : Hid (progsM c r n = .ok (ls, r')) := Lib.hid (by rw [show n = k by omega]; exact HP.out)
      go_wp2
      go_ret2
      rw [HE.out]
      exact ⟨HK.out.kept, _, rfl, HO.out.base (by omega), HN.out⟩

end Go.Proofs.YtjnbpohjdgnknaaDoor
