/-
  A memory in plain words: its list of words, what Do, Line, Write, Word and Apply make of it, and that what is applied to a line is what is done.
-/
import Derived.Test.YticfdkopephkkaaDoorSplitBj
import Derived.Test.YticfdkopephkkaaDoorPgA
namespace Go.Proofs.YticfdkopephkkaaDoor
open Go Go.RowKit

/-- A line's words, by value. -/
structure Wd where
  a0 : Int
  a1 : Int
  a2 : Int
  a3 : Int
  a4 : Int
  a5 : Int
  a6 : Int
  a7 : Int
abbrev d0 : Wd := ⟨0, 0, 0, 0, 0, 0, 0, 0⟩
abbrev dcells (d : Wd) : Array Value := #[.int .i64 d.a0, .int .i64 d.a1, .int .i64 d.a2, .int .i64 d.a3, .int .i64 d.a4, .int .i64 d.a5, .int .i64 d.a6, .int .i64 d.a7]
def Wd.toL (d : Wd) : List Int := [d.a0, d.a1, d.a2, d.a3, d.a4, d.a5, d.a6, d.a7]
def Wd.at (d : Wd) (k : Nat) : Int := d.toL.getD k 0
/-- Numbers as a line's words, 0 behind them. -/
def lay (l : List Int) : Wd := ⟨l.getD 0 0, l.getD 1 0, l.getD 2 0, l.getD 3 0, l.getD 4 0, l.getD 5 0, l.getD 6 0, l.getD 7 0⟩
def Wd.put (d : Wd) (k : Nat) (v : Int) : Wd := lay (d.toL.set k v)

theorem Wd.len (d : Wd) : d.toL.length = 8 := rfl
theorem Wd.ext' {d e : Wd} (h : d.toL = e.toL) : d = e := by
  cases d; cases e
  simp only [Wd.toL, List.cons.injEq, and_true] at h
  obtain ⟨rfl, rfl, rfl, rfl, rfl, rfl, rfl, rfl⟩ := h
  rfl
instance : DecidableEq Wd := fun d e => decidable_of_iff (d.toL = e.toL) ⟨Wd.ext', fun h => by rw [h]⟩
theorem lay_toL (l : List Int) (h : l.length ≤ 8) : (lay l).toL = l ++ List.replicate (8 - l.length) 0 := by
  match l, h with
  | [], _ | [_], _ | [_, _], _ | [_, _, _], _ | [_, _, _, _], _ | [_, _, _, _, _], _ | [_, _, _, _, _, _], _ | [_, _, _, _, _, _, _], _ | [_, _, _, _, _, _, _, _], _ => rfl
  | _ :: _ :: _ :: _ :: _ :: _ :: _ :: _ :: _ :: l, h => simp at h
theorem lay_self (d : Wd) : lay d.toL = d := by cases d; rfl
theorem lay_take (l : List Int) (h : l.length ≤ 8) : (lay l).toL.take l.length = l := by rw [lay_toL l h, List.take_left]

/-- What an operation leaves of a word, and what it tells of it. -/
def lft (v : Int) (x : Op) : Int := if x.k = 2 ∨ x.k = 3 then x.v else v
def tld (v : Int) (x : Op) : Int := if x.k = 1 ∨ x.k = 3 then v else 0

/-- A word. -/
def wrd (L : List Int) (a : Int) : Int := if inR a L.length = true then L.getD a.toNat 0 else 0
/-- What an operation answers, and leaves. -/
def doP (L : List Int) (x : Op) : (Int × Int) × List Int := if mayB x = true ∧ inR x.a L.length = true then ((tld (wrd L x.a) x, 0), L.set x.a.toNat (lft (wrd L x.a) x)) else ((0, 1), L)
/-- A line's words. -/
def pt (c : Cfg) (L : List Int) (line : Int) : List Int := (L.drop (line * c.wo).toNat).take c.wo.toNat
def lnP (c : Cfg) (L : List Int) (line : Int) : Wd × Int := if lnOk c line = true then (lay (pt c L line), 0) else (d0, 1)
/-- Numbers laid over others from a place on. -/
def over (L : List Int) (o : Nat) (l : List Int) : List Int := L.take o ++ (l ++ L.drop (o + l.length))
def wrP (c : Cfg) (L : List Int) (line : Int) (d : Wd) : Int × List Int := if lnOk c line = true ∧ lay (d.toL.take c.wo.toNat) = d then (0, over L (line * c.wo).toNat (d.toL.take c.wo.toNat)) else (1, L)
/-- What is applied. -/
def apP (c : Cfg) (d : Wd) (x : Op) : Wd × Int × Int := if adOk c x.a = true ∧ mayB x = true ∧ x.k ≠ 4 then (d.put (x.a % c.wo).toNat (lft (d.at (x.a % c.wo).toNat) x), tld (d.at (x.a % c.wo).toNat) x, 0) else (d0, 0, 1)

/-- A memory has a word for each address. -/
def Sized (c : Cfg) (L : List Int) : Prop := okC c = true ∧ (L.length : Int) = c.wo * c.li

theorem over_len (L : List Int) (o : Nat) (l : List Int) (h : o + l.length ≤ L.length) : (over L o l).length = L.length := by simp [over]; omega
theorem doP_len (L : List Int) (x : Op) : (doP L x).2.length = L.length := by
  unfold doP
  split
  · simp
  · rfl
/-- Where a line lies. -/
theorem line_in {c : Cfg} {L : List Int} (s : Sized c L) {line : Int} (h : lnOk c line = true) :
    ∃ F N : Nat, (line * c.wo).toNat = F ∧ line * c.wo = F ∧ c.wo = N ∧ 1 ≤ N ∧ N ≤ 8 ∧ F + N ≤ L.length ∧ L.length ≤ 8192 := by
  obtain ⟨hok, h0, h1⟩ := ok_of_lnOk h
  have hb := sz_bound c hok
  have hm := mul_bound _ _ hb.1 hb.2
  have e1 : (line + 1) * c.wo ≤ c.li * c.wo := Int.mul_le_mul_of_nonneg_right (by omega) (by omega)
  have e2 : 0 ≤ line * c.wo := Int.mul_nonneg h0 (by omega)
  rw [Int.add_mul, Int.one_mul, Int.mul_comm c.li] at e1
  have e3 := s.2
  exact ⟨(line * c.wo).toNat, c.wo.toNat, rfl, by omega, by omega, by omega, by omega, by omega, by omega⟩
theorem wrP_len {c : Cfg} {L : List Int} (s : Sized c L) (line : Int) (d : Wd) : (wrP c L line d).2.length = L.length := by
  unfold wrP
  split
  · rename_i h
    obtain ⟨F, N, e1, e2, e3, h1, h8, hF, hl⟩ := line_in s h.1
    refine over_len _ _ _ ?_
    rw [e1, List.length_take, Wd.len, e3, Int.toNat_natCast]
    omega
  · rfl
theorem Sized.of_len {c : Cfg} {L M : List Int} (s : Sized c L) (h : M.length = L.length) : Sized c M := ⟨s.1, by rw [h]; exact s.2⟩

/-! What was stored last is loaded; what has another address changes nothing. -/
theorem wrd_set {L : List Int} {a : Int} (h : inR a L.length = true) (v : Int) : wrd (L.set a.toNat v) a = v := by
  have h' := inR_of h
  unfold wrd
  rw [List.length_set, if_pos h, List.getD_eq_getElem?_getD, List.getElem?_set, if_pos rfl, if_pos (by omega)]
  rfl
theorem wrd_other {L : List Int} {a b : Int} (h : inR a L.length = true) (v : Int) (hb : b ≠ a) : wrd (L.set a.toNat v) b = wrd L b := by
  have h' := inR_of h
  unfold wrd
  rw [List.length_set]
  by_cases e : inR b L.length = true
  · have h2 := inR_of e
    rw [if_pos e, if_pos e, List.getD_eq_getElem?_getD, List.getElem?_set, if_neg (by omega), List.getD_eq_getElem?_getD]
  · rw [if_neg e, if_neg e]
theorem doP_no {L : List Int} {x : Op} (h : ¬ (mayB x = true ∧ inR x.a L.length = true)) : doP L x = ((0, 1), L) := by unfold doP; rw [if_neg h]
theorem doP_yes {L : List Int} {x : Op} (h : mayB x = true ∧ inR x.a L.length = true) : doP L x = ((tld (wrd L x.a) x, 0), L.set x.a.toNat (lft (wrd L x.a) x)) := by unfold doP; rw [if_pos h]
/-- Another address' word is as it was. -/
theorem doP_other (L : List Int) (y : Op) (a : Int) (h : a ≠ y.a) : wrd (doP L y).2 a = wrd L a := by
  by_cases hy : mayB y = true ∧ inR y.a L.length = true
  · rw [doP_yes hy]
    exact wrd_other hy.2 _ h
  · rw [doP_no hy]
/-- A load of an address that there is. -/
theorem doP_load (L : List Int) (a : Int) (h0 : 0 ≤ a ∧ a ≤ 8191) (h : inR a L.length = true) : doP L ⟨1, a, 0⟩ = ((wrd L a, 0), L.set a.toNat (wrd L a)) := by
  have hm : mayB ⟨1, a, 0⟩ = true := by simp [mayB]; omega
  rw [doP_yes ⟨hm, h⟩]
  simp [tld, lft]

/-! What is applied to a line is what is done. -/
theorem getD_pt (L : List Int) (F N k : Nat) (hk : k < N) : ((L.drop F).take N).getD k 0 = L.getD (F + k) 0 := by
  rw [List.getD_eq_getElem?_getD, List.getElem?_take, if_pos hk, List.getElem?_drop, List.getD_eq_getElem?_getD]
theorem lay_at (l : List Int) (k : Nat) (hk : k < l.length) (h : l.length ≤ 8) : (lay l).at k = l.getD k 0 := by
  unfold Wd.at
  rw [lay_toL l h, List.getD_eq_getElem?_getD, List.getElem?_append_left hk, List.getD_eq_getElem?_getD]
theorem lay_put (l : List Int) (k : Nat) (v : Int) (hk : k < l.length) (h : l.length ≤ 8) : (lay l).put k v = lay (l.set k v) := by
  refine Wd.ext' ?_
  unfold Wd.put
  rw [lay_toL l h, List.set_append, if_pos hk, lay_toL (l.set k v) (by simpa using h), lay_toL _ (by simp; omega), List.append_assoc, List.length_append, List.length_set, List.length_replicate]
  rw [show 8 - (l.length + (8 - l.length)) = 0 by omega, List.replicate_zero, List.append_nil]
theorem over_set (L : List Int) (F N k : Nat) (v : Int) (hk : k < N) (hF : F + N ≤ L.length) : over L F (((L.drop F).take N).set k v) = L.set (F + k) v := by
  have hl : ((L.drop F).take N).length = N := by rw [List.length_take, List.length_drop]; omega
  unfold over
  rw [List.length_set, hl]
  refine List.ext_getElem? fun i => ?_
  rw [List.getElem?_set]
  by_cases h1 : i < F
  · rw [List.getElem?_append_left (by rw [List.length_take]; omega), List.getElem?_take, if_pos h1, if_neg (by omega)]
  · rw [List.getElem?_append_right (by rw [List.length_take]; omega), List.length_take, Nat.min_eq_left (by omega)]
    by_cases h2 : i < F + N
    · rw [List.getElem?_append_left (by rw [List.length_set, hl]; omega), List.getElem?_set, hl]
      by_cases e : F + k = i
      · rw [if_pos (by omega), if_pos (by omega), if_pos e, if_pos (by omega)]
      · rw [if_neg (by omega), if_neg e, List.getElem?_take, if_pos (by omega), List.getElem?_drop]
        congr 1; omega
    · rw [List.getElem?_append_right (by rw [List.length_set, hl]; omega), List.length_set, hl, List.getElem?_drop, if_neg (by omega)]
      congr 1; omega

/-- An address' line and word. -/
theorem addr_in {c : Cfg} {L : List Int} (s : Sized c L) {a : Int} (h : adOk c a = true) :
    ∃ A N : Nat, a = A ∧ c.wo = N ∧ 1 ≤ N ∧ N ≤ 8 ∧ lnOk c (a / c.wo) = true ∧ (a / c.wo * c.wo).toNat = A / N * N ∧ (a % c.wo).toNat = A % N ∧ A % N < N ∧ A / N * N + A % N = A ∧ A / N * N + N ≤ L.length ∧ A < L.length ∧ a / c.wo = ((A / N : Nat) : Int) ∧ a % c.wo = ((A % N : Nat) : Int) := by
  obtain ⟨hok, h0, h1⟩ := ok_of_adOk h
  have hb := sz_bound c hok
  have e3 := s.2
  obtain ⟨A, rfl⟩ : ∃ A : Nat, a = A := ⟨a.toNat, by omega⟩
  obtain ⟨N, hN⟩ : ∃ N : Nat, c.wo = N := ⟨c.wo.toNat, by omega⟩
  obtain ⟨M, hM⟩ : ∃ M : Nat, c.li = M := ⟨c.li.toNat, by omega⟩
  rw [hN, hM] at h1 e3
  have h1' : A < N * M := by exact_mod_cast h1
  have e3' : L.length = N * M := by exact_mod_cast e3
  have hNp : 0 < N := by omega
  have hdiv : A / N < M := Nat.div_lt_of_lt_mul h1'
  have hmod : A % N < N := Nat.mod_lt _ hNp
  have hsum : A / N * N + A % N = A := by rw [Nat.mul_comm]; exact Nat.div_add_mod A N
  have hle : (A / N + 1) * N ≤ M * N := Nat.mul_le_mul_right _ hdiv
  rw [Nat.add_mul, Nat.one_mul, Nat.mul_comm M] at hle
  rw [hN]
  refine ⟨A, N, rfl, rfl, hNp, by omega, ?_, ?_, ?_, hmod, hsum, by omega, by omega, by simp, by simp⟩
  · unfold lnOk inR
    rw [hok, hM]
    simp
    constructor
    · exact_mod_cast Nat.zero_le _
    · exact_mod_cast hdiv
  · exact_mod_cast Int.toNat_natCast (A / N * N)
  · exact_mod_cast Int.toNat_natCast (A % N)
theorem inR_ad {c : Cfg} {L : List Int} (s : Sized c L) (a : Int) : adOk c a = inR a L.length := by
  have e := s.2
  unfold adOk sz
  rw [if_pos s.1, e]
/-- The line's word is the address'. -/
theorem line_word {c : Cfg} {L : List Int} (s : Sized c L) {a : Int} (h : adOk c a = true) : lnP c L (a / c.wo) = (lay (pt c L (a / c.wo)), 0) ∧ (lay (pt c L (a / c.wo))).at (a % c.wo).toNat = wrd L a := by
  have hr : inR a L.length = true := (inR_ad s a) ▸ h
  obtain ⟨A, N, e1, e2, h1, h8, hl, e4, e5, hmod, hsum, hle, hlt, -, -⟩ := addr_in s h
  refine ⟨by unfold lnP; rw [if_pos hl], ?_⟩
  unfold wrd pt
  rw [if_pos hr, e4, e5, e2, Int.toNat_natCast, lay_at _ _ (by rw [List.length_take, List.length_drop]; omega) (by rw [List.length_take]; omega), getD_pt _ _ _ _ hmod, hsum, e1, Int.toNat_natCast]
/-- What is applied is what is done. -/
theorem applied {c : Cfg} {L : List Int} (s : Sized c L) {x : Op} (h : adOk c x.a = true) (hm : mayB x = true) (hk : x.k ≠ 4) :
    apP c (lay (pt c L (x.a / c.wo))) x = ((lay (pt c L (x.a / c.wo))).put (x.a % c.wo).toNat (lft (wrd L x.a) x), tld (wrd L x.a) x, 0) ∧ wrP c L (x.a / c.wo) ((lay (pt c L (x.a / c.wo))).put (x.a % c.wo).toNat (lft (wrd L x.a) x)) = (0, L.set x.a.toNat (lft (wrd L x.a) x)) ∧ doP L x = ((tld (wrd L x.a) x, 0), L.set x.a.toNat (lft (wrd L x.a) x)) := by
  have hr : inR x.a L.length = true := (inR_ad s x.a) ▸ h
  have hw := (line_word s h).2
  refine ⟨by unfold apP; rw [if_pos ⟨h, hm, hk⟩, hw], ?_, doP_yes ⟨hm, hr⟩⟩
  obtain ⟨A, N, e1, e2, h1, h8, hl, e4, e5, hmod, hsum, hle, hlt, -, -⟩ := addr_in s h
  generalize lft (wrd L x.a) x = v
  have hp : (pt c L (x.a / c.wo)) = (L.drop (A / N * N)).take N := by unfold pt; rw [e4, e2, Int.toNat_natCast]
  have hpl : ((L.drop (A / N * N)).take N).length = N := by rw [List.length_take, List.length_drop]; omega
  rw [hp, e5, lay_put _ _ _ (by omega) (by omega)]
  have ht : (lay (((L.drop (A / N * N)).take N).set (A % N) v)).toL.take N = ((L.drop (A / N * N)).take N).set (A % N) v := by
    have := lay_take (((L.drop (A / N * N)).take N).set (A % N) v) (by rw [List.length_set]; omega)
    rwa [List.length_set, hpl] at this
  unfold wrP
  rw [e2, Int.toNat_natCast, ht, ← e2, if_pos ⟨hl, rfl⟩, e4, over_set L _ N _ v hmod hle, hsum, e1, Int.toNat_natCast]

end Go.Proofs.YticfdkopephkkaaDoor
