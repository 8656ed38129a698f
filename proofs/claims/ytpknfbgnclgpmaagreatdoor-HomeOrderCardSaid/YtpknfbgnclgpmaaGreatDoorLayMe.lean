/-
  Several texts in one: PgM, MeM, MeA, MeC, MeD, MeE, MeG.
-/
import Derived.Lib.ItoaNum
import Derived.Test.YtpknfbgnclgpmaaGreatDoorLayBase
import Derived.Deep.MidRow
import Derived.Deep.QuietTactic
import Derived.BigQuiet
import Derived.StillTailTactics
import Derived.Deep.RegionHeld3
import Derived.Laws.StructEq
import Derived.ChangeKeysEq
import Derived.Laws.MakeOwn

/-
  Programs and their texts, in plain words: operations, texts, the reader that goes through a text byte by byte, and that programs and texts tell one another.
-/
namespace Go.Proofs.YtpknfbgnclgpmaaGreatDoor.Me
open Go

/-- An operation: its kind, its address, its value. -/
structure Op where
  k : Int
  a : Int
  v : Int

theorem Op.ext' {x y : Op} (h1 : x.k = y.k) (h2 : x.a = y.a) (h3 : x.v = y.v) : x = y := by
  cases x; cases y; simp_all

/-- It may be. -/
def mayB (x : Op) : Bool := decide (0 ≤ x.a ∧ x.a ≤ 8191 ∧ -2147483648 ≤ x.v ∧ x.v ≤ 2147483647 ∧ (x.k = 2 ∨ x.k = 3 ∨ (x.k = 1 ∧ x.v = 0) ∨ (x.k = 4 ∧ x.a = 0 ∧ x.v = 0)))

theorem may_iff {x : Op} : mayB x = true ↔ (0 ≤ x.a ∧ x.a ≤ 8191 ∧ -2147483648 ≤ x.v ∧ x.v ≤ 2147483647 ∧ (x.k = 2 ∨ x.k = 3 ∨ (x.k = 1 ∧ x.v = 0) ∨ (x.k = 4 ∧ x.a = 0 ∧ x.v = 0))) := by
  unfold mayB; exact decide_eq_true_iff

/-- Its text. -/
def txt (x : Op) : List UInt8 :=
  if x.k = 1 then 76 :: Lib.itoa x.a
  else if x.k = 2 then 83 :: (Lib.itoa x.a ++ 61 :: Lib.itoa x.v)
  else if x.k = 3 then 88 :: (Lib.itoa x.a ++ 61 :: Lib.itoa x.v)
  else [70]

theorem txt_1 {x : Op} (h : x.k = 1) : txt x = 76 :: Lib.itoa x.a := by simp [txt, h]
theorem txt_2 {x : Op} (h : x.k = 2) : txt x = 83 :: (Lib.itoa x.a ++ 61 :: Lib.itoa x.v) := by simp [txt, h]
theorem txt_3 {x : Op} (h : x.k = 3) : txt x = 88 :: (Lib.itoa x.a ++ 61 :: Lib.itoa x.v) := by simp [txt, h]
theorem txt_4 {x : Op} (h : x.k = 4) : txt x = [70] := by simp [txt, h]

/-- A program's text. -/
def text : List Op → List UInt8
  | [] => []
  | x :: l => txt x ++ l.flatMap fun y => 32 :: txt y
/-- Texts with a blank behind each. -/
def done (l : List Op) : List UInt8 := l.flatMap fun x => txt x ++ [32]

theorem done_snoc (l : List Op) (x : Op) : done (l ++ [x]) = done l ++ (txt x ++ [32]) := by simp [done]
theorem text_cons2 (x y : Op) (l : List Op) : text (x :: y :: l) = txt x ++ 32 :: text (y :: l) := by simp [text]
theorem text_snoc (l : List Op) (x : Op) : text (l ++ [x]) = done l ++ txt x := by
  induction l with
  | nil => simp [text, done]
  | cons y l ih =>
    cases l with
    | nil => simp [text, done]
    | cons z l =>
      rw [List.cons_append, List.cons_append, text_cons2, ← List.cons_append, ih]
      simp [done]
theorem text_more (l : List Op) (x : Op) (h : l ≠ []) : text (l ++ [x]) = text l ++ 32 :: txt x := by
  cases l with
  | nil => exact absurd rfl h
  | cons y l => simp [text]
theorem text_append (a b : List Op) (ha : a ≠ []) (hb : b ≠ []) : text (a ++ b) = text a ++ 32 :: text b := by
  cases a with
  | nil => exact absurd rfl ha
  | cons x a =>
    cases b with
    | nil => exact absurd rfl hb
    | cons y b => simp [text]

/-! ### Digits -/

theorem dec_small {u : Nat} (h : u < 10) : Lib.decDigits u = [UInt8.ofNat (48 + u)] := by rw [Lib.decDigits, dif_pos h]
theorem dec_big {u : Nat} (h : ¬ u < 10) : Lib.decDigits u = Lib.decDigits (u / 10) ++ [UInt8.ofNat (48 + u % 10)] := by rw [Lib.decDigits, dif_neg h]
theorem dec_more {u d : Nat} (hu : u ≠ 0) (hd : d < 10) : Lib.decDigits (10 * u + d) = Lib.decDigits u ++ [UInt8.ofNat (48 + d)] := by
  rw [dec_big (by omega), show (10 * u + d) / 10 = u by omega, show (10 * u + d) % 10 = d by omega]
theorem itoa_pos {n : Int} (h : 0 ≤ n) : Lib.itoa n = Lib.decDigits n.toNat := by unfold Lib.itoa; rw [if_neg (by omega)]
theorem itoa_below {n : Int} (h : n < 0) : Lib.itoa n = 45 :: Lib.decDigits n.natAbs := by unfold Lib.itoa; rw [if_pos h]
theorem toNat_dig {d : Nat} (h : d < 10) : (UInt8.ofNat (48 + d)).toNat = 48 + d := by
  simp [UInt8.toNat_ofNat']; omega
theorem dec_digits (u : Nat) : ∀ c ∈ Lib.decDigits u, 48 ≤ c.toNat ∧ c.toNat ≤ 57 := by
  induction u using Nat.strongRecOn with
  | _ u ih =>
    by_cases h : u < 10
    · rw [dec_small h]
      intro c hc
      simp only [List.mem_singleton] at hc
      subst hc
      rw [toNat_dig h]; omega
    · rw [dec_big h]
      intro c hc
      rcases List.mem_append.1 hc with hc | hc
      · exact ih _ (by omega) c hc
      · simp only [List.mem_singleton] at hc
        subst hc
        rw [toNat_dig (by omega)]; omega
theorem dec_ne (u : Nat) : Lib.decDigits u ≠ [] := by
  by_cases h : u < 10
  · rw [dec_small h]; simp
  · rw [dec_big h]; simp
theorem dec_len : ∀ (k u : Nat), u < 10 ^ (k + 1) → (Lib.decDigits u).length ≤ k + 1
  | 0, u, h => by rw [dec_small (by simpa using h)]; simp
  | k + 1, u, h => by
    by_cases h10 : u < 10
    · rw [dec_small h10]; simp
    · rw [dec_big h10, List.length_append]
      have := dec_len k (u / 10) (by rw [Nat.pow_succ] at h; omega)
      simp; omega
theorem itoa_len {n : Int} (h0 : -2147483648 ≤ n) (h1 : n ≤ 2147483648) : (Lib.itoa n).length ≤ 11 := by
  by_cases h : n < 0
  · rw [itoa_below h]
    have := dec_len 9 n.natAbs (by omega)
    simp; omega
  · rw [itoa_pos (by omega)]
    have := dec_len 9 n.toNat (by omega)
    omega
theorem itoa_len4 {n : Int} (h0 : 0 ≤ n) (h1 : n ≤ 8191) : (Lib.itoa n).length ≤ 4 := by
  rw [itoa_pos h0]
  exact dec_len 3 n.toNat (by omega)
theorem itoa_mem {n : Int} {c : UInt8} (h : c ∈ Lib.itoa n) : c = 45 ∨ (48 ≤ c.toNat ∧ c.toNat ≤ 57) := by
  by_cases hn : n < 0
  · rw [itoa_below hn] at h
    rcases List.mem_cons.1 h with h | h
    · exact .inl h
    · exact .inr (dec_digits _ c h)
  · rw [itoa_pos (by omega)] at h
    exact .inr (dec_digits _ c h)
theorem txt_len {x : Op} (h : mayB x = true) : (txt x).length ≤ 17 := by
  obtain ⟨h0, h1, h2, h3, hk⟩ := may_iff.1 h
  have la := itoa_len4 h0 h1
  have lv := itoa_len h2 (by omega)
  rcases hk with hk | hk | ⟨hk, _⟩ | ⟨hk, _⟩
  · rw [txt_2 hk]; simp; omega
  · rw [txt_3 hk]; simp; omega
  · rw [txt_1 hk]; simp; omega
  · rw [txt_4 hk]; simp
theorem done_len (l : List Op) (h : ∀ x ∈ l, mayB x = true) : (done l).length ≤ 18 * l.length := by
  induction l with
  | nil => simp [done]
  | cons x l ih =>
    have h1 := txt_len (h x (by simp))
    have h2 := ih (fun y hy => h y (by simp [hy]))
    have e : (done (x :: l)).length = (txt x).length + 1 + (done l).length := by
      show (txt x ++ [32] ++ done l).length = _
      simp; omega
    rw [e, List.length_cons]
    omega
theorem text_len (l : List Op) (h : ∀ x ∈ l, mayB x = true) : (text l).length ≤ 18 * l.length := by
  rcases List.eq_nil_or_concat l with rfl | ⟨m, x, rfl⟩
  · simp [text]
  · have h1 := txt_len (h x (by simp))
    have h2 := done_len m (fun y hy => h y (by simp [hy]))
    rw [List.concat_eq_append, text_snoc]
    simp; omega
theorem txt_no (x : Op) : ∀ c ∈ txt x, c ≠ 32 := by
  intro c hc e
  subst e
  have hi : ∀ n : Int, (32 : UInt8) ∉ Lib.itoa n := fun n hm => by
    rcases itoa_mem hm with h | ⟨h, _⟩
    · exact absurd h (by decide)
    · exact absurd h (by decide)
  unfold txt at hc
  split at hc
  · simp [hi] at hc
  · split at hc
    · simp [hi] at hc
    · split at hc
      · simp [hi] at hc
      · simp at hc
theorem txt_ne (x : Op) : txt x ≠ [] := by
  unfold txt
  split
  · simp
  · split
    · simp
    · split <;> simp
theorem text_ne {l : List Op} (h : l ≠ []) : text l ≠ [] := by
  cases l with
  | nil => exact absurd rfl h
  | cons x l => simp [text, txt_ne]

/-! ### The program's reader -/

/-- A number of which some digits were read. -/
structure Num where
  neg : Bool
  dg : Nat
  sz : Nat
/-- What was read, and the operation in which the reader stands. -/
structure St where
  ops : List Op
  op : Op
  pl : Nat
  num : Num
def num0 : Num := ⟨false, 0, 0⟩
def st0 : St := ⟨[], ⟨0, 0, 0⟩, 0, num0⟩

def Num.digit (n : Num) (r : Nat) : Option Num :=
  if 48 ≤ r ∧ r ≤ 57 ∧ ¬ (0 < n.dg ∧ n.sz = 0) ∧ 10 * n.sz + (r - 48) ≤ 2147483648 then some ⟨n.neg, n.dg + 1, 10 * n.sz + (r - 48)⟩ else none
def Num.minus (n : Num) : Option Num := if n.neg = false ∧ n.dg = 0 then some ⟨true, n.dg, n.sz⟩ else none
def Num.val (n : Num) : Option Int := if n.dg = 0 ∨ (n.neg = true ∧ n.sz = 0) then none else some (if n.neg = true then -(n.sz : Int) else n.sz)
def kindR (r : Nat) : Int := if r = 76 then 1 else if r = 83 then 2 else if r = 88 then 3 else if r = 70 then 4 else 0
def St.letter (σ : St) (r : Nat) : Option St := if kindR r = 0 then none else some ⟨σ.ops, ⟨kindR r, σ.op.a, σ.op.v⟩, if kindR r = 4 then 3 else 1, σ.num⟩
def St.equals (σ : St) : Option St := if σ.op.k = 1 then none else σ.num.val.map fun n => ⟨σ.ops, ⟨σ.op.k, n, σ.op.v⟩, 2, num0⟩
def St.whole (σ : St) : Option Op :=
  if σ.pl = 1 then (if σ.op.k = 1 then σ.num.val.map fun n => ⟨σ.op.k, n, σ.op.v⟩ else none)
  else if σ.pl = 2 then σ.num.val.map fun n => ⟨σ.op.k, σ.op.a, n⟩
  else if σ.pl = 3 then some σ.op else none
def St.fin (σ : St) : Option St := σ.whole.bind fun x => if mayB x = true then some ⟨σ.ops ++ [x], ⟨0, 0, 0⟩, 0, if σ.pl = 3 then σ.num else num0⟩ else none
def St.put (σ : St) (n : Num) : St := ⟨σ.ops, σ.op, σ.pl, n⟩
def St.take (σ : St) (r : Nat) : Option St :=
  if r = 32 then σ.fin
  else if σ.pl = 0 then σ.letter r
  else if σ.pl = 1 then (if r = 61 then σ.equals else (σ.num.digit r).map σ.put)
  else if σ.pl = 2 then (if r = 45 then σ.num.minus.map σ.put else (σ.num.digit r).map σ.put)
  else none
def feed (σ : St) : List UInt8 → Option St
  | [] => some σ
  | c :: cs => (σ.take c.toNat).bind fun τ => feed τ cs
theorem feed_append (σ : St) (a b : List UInt8) : feed σ (a ++ b) = (feed σ a).bind fun τ => feed τ b := by
  induction a generalizing σ with
  | nil => rfl
  | cons c a ih =>
    show (σ.take c.toNat).bind _ = ((σ.take c.toNat).bind _).bind _
    cases σ.take c.toNat with
    | none => rfl
    | some τ => exact ih τ
/-- What a text tells. -/
def readM (s : List UInt8) : Option (List Op) := if s = [] then some [] else ((feed st0 s).bind St.fin).map (·.ops)

/-! ### A program is read out of its text -/

theorem val_pos {d u : Nat} (hd : d ≠ 0) : Num.val ⟨false, d, u⟩ = some (u : Int) := by simp [Num.val, hd]
theorem val_neg {d u : Nat} (hd : d ≠ 0) (hu : u ≠ 0) : Num.val ⟨true, d, u⟩ = some (-(u : Int)) := by simp [Num.val, hd, hu]

/-- Where digits are taken. -/
def numAt (σ : St) : Prop := σ.pl = 1 ∨ σ.pl = 2
theorem take_dig {σ : St} (h : numAt σ) {r : Nat} (h0 : 48 ≤ r) (h1 : r ≤ 57) : σ.take r = (σ.num.digit r).map σ.put := by
  have e1 : r ≠ 32 := by omega
  have e2 : r ≠ 61 := by omega
  have e3 : r ≠ 45 := by omega
  rcases h with h | h <;> simp [St.take, h, e1, e2, e3]
theorem feed_dec (u : Nat) (hu : u ≤ 2147483648) (σ : St) (h : numAt σ) (neg : Bool) (hn : σ.num = ⟨neg, 0, 0⟩) : feed σ (Lib.decDigits u) = some (σ.put ⟨neg, (Lib.decDigits u).length, u⟩) := by
  induction u using Nat.strongRecOn with
  | _ u ih =>
    by_cases hs : u < 10
    · rw [dec_small hs]
      have e : σ.num.digit (48 + u) = some ⟨neg, 1, u⟩ := by
        rw [hn]; unfold Num.digit; simp; omega
      show (σ.take (UInt8.ofNat (48 + u)).toNat).bind _ = _
      rw [toNat_dig hs, take_dig h (by omega) (by omega), e]
      rfl
    · rw [dec_big hs, feed_append, ih (u / 10) (by omega) (by omega)]
      have hm : u % 10 < 10 := by omega
      have e : (⟨neg, (Lib.decDigits (u / 10)).length, u / 10⟩ : Num).digit (48 + u % 10) = some ⟨neg, (Lib.decDigits (u / 10)).length + 1, u⟩ := by
        unfold Num.digit
        rw [if_pos ⟨by omega, by omega, by simp; omega, by simp; omega⟩]
        simp; omega
      show ((σ.put _).take (UInt8.ofNat (48 + u % 10)).toNat).bind _ = _
      rw [toNat_dig hm, take_dig (σ := σ.put ⟨neg, (Lib.decDigits (u / 10)).length, u / 10⟩) h (r := 48 + u % 10) (by omega) (by omega)]
      have e' : (σ.put ⟨neg, (Lib.decDigits (u / 10)).length, u / 10⟩).num.digit (48 + u % 10) = some ⟨neg, (Lib.decDigits (u / 10)).length + 1, u⟩ := e
      rw [e']
      simp [feed, St.put]

theorem dec_len_ne (u : Nat) : (Lib.decDigits u).length ≠ 0 := fun e => dec_ne u (List.eq_nil_of_length_eq_zero e)

theorem feed_num (n : Int) (h0 : -2147483648 ≤ n) (h1 : n ≤ 2147483647) (σ : St) (h : σ.pl = 2 ∨ (σ.pl = 1 ∧ 0 ≤ n)) (hn : σ.num = num0) : ∃ m : Num, feed σ (Lib.itoa n) = some (σ.put m) ∧ m.val = some n := by
  by_cases hb : n < 0
  · have h2 : σ.pl = 2 := by
      rcases h with h | ⟨_, h⟩
      · exact h
      · omega
    rw [itoa_below hb]
    have e : σ.take (45 : UInt8).toNat = some (σ.put ⟨true, 0, 0⟩) := by
      show σ.take 45 = _
      simp [St.take, h2, hn, Num.minus, num0]
    refine ⟨⟨true, (Lib.decDigits n.natAbs).length, n.natAbs⟩, ?_, by rw [val_neg (dec_len_ne _) (by omega)]; congr 1; omega⟩
    show (σ.take (45 : UInt8).toNat).bind _ = _
    rw [e]
    show feed (σ.put _) _ = _
    rw [feed_dec n.natAbs (by omega) (σ.put ⟨true, 0, 0⟩) (.inr h2) true rfl]
    rfl
  · rw [itoa_pos (by omega)]
    refine ⟨⟨false, (Lib.decDigits n.toNat).length, n.toNat⟩, feed_dec n.toNat (by omega) σ (by rcases h with h | h; exact .inr h; exact .inl h.1) false hn, by rw [val_pos (dec_len_ne _)]; congr 1; omega⟩

theorem feed_txt (l : List Op) (x : Op) (hx : mayB x = true) : ∃ σ, feed ⟨l, ⟨0, 0, 0⟩, 0, num0⟩ (txt x) = some σ ∧ σ.fin = some ⟨l ++ [x], ⟨0, 0, 0⟩, 0, num0⟩ := by
  obtain ⟨h0, h1, h2, h3, hk⟩ := may_iff.1 hx
  have big : ∀ (c : UInt8) (k : Int), kindR c.toNat = k → (k = 2 ∨ k = 3) → c.toNat ≠ 32 → x.k = k → ∃ σ, feed ⟨l, ⟨0, 0, 0⟩, 0, num0⟩ (c :: (Lib.itoa x.a ++ 61 :: Lib.itoa x.v)) = some σ ∧ σ.fin = some ⟨l ++ [x], ⟨0, 0, 0⟩, 0, num0⟩ := by
    intro c k hc hk2 hc32 hxk
    have hk0 : k ≠ 0 := by omega
    have hk4 : k ≠ 4 := by omega
    have hk1 : k ≠ 1 := by omega
    have e : (⟨l, ⟨0, 0, 0⟩, 0, num0⟩ : St).take c.toNat = some ⟨l, ⟨k, 0, 0⟩, 1, num0⟩ := by
      simp [St.take, hc32, St.letter, hc, hk0, hk4]
    obtain ⟨m, e1, v1⟩ := feed_num x.a (by omega) (by omega) ⟨l, ⟨k, 0, 0⟩, 1, num0⟩ (.inr ⟨rfl, h0⟩) rfl
    have e2 : ((⟨l, ⟨k, 0, 0⟩, 1, num0⟩ : St).put m).take (61 : UInt8).toNat = some ⟨l, ⟨k, x.a, 0⟩, 2, num0⟩ := by
      show St.take _ 61 = _
      simp [St.take, St.put, St.equals, hk1, v1]
    obtain ⟨m', e3, v3⟩ := feed_num x.v h2 h3 ⟨l, ⟨k, x.a, 0⟩, 2, num0⟩ (.inl rfl) rfl
    refine ⟨(⟨l, ⟨k, x.a, 0⟩, 2, num0⟩ : St).put m', ?_, ?_⟩
    · show (St.take _ c.toNat).bind _ = _
      rw [e]
      show feed _ _ = _
      rw [feed_append, e1]
      show (St.take _ (61 : UInt8).toNat).bind _ = _
      rw [e2]
      exact e3
    · have ex : (⟨k, x.a, x.v⟩ : Op) = x := Op.ext' hxk.symm rfl rfl
      simp [St.fin, St.whole, St.put, v3, ex, hx]
  rcases hk with hk | hk | ⟨hk, hv⟩ | ⟨hk, ha, hv⟩
  · rw [txt_2 hk]; exact big 83 2 (by decide) (.inl rfl) (by decide) hk
  · rw [txt_3 hk]; exact big 88 3 (by decide) (.inr rfl) (by decide) hk
  · rw [txt_1 hk]
    have e : (⟨l, ⟨0, 0, 0⟩, 0, num0⟩ : St).take (76 : UInt8).toNat = some ⟨l, ⟨1, 0, 0⟩, 1, num0⟩ := by
      show St.take _ 76 = _
      simp [St.take, St.letter, kindR]
    obtain ⟨m, e1, v1⟩ := feed_num x.a (by omega) (by omega) ⟨l, ⟨1, 0, 0⟩, 1, num0⟩ (.inr ⟨rfl, h0⟩) rfl
    refine ⟨(⟨l, ⟨1, 0, 0⟩, 1, num0⟩ : St).put m, ?_, ?_⟩
    · show (St.take _ (76 : UInt8).toNat).bind _ = _
      rw [e]
      exact e1
    · have ex : (⟨1, x.a, 0⟩ : Op) = x := Op.ext' hk.symm rfl hv.symm
      simp [St.fin, St.whole, St.put, v1, ex, hx]
  · rw [txt_4 hk]
    refine ⟨⟨l, ⟨4, 0, 0⟩, 3, num0⟩, ?_, ?_⟩
    · show (St.take _ (70 : UInt8).toNat).bind _ = _
      show (St.take _ 70).bind _ = _
      simp [St.take, St.letter, kindR, feed]
    · have ex : (⟨4, 0, 0⟩ : Op) = x := Op.ext' hk.symm ha.symm hv.symm
      simp [St.fin, St.whole, ex, hx]

theorem feed_done (m l : List Op) (hm : ∀ x ∈ m, mayB x = true) : feed ⟨l, ⟨0, 0, 0⟩, 0, num0⟩ (done m) = some ⟨l ++ m, ⟨0, 0, 0⟩, 0, num0⟩ := by
  induction m generalizing l with
  | nil => simp [done, feed]
  | cons x m ih =>
    obtain ⟨σ, e1, e2⟩ := feed_txt l x (hm x (by simp))
    show feed _ (txt x ++ [32] ++ done m) = _
    rw [List.append_assoc, feed_append, e1]
    show feed σ (32 :: done m) = _
    have e3 : σ.take (32 : UInt8).toNat = some ⟨l ++ [x], ⟨0, 0, 0⟩, 0, num0⟩ := by
      show σ.take 32 = _
      simp [St.take, e2]
    show (σ.take (32 : UInt8).toNat).bind _ = _
    rw [e3]
    show feed _ _ = _
    rw [ih (l ++ [x]) (fun y hy => hm y (by simp [hy]))]
    simp

/-- A program is told by its text. -/
theorem read_text (l : List Op) (h : ∀ x ∈ l, mayB x = true) : readM (text l) = some l := by
  rcases List.eq_nil_or_concat l with rfl | ⟨m, x, rfl⟩
  · rfl
  · rw [List.concat_eq_append] at *
    unfold readM
    rw [if_neg (text_ne (by simp)), text_snoc, feed_append]
    show (((feed ⟨[], ⟨0, 0, 0⟩, 0, num0⟩ (done m)).bind _).bind _).map _ = _
    rw [feed_done m [] (fun y hy => h y (by simp [hy]))]
    obtain ⟨σ, e1, e2⟩ := feed_txt m x (h x (by simp))
    show ((feed ⟨[] ++ m, ⟨0, 0, 0⟩, 0, num0⟩ (txt x)).bind _).map _ = _
    rw [List.nil_append, e1]
    show (σ.fin).map _ = _
    rw [e2]
    rfl

/-! ### What is read has that text -/

/-- The digits that were read. -/
def NumInv (n : Num) (ds : List UInt8) : Prop := ds = (if n.neg = true then [45] else []) ++ (if n.dg = 0 then [] else Lib.decDigits n.sz) ∧ (n.dg = 0 → n.sz = 0)
/-- The text behind the last whole operation. -/
def CurInv (σ : St) (cur : List UInt8) : Prop :=
  (σ.pl = 0 ∧ cur = [] ∧ σ.op = ⟨0, 0, 0⟩ ∧ σ.num = num0) ∨
  (σ.pl = 1 ∧ ∃ c ds, cur = c :: ds ∧ ((σ.op.k = 1 ∧ c = 76) ∨ (σ.op.k = 2 ∧ c = 83) ∨ (σ.op.k = 3 ∧ c = 88)) ∧ NumInv σ.num ds ∧ σ.num.neg = false ∧ σ.op.v = 0) ∨
  (σ.pl = 2 ∧ ∃ c ds, cur = c :: (Lib.itoa σ.op.a ++ 61 :: ds) ∧ ((σ.op.k = 2 ∧ c = 83) ∨ (σ.op.k = 3 ∧ c = 88)) ∧ NumInv σ.num ds) ∨
  (σ.pl = 3 ∧ cur = [70] ∧ σ.op = ⟨4, 0, 0⟩ ∧ σ.num = num0)
def Inv (σ : St) (p : List UInt8) : Prop := ∃ cur, p = done σ.ops ++ cur ∧ (∀ x ∈ σ.ops, mayB x = true) ∧ CurInv σ cur

theorem numInv0 : NumInv num0 [] := ⟨by simp [num0], fun _ => rfl⟩
theorem u8_ext {c d : UInt8} (h : c.toNat = d.toNat) : c = d := UInt8.toNat_inj.1 h
theorem NumInv.digit {n m : Num} {ds : List UInt8} {c : UInt8} (h : NumInv n ds) (e : n.digit c.toNat = some m) : NumInv m (ds ++ [c]) ∧ m.neg = n.neg := by
  unfold Num.digit at e
  split at e
  · rename_i hh
    obtain ⟨h0, h1, h2, h3⟩ := hh
    injection e with e
    subst e
    obtain ⟨rfl, hz⟩ := h
    refine ⟨⟨?_, by simp⟩, rfl⟩
    have hc : c = UInt8.ofNat (48 + (c.toNat - 48)) := u8_ext (by rw [toNat_dig (by omega)]; omega)
    by_cases hd : n.dg = 0
    · have hs := hz hd
      simp only [hd, hs, if_pos]
      rw [if_neg (show ¬ (0 + 1 = 0) by omega), dec_small (by omega), List.append_nil]
      congr 2
      simpa using hc
    · have hs : n.sz ≠ 0 := fun e => h2 ⟨by omega, e⟩
      simp only [if_neg hd]
      rw [if_neg (show ¬ (n.dg + 1 = 0) by omega), dec_more hs (by omega), List.append_assoc]
      congr 3
  · cases e
theorem NumInv.minus {n m : Num} {ds : List UInt8} (h : NumInv n ds) (e : n.minus = some m) : NumInv m (ds ++ [45]) := by
  unfold Num.minus at e
  split at e
  · rename_i hh
    injection e with e
    subst e
    obtain ⟨rfl, hz⟩ := h
    refine ⟨?_, hz⟩
    simp [hh.1, hh.2]
  · cases e
theorem NumInv.val {n : Num} {ds : List UInt8} {q : Int} (h : NumInv n ds) (e : n.val = some q) : ds = Lib.itoa q := by
  unfold Num.val at e
  split at e
  · cases e
  · rename_i hh
    injection e with e
    obtain ⟨rfl, hz⟩ := h
    have hd : n.dg ≠ 0 := fun e => hh (.inl e)
    rw [if_neg hd]
    cases hn : n.neg with
    | false =>
      rw [hn] at e
      simp at e
      rw [← e, itoa_pos (by omega)]
      simp
    | true =>
      rw [hn] at e
      simp at e
      have hs : n.sz ≠ 0 := fun e => hh (.inr ⟨hn, e⟩)
      rw [← e, itoa_below (by omega)]
      simp

theorem whole_txt {σ : St} {cur : List UInt8} {x : Op} (h : CurInv σ cur) (e : σ.whole = some x) : txt x = cur := by
  unfold St.whole at e
  rcases h with ⟨h, rfl, _, _⟩ | ⟨h, c, ds, rfl, hk, hn, _, _⟩ | ⟨h, c, ds, rfl, hk, hn⟩ | ⟨h, rfl, ho, _⟩
  · simp [h] at e
  · rw [if_pos h] at e
    split at e
    · rename_i h1
      obtain ⟨q, hq, rfl⟩ := Option.map_eq_some_iff.1 e
      rw [txt_1 (x := ⟨σ.op.k, q, σ.op.v⟩) h1, hn.val hq]
      rcases hk with ⟨_, rfl⟩ | ⟨h2, _⟩ | ⟨h2, _⟩
      · rfl
      · omega
      · omega
    · cases e
  · simp only [h] at e
    obtain ⟨q, hq, rfl⟩ := Option.map_eq_some_iff.1 (by simpa using e)
    rcases hk with ⟨h2, rfl⟩ | ⟨h2, rfl⟩
    · rw [txt_2 (x := ⟨σ.op.k, σ.op.a, q⟩) h2, hn.val hq]
    · rw [txt_3 (x := ⟨σ.op.k, σ.op.a, q⟩) h2, hn.val hq]
  · simp [h] at e
    subst e
    rw [ho]
    rfl
theorem fin_inv {σ τ : St} {p : List UInt8} (h : Inv σ p) (e : σ.fin = some τ) : Inv τ (p ++ [32]) ∧ text τ.ops = p ∧ (∀ x ∈ τ.ops, mayB x = true) := by
  obtain ⟨cur, rfl, hm, hc⟩ := h
  unfold St.fin at e
  obtain ⟨x, hx, e⟩ := Option.bind_eq_some_iff.1 e
  split at e
  · rename_i hmx
    injection e with e
    subst e
    have ht := whole_txt hc hx
    have hall : ∀ y ∈ σ.ops ++ [x], mayB y = true := fun y hy => by
      rcases List.mem_append.1 hy with hy | hy
      · exact hm y hy
      · simp only [List.mem_singleton] at hy; rw [hy]; exact hmx
    refine ⟨⟨[], ?_, hall, .inl ⟨rfl, rfl, rfl, ?_⟩⟩, ?_, hall⟩
    · show _ = done (σ.ops ++ [x]) ++ []
      rw [done_snoc, ht]; simp
    · show (if σ.pl = 3 then σ.num else num0) = num0
      rcases hc with ⟨h, _⟩ | ⟨h, _⟩ | ⟨h, _⟩ | ⟨h, _, _, hn⟩
      · simp [h]
      · simp [h]
      · simp [h]
      · simp [h, hn]
    · show text (σ.ops ++ [x]) = _
      rw [text_snoc, ht]
  · cases e
theorem take_inv {σ τ : St} {p : List UInt8} {c : UInt8} (h : Inv σ p) (e : σ.take c.toNat = some τ) : Inv τ (p ++ [c]) := by
  unfold St.take at e
  split at e
  · rename_i h32
    have : c = 32 := u8_ext h32
    subst this
    exact (fin_inv h e).1
  · obtain ⟨cur, rfl, hm, hc⟩ := h
    rcases hc with ⟨h, rfl, ho, hn⟩ | ⟨h, d, ds, rfl, hk, hn, hg, hv⟩ | ⟨h, d, ds, rfl, hk, hn⟩ | ⟨h, rfl, ho, _⟩
    · rw [if_pos h] at e
      unfold St.letter at e
      split at e
      · cases e
      · rename_i hk0
        injection e with e
        subst e
        refine ⟨[c], by simp, hm, ?_⟩
        unfold kindR at hk0 ⊢
        by_cases h76 : c.toNat = 76
        · have : c = 76 := u8_ext h76
          subst this
          refine .inr (.inl ⟨by simp, 76, [], rfl, .inl ⟨by simp, rfl⟩, by rw [hn]; exact numInv0, by rw [hn]; rfl, by rw [ho]⟩)
        · by_cases h83 : c.toNat = 83
          · have : c = 83 := u8_ext h83
            subst this
            refine .inr (.inl ⟨by simp, 83, [], rfl, .inr (.inl ⟨by simp, rfl⟩), by rw [hn]; exact numInv0, by rw [hn]; rfl, by rw [ho]⟩)
          · by_cases h88 : c.toNat = 88
            · have : c = 88 := u8_ext h88
              subst this
              refine .inr (.inl ⟨by simp, 88, [], rfl, .inr (.inr ⟨by simp, rfl⟩), by rw [hn]; exact numInv0, by rw [hn]; rfl, by rw [ho]⟩)
            · by_cases h70 : c.toNat = 70
              · have : c = 70 := u8_ext h70
                subst this
                refine .inr (.inr (.inr ⟨by simp, rfl, by rw [ho]; simp, hn⟩))
              · simp [h76, h83, h88, h70] at hk0
    · rw [if_neg (by omega), if_pos h] at e
      split at e
      · rename_i h61
        have : c = 61 := u8_ext h61
        subst this
        unfold St.equals at e
        split at e
        · cases e
        · rename_i hk1
          obtain ⟨q, hq, rfl⟩ := Option.map_eq_some_iff.1 e
          refine ⟨d :: (Lib.itoa q ++ 61 :: []), by rw [hn.val hq]; simp, hm, .inr (.inr (.inl ⟨rfl, d, [], rfl, ?_, numInv0⟩))⟩
          rcases hk with ⟨hk, _⟩ | hk | hk
          · exact absurd hk hk1
          · exact .inl hk
          · exact .inr hk
      · obtain ⟨m, hq, rfl⟩ := Option.map_eq_some_iff.1 e
        have hd := hn.digit hq
        exact ⟨d :: (ds ++ [c]), by simp [St.put], hm, .inr (.inl ⟨h, d, ds ++ [c], rfl, hk, hd.1, hd.2.trans hg, hv⟩)⟩
    · rw [if_neg (by omega), if_neg (by omega), if_pos h] at e
      split at e
      · rename_i h45
        have : c = 45 := u8_ext h45
        subst this
        obtain ⟨m, hq, rfl⟩ := Option.map_eq_some_iff.1 e
        exact ⟨d :: (Lib.itoa σ.op.a ++ 61 :: (ds ++ [45])), by simp [St.put], hm, .inr (.inr (.inl ⟨h, d, ds ++ [45], rfl, hk, hn.minus hq⟩))⟩
      · obtain ⟨m, hq, rfl⟩ := Option.map_eq_some_iff.1 e
        exact ⟨d :: (Lib.itoa σ.op.a ++ 61 :: (ds ++ [c])), by simp [St.put], hm, .inr (.inr (.inl ⟨h, d, ds ++ [c], rfl, hk, (hn.digit hq).1⟩))⟩
    · simp [h] at e
theorem feed_inv {s : List UInt8} : ∀ {σ τ : St} {p : List UInt8}, Inv σ p → feed σ s = some τ → Inv τ (p ++ s) := by
  induction s with
  | nil =>
    intro σ τ p h e
    injection e with e
    subst e
    simpa using h
  | cons c s ih =>
    intro σ τ p h e
    obtain ⟨ρ, h1, h2⟩ := Option.bind_eq_some_iff.1 (show (σ.take c.toNat).bind _ = some τ from e)
    have := ih (take_inv h h1) h2
    simpa using this
theorem inv0 : Inv st0 [] := ⟨[], rfl, by simp [st0], .inl ⟨rfl, rfl, rfl, rfl⟩⟩

/-- A text is that of the program that it tells. -/
theorem text_read {s : List UInt8} {l : List Op} (h : readM s = some l) : text l = s ∧ ∀ x ∈ l, mayB x = true := by
  unfold readM at h
  split at h
  · rename_i hs
    injection h with h
    subst h hs
    exact ⟨rfl, by simp⟩
  · obtain ⟨τ, h', rfl⟩ := Option.map_eq_some_iff.1 h
    obtain ⟨σ, h1, h2⟩ := Option.bind_eq_some_iff.1 h'
    have := fin_inv (feed_inv inv0 h1) h2
    exact ⟨by simpa using this.2.1, this.2.2⟩
theorem read_none {s : List UInt8} (h : readM s = none) (l : List Op) (hl : ∀ x ∈ l, mayB x = true) : text l ≠ s := fun e => by
  rw [← e, read_text l hl] at h
  cases h
/-- No text ends with a blank. -/
theorem read_blank (s : List UInt8) : readM (s ++ [32]) = none := by
  cases h : readM (s ++ [32]) with
  | none => rfl
  | some l =>
    exfalso
    have ht := (text_read h).1
    rcases List.eq_nil_or_concat l with rfl | ⟨m, x, rfl⟩
    · simp [text] at ht
    · rw [List.concat_eq_append, text_snoc] at ht
      have e := congrArg List.getLast? ht
      rw [List.getLast?_append, List.getLast?_append] at e
      cases hx : (txt x).getLast? with
      | none => exact txt_ne x (List.getLast?_eq_none_iff.1 hx)
      | some c =>
        rw [hx] at e
        simp at e
        subst e
        exact txt_no x 32 (List.mem_of_getLast? hx) rfl

/-! ### What Parse and Print answer -/

/-- The program that a text tells, and the error's number. -/
def prs (s : List UInt8) : List Op × Int :=
  if 4000 < s.length then ([], 4) else match readM s with
    | none => ([], 2)
    | some l => if 64 < l.length then ([], 4) else (l, 0)
/-- The text that a program has, and the error's number. -/
def prt (l : List Op) : List UInt8 × Int := if 64 < l.length then ([], 4) else if l.all mayB = true then (text l, 0) else ([], 1)

end Go.Proofs.YtpknfbgnclgpmaaGreatDoor.Me

/-
  A memory in plain words: its list of words, what Do, Line, Write, Word and Apply make of it, and that what is applied to a line is what is done.
-/
namespace Go.Proofs.YtpknfbgnclgpmaaGreatDoor.Me
open Go Go.RowKit

/-- A line's words, by value. -/
structure Wd where
  a0 : Int
  a1 : Int
  a2 : Int
  a3 : Int
  a4 : Int
  a5 : Int
  a6 : Int
  a7 : Int
abbrev d0 : Wd := ⟨0, 0, 0, 0, 0, 0, 0, 0⟩
abbrev dcells (d : Wd) : Array Value := #[.int .i64 d.a0, .int .i64 d.a1, .int .i64 d.a2, .int .i64 d.a3, .int .i64 d.a4, .int .i64 d.a5, .int .i64 d.a6, .int .i64 d.a7]
def Wd.toL (d : Wd) : List Int := [d.a0, d.a1, d.a2, d.a3, d.a4, d.a5, d.a6, d.a7]
def Wd.at (d : Wd) (k : Nat) : Int := d.toL.getD k 0
/-- Numbers as a line's words, 0 behind them. -/
def lay (l : List Int) : Wd := ⟨l.getD 0 0, l.getD 1 0, l.getD 2 0, l.getD 3 0, l.getD 4 0, l.getD 5 0, l.getD 6 0, l.getD 7 0⟩
def Wd.put (d : Wd) (k : Nat) (v : Int) : Wd := lay (d.toL.set k v)

theorem Wd.len (d : Wd) : d.toL.length = 8 := rfl
theorem Wd.ext' {d e : Wd} (h : d.toL = e.toL) : d = e := by
  cases d; cases e
  simp only [Wd.toL, List.cons.injEq, and_true] at h
  obtain ⟨rfl, rfl, rfl, rfl, rfl, rfl, rfl, rfl⟩ := h
  rfl
instance : DecidableEq Wd := fun d e => decidable_of_iff (d.toL = e.toL) ⟨Wd.ext', fun h => by rw [h]⟩
theorem lay_toL (l : List Int) (h : l.length ≤ 8) : (lay l).toL = l ++ List.replicate (8 - l.length) 0 := by
  match l, h with
  | [], _ | [_], _ | [_, _], _ | [_, _, _], _ | [_, _, _, _], _ | [_, _, _, _, _], _ | [_, _, _, _, _, _], _ | [_, _, _, _, _, _, _], _ | [_, _, _, _, _, _, _, _], _ => rfl
  | _ :: _ :: _ :: _ :: _ :: _ :: _ :: _ :: _ :: l, h => simp at h
theorem lay_self (d : Wd) : lay d.toL = d := by cases d; rfl
theorem lay_take (l : List Int) (h : l.length ≤ 8) : (lay l).toL.take l.length = l := by rw [lay_toL l h, List.take_left]

/-- What an operation leaves of a word, and what it tells of it. -/
def lft (v : Int) (x : Op) : Int := if x.k = 2 ∨ x.k = 3 then x.v else v
def tld (v : Int) (x : Op) : Int := if x.k = 1 ∨ x.k = 3 then v else 0

/-- A word. -/
def wrd (L : List Int) (a : Int) : Int := if inR a L.length = true then L.getD a.toNat 0 else 0
/-- What an operation answers, and leaves. -/
def doP (L : List Int) (x : Op) : (Int × Int) × List Int := if mayB x = true ∧ inR x.a L.length = true then ((tld (wrd L x.a) x, 0), L.set x.a.toNat (lft (wrd L x.a) x)) else ((0, 1), L)
/-- A line's words. -/
def pt (c : Cfg) (L : List Int) (line : Int) : List Int := (L.drop (line * c.wo).toNat).take c.wo.toNat
def lnP (c : Cfg) (L : List Int) (line : Int) : Wd × Int := if lnOk c line = true then (lay (pt c L line), 0) else (d0, 1)
/-- Numbers laid over others from a place on. -/
def over (L : List Int) (o : Nat) (l : List Int) : List Int := L.take o ++ (l ++ L.drop (o + l.length))
def wrP (c : Cfg) (L : List Int) (line : Int) (d : Wd) : Int × List Int := if lnOk c line = true ∧ lay (d.toL.take c.wo.toNat) = d then (0, over L (line * c.wo).toNat (d.toL.take c.wo.toNat)) else (1, L)
/-- What is applied. -/
def apP (c : Cfg) (d : Wd) (x : Op) : Wd × Int × Int := if adOk c x.a = true ∧ mayB x = true ∧ x.k ≠ 4 then (d.put (x.a % c.wo).toNat (lft (d.at (x.a % c.wo).toNat) x), tld (d.at (x.a % c.wo).toNat) x, 0) else (d0, 0, 1)

/-- A memory has a word for each address. -/
def Sized (c : Cfg) (L : List Int) : Prop := okC c = true ∧ (L.length : Int) = c.wo * c.li

theorem over_len (L : List Int) (o : Nat) (l : List Int) (h : o + l.length ≤ L.length) : (over L o l).length = L.length := by simp [over]; omega
theorem doP_len (L : List Int) (x : Op) : (doP L x).2.length = L.length := by
  unfold doP
  split
  · simp
  · rfl
/-- Where a line lies. -/
theorem line_in {c : Cfg} {L : List Int} (s : Sized c L) {line : Int} (h : lnOk c line = true) :
    ∃ F N : Nat, (line * c.wo).toNat = F ∧ line * c.wo = F ∧ c.wo = N ∧ 1 ≤ N ∧ N ≤ 8 ∧ F + N ≤ L.length ∧ L.length ≤ 8192 := by
  obtain ⟨hok, h0, h1⟩ := ok_of_lnOk h
  have hb := sz_bound c hok
  have hm := mul_bound _ _ hb.1 hb.2
  have e1 : (line + 1) * c.wo ≤ c.li * c.wo := Int.mul_le_mul_of_nonneg_right (by omega) (by omega)
  have e2 : 0 ≤ line * c.wo := Int.mul_nonneg h0 (by omega)
  rw [Int.add_mul, Int.one_mul, Int.mul_comm c.li] at e1
  have e3 := s.2
  exact ⟨(line * c.wo).toNat, c.wo.toNat, rfl, by omega, by omega, by omega, by omega, by omega, by omega⟩
theorem wrP_len {c : Cfg} {L : List Int} (s : Sized c L) (line : Int) (d : Wd) : (wrP c L line d).2.length = L.length := by
  unfold wrP
  split
  · rename_i h
    obtain ⟨F, N, e1, e2, e3, h1, h8, hF, hl⟩ := line_in s h.1
    refine over_len _ _ _ ?_
    rw [e1, List.length_take, Wd.len, e3, Int.toNat_natCast]
    omega
  · rfl
theorem Sized.of_len {c : Cfg} {L M : List Int} (s : Sized c L) (h : M.length = L.length) : Sized c M := ⟨s.1, by rw [h]; exact s.2⟩

/-! What was stored last is loaded; what has another address changes nothing. -/
theorem wrd_set {L : List Int} {a : Int} (h : inR a L.length = true) (v : Int) : wrd (L.set a.toNat v) a = v := by
  have h' := inR_of h
  unfold wrd
  rw [List.length_set, if_pos h, List.getD_eq_getElem?_getD, List.getElem?_set, if_pos rfl, if_pos (by omega)]
  rfl
theorem wrd_other {L : List Int} {a b : Int} (h : inR a L.length = true) (v : Int) (hb : b ≠ a) : wrd (L.set a.toNat v) b = wrd L b := by
  have h' := inR_of h
  unfold wrd
  rw [List.length_set]
  by_cases e : inR b L.length = true
  · have h2 := inR_of e
    rw [if_pos e, if_pos e, List.getD_eq_getElem?_getD, List.getElem?_set, if_neg (by omega), List.getD_eq_getElem?_getD]
  · rw [if_neg e, if_neg e]
theorem doP_no {L : List Int} {x : Op} (h : ¬ (mayB x = true ∧ inR x.a L.length = true)) : doP L x = ((0, 1), L) := by unfold doP; rw [if_neg h]
theorem doP_yes {L : List Int} {x : Op} (h : mayB x = true ∧ inR x.a L.length = true) : doP L x = ((tld (wrd L x.a) x, 0), L.set x.a.toNat (lft (wrd L x.a) x)) := by unfold doP; rw [if_pos h]
/-- Another address' word is as it was. -/
theorem doP_other (L : List Int) (y : Op) (a : Int) (h : a ≠ y.a) : wrd (doP L y).2 a = wrd L a := by
  by_cases hy : mayB y = true ∧ inR y.a L.length = true
  · rw [doP_yes hy]
    exact wrd_other hy.2 _ h
  · rw [doP_no hy]
/-- A load of an address that there is. -/
theorem doP_load (L : List Int) (a : Int) (h0 : 0 ≤ a ∧ a ≤ 8191) (h : inR a L.length = true) : doP L ⟨1, a, 0⟩ = ((wrd L a, 0), L.set a.toNat (wrd L a)) := by
  have hm : mayB ⟨1, a, 0⟩ = true := by simp [mayB]; omega
  rw [doP_yes ⟨hm, h⟩]
  simp [tld, lft]

/-! What is applied to a line is what is done. -/
theorem getD_pt (L : List Int) (F N k : Nat) (hk : k < N) : ((L.drop F).take N).getD k 0 = L.getD (F + k) 0 := by
  rw [List.getD_eq_getElem?_getD, List.getElem?_take, if_pos hk, List.getElem?_drop, List.getD_eq_getElem?_getD]
theorem lay_at (l : List Int) (k : Nat) (hk : k < l.length) (h : l.length ≤ 8) : (lay l).at k = l.getD k 0 := by
  unfold Wd.at
  rw [lay_toL l h, List.getD_eq_getElem?_getD, List.getElem?_append_left hk, List.getD_eq_getElem?_getD]
theorem lay_put (l : List Int) (k : Nat) (v : Int) (hk : k < l.length) (h : l.length ≤ 8) : (lay l).put k v = lay (l.set k v) := by
  refine Wd.ext' ?_
  unfold Wd.put
  rw [lay_toL l h, List.set_append, if_pos hk, lay_toL (l.set k v) (by simpa using h), lay_toL _ (by simp; omega), List.append_assoc, List.length_append, List.length_set, List.length_replicate]
  rw [show 8 - (l.length + (8 - l.length)) = 0 by omega, List.replicate_zero, List.append_nil]
theorem over_set (L : List Int) (F N k : Nat) (v : Int) (hk : k < N) (hF : F + N ≤ L.length) : over L F (((L.drop F).take N).set k v) = L.set (F + k) v := by
  have hl : ((L.drop F).take N).length = N := by rw [List.length_take, List.length_drop]; omega
  unfold over
  rw [List.length_set, hl]
  refine List.ext_getElem? fun i => ?_
  rw [List.getElem?_set]
  by_cases h1 : i < F
  · rw [List.getElem?_append_left (by rw [List.length_take]; omega), List.getElem?_take, if_pos h1, if_neg (by omega)]
  · rw [List.getElem?_append_right (by rw [List.length_take]; omega), List.length_take, Nat.min_eq_left (by omega)]
    by_cases h2 : i < F + N
    · rw [List.getElem?_append_left (by rw [List.length_set, hl]; omega), List.getElem?_set, hl]
      by_cases e : F + k = i
      · rw [if_pos (by omega), if_pos (by omega), if_pos e, if_pos (by omega)]
      · rw [if_neg (by omega), if_neg e, List.getElem?_take, if_pos (by omega), List.getElem?_drop]
        congr 1; omega
    · rw [List.getElem?_append_right (by rw [List.length_set, hl]; omega), List.length_set, hl, List.getElem?_drop, if_neg (by omega)]
      congr 1; omega

/-- An address' line and word. -/
theorem addr_in {c : Cfg} {L : List Int} (s : Sized c L) {a : Int} (h : adOk c a = true) :
    ∃ A N : Nat, a = A ∧ c.wo = N ∧ 1 ≤ N ∧ N ≤ 8 ∧ lnOk c (a / c.wo) = true ∧ (a / c.wo * c.wo).toNat = A / N * N ∧ (a % c.wo).toNat = A % N ∧ A % N < N ∧ A / N * N + A % N = A ∧ A / N * N + N ≤ L.length ∧ A < L.length ∧ a / c.wo = ((A / N : Nat) : Int) ∧ a % c.wo = ((A % N : Nat) : Int) := by
  obtain ⟨hok, h0, h1⟩ := ok_of_adOk h
  have hb := sz_bound c hok
  have e3 := s.2
  obtain ⟨A, rfl⟩ : ∃ A : Nat, a = A := ⟨a.toNat, by omega⟩
  obtain ⟨N, hN⟩ : ∃ N : Nat, c.wo = N := ⟨c.wo.toNat, by omega⟩
  obtain ⟨M, hM⟩ : ∃ M : Nat, c.li = M := ⟨c.li.toNat, by omega⟩
  rw [hN, hM] at h1 e3
  have h1' : A < N * M := by exact_mod_cast h1
  have e3' : L.length = N * M := by exact_mod_cast e3
  have hNp : 0 < N := by omega
  have hdiv : A / N < M := Nat.div_lt_of_lt_mul h1'
  have hmod : A % N < N := Nat.mod_lt _ hNp
  have hsum : A / N * N + A % N = A := by rw [Nat.mul_comm]; exact Nat.div_add_mod A N
  have hle : (A / N + 1) * N ≤ M * N := Nat.mul_le_mul_right _ hdiv
  rw [Nat.add_mul, Nat.one_mul, Nat.mul_comm M] at hle
  rw [hN]
  refine ⟨A, N, rfl, rfl, hNp, by omega, ?_, ?_, ?_, hmod, hsum, by omega, by omega, by simp, by simp⟩
  · unfold lnOk inR
    rw [hok, hM]
    simp
    constructor
    · exact_mod_cast Nat.zero_le _
    · exact_mod_cast hdiv
  · exact_mod_cast Int.toNat_natCast (A / N * N)
  · exact_mod_cast Int.toNat_natCast (A % N)
theorem inR_ad {c : Cfg} {L : List Int} (s : Sized c L) (a : Int) : adOk c a = inR a L.length := by
  have e := s.2
  unfold adOk sz
  rw [if_pos s.1, e]
/-- The line's word is the address'. -/
theorem line_word {c : Cfg} {L : List Int} (s : Sized c L) {a : Int} (h : adOk c a = true) : lnP c L (a / c.wo) = (lay (pt c L (a / c.wo)), 0) ∧ (lay (pt c L (a / c.wo))).at (a % c.wo).toNat = wrd L a := by
  have hr : inR a L.length = true := (inR_ad s a) ▸ h
  obtain ⟨A, N, e1, e2, h1, h8, hl, e4, e5, hmod, hsum, hle, hlt, -, -⟩ := addr_in s h
  refine ⟨by unfold lnP; rw [if_pos hl], ?_⟩
  unfold wrd pt
  rw [if_pos hr, e4, e5, e2, Int.toNat_natCast, lay_at _ _ (by rw [List.length_take, List.length_drop]; omega) (by rw [List.length_take]; omega), getD_pt _ _ _ _ hmod, hsum, e1, Int.toNat_natCast]
/-- What is applied is what is done. -/
theorem applied {c : Cfg} {L : List Int} (s : Sized c L) {x : Op} (h : adOk c x.a = true) (hm : mayB x = true) (hk : x.k ≠ 4) :
    apP c (lay (pt c L (x.a / c.wo))) x = ((lay (pt c L (x.a / c.wo))).put (x.a % c.wo).toNat (lft (wrd L x.a) x), tld (wrd L x.a) x, 0) ∧ wrP c L (x.a / c.wo) ((lay (pt c L (x.a / c.wo))).put (x.a % c.wo).toNat (lft (wrd L x.a) x)) = (0, L.set x.a.toNat (lft (wrd L x.a) x)) ∧ doP L x = ((tld (wrd L x.a) x, 0), L.set x.a.toNat (lft (wrd L x.a) x)) := by
  have hr : inR x.a L.length = true := (inR_ad s x.a) ▸ h
  have hw := (line_word s h).2
  refine ⟨by unfold apP; rw [if_pos ⟨h, hm, hk⟩, hw], ?_, doP_yes ⟨hm, hr⟩⟩
  obtain ⟨A, N, e1, e2, h1, h8, hl, e4, e5, hmod, hsum, hle, hlt, -, -⟩ := addr_in s h
  generalize lft (wrd L x.a) x = v
  have hp : (pt c L (x.a / c.wo)) = (L.drop (A / N * N)).take N := by unfold pt; rw [e4, e2, Int.toNat_natCast]
  have hpl : ((L.drop (A / N * N)).take N).length = N := by rw [List.length_take, List.length_drop]; omega
  rw [hp, e5, lay_put _ _ _ (by omega) (by omega)]
  have ht : (lay (((L.drop (A / N * N)).take N).set (A % N) v)).toL.take N = ((L.drop (A / N * N)).take N).set (A % N) v := by
    have := lay_take (((L.drop (A / N * N)).take N).set (A % N) v) (by rw [List.length_set]; omega)
    rwa [List.length_set, hpl] at this
  unfold wrP
  rw [e2, Int.toNat_natCast, ht, ← e2, if_pos ⟨hl, rfl⟩, e4, over_set L _ N _ v hmod hle, hsum, e1, Int.toNat_natCast]

end Go.Proofs.YtpknfbgnclgpmaaGreatDoor.Me

/-
  A memory in a world: its block and the block of its words; what a call on one may change; in plain words.
-/
namespace Go.Proofs.YtpknfbgnclgpmaaGreatDoor.Me
open Go Go.RowKit

theorem balloc (w : World) (o : Obj) : Below w.heap.size w (w.alloc o) := (Below.refl _ _).alloc (Nat.le_refl _) _
theorem box_at {w w1 : World} {o : Obj} (h : Below (w.alloc o).heap.size (w.alloc o) w1) : w1.heap[w.heap.size]? = some o := (h.block w.heap.size (by simp)).trans (heap_alloc_new w o)
theorem blk_cell {w : World} {b : Nat} {L : Array Value} {t : TypeId} (h : w.heap[b]? = some (.cells L t (0, 0))) (i : Nat) : w.cell? ⟨b, i, none⟩ = L[i]? := by simp [World.cell?, h]
theorem blk_free {w : World} {b : Nat} {L : Array Value} {t : TypeId} (h : w.heap[b]? = some (.cells L t (0, 0))) (i : Nat) : w.frozen? ⟨b, i, none⟩ = false := by simp [World.frozen?, h]
theorem lt_of_block {w : World} {b : Nat} {o : Obj} (h : w.heap[b]? = some o) : b < w.heap.size := (Array.getElem?_eq_some_iff.1 h).1

/-- Numbers as cells. -/
def icells (L : List Int) : List Value := L.map (Value.int .i64)
theorem icells_len (L : List Int) : (icells L).length = L.length := by simp [icells]
theorem icells_at (L : List Int) (i : Nat) (h : i < L.length) : (icells L).toArray[i]? = some (.int .i64 (L.getD i 0)) := by
  rw [List.getElem?_toArray, icells, List.getElem?_map, List.getD_eq_getElem?_getD, List.getElem?_eq_getElem h]
  rfl
theorem icells_one (L : List Int) : ∀ v ∈ icells L, v.oneCell' = true := by
  intro v hv
  obtain ⟨n, -, rfl⟩ := List.mem_map.1 hv
  rfl
/-- A memory's own block: the sizes, and the slice of its words. -/
abbrev mcells (c : Cfg) (g n : Nat) : Array Value := #[.int .i64 c.co, .int .i64 c.ho, .int .i64 c.se, .int .i64 c.wa, .int .i64 c.wo, .int .i64 c.li, .int .i64 c.po, .int .i64 c.ms, .int .i64 c.bu, .int .i64 c.wb, .int .i64 c.r0, .int .i64 c.r1, .int .i64 c.r2, .slice (some ⟨g, 0, none⟩) n n]
/-- A memory. -/
structure Mm (w : World) (b g : Nat) (c : Cfg) (L : List Int) : Prop where
  hb : w.heap[b]? = some (.cells (mcells c g L.length) 138 (0, 0))
  hg : w.heap[g]? = some (.cells (icells L).toArray 3 (0, 0))
  ne : b ≠ g
  sz : Sized c L
  fits : c.fits
theorem Mm.bl {w : World} {b g : Nat} {c : Cfg} {L : List Int} (h : Mm w b g c L) : b < w.heap.size := lt_of_block h.hb
theorem Mm.gl {w : World} {b g : Nat} {c : Cfg} {L : List Int} (h : Mm w b g c L) : g < w.heap.size := lt_of_block h.hg
theorem Mm.keep {w w' : World} {b g : Nat} {c : Cfg} {L : List Int} (h : Mm w b g c L) (h1 : w'.heap[b]? = w.heap[b]?) (h2 : w'.heap[g]? = w.heap[g]?) : Mm w' b g c L :=
  ⟨h1.trans h.hb, h2.trans h.hg, h.ne, h.sz, h.fits⟩
theorem Mm.below {w w' : World} {b g : Nat} {c : Cfg} {L : List Int} (h : Mm w b g c L) (hb : Below w.heap.size w w') : Mm w' b g c L := h.keep (hb.block b h.bl) (hb.block g h.gl)
/-- Nothing that was there has changed but one block. -/
structure TurnG (g : Nat) (w w' : World) : Prop where
  os : w'.os = w.os
  tape : w'.tape = w.tape
  output : w'.output = w.output
  size : w.heap.size ≤ w'.heap.size
  other : ∀ k, k < w.heap.size → k ≠ g → w'.heap[k]? = w.heap[k]?
theorem TurnG.of_below {g : Nat} {w w' : World} (h : Below w.heap.size w w') : TurnG g w w' := ⟨h.os, h.tape, h.output, h.size, fun k hk _ => h.block k hk⟩
theorem TurnG.trans {g : Nat} {w w1 w2 : World} (h : TurnG g w w1) (k : TurnG g w1 w2) : TurnG g w w2 :=
  ⟨k.os.trans h.os, k.tape.trans h.tape, k.output.trans h.output, Nat.le_trans h.size k.size, fun i hi h1 => (k.other i (Nat.lt_of_lt_of_le hi h.size) h1).trans (h.other i hi h1)⟩
theorem TurnG.below {g B : Nat} {w w' : World} (h : TurnG g w w') (hg : B ≤ g) (hB : B ≤ w.heap.size) : Below B w w' := ⟨h.os, h.tape, h.output, h.size, fun k hk => h.other k (by omega) (by omega)⟩
/-- What a change gives: an answer, and the words. -/
structure GaveM (w : World) (b g : Nat) (c : Cfg) (r : Value) (M : List Int) (e : Ending) (w' : World) : Prop where
  res : e = .returned r
  mm : Mm w' b g c M
  turn : TurnG g w w'
/-- The words' row is another one. -/
theorem Mm.set {w w' : World} {b g : Nat} {c : Cfg} {L M : List Int} (h : Mm w b g c L) (hM : M.length = L.length) (h1 : w'.heap[b]? = w.heap[b]?) (h2 : w'.heap[g]? = some (.cells (icells M).toArray 3 (0, 0))) : Mm w' b g c M :=
  ⟨by rw [hM]; exact h1.trans h.hb, h2, h.ne, h.sz.of_len hM, h.fits⟩

theorem GaveM.same {w w' : World} {b g : Nat} {c : Cfg} {L : List Int} (h : Mm w b g c L) (r : Value) (hb : Below w.heap.size w w') : GaveM w b g c r L (.returned r) w' := ⟨rfl, h.below hb, .of_below hb⟩

end Go.Proofs.YtpknfbgnclgpmaaGreatDoor.Me

/-
  Where a line's words are kept, how they are laid, and what Line of a memory does.
-/
namespace Go.Proofs.YtpknfbgnclgpmaaGreatDoor.Me
open Go Go.RowKit

theorem part_no {w : World} {b g : Nat} {c : Cfg} {L : List Int} (h : Mm w b g c L) (hT : Tb w) (line : Int) (hl : lnOk c line = false) :
    Calls Tryz.prog 80 #[.pointer (some ⟨b, 0, none⟩), .int .i64 line] w fun e w' => e = .returned (.tuple #[.slice none 0 0, .int .i64 1]) ∧ Below w.heap.size w w' := by
  have HJ := Lib.hid (joinS_any c line 0 w h.fits hT)
  rw [(joOk_no1 (x := 0) hl).1, (joOk_no1 (x := 0) hl).2] at HJ
  have hcc := blk_cell h.hb
  clear h hT hl
  go_enter Tryz.func80, Tryz.ntmps80
  go_wp2_with (go_at_call 116; refine HJ.out.mono ?_; rintro e w1 ⟨rfl, hb1⟩)
  go_ret2
  exact ⟨rfl, hb1⟩

theorem ret_slice {g o o' n n' c c' : Nat} (h1 : o = o') (h2 : n = n') (h3 : c = c') : Ending.returned (.tuple #[.slice (some ⟨g, o, none⟩) n c, .int .i64 0]) = .returned (.tuple #[.slice (some ⟨g, o', none⟩) n' c', .int .i64 0]) := by rw [h1, h2, h3]
set_option maxHeartbeats 1000000 in
/-- Where a line's words lie. -/
theorem part_yes {w : World} {b g : Nat} {c : Cfg} {L : List Int} (h : Mm w b g c L) (hT : Tb w) (line : Int) (hl : lnOk c line = true) {F N : Nat} (hF : line * c.wo = F) (hN : c.wo = N) (h1 : 1 ≤ N) (hle : F + N ≤ L.length) (h8 : L.length ≤ 8192) :
    Calls Tryz.prog 80 #[.pointer (some ⟨b, 0, none⟩), .int .i64 line] w fun e w' => e = .returned (.tuple #[.slice (some ⟨g, F, none⟩) N (L.length - F), .int .i64 0]) ∧ Below w.heap.size w w' := by
  have HJ := Lib.hid (joinS_any c line 0 w h.fits hT)
  have h0 : inR 0 c.wo = true := by simp [inR]; omega
  rw [(joOk_yes (x := 0) hl h0).1, (joOk_yes (x := 0) hl h0).2, hF, Int.add_zero] at HJ
  have hcc := blk_cell h.hb
  have HC : Hid (∀ w1, Below w.heap.size w w1 → w1.cell? ⟨b, 13, none⟩ = some (.slice (some ⟨g, 0, none⟩) L.length L.length) ∧ w1.cell? ⟨b, 4, none⟩ = some (.int .i64 (N : Int))) := Lib.hid (fun w1 hb => by
    have q4 := blk_cell (h.below hb).hb 4
    have q13 := blk_cell (h.below hb).hb 13
    simp at q4 q13
    rw [hN] at q4
    exact ⟨q13, q4⟩)
  clear h hT hl hF h0 hN
  generalize L.length = n at *
  have hFn : F < n := by omega
  have hbig : (F : Int) + (N : Int) ≤ 9223372036854775807 := by omega
  clear h8
  go_enter Tryz.func80, Tryz.ntmps80
  go_wp2_with (go_at_call 116; refine HJ.out.mono ?_; rintro e w1 ⟨rfl, hb1⟩)
  obtain ⟨c13, c4⟩ := HC.out _ hb1
  go_region
  all_goals
    go_wp2
    go_ret2
    refine ⟨?_, hb1.drew⟩
    exact ret_slice (by omega) (by omega) (by omega)

/-- Eight cells of 0. -/
def zs : List Value := (dcells d0).toList
theorem lay_splice (l : List Int) (h : l.length ≤ 8) : (splice zs 0 (icells l)).toArray = dcells (lay l) := by
  match l, h with
  | [], _ | [_], _ | [_, _], _ | [_, _, _], _ | [_, _, _, _], _ | [_, _, _, _, _], _ | [_, _, _, _, _, _], _ | [_, _, _, _, _, _, _], _ | [_, _, _, _, _, _, _, _], _ => rfl
  | _ :: _ :: _ :: _ :: _ :: _ :: _ :: _ :: _ :: l, h => simp at h

theorem add_plain (g o j : Nat) : (⟨g, o, none⟩ : Addr).add j = ⟨g, o + j, none⟩ := by simp [Addr.add]

set_option maxHeartbeats 1000000 in
theorem laid_any (l : List Int) (h8 : l.length ≤ 8) (gs o cap : Nat) (w : World) (hs : w.rangeAt gs o (icells l)) :
    Calls Tryz.prog 81 #[.slice (some ⟨gs, o, none⟩) l.length cap] w fun e w' => e = .returned (.agg (dcells (lay l))) ∧ Below w.heap.size w w' := by
  obtain ⟨D, hD⟩ : ∃ D, D = lay l := ⟨_, rfl⟩
  have HL := Lib.hid (lay_splice l h8)
  rw [← hD] at HL
  rw [← hD]
  have H1 := Lib.hid (icells_one l)
  have HN := Lib.hid (icells_len l)
  have H0 := Lib.hid (heap_alloc_new w (.cells (dcells d0) 36))
  have HS : Hid (∀ (o1 o2 : Obj) (j : Nat) (v : Value), (icells l)[j]? = some v → ((w.alloc o1).alloc o2).cell? ((⟨gs, o, none⟩ : Addr).add j) = some v) := Lib.hid (fun o1 o2 j v hv => by
    rw [add_plain]
    exact Lib.cell?_alloc_some _ (Lib.cell?_alloc_some _ (hs j v hv)))
  clear hs hD
  generalize icells l = cs at *
  generalize l.length = N at *
  go_enter Tryz.func81, Tryz.ntmps81
  go_wp2_with (first | ((with_reducible refine wpList_copy_splice (o := ⟨some 6, _, _, _, _, _⟩) rfl (.tmp 4) (.tmp 5) 61 61 rfl 3 Tryz.underlying61 ?sz (some ⟨w.heap.size + 1, 0, none⟩) (some ⟨gs, o, none⟩) 8 8 N cap ?hd ?hs (w.heap.size + 1) 0 zs 36 ?hg cs ?hn ?hp ?hf H1.out (w.heap.size + 1) ((w.alloc (.cells (dcells d0) 36)).alloc (.cells (dcells d0) 36)) ?hb ?hB ?_); (case sz => kernel_rfl); (case hd => rfl); (case hs => rfl); (case hg => exact heap_alloc2_new w _ _); (case hn => rw [HN.out]; exact (Nat.min_eq_left h8).symm); (case hp => exact fun _ => ⟨rfl, _, rfl, HS.out _ _⟩); (case hf => show 0 + cs.length ≤ 8; rw [HN.out]; omega); (case hb => exact Below.refl _ _); (case hB => exact Nat.le_refl _); intro w2 HG2 hB2; rw [HL.out] at HG2; have hcc := blk_cell HG2.out; have h2 : w2.heap[w.heap.size]? = some (.cells (dcells d0) 36 (0, 0)) := (hB2.block w.heap.size (by omega)).trans ((heap_alloc_old _ _ (by simp)).trans H0.out)) | ((with_reducible refine wpList_store_row (o := ⟨none, _, _, _, _, _⟩) rfl 36 (.tmp 2) (.tmp 7) rfl w.heap.size (dcells D) ?sx ?sy 36 ?old ?sg ?si ?so ?s1 ?_); (case sx => rfl); (case sy => rfl); (case old => exact dcells d0); (case sg => exact h2); (case si => kernel_rfl); (case so => rfl); (case s1 => kernel_rfl)))
  refine bodyPost_ret (v := .agg (dcells D)) ?_ rfl ⟨rfl, ?_⟩
  · exact results_cell_row Tryz.results81 _ _ w.heap.size 36 _ (0, 0) _ rfl (setRow_heap _ _ _ _ _ _ h2) Tryz.underlying36 rfl (by kernel_rfl)
  · exact below_setRow (((balloc w _).alloc (by simp) _).trans (hB2.mono (by omega))) (Nat.le_refl _) _

end Go.Proofs.YtpknfbgnclgpmaaGreatDoor.Me

/-
  Words compared; and what Line and Write of a memory do.
-/
namespace Go.Proofs.YtpknfbgnclgpmaaGreatDoor.Me
open Go Go.RowKit

theorem A3 : (Tryz.prog.info? 3).map (fun i => (i.zero, i.size, i.bytes)) = some (some (.int .i64 0), 1, 8) := by kernel_rfl
/-- Are words the same? -/
def eqW (x y : Wd) : Bool := x.a0 == y.a0 && (x.a1 == y.a1 && (x.a2 == y.a2 && (x.a3 == y.a3 && (x.a4 == y.a4 && (x.a5 == y.a5 && (x.a6 == y.a6 && x.a7 == y.a7))))))
theorem eqW_iff {x y : Wd} : eqW x y = true ↔ x = y := by
  cases x; cases y
  simp [eqW]
theorem eqW_self (x : Wd) : eqW x x = true := eqW_iff.2 rfl
theorem words_eq (d : Nat) (x y : Wd) (w : World) : (Op.equalIn (d + 2) 36 (.agg (dcells x)) (.agg (dcells y))).run Tryz.prog w = .ok (eqW x y) w := by
  obtain ⟨i0, hi0, hz0, hz1, hz2⟩ := info_parts A3
  rw [run_equalIn_array w (d + 1) _ _ Tryz.underlying36 hi0]
  have hc3 : Tryz.prog.cellsOf 3 = 1 := by kernel_rfl
  rw [hc3]
  have hu := Tryz.underlying3
  obtain ⟨x0, x1, x2, x3, x4, x5, x6, x7⟩ := x
  obtain ⟨y0, y1, y2, y3, y4, y5, y6, y7⟩ := y
  simp [Op.eqItems, List.range, List.range.loop, go_sem, eqW]
  by_cases h0 : x0 = y0
  · by_cases h1 : x1 = y1
    · by_cases h2 : x2 = y2
      · by_cases h3 : x3 = y3
        · by_cases h4 : x4 = y4
          · by_cases h5 : x5 = y5
            · by_cases h6 : x6 = y6
              · by_cases h7 : x7 = y7 <;> simp [h0, h1, h2, h3, h4, h5, h6, h7]
              · simp [h0, h1, h2, h3, h4, h5, h6]
            · simp [h0, h1, h2, h3, h4, h5]
          · simp [h0, h1, h2, h3, h4]
        · simp [h0, h1, h2, h3]
      · simp [h0, h1, h2]
    · simp [h0, h1]
  · simp [h0]
theorem words_eql (x y : Wd) (w : World) : (binOp .eql 36 (.agg (dcells x)) (.agg (dcells y))).run Tryz.prog w = .ok (.bool (eqW x y)) w := by
  have ha := fun d => words_eq d x y
  simp [go_sem, ha]
theorem words_neq (x y : Wd) (w : World) : (binOp .neq 36 (.agg (dcells x)) (.agg (dcells y))).run Tryz.prog w = .ok (.bool (!eqW x y)) w := by
  have ha := fun d => words_eq d x y
  simp [go_sem, ha]

theorem results_cell_three {P : Program} {fn : Func} {p q r : Tmp} {ty : TypeId} (h : fn.results = #[.cell p ty, .tmp q, .tmp r]) (tmps : Array Value) (w : World) (g : Nat) (t : TypeId) (cs : Array Value) (fr : Nat × Nat) (d : TypeDesc)
    (hp : tmps.getD p undef = .pointer (some ⟨g, 0, none⟩)) (hg : w.heap[g]? = some (.cells cs t fr))
    (hu : P.underlying ty = some d) (hd : (match d with | .struct _ | .array _ _ => true | _ => false) = true) (hi : (P.info? ty).map (·.size) = some cs.size) :
    (results fn tmps).run P w = .ok (.tuple #[.agg cs, tmps.getD q undef, tmps.getD r undef]) w := by
  have hp' : tmps[p]?.getD undef = .pointer (some ⟨g, 0, none⟩) := by simpa using hp
  simp [results, h, hp', asAddr, run_loadVar_row w g t ty cs fr d hg hu hd hi]
theorem results_cell_two {P : Program} {fn : Func} {p q : Tmp} {ty : TypeId} (h : fn.results = #[.cell p ty, .tmp q]) (tmps : Array Value) (w : World) (g : Nat) (t : TypeId) (cs : Array Value) (fr : Nat × Nat) (d : TypeDesc)
    (hp : tmps.getD p undef = .pointer (some ⟨g, 0, none⟩)) (hg : w.heap[g]? = some (.cells cs t fr))
    (hu : P.underlying ty = some d) (hd : (match d with | .struct _ | .array _ _ => true | _ => false) = true) (hi : (P.info? ty).map (·.size) = some cs.size) :
    (results fn tmps).run P w = .ok (.tuple #[.agg cs, tmps.getD q undef]) w := by
  have hp' : tmps[p]?.getD undef = .pointer (some ⟨g, 0, none⟩) := by simpa using hp
  simp [results, h, hp', asAddr, run_loadVar_row w g t ty cs fr d hg hu hd hi]

/-- What Line gives. -/
def RetL (w : World) (d : Wd) (k : Int) (e : Ending) (w' : World) : Prop := e = .returned (.tuple #[.agg (dcells d), .int .i64 k]) ∧ Below w.heap.size w w'
theorem line_ret {w wr : World} {d : Wd} {k : Int} {a : Act} {g : Nat} (hp : a.tmps.getD 4 undef = .pointer (some ⟨g, 0, none⟩)) (hk : a.tmps.getD 5 undef = .int .i64 k) (hd : a.defers = []) (hg : wr.heap[g]? = some (.cells (dcells d) 36 (0, 0))) (hb : Below w.heap.size w wr) :
    bodyPost Tryz.prog Tryz.f49 (RetL w d k) Exit.ret a wr :=
  bodyPost_ret (v := .tuple #[.agg (dcells d), a.tmps.getD 5 undef]) (results_cell_two Tryz.results49 _ _ g 36 _ (0, 0) _ hp hg Tryz.underlying36 rfl (by kernel_rfl)) hd ⟨by rw [hk], hb⟩

theorem laidN (l : List Int) (N : Nat) (hN : l.length = N) (h8 : N ≤ 8) (gs o cap : Nat) (w : World) (hs : w.rangeAt gs o (icells l)) :
    Calls Tryz.prog 81 #[.slice (some ⟨gs, o, none⟩) N cap] w fun e w' => e = .returned (.agg (dcells (lay l))) ∧ Below w.heap.size w w' := by
  subst hN
  exact laid_any l h8 gs o cap w hs
/-- A line's cells. -/
theorem Mm.line {w : World} {b g : Nat} {c : Cfg} {L : List Int} (h : Mm w b g c L) (F N : Nat) : w.rangeAt g F (icells ((L.drop F).take N)) := by
  intro j v hv
  rw [blk_cell h.hg, List.getElem?_toArray, icells, List.getElem?_map]
  rw [icells, List.getElem?_map, List.getElem?_take] at hv
  split at hv
  · rwa [List.getElem?_drop] at hv
  · simp at hv

theorem line_no {w : World} {b g : Nat} {c : Cfg} {L : List Int} (h : Mm w b g c L) (hT : Tb w) (line : Int) (hl : lnOk c line = false) :
    Calls Tryz.prog 49 #[.pointer (some ⟨b, 0, none⟩), .int .i64 line] w (RetL w d0 1) := by
  have HP := Lib.hid (fun o => part_no (h.below (balloc w o)) (hT.keeps (balloc w o)) line hl)
  clear h hT hl
  go_enter Tryz.func49, Tryz.ntmps49
  go_wp2_with (first
    | (go_at_call 80; refine (HP.out _).mono ?_; rintro e w1 ⟨rfl, hb1⟩)
    | ((with_reducible refine wpList_store_row (o := ⟨none, _, _, _, _, _⟩) rfl 36 (.tmp 4) (.tmp 16) rfl w.heap.size (dcells d0) ?sx ?sy 36 ?old ?sg ?si ?so ?s1 ?_); (case sx => rfl); (case sy => rfl); (case old => exact dcells d0); (case sg => exact box_at hb1); (case si => kernel_rfl); (case so => rfl); (case s1 => kernel_rfl)))
  exact line_ret rfl rfl rfl (setRow_heap _ _ _ _ _ _ (box_at hb1)) (below_setRow (bbox hb1) (Nat.le_refl _) _)
theorem line_yes {w : World} {b g : Nat} {c : Cfg} {L : List Int} (h : Mm w b g c L) (hT : Tb w) (line : Int) (hl : lnOk c line = true) :
    Calls Tryz.prog 49 #[.pointer (some ⟨b, 0, none⟩), .int .i64 line] w (RetL w (lay (pt c L line)) 0) := by
  obtain ⟨F, N, e1, e2, e3, h1, h8, hF, hn⟩ := line_in h.sz hl
  have HP := Lib.hid (fun o => part_yes (h.below (balloc w o)) (hT.keeps (balloc w o)) line hl e2 e3 h1 hF hn)
  have hp : pt c L line = (L.drop F).take N := by unfold pt; rw [e1, e3, Int.toNat_natCast]
  rw [hp]
  have hpl : ((L.drop F).take N).length = N := by rw [List.length_take, List.length_drop]; omega
  have HL := Lib.hid (fun w1 (hb : Below w.heap.size w w1) => laidN ((L.drop F).take N) N hpl h8 g F (L.length - F) w1 ((h.below hb).line F N))
  obtain ⟨D, hD⟩ : ∃ D, D = lay ((L.drop F).take N) := ⟨_, rfl⟩
  rw [← hD] at HL ⊢
  clear h hT hl e1 e2 e3 hp hpl hD
  generalize L.length - F = q at *
  go_enter Tryz.func49, Tryz.ntmps49
  go_wp2_with (first
    | (go_at_call 80; refine (HP.out _).mono ?_; rintro e w1 ⟨rfl, hb1⟩)
    | (go_at_call 81; refine (HL.out _ (bbox hb1)).mono ?_; rintro e w2 ⟨rfl, hb2⟩)
    | ((with_reducible refine wpList_store_row (o := ⟨none, _, _, _, _, _⟩) rfl 36 (.tmp 4) (.tmp 19) rfl w.heap.size (dcells D) ?sx ?sy 36 ?old ?sg ?si ?so ?s1 ?_); (case sx => rfl); (case sy => rfl); (case old => exact dcells d0); (case sg => exact (hb2.block _ (zbox hb1)).trans (box_at hb1)); (case si => kernel_rfl); (case so => rfl); (case s1 => kernel_rfl)))
  exact line_ret rfl rfl rfl (setRow_heap _ _ _ _ _ _ ((hb2.block _ (zbox hb1)).trans (box_at hb1))) (below_setRow (bstep (bbox hb1) hb2) (Nat.le_refl _) _)
/-- Line. -/
theorem line_any2 {w : World} {b g : Nat} {c : Cfg} {L : List Int} (h : Mm w b g c L) (hT : Tb w) (line : Int) :
    Calls Tryz.prog 49 #[.pointer (some ⟨b, 0, none⟩), .int .i64 line] w (RetL w (lnP c L line).1 (lnP c L line).2) := by
  unfold lnP
  rcases Bool.eq_false_or_eq_true (lnOk c line) with hl | hl
  · rw [if_pos hl]
    exact line_yes h hT line hl
  · rw [if_neg (by simp [hl])]
    exact line_no h hT line hl

end Go.Proofs.YtpknfbgnclgpmaaGreatDoor.Me

/-
  What Write of a memory does.
-/
namespace Go.Proofs.YtpknfbgnclgpmaaGreatDoor.Me
open Go Go.RowKit

/-- The first N words of a box. -/
theorem slice_to (b N : Nat) (h8 : N ≤ 8) (w : World) : (Instr.sliceAt 36 (.pointer (some ⟨b, 0, none⟩)) none (some (.int .i64 (N : Int))) none).run Tryz.prog w = .ok (.slice (some ⟨b, 0, none⟩) N 8) w := by
  rcases (show N = 0 ∨ N = 1 ∨ N = 2 ∨ N = 3 ∨ N = 4 ∨ N = 5 ∨ N = 6 ∨ N = 7 ∨ N = 8 by omega) with rfl | rfl | rfl | rfl | rfl | rfl | rfl | rfl | rfl
  all_goals kernel_rfl
theorem box_range {w : World} {b : Nat} {d : Wd} (h : w.heap[b]? = some (.cells (dcells d) 36 (0, 0))) (N : Nat) : w.rangeAt b 0 (icells (d.toL.take N)) := by
  intro j v hv
  rw [blk_cell h, Nat.zero_add]
  rw [icells, List.getElem?_map, List.getElem?_take] at hv
  split at hv
  · rw [← List.getElem?_map] at hv
    rw [← hv, ← List.getElem?_toArray]
    rfl
  · simp at hv
/-- The call's own words in their box. -/
structure Wq (w : World) (d : Wd) (w' : World) : Prop where
  bx : w'.heap[w.heap.size]? = some (.cells (dcells d) 36 (0, 0))
  bl : Below w.heap.size w w'
theorem Wq.step {w w' w'' : World} {d : Wd} (h : Wq w d w') (hb : Below w'.heap.size w' w'') : Wq w d w'' := ⟨(hb.block _ (lt_of_block h.bx)).trans h.bx, bstep h.bl hb⟩
theorem Wq.drew {w w' : World} {d : Wd} (h : Wq w d w') : Wq w d w'.drew := ⟨h.bx, h.bl.drew⟩
theorem wpList_copy_row {P : Program} {w : World} {ops : Array Oper} {rest : List Oper} {o : Oper} {a : Act} {Q : Exit → Act → World → Prop} (hgd : o.guard = none) (d s : Operand) (dT sT : TypeId)
    (ho : o.op = .call { callee := .builtin .copy, args := #[d, s], argTypes := #[dT, sT] }) (elem : TypeId) (hu : P.underlying dT = some (.slice elem)) (hsz : (P.info? elem).map (·.size) = some 1)
    (g off dLen dCap : Nat) (ad : Addr) (sLen sCap : Nat) (hd : a.eval d = .slice (some ⟨g, off, none⟩) dLen dCap) (hs : a.eval s = .slice (some ad) sLen sCap)
    (cur : List Value) (t : TypeId) (hg : w.heap[g]? = some (.cells cur.toArray t (0, 0))) (cs : List Value) (hn : cs.length = Nat.min sLen dLen)
    (hsrc : ∀ j v, cs[j]? = some v → w.cell? (ad.add j) = some v) (hfit : off + cs.length ≤ cur.length) (h1 : ∀ v ∈ cs, v.oneCell' = true)
    (h : ∀ w', w.setRow g (splice cur off cs).toArray = w' → wpList P ops Q rest (a.put o.dst (goInt cs.length)) w') : wpList P ops Q (o :: rest) a w :=
  wpList_copy_own hgd d s dT sT ho elem hu hsz g off dLen dCap ad sLen sCap hd hs cur.toArray t hg cs hn hsrc (by simpa using hfit) h1 (h _ rfl)
/-- A line is written. -/
theorem gave_row {w w1 w2 : World} {b g : Nat} {c : Cfg} {L : List Int} (h : Mm w b g c L) (r : Value) (F : Nat) (l : List Int) (hF : F + l.length ≤ L.length) (hb : Below w.heap.size w w1) (e2 : w1.setRow g (splice (icells L) F (icells l)).toArray = w2) :
    GaveM w b g c r (over L F l) (.returned r) w2 := by
  subst e2
  have h1 := h.below hb
  have e : splice (icells L) F (icells l) = icells (over L F l) := by
    simp [splice, icells, over]
  rw [e]
  refine ⟨rfl, h1.set (over_len _ _ _ hF) (setRow_other w1 g b _ h.ne) (setRow_heap _ _ _ _ _ _ h1.hg), ⟨hb.os, hb.tape, hb.output, by simpa using hb.size, fun k hk hne => (setRow_other w1 g k _ hne).trans (hb.block k hk)⟩⟩

theorem write_no {w : World} {b g : Nat} {c : Cfg} {L : List Int} (h : Mm w b g c L) (hT : Tb w) (line : Int) (d : Wd) (hl : lnOk c line = false) :
    Calls Tryz.prog 101 #[.pointer (some ⟨b, 0, none⟩), .int .i64 line, .agg (dcells d)] w (GaveM w b g c (.int .i64 1) L) := by
  have HP := Lib.hid (fun o => part_no (h.below (balloc w o)) (hT.keeps (balloc w o)) line hl)
  have HE := Lib.hid (fun w' => GaveM.same (w' := w') h (.int .i64 1))
  clear h hT hl
  go_enter Tryz.func101, Tryz.ntmps101
  go_wp2_with (go_at_call 80; refine (HP.out _).mono ?_; rintro e w1 ⟨rfl, hb1⟩)
  go_ret
  exact HE.out _ (bbox hb1)

set_option maxRecDepth 100000 in
set_option maxHeartbeats 4000000 in
theorem write_yes {w : World} {b g : Nat} {c : Cfg} {L : List Int} (h : Mm w b g c L) (hT : Tb w) (line : Int) (d : Wd) (hl : lnOk c line = true) :
    Calls Tryz.prog 101 #[.pointer (some ⟨b, 0, none⟩), .int .i64 line, .agg (dcells d)] w (GaveM w b g c (.int .i64 (wrP c L line d).1) (wrP c L line d).2) := by
  obtain ⟨F, N, e1, e2, e3, h1, h8, hF, hn⟩ := line_in h.sz hl
  have HP := Lib.hid (fun o => part_yes (h.below (balloc w o)) (hT.keeps (balloc w o)) line hl e2 e3 h1 hF hn)
  have hdl : (d.toL.take N).length = N := by rw [List.length_take, Wd.len]; omega
  have HL := Lib.hid (fun (w1 : World) (hb : w1.heap[w.heap.size]? = some (.cells (dcells d) 36 (0, 0))) => laidN (d.toL.take N) N hdl h8 w.heap.size 0 8 w1 (box_range hb N))
  have hw : wrP c L line d = if eqW (lay (d.toL.take N)) d = true then (0, over L F (d.toL.take N)) else (1, L) := by
    unfold wrP
    rw [e3, Int.toNat_natCast]
    by_cases he : lay (d.toL.take N) = d
    · rw [if_pos ⟨hl, he⟩, if_pos (eqW_iff.2 he), ← e3, e1]
    · rw [if_neg (fun q => he q.2), if_neg (fun q => he (eqW_iff.1 q))]
  have hq := words_neq (lay (d.toL.take N)) d
  have hsl := slice_to w.heap.size N h8
  have hcl : ∀ {w1 : World}, Below (w.alloc (.cells (dcells d) 36)).heap.size (w.alloc (.cells (dcells d) 36)) w1 → w1.heap[w.heap.size]? = some (.cells (dcells d) 36 (0, 0)) := fun hb => box_at hb
  have HE := Lib.hid (fun w' => GaveM.same (w' := w') h (.int .i64 1))
  have HG := Lib.hid (fun w' w'' => gave_row (w1 := w') (w2 := w'') h (.int .i64 0) F (d.toL.take N) (by rw [hdl]; exact hF))
  have HM := Lib.hid (fun w1 (hb : Below w.heap.size w w1) => (h.below hb).hg)
  have HR := Lib.hid (fun (w1 : World) (hb : w1.heap[w.heap.size]? = some (.cells (dcells d) 36 (0, 0))) => box_range hb N)
  have H1 := Lib.hid (icells_one (d.toL.take N))
  have HN : Hid ((icells (d.toL.take N)).length = N) := Lib.hid ((icells_len _).trans hdl)
  have HF : Hid (F + (icells (d.toL.take N)).length ≤ (icells L).length) := Lib.hid (by rw [icells_len, hdl, icells_len]; exact hF)
  rw [hw]
  generalize icells (d.toL.take N) = cs at *
  obtain ⟨D, hD⟩ : ∃ D, D = lay (d.toL.take N) := ⟨_, rfl⟩
  rw [← hD] at HL hq ⊢
  generalize over L F (d.toL.take N) = M at *
  generalize L.length - F = q at *
  clear h hT hl e1 e2 e3 hdl hD hw hF hn
  rcases Bool.eq_false_or_eq_true (eqW D d) with he | he
  · rw [he] at hq ⊢
    simp only [if_true]
    go_enter Tryz.func101, Tryz.ntmps101
    go_wp2_with (go_at_call 80; refine (HP.out _).mono ?_; rintro e w1 ⟨rfl, hb1⟩; have L0 := Lib.hid (Wq.mk (hcl hb1) (bbox hb1)))
    have hcc := blk_cell L0.out.bx
    go_region_held3 (fun w' => (∀ o, w'.cell? ⟨w.heap.size, o, none⟩ = (dcells d)[o]?))
      (first | exact blk_cell L1.out.bx | exact hcc | go_keep)
      (first
        | (go_at_call 81; refine (HL.out _ (by first | exact L0.out.bx | exact L0.out.drew.bx)).mono ?_; rintro e w3 ⟨rfl, hb3⟩; have L1 := (by first | exact Lib.hid (L0.out.step hb3) | exact Lib.hid (L0.out.drew.step hb3)); clear hb3))
    have hcc := blk_cell L1.out.bx
    go_wp2_with ((with_reducible refine wpList_copy_row (o := ⟨some 26, _, _, _, _, _⟩) rfl (.tmp 24) (.tmp 25) 61 61 rfl 3 Tryz.underlying61 ?sz g F N q ⟨w.heap.size, 0, none⟩ 8 8 ?hd ?hs (icells L) 3 ?hg cs ?hn ?hp HF.out H1.out ?_); (case sz => kernel_rfl); (case hd => rfl); (case hs => rfl); (case hg => exact HM.out _ L1.out.bl); (case hn => rw [HN.out]; exact (Nat.min_eq_right h8).symm); (case hp => exact fun j v hv => by rw [add_plain]; exact HR.out _ L1.out.bx j v hv); intro w5 e5)
    go_ret
    exact HG.out _ _ L1.out.bl e5
  · rw [he] at hq ⊢
    simp only [Bool.false_eq_true, if_false]
    clear HG HM HR H1 HN HF
    go_enter Tryz.func101, Tryz.ntmps101
    go_wp2_with (go_at_call 80; refine (HP.out _).mono ?_; rintro e w1 ⟨rfl, hb1⟩; have L0 := Lib.hid (Wq.mk (hcl hb1) (bbox hb1)))
    have hcc := blk_cell L0.out.bx
    go_region_held3 (fun w' => (∀ o, w'.cell? ⟨w.heap.size, o, none⟩ = (dcells d)[o]?))
      (first | exact blk_cell L1.out.bx | exact hcc | go_keep)
      (first
        | (go_at_call 81; refine (HL.out _ (by first | exact L0.out.bx | exact L0.out.drew.bx)).mono ?_; rintro e w3 ⟨rfl, hb3⟩; have L1 := (by first | exact Lib.hid (L0.out.step hb3) | exact Lib.hid (L0.out.drew.step hb3)); clear hb3))
    go_wp2
    go_ret
    exact HE.out _ L1.out.bl

/-- Write. -/
theorem write_any {w : World} {b g : Nat} {c : Cfg} {L : List Int} (h : Mm w b g c L) (hT : Tb w) (line : Int) (d : Wd) :
    Calls Tryz.prog 101 #[.pointer (some ⟨b, 0, none⟩), .int .i64 line, .agg (dcells d)] w (GaveM w b g c (.int .i64 (wrP c L line d).1) (wrP c L line d).2) := by
  rcases Bool.eq_false_or_eq_true (lnOk c line) with hl | hl
  · exact write_yes h hT line d hl
  · have e : wrP c L line d = (1, L) := by unfold wrP; rw [if_neg (by simp [hl])]
    rw [e]
    exact write_no h hT line d hl

end Go.Proofs.YtpknfbgnclgpmaaGreatDoor.Me

/-
  What New of a memory does.
-/
namespace Go.Proofs.YtpknfbgnclgpmaaGreatDoor.Me
open Go Go.RowKit

theorem made_words (n : Nat) : madeCells #[Value.int .i64 0] (n * 1) = (icells (List.replicate n 0)).toArray := by
  apply Array.ext
  · simp [madeCells, icells]
  · intro i h1 h2
    simp [madeCells, icells, Nat.mod_one]

/-- What New gives. -/
def NewM (w : World) (c : Cfg) (e : Ending) (w' : World) : Prop := ∃ b g, e = .returned (.tuple #[.pointer (some ⟨b, 0, none⟩), .int .i64 0]) ∧ Mm w' b g c (List.replicate (c.wo * c.li).toNat 0) ∧ w.heap.size ≤ b ∧ w.heap.size ≤ g ∧ Below w.heap.size w w'
theorem newM_of {w w1 w2 : World} {c : Cfg} (ok : okC c = true) (hc : c.fits) {n : Nat} (hn : c.wo * c.li = (n : Int)) (hb : Below w.heap.size w w1) (h : w2.heap = ((w1.alloc (.cells (icells (List.replicate n 0)).toArray 3)).alloc (.cells (mcells c w1.heap.size n) 138)).heap) (h3 : w2.os = w1.os ∧ w2.tape = w1.tape ∧ w2.output = w1.output) :
    NewM w c (.returned (.tuple #[.pointer (some ⟨w1.heap.size + 1, 0, none⟩), .int .i64 0])) w2 := by
  have s1 : (w1.alloc (.cells (icells (List.replicate n 0)).toArray 3)).heap.size = w1.heap.size + 1 := by simp
  have h1 : w2.heap[w1.heap.size]? = some (.cells (icells (List.replicate n 0)).toArray 3 (0, 0)) := by
    rw [h, heap_alloc_old _ _ (by omega)]
    exact heap_alloc_new w1 _
  have h2 : w2.heap[w1.heap.size + 1]? = some (.cells (mcells c w1.heap.size n) 138 (0, 0)) := by
    rw [h, ← s1]
    exact heap_alloc_new _ _
  have hs : w2.heap.size = w1.heap.size + 2 := by rw [h]; simp
  have hbs := hb.size
  refine ⟨w1.heap.size + 1, w1.heap.size, rfl, ⟨?_, ?_, by omega, ⟨ok, ?_⟩, hc⟩, by omega, hbs, ⟨h3.1.trans hb.os, h3.2.1.trans hb.tape, h3.2.2.trans hb.output, by omega, fun k hk => ?_⟩⟩
  · rw [hn, Int.toNat_natCast, List.length_replicate]
    exact h2
  · rw [hn, Int.toNat_natCast]
    exact h1
  · rw [List.length_replicate, hn, Int.toNat_natCast]
  · rw [h, heap_alloc_old _ _ (by omega), heap_alloc_old _ _ (by omega)]
    exact hb.block k hk

theorem new_no (c : Cfg) (w : World) (hc : c.fits) (hok : okC c = false) :
    Calls Tryz.prog 28 #[cv c] w fun e w' => e = .returned (.tuple #[.pointer none, .int .i64 1]) ∧ Below w.heap.size w w' := by
  have HC := Lib.hid (fun w => check_any c w hc)
  have h0 : chk c = 1 := by simp [chk, hok]
  rw [h0] at HC
  clear hc hok
  go_enter Tryz.func28, Tryz.ntmps28
  go_wp2_with (go_at_call 65; refine (HC.out _).mono ?_; rintro e w1 ⟨rfl, hb1⟩)
  go_ret2
  exact ⟨rfl, bbox hb1⟩

/-- The sizes in their box. -/
structure Cq (w : World) (c : Cfg) (w' : World) : Prop where
  bx : w'.heap[w.heap.size]? = some (.cells #[.int .i64 c.co, .int .i64 c.ho, .int .i64 c.se, .int .i64 c.wa, .int .i64 c.wo, .int .i64 c.li, .int .i64 c.po, .int .i64 c.ms, .int .i64 c.bu, .int .i64 c.wb, .int .i64 c.r0, .int .i64 c.r1, .int .i64 c.r2] 24 (0, 0))
  bl : Below w.heap.size w w'
theorem Cq.step {w w' w'' : World} {c : Cfg} (h : Cq w c w') (hb : Below w'.heap.size w' w'') : Cq w c w'' := ⟨(hb.block _ (lt_of_block h.bx)).trans h.bx, bstep h.bl hb⟩
theorem Cq.drew {w w' : World} {c : Cfg} (h : Cq w c w') : Cq w c w'.drew := ⟨h.bx, h.bl.drew⟩
theorem Cq.cells {w w' : World} {c : Cfg} (h : Cq w c w') (o : Nat) : w'.cell? ⟨w.heap.size, o, none⟩ = (#[.int .i64 c.co, .int .i64 c.ho, .int .i64 c.se, .int .i64 c.wa, .int .i64 c.wo, .int .i64 c.li, .int .i64 c.po, .int .i64 c.ms, .int .i64 c.bu, .int .i64 c.wb, .int .i64 c.r0, .int .i64 c.r1, .int .i64 c.r2] : Array Value)[o]? := blk_cell h.bx o

set_option maxRecDepth 100000 in
set_option maxHeartbeats 4000000 in
theorem new_yes (c : Cfg) (w : World) (hc : c.fits) (hok : okC c = true) :
    Calls Tryz.prog 28 #[cv c] w (NewM w c) := by
  have HC := Lib.hid (fun w => check_any c w hc)
  have h0 : chk c = 0 := by simp [chk, hok]
  rw [h0] at HC
  have hb := sz_bound c hok
  have hm := mul_bound _ _ hb.1 hb.2
  obtain ⟨n, hn⟩ : ∃ n : Nat, c.wo * c.li = (n : Int) := ⟨(c.wo * c.li).toNat, by omega⟩
  have hs : sz c = (n : Int) := by unfold sz; rw [if_pos hok, hn]
  have HZ := Lib.hid (fun w => size_any c w hc)
  rw [hs] at HZ
  have hn2 : n ≤ 8192 := by omega
  have hmk : ∀ w : World, (Instr.makeSlice 61 (.int .i64 (n : Int)) (.int .i64 (n : Int))).run Tryz.prog w = .ok (.slice (some ⟨w.heap.size, 0, none⟩) n n) (w.alloc (.cells (icells (List.replicate n 0)).toArray 3)) := by
    intro w
    obtain ⟨i, hi, hz, hs, hbt⟩ := info_parts A3
    have := run_make (P := Tryz.prog) w 61 3 i (.int .i64 0) Tryz.underlying61 hi hz .i64 .i64 n n (by omega) (by omega) (by rw [hbt]; omega) (by omega)
    rw [hs] at this
    rw [← made_words]
    simpa [Value.cells] using this
  have HE := Lib.hid (fun w1 w2 => newM_of (w := w) (w1 := w1) (w2 := w2) hok hc hn)
  clear hc hok h0 hb hm hn hs hn2
  go_enter Tryz.func28, Tryz.ntmps28
  go_wp2_with (go_at_call 65; refine (HC.out _).mono ?_; rintro e w1 ⟨rfl, hb1⟩; have L0 := Lib.hid (Cq.mk (box_at hb1) (bbox hb1)))
  have hcc := L0.out.cells
  go_region_held3 (fun w' => ∀ o, w'.cell? ⟨w.heap.size, o, none⟩ = (#[.int .i64 c.co, .int .i64 c.ho, .int .i64 c.se, .int .i64 c.wa, .int .i64 c.wo, .int .i64 c.li, .int .i64 c.po, .int .i64 c.ms, .int .i64 c.bu, .int .i64 c.wb, .int .i64 c.r0, .int .i64 c.r1, .int .i64 c.r2] : Array Value)[o]?)
    (first | exact L1.out.cells | exact (L1.out.step (balloc _ _)).cells | exact ((L1.out.step (balloc _ _)).step (balloc _ _)).cells | exact (L1.out.drew.step (balloc _ _)).cells | exact ((L1.out.drew.step (balloc _ _)).step (balloc _ _)).cells | exact hcc | go_keep)
    (first
      | (go_at_call 66; refine (HZ.out _).mono ?_; rintro e w3 ⟨rfl, hb3⟩; have L1 := (by first | exact Lib.hid (L0.out.step hb3) | exact Lib.hid (L0.out.drew.step hb3)); clear hb3))
  all_goals
    go_wp2
    go_ret2
    exact HE.out _ _ L1.out.bl rfl ⟨rfl, rfl, rfl⟩

end Go.Proofs.YtpknfbgnclgpmaaGreatDoor.Me
