/-
  Messages and bytes tell one another; what bytes tell, the document's way.
-/
import Derived.Test.YtdggjbaapnkcgaaMsM
namespace Go.Proofs.Ytdggjbaapnkcgaa
open Go

theorem bytesM_len (c : Cfg) (m : Msg) : (bytesM c m).length = 8 + 4 * (nw c m.kd).toNat := by
  unfold bytesM
  rw [List.length_append, head_len, wordsL_len]
theorem cnt_bytes (c : Cfg) (m : Msg) : cnt (bytesM c m) = (nw c m.kd).toNat := by
  unfold cnt
  rw [bytesM_len]
  omega
theorem wordsL_cut (m : Msg) (n k : Nat) (h : k < n) : ∃ t, wordsL m n = wordsL m k ++ (w4 (m.wd k) ++ t) := by
  induction n with
  | zero => omega
  | succ n ih =>
    rw [wordsL_more]
    by_cases e : k = n
    · subst e
      exact ⟨[], by simp⟩
    · obtain ⟨t, ht⟩ := ih (by omega)
      exact ⟨t ++ w4 (m.wd n), by rw [ht]; simp⟩
theorem word_back {c : Cfg} {m : Msg} (h : mayM c m = true) (k : Nat) (hk : k < 8) : wdN (bytesM c m) (cnt (bytesM c m)) k = m.wd k := by
  obtain ⟨_, _, _, _, hw⟩ := may_all h
  obtain ⟨h0, h1, h2⟩ := word_all hw k hk
  unfold wdN
  rw [cnt_bytes]
  split
  · rename_i hlt
    obtain ⟨t, ht⟩ := wordsL_cut m (nw c m.kd).toNat k hlt
    unfold bytesM
    rw [ht, ← List.append_assoc]
    exact rd4_w4 _ _ _ (by rw [List.length_append, head_len, wordsL_len]) h0 h1
  · rcases h2 with h2 | h2
    · exact h2.symm
    · omega
theorem two_of (x : Int) : x / 256 * 256 + x % 256 = x := by omega
/-- A message that may be is told by its bytes. -/
theorem tell_bytes {c : Cfg} {m : Msg} (h : mayM c m = true) : tellN (bytesM c m) (cnt (bytesM c m)) = m := by
  obtain ⟨⟨a1, a2⟩, ⟨b1, b2⟩, ⟨c1, c2⟩, ⟨d1, d2⟩, ⟨e1, e2⟩, ⟨f1, f2⟩, g1, g2⟩ := may_bytes h
  have w := word_back h
  have e : ∀ k, k < 8 → at8 (bytesM c m) k = n8' ((headB m).getD k 0) := fun k hk => by
    unfold at8 bytesM
    rw [List.getD_eq_getElem?_getD, List.getElem?_append_left (by rw [head_len]; exact hk), ← List.getD_eq_getElem?_getD]
  unfold tellN
  rw [w 0 (by omega), w 1 (by omega), w 2 (by omega), w 3 (by omega), w 4 (by omega), w 5 (by omega), w 6 (by omega), w 7 (by omega)]
  rw [e 0 (by omega), e 1 (by omega), e 2 (by omega), e 3 (by omega), e 4 (by omega), e 5 (by omega), e 6 (by omega), e 7 (by omega)]
  simp only [headB, List.getD_cons_zero, List.getD_cons_succ]
  rw [n8_u8' (by omega) (by omega), n8_u8' (by omega) (by omega), n8_u8' (by omega) (by omega), n8_u8' (by omega) (by omega), n8_u8' (by omega) (by omega), n8_u8' (by omega) (by omega), n8_u8' (by omega) (by omega), n8_u8' (by omega) (by omega), two_of]
  cases m
  rfl
theorem fit_bytes {c : Cfg} {m : Msg} (h : mayM c m = true) : fitL c (bytesM c m) = true := by
  obtain ⟨hc, _, hk, _, _⟩ := may_all h
  have hn := nw_bound hc m.kd
  have e : at8 (bytesM c m) 0 = m.kd := congrArg Msg.kd (tell_bytes h)
  unfold fitL
  rw [e, bytesM_len, hk]
  simp
  omega
/-- There and back. -/
theorem take_put {c : Cfg} {m : Msg} (h : mayM c m = true) : takM c (bytesM c m) = (m, 0) := by
  have ht : tkB c (bytesM c m) = true := by
    unfold tkB
    rw [(may_all h).1, fit_bytes h, tell_bytes h, h]
    rfl
  unfold takM
  rw [if_pos ht, tell_bytes h]

theorem wd_tell (s : List UInt8) (n k : Nat) (h : k < 8) : (tellN s n).wd k = wdN s n k := by
  rcases (show k = 0 ∨ k = 1 ∨ k = 2 ∨ k = 3 ∨ k = 4 ∨ k = 5 ∨ k = 6 ∨ k = 7 by omega) with rfl | rfl | rfl | rfl | rfl | rfl | rfl | rfl <;> rfl
theorem four_bytes (a b d e : UInt8) : w4 (sig (((n8' a * 256 + n8' b) * 256 + n8' d) * 256 + n8' e)) = [a, b, d, e] := by
  have ha := n8_in a; have hb := n8_in b; have hd := n8_in d; have he := n8_in e
  unfold w4
  rw [unsig_sig (by omega) (by omega), show (((n8' a * 256 + n8' b) * 256 + n8' d) * 256 + n8' e) / 16777216 = n8' a by omega, show (((n8' a * 256 + n8' b) * 256 + n8' d) * 256 + n8' e) / 65536 % 256 = n8' b by omega,
    show (((n8' a * 256 + n8' b) * 256 + n8' d) * 256 + n8' e) / 256 % 256 = n8' d by omega, show (((n8' a * 256 + n8' b) * 256 + n8' d) * 256 + n8' e) % 256 = n8' e by omega, u8_n8', u8_n8', u8_n8', u8_n8']
theorem getD_mem (s : List UInt8) (j : Nat) (h : j < s.length) : s[j]? = some (s.getD j 0) := by
  rw [List.getD_eq_getElem?_getD, List.getElem?_eq_getElem h]; rfl
theorem take_one (s : List UInt8) (j : Nat) (h : j < s.length) : s.take (j + 1) = s.take j ++ [s.getD j 0] := by
  rw [List.take_add_one, getD_mem s j h]; rfl
theorem w4_rd4 (s : List UInt8) (j : Nat) (h : j + 3 < s.length) : s.take j ++ w4 (rd4 s j) = s.take (j + 4) := by
  unfold rd4 at8
  rw [four_bytes, show j + 4 = j + 1 + 1 + 1 + 1 from rfl, take_one s _ (by omega), take_one s _ (by omega), take_one s _ (by omega), take_one s _ (by omega)]
  simp
theorem words_tell (s : List UInt8) (n : Nat) (hn : n ≤ 8) (hs : s.length = 8 + 4 * n) : ∀ k, k ≤ n → s.take 8 ++ wordsL (tellN s n) k = s.take (8 + 4 * k)
  | 0, _ => by simp [wordsL]
  | k + 1, h => by
    rw [wordsL_more, ← List.append_assoc, words_tell s n hn hs k (by omega), wd_tell s n k (by omega)]
    unfold wdN
    rw [if_pos (by omega), w4_rd4 s _ (by omega)]
    rfl
theorem head_tell (s : List UInt8) (n : Nat) (h : 8 ≤ s.length) : headB (tellN s n) = s.take 8 := by
  match s, h with
  | a0 :: a1 :: a2 :: a3 :: a4 :: a5 :: a6 :: a7 :: r, _ =>
    have h1 := n8_in a1
    have h2 := n8_in a2
    simp only [headB, tellN, at8, List.getD_cons_zero, List.getD_cons_succ, List.take_succ_cons, List.take_zero]
    rw [show (n8' a1 * 256 + n8' a2) / 256 = n8' a1 by omega, show (n8' a1 * 256 + n8' a2) % 256 = n8' a2 by omega, u8_n8', u8_n8', u8_n8', u8_n8', u8_n8', u8_n8', u8_n8', u8_n8']
theorem fit_all {c : Cfg} {s : List UInt8} (hc : okC c = true) (h : fitL c s = true) : isKind (at8 s 0) = true ∧ cnt s = (nw c (at8 s 0)).toNat ∧ s.length = 8 + 4 * cnt s ∧ cnt s ≤ 8 := by
  have hn := nw_bound hc (at8 s 0)
  unfold fitL at h
  simp only [Bool.and_eq_true, decide_eq_true_eq] at h
  obtain ⟨_, h1, h2⟩ := h
  have : cnt s = (nw c (at8 s 0)).toNat := by unfold cnt; omega
  exact ⟨h1, this, by omega, by omega⟩
theorem bytes_fit {c : Cfg} {s : List UInt8} (hc : okC c = true) (h : fitL c s = true) : bytesM c (tellN s (cnt s)) = s := by
  obtain ⟨_, h1, h2, h3⟩ := fit_all hc h
  have hw := words_tell s (cnt s) h3 h2 (cnt s) (Nat.le_refl _)
  unfold bytesM
  rw [show (tellN s (cnt s)).kd = at8 s 0 from rfl, ← h1, head_tell s _ (by omega), hw, List.take_of_length_le (by omega)]
theorem tk_all {c : Cfg} {s : List UInt8} (h : tkB c s = true) : okC c = true ∧ fitL c s = true ∧ mayM c (tellN s (cnt s)) = true := by
  unfold tkB at h
  simpa only [Bool.and_eq_true] using h
/-- What bytes tell has these. -/
theorem bytes_tell {c : Cfg} {s : List UInt8} (h : tkB c s = true) : putM c (tellN s (cnt s)) = (s, 0) := by
  obtain ⟨hc, hf, hm⟩ := tk_all h
  unfold putM
  rw [if_pos hm, bytes_fit hc hf]
/-- The document's way: they are as many as they may be, a message is guessed, it may be, and it has these bytes. -/
theorem doc_iff (c : Cfg) (s : List UInt8) : tkB c s = true ↔ (8 ≤ s.length ∧ s.length ≤ 40) ∧ (mayM c (tellN s (cnt s)) = true ∧ bytesM c (tellN s (cnt s)) = s) := by
  constructor
  · intro h
    obtain ⟨hc, hf, hm⟩ := tk_all h
    obtain ⟨_, h1, h2, h3⟩ := fit_all hc hf
    exact ⟨by omega, hm, bytes_fit hc hf⟩
  · rintro ⟨_, hm, hb⟩
    have hf := fit_bytes hm
    rw [hb] at hf
    unfold tkB
    rw [(may_all hm).1, hf, hm]
    rfl
/-- A word that bytes tell, the document's way. -/
theorem wdN_eq (s : List UInt8) (k : Nat) : wdN s (cnt s) k = wdB s k := by
  unfold wdN wdB cnt
  by_cases h : k < (s.length - 8) / 4
  · rw [if_pos h, if_pos (by omega)]
  · rw [if_neg h, if_neg (by omega)]

end Go.Proofs.Ytdggjbaapnkcgaa
