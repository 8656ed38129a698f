/-
  The document's array, further: Lines.
-/
import Derived.Test.YtldbepaclddgmaaDoorArR
namespace Go.Proofs.YtldbepaclddgmaaDoor
open Go Go.RowKit Go.Sort

theorem refL_succ (L : List Wy) (k : Nat) : refL L (k + 1) = refL L k ++ if (plcR L (k : Int)).isSome = true then [(k : Int)] else [] := by
  unfold refL
  rw [List.range_succ, List.map_append, List.filter_append]
  congr 1
  simp only [List.map_cons, List.map_nil, List.filter_cons, List.filter_nil]
theorem refL_len (L : List Wy) (k : Nat) : (refL L k).length ≤ k := by
  unfold refL
  have := List.length_filter_le (fun l => (plcR L l).isSome) ((List.range k).map fun i : Nat => (i : Int))
  simpa using this

set_option maxHeartbeats 1000000 in
theorem refLines_any {w : World} {b g : Nat} {c : Cfg} {L : List Wy} (h : Ar w b g c L) :
    Calls Tryd.prog 19 #[.pointer (some ⟨b, 0, none⟩)] w (GaveL w (refL L c.li.toNat)) := by
  obtain ⟨i0, hi0, hz0, hz1, hz2⟩ := info_parts A3
  have hw := (ok_ways h.sz.ok).2.2.2
  have HP := Lib.hid (fun (w1 : World) (hb : Below w.heap.size w w1) (k : Nat) => place_any (h.below hb) (k : Int))
  have HH := Lib.hid (fun (w1 : World) (hb : Below w.heap.size w w1) => (h.below hb).hd 5)
  obtain ⟨n, hn⟩ : ∃ n : Nat, c.li = n := ⟨c.li.toNat, by omega⟩
  have hnn : c.li.toNat = n := by omega
  rw [hnn]
  have HN := Lib.hid hn
  have hn2 : n ≤ 1024 := by omega
  clear h hw hnn hn
  go_enter Tryd.func19, Tryd.ntmps19
  go_wp2
  go_loopw [3, 4] (fun v i wr => ∃ k : Nat, k ≤ n ∧ i = .int .i64 k ∧ wr.ownsRow w.heap.size 3 1 v (refL L k).length (ints (refL L k)) ∧ Below w.heap.size w wr) (fun _ i _ => n - (intOf i).toNat)
  case atStart =>
    refine ⟨0, Nat.zero_le _, rfl, ?_, (Below.refl _ _).alloc (Nat.le_refl _) _⟩
    have := World.ownsRow_made (base := w.heap.size) (e := 3) (size := 1) w #[] 0 (by simp) (by decide) (by simp)
    simpa [refL] using this
  case round =>
    obtain ⟨k, hk, rfl, hown, hb⟩ := hrel
    have HW := Lib.hid hown
    have h5 := HH.out wr hb
    simp at h5
    rw [HN.out] at h5
    have HC := Lib.hid (HP.out wr hb k)
    clear hown
    by_cases hlt : k < n
    · have hlen := refL_len L k
      have HS := Lib.hid (refL_succ L k)
      rcases hp : plcR L (k : Int) with _ | m
      · rw [hp] at HC HS
        clear hp
        go_wp2_with (go_at_call 26; refine HC.out.mono ?_; rintro e w1 ⟨rfl, rfl⟩; simp only [oi])
        go_roundw
        case rel => exact ⟨k + 1, by omega, by go_num, by rw [HS.out]; simpa using HW.out, hb⟩
        case measure => simp [intOf]; omega
      · rw [hp] at HC HS
        clear hp
        have hz := hb.size
        have HW5 := Lib.hid (HW.out.alloc (.cells #[.int .i64 (k : Int)] 3))
        go_wp2_with (first
          | (go_at_call 26; refine HC.out.mono ?_; rintro e w1 ⟨rfl, rfl⟩; simp only [oi])
          | (at_builtin; refine wpList_append_own _ rfl (.tmp 19) (.tmp 21) 51 rfl w.heap.size 3 i0 (.int .i64 0) 1 8 Tryd.underlying51 hi0 hz0 hz1 hz2 rfl (by decide) _ (refL L k).length (ints (refL L k)) rfl HW5.out ⟨wr.heap.size, 0, none⟩ 1 1 [.int .i64 (k : Int)] rfl rfl ?c1 ?c2 ?c3 ?c4 ?c5 ?_))
        case c1 => intro j u hj; cases j <;> simp at hj; subst hj; exact World.cell?_alloc_mark wr #[.int .i64 (k : Int)] 3 (0, 0) 0
        case c2 => simp [Value.oneCell']
        case c3 => simp only [maxLen]; omega
        case c4 => omega
        case c5 => simp; omega
        intro v' w6 hown6 hgrow _
        have hb6 : Below w.heap.size w w6 := (hb.alloc hz (.cells #[.int .i64 (k : Int)] 3)).grown hgrow (by simp; omega) (fun q hq => (HW.out.lt q hq).1)
        have HW6 := Lib.hid hown6
        clear hgrow hown6
        go_wp2
        go_roundw
        case rel =>
          refine ⟨k + 1, by omega, by go_num, ?_, hb6⟩
          rw [HS.out, List.length_append]
          simpa using HW6.out
        case measure => simp [intOf]; omega
    · have hkn : k = n := by omega
      subst hkn
      obtain ⟨q, cq, e, hin⟩ := own_in HW.out
      subst e
      have HI := Lib.hid hin
      clear hin HC HW HP
      go_wp2
      go_ret
      exact ⟨q, cq, rfl, HI.out, hb⟩

end Go.Proofs.YtldbepaclddgmaaDoor
