/-
  What bytes tell is no larger than they are; Bytes of what was read.
-/
import Derived.Test.YtjnbpohjdgnknaaDoorScT
import Derived.Test.YtjnbpohjdgnknaaDoorScP
namespace Go.Proofs.YtjnbpohjdgnknaaDoor
open Go Go.RowKit

theorem bts_size {s : Scr} (hf : Fine s) (hm : mayS s = true) : (ByteArray.mk (btsM s).toArray).size ≤ 100000000 := by
  obtain ⟨_, _, h2, _⟩ := may_parts hm
  have h1 := progs_len (c := s.c) s.ps h2
  have hp := hf.ps
  have hk := hf.pk
  have e : (ByteArray.mk (btsM s).toArray).size = (btsM s).length := by simp [ByteArray.size]
  rw [e]
  unfold btsM
  rw [List.length_append, List.length_append, sizes_len, picks_flat]
  omega
theorem progs_fits {c : Cfg} {r : List UInt8} {k : Nat} {ls : List (List Op)} {q : List UInt8} (h : progsM c r k = .ok (ls, q)) : ls.length = k ∧ ∀ l ∈ ls, fitsB c l = true := ⟨(progs_inv h).2.1, (progs_inv h).2.2⟩
/-- What is read is no larger than its bytes. -/
theorem rd_fine {b : List UInt8} {s : Scr} (h : rdM b = .ok s) (hl : b.length ≤ 5000) : Fine s := by
  obtain ⟨h0, h1, h2, r, h3, h4⟩ := rd_parts h
  obtain ⟨g1, g2, g3⟩ := progs_inv h3
  have hb := (ok_bytes h1).1
  have hk := picks_len r
  rw [h4] at hk
  have hr : r.length ≤ 5000 := by
    have e := congrArg List.length g1
    rw [List.length_append, List.length_drop] at e
    omega
  refine ⟨by rw [h2]; exact cfgM_fits b, by omega, by simp only at hk; omega, fun j hj => ?_⟩
  have hx : s.ps.getD j [] ∈ s.ps := by
    rw [List.getD_eq_getElem?_getD, List.getElem?_eq_getElem hj]
    exact List.getElem_mem hj
  have := (fits_parts (g3 _ hx)).1
  omega
theorem bytes_read (t : ByteArray) (s : Scr) (p : Option Addr) (cp : Nat) (q : Option Addr) (cq : Nat) (w : World) (h : rdM t.data.toList = .ok s) (hs : ScAt w s p q) (hf : Fine s) (hZ : Std w) :
    Calls Tryd.prog 8 #[sv s p cp q cq] w fun e w' => e = .returned (.tuple #[.string t, .int .i64 0]) ∧ Below w.heap.size w w' := by
  obtain ⟨h1, h2⟩ := bts_rd h
  have hb : bts s = (t.data.toList, 0) := by unfold bts; rw [if_pos h2, h1]
  refine (bytes_script s p cp q cq w hs hf hZ.tab hZ.lt hZ.pow).mono fun e w' ⟨he, hw⟩ => ⟨?_, hw⟩
  rw [he, hb]
theorem rd_err {b : List UInt8} {x : Int} (h : rdM b = .error x) : (x != 0) = true := by
  unfold rdM at h
  split at h
  · injection h with h; simp; omega
  · split at h
    · cases hp : progsM (cfgM b) (b.drop 13) (cfgM b).co.toNat with
      | error y =>
        rw [hp] at h
        simp only [endM] at h
        injection h with h
        subst h
        exact progs_err hp
      | ok q =>
        obtain ⟨ls, r⟩ := q
        rw [hp] at h
        simp only [endM] at h
        split at h
        · cases h
        · injection h with h; simp; omega
    · injection h with h; simp; omega

end Go.Proofs.YtjnbpohjdgnknaaDoor
