/-
  What the document's own May does with a message of a kind, of a line and a machine that may be.
-/
import Derived.Test.YtdggjbaapnkcgaaMsF
import Derived.Test.YtdggjbaapnkcgaaMsIa
import Derived.Test.YtdggjbaapnkcgaaMsIb
import Derived.Test.YtdggjbaapnkcgaaMsIc
import Derived.Test.YtdggjbaapnkcgaaMsId
import Derived.Test.YtdggjbaapnkcgaaMsIe
import Derived.Test.YtdggjbaapnkcgaaMsIf
import Derived.Test.YtdggjbaapnkcgaaMsIg
import Derived.Test.YtdggjbaapnkcgaaMsIh
import Derived.Test.YtdggjbaapnkcgaaMsIi
import Derived.Test.YtdggjbaapnkcgaaMsIj
import Derived.Test.YtdggjbaapnkcgaaMsIk
import Derived.Test.YtdggjbaapnkcgaaMsIl
import Derived.Test.YtdggjbaapnkcgaaMsIm
import Derived.Test.YtdggjbaapnkcgaaMsIn
namespace Go.Proofs.Ytdggjbaapnkcgaa
open Go Go.RowKit Go.Sort

theorem may_pass {c : Cfg} {m : Msg} {n : Int} (ho : okC c = true) (hl : isin m.ln c.li = true) (hk : isKind m.kd = true) (hh : holdsB c m = true) (hn : nw c m.kd = n) : mayM c m = wordsB m n := by
  subst hn
  unfold mayM
  rw [ho, hl, hk, hh]
  simp

theorem refMay_all_1 (c : Cfg) (m : Msg) (w : World) (hok : okC c = true) (hln : isin m.ln c.li = true) (hkk : m.kd = 1) :
    Calls Try.prog 23 #[cv c, mv m] w fun e w' => e = .returned (.bool (mayM c m)) ∧ Below w.heap.size w w' := by
  have hkd : isKind m.kd = true := by rw [hkk]; rfl
  rcases Bool.eq_false_or_eq_true (isin m.fr c.co) with f_fr | g_fr
  · rcases (Bool.eq_false_or_eq_true (m.to != m.ln % c.ho)).symm with f_to | g_to
    · rcases (Bool.eq_false_or_eq_true (m.ow != 0)).symm with f_ow | g_ow
      · rcases (Bool.eq_false_or_eq_true (m.wh != 0)).symm with f_wh | g_wh
        · rcases (Bool.eq_false_or_eq_true (m.ac != 0)).symm with f_ac | g_ac
          · exact ((refMay_1 c m w hok hln hkk f_fr f_to f_ow f_wh f_ac).mono fun _ _ ⟨h, hb⟩ => ⟨h.trans (ret_bool (may_pass hok hln hkd (by grind [isin, holdsB, cth, htc, ctc, bare, another, acks, given, sender, fwdB, datB, ansB]) (by unfold nw; rw [hkk]; rfl)).symm), hb⟩)
          · exact ((refMay_1_ac c m w hok hln hkk f_fr f_to f_ow f_wh g_ac).mono fun _ _ ⟨h, hb⟩ => ⟨h.trans (ret_bool (may_no4 (by grind [isin, holdsB, cth, htc, ctc, bare, another, acks, given, sender, fwdB, datB, ansB])).symm), hb⟩)
        · exact ((refMay_1_wh c m w hok hln hkk f_fr f_to f_ow g_wh).mono fun _ _ ⟨h, hb⟩ => ⟨h.trans (ret_bool (may_no4 (by grind [isin, holdsB, cth, htc, ctc, bare, another, acks, given, sender, fwdB, datB, ansB])).symm), hb⟩)
      · exact ((refMay_1_ow c m w hok hln hkk f_fr f_to g_ow).mono fun _ _ ⟨h, hb⟩ => ⟨h.trans (ret_bool (may_no4 (by grind [isin, holdsB, cth, htc, ctc, bare, another, acks, given, sender, fwdB, datB, ansB])).symm), hb⟩)
    · exact ((refMay_H_to c m w hok hln (by rw [hkk]; rfl) (by omega) (by omega) f_fr g_to).mono fun _ _ ⟨h, hb⟩ => ⟨h.trans (ret_bool (may_no4 (by grind [isin, holdsB, cth, htc, ctc, bare, another, acks, given, sender, fwdB, datB, ansB])).symm), hb⟩)
  · exact ((refMay_H_fr c m w hok hln (by rw [hkk]; rfl) (by omega) (by omega) g_fr).mono fun _ _ ⟨h, hb⟩ => ⟨h.trans (ret_bool (may_no4 (by grind [isin, holdsB, cth, htc, ctc, bare, another, acks, given, sender, fwdB, datB, ansB])).symm), hb⟩)

theorem refMay_all_2 (c : Cfg) (m : Msg) (w : World) (hok : okC c = true) (hln : isin m.ln c.li = true) (hkk : m.kd = 2) :
    Calls Try.prog 23 #[cv c, mv m] w fun e w' => e = .returned (.bool (mayM c m)) ∧ Below w.heap.size w w' := by
  have hkd : isKind m.kd = true := by rw [hkk]; rfl
  rcases Bool.eq_false_or_eq_true (isin m.fr c.co) with f_fr | g_fr
  · rcases (Bool.eq_false_or_eq_true (m.to != m.ln % c.ho)).symm with f_to | g_to
    · rcases (Bool.eq_false_or_eq_true (m.ow != 0)).symm with f_ow | g_ow
      · rcases (Bool.eq_false_or_eq_true (m.wh != 0)).symm with f_wh | g_wh
        · rcases (Bool.eq_false_or_eq_true (m.ac != 0)).symm with f_ac | g_ac
          · exact ((refMay_2 c m w hok hln hkk f_fr f_to f_ow f_wh f_ac).mono fun _ _ ⟨h, hb⟩ => ⟨h.trans (ret_bool (may_pass hok hln hkd (by grind [isin, holdsB, cth, htc, ctc, bare, another, acks, given, sender, fwdB, datB, ansB]) (by unfold nw; rw [hkk]; rfl)).symm), hb⟩)
          · exact ((refMay_2_ac c m w hok hln hkk f_fr f_to f_ow f_wh g_ac).mono fun _ _ ⟨h, hb⟩ => ⟨h.trans (ret_bool (may_no4 (by grind [isin, holdsB, cth, htc, ctc, bare, another, acks, given, sender, fwdB, datB, ansB])).symm), hb⟩)
        · exact ((refMay_2_wh c m w hok hln hkk f_fr f_to f_ow g_wh).mono fun _ _ ⟨h, hb⟩ => ⟨h.trans (ret_bool (may_no4 (by grind [isin, holdsB, cth, htc, ctc, bare, another, acks, given, sender, fwdB, datB, ansB])).symm), hb⟩)
      · exact ((refMay_2_ow c m w hok hln hkk f_fr f_to g_ow).mono fun _ _ ⟨h, hb⟩ => ⟨h.trans (ret_bool (may_no4 (by grind [isin, holdsB, cth, htc, ctc, bare, another, acks, given, sender, fwdB, datB, ansB])).symm), hb⟩)
    · exact ((refMay_H_to c m w hok hln (by rw [hkk]; rfl) (by omega) (by omega) f_fr g_to).mono fun _ _ ⟨h, hb⟩ => ⟨h.trans (ret_bool (may_no4 (by grind [isin, holdsB, cth, htc, ctc, bare, another, acks, given, sender, fwdB, datB, ansB])).symm), hb⟩)
  · exact ((refMay_H_fr c m w hok hln (by rw [hkk]; rfl) (by omega) (by omega) g_fr).mono fun _ _ ⟨h, hb⟩ => ⟨h.trans (ret_bool (may_no4 (by grind [isin, holdsB, cth, htc, ctc, bare, another, acks, given, sender, fwdB, datB, ansB])).symm), hb⟩)

theorem refMay_all_3 (c : Cfg) (m : Msg) (w : World) (hok : okC c = true) (hln : isin m.ln c.li = true) (hkk : m.kd = 3) :
    Calls Try.prog 23 #[cv c, mv m] w fun e w' => e = .returned (.bool (mayM c m)) ∧ Below w.heap.size w w' := by
  have hkd : isKind m.kd = true := by rw [hkk]; rfl
  rcases Bool.eq_false_or_eq_true (isin m.fr c.co) with f_fr | g_fr
  · rcases (Bool.eq_false_or_eq_true (m.to != m.ln % c.ho)).symm with f_to | g_to
    · rcases (Bool.eq_false_or_eq_true (m.ow != 0)).symm with f_ow | g_ow
      · rcases (Bool.eq_false_or_eq_true (m.wh != 0)).symm with f_wh | g_wh
        · rcases (Bool.eq_false_or_eq_true (m.ac != 0)).symm with f_ac | g_ac
          · exact ((refMay_3 c m w hok hln hkk f_fr f_to f_ow f_wh f_ac).mono fun _ _ ⟨h, hb⟩ => ⟨h.trans (ret_bool (may_pass hok hln hkd (by grind [isin, holdsB, cth, htc, ctc, bare, another, acks, given, sender, fwdB, datB, ansB]) (by unfold nw; rw [hkk]; rfl)).symm), hb⟩)
          · exact ((refMay_3_ac c m w hok hln hkk f_fr f_to f_ow f_wh g_ac).mono fun _ _ ⟨h, hb⟩ => ⟨h.trans (ret_bool (may_no4 (by grind [isin, holdsB, cth, htc, ctc, bare, another, acks, given, sender, fwdB, datB, ansB])).symm), hb⟩)
        · exact ((refMay_3_wh c m w hok hln hkk f_fr f_to f_ow g_wh).mono fun _ _ ⟨h, hb⟩ => ⟨h.trans (ret_bool (may_no4 (by grind [isin, holdsB, cth, htc, ctc, bare, another, acks, given, sender, fwdB, datB, ansB])).symm), hb⟩)
      · exact ((refMay_3_ow c m w hok hln hkk f_fr f_to g_ow).mono fun _ _ ⟨h, hb⟩ => ⟨h.trans (ret_bool (may_no4 (by grind [isin, holdsB, cth, htc, ctc, bare, another, acks, given, sender, fwdB, datB, ansB])).symm), hb⟩)
    · exact ((refMay_H_to c m w hok hln (by rw [hkk]; rfl) (by omega) (by omega) f_fr g_to).mono fun _ _ ⟨h, hb⟩ => ⟨h.trans (ret_bool (may_no4 (by grind [isin, holdsB, cth, htc, ctc, bare, another, acks, given, sender, fwdB, datB, ansB])).symm), hb⟩)
  · exact ((refMay_H_fr c m w hok hln (by rw [hkk]; rfl) (by omega) (by omega) g_fr).mono fun _ _ ⟨h, hb⟩ => ⟨h.trans (ret_bool (may_no4 (by grind [isin, holdsB, cth, htc, ctc, bare, another, acks, given, sender, fwdB, datB, ansB])).symm), hb⟩)

theorem refMay_all_4 (c : Cfg) (m : Msg) (w : World) (hok : okC c = true) (hln : isin m.ln c.li = true) (hkk : m.kd = 4) :
    Calls Try.prog 23 #[cv c, mv m] w fun e w' => e = .returned (.bool (mayM c m)) ∧ Below w.heap.size w w' := by
  have hkd : isKind m.kd = true := by rw [hkk]; rfl
  rcases Bool.eq_false_or_eq_true (isin m.to c.co) with f_to | g_to
  · rcases (Bool.eq_false_or_eq_true (m.fr != m.ln % c.ho)).symm with f_fr | g_fr
    · rcases Bool.eq_false_or_eq_true (isin m.wh c.co) with f_wh | g_wh
      · rcases (Bool.eq_false_or_eq_true (m.wh == m.to)).symm with f_wt | g_wt
        · rcases (Bool.eq_false_or_eq_true (m.ow != 0)).symm with f_ow | g_ow
          · rcases (Bool.eq_false_or_eq_true (m.ac != 0)).symm with f_ac | g_ac
            · exact ((refMay_4 c m w hok hln hkk f_to f_fr f_wh f_wt f_ow f_ac).mono fun _ _ ⟨h, hb⟩ => ⟨h.trans (ret_bool (may_pass hok hln hkd (by grind [isin, holdsB, cth, htc, ctc, bare, another, acks, given, sender, fwdB, datB, ansB]) (by unfold nw; rw [hkk]; rfl)).symm), hb⟩)
            · exact ((refMay_4_ac c m w hok hln hkk f_to f_fr f_wh f_wt f_ow g_ac).mono fun _ _ ⟨h, hb⟩ => ⟨h.trans (ret_bool (may_no4 (by grind [isin, holdsB, cth, htc, ctc, bare, another, acks, given, sender, fwdB, datB, ansB])).symm), hb⟩)
          · exact ((refMay_4_ow c m w hok hln hkk f_to f_fr f_wh f_wt g_ow).mono fun _ _ ⟨h, hb⟩ => ⟨h.trans (ret_bool (may_no4 (by grind [isin, holdsB, cth, htc, ctc, bare, another, acks, given, sender, fwdB, datB, ansB])).symm), hb⟩)
        · exact ((refMay_4_wt c m w hok hln hkk f_to f_fr f_wh g_wt).mono fun _ _ ⟨h, hb⟩ => ⟨h.trans (ret_bool (may_no4 (by grind [isin, holdsB, cth, htc, ctc, bare, another, acks, given, sender, fwdB, datB, ansB])).symm), hb⟩)
      · exact ((refMay_4_wh c m w hok hln hkk f_to f_fr g_wh).mono fun _ _ ⟨h, hb⟩ => ⟨h.trans (ret_bool (may_no4 (by grind [isin, holdsB, cth, htc, ctc, bare, another, acks, given, sender, fwdB, datB, ansB])).symm), hb⟩)
    · exact ((refMay_4_fr c m w hok hln hkk f_to g_fr).mono fun _ _ ⟨h, hb⟩ => ⟨h.trans (ret_bool (may_no4 (by grind [isin, holdsB, cth, htc, ctc, bare, another, acks, given, sender, fwdB, datB, ansB])).symm), hb⟩)
  · exact ((refMay_N_to c m w hok hln (by rw [hkk]; rfl) (by omega) (by omega) g_to).mono fun _ _ ⟨h, hb⟩ => ⟨h.trans (ret_bool (may_no4 (by grind [isin, holdsB, cth, htc, ctc, bare, another, acks, given, sender, fwdB, datB, ansB])).symm), hb⟩)

theorem refMay_all_5 (c : Cfg) (m : Msg) (w : World) (hok : okC c = true) (hln : isin m.ln c.li = true) (hkk : m.kd = 5) :
    Calls Try.prog 23 #[cv c, mv m] w fun e w' => e = .returned (.bool (mayM c m)) ∧ Below w.heap.size w w' := by
  have hkd : isKind m.kd = true := by rw [hkk]; rfl
  rcases Bool.eq_false_or_eq_true (isin m.to c.co) with f_to | g_to
  · rcases (Bool.eq_false_or_eq_true (m.fr != m.ln % c.ho)).symm with f_fr | g_fr
    · rcases Bool.eq_false_or_eq_true (isin m.wh c.co) with f_wh | g_wh
      · rcases (Bool.eq_false_or_eq_true (m.wh == m.to)).symm with f_wt | g_wt
        · rcases (Bool.eq_false_or_eq_true (m.ow != 0)).symm with f_ow | g_ow
          · rcases (show 0 ≤ m.ac ∨ m.ac < 0 by omega) with f_ac0 | g_ac0
            · rcases (show m.ac < c.co ∨ c.co ≤ m.ac by omega) with f_ac1 | g_ac1
              · exact ((refMay_5 c m w hok hln hkk f_to f_fr f_wh f_wt f_ow f_ac0 f_ac1).mono fun _ _ ⟨h, hb⟩ => ⟨h.trans (ret_bool (may_pass hok hln hkd (by grind [isin, holdsB, cth, htc, ctc, bare, another, acks, given, sender, fwdB, datB, ansB]) (by unfold nw; rw [hkk]; rfl)).symm), hb⟩)
              · exact ((refMay_5_ac1 c m w hok hln hkk f_to f_fr f_wh f_wt f_ow f_ac0 g_ac1).mono fun _ _ ⟨h, hb⟩ => ⟨h.trans (ret_bool (may_no4 (by grind [isin, holdsB, cth, htc, ctc, bare, another, acks, given, sender, fwdB, datB, ansB])).symm), hb⟩)
            · exact ((refMay_5_ac0 c m w hok hln hkk f_to f_fr f_wh f_wt f_ow g_ac0).mono fun _ _ ⟨h, hb⟩ => ⟨h.trans (ret_bool (may_no4 (by grind [isin, holdsB, cth, htc, ctc, bare, another, acks, given, sender, fwdB, datB, ansB])).symm), hb⟩)
          · exact ((refMay_5_ow c m w hok hln hkk f_to f_fr f_wh f_wt g_ow).mono fun _ _ ⟨h, hb⟩ => ⟨h.trans (ret_bool (may_no4 (by grind [isin, holdsB, cth, htc, ctc, bare, another, acks, given, sender, fwdB, datB, ansB])).symm), hb⟩)
        · exact ((refMay_5_wt c m w hok hln hkk f_to f_fr f_wh g_wt).mono fun _ _ ⟨h, hb⟩ => ⟨h.trans (ret_bool (may_no4 (by grind [isin, holdsB, cth, htc, ctc, bare, another, acks, given, sender, fwdB, datB, ansB])).symm), hb⟩)
      · exact ((refMay_5_wh c m w hok hln hkk f_to f_fr g_wh).mono fun _ _ ⟨h, hb⟩ => ⟨h.trans (ret_bool (may_no4 (by grind [isin, holdsB, cth, htc, ctc, bare, another, acks, given, sender, fwdB, datB, ansB])).symm), hb⟩)
    · exact ((refMay_5_fr c m w hok hln hkk f_to g_fr).mono fun _ _ ⟨h, hb⟩ => ⟨h.trans (ret_bool (may_no4 (by grind [isin, holdsB, cth, htc, ctc, bare, another, acks, given, sender, fwdB, datB, ansB])).symm), hb⟩)
  · exact ((refMay_N_to c m w hok hln (by rw [hkk]; rfl) (by omega) (by omega) g_to).mono fun _ _ ⟨h, hb⟩ => ⟨h.trans (ret_bool (may_no4 (by grind [isin, holdsB, cth, htc, ctc, bare, another, acks, given, sender, fwdB, datB, ansB])).symm), hb⟩)

theorem refMay_all_6 (c : Cfg) (m : Msg) (w : World) (hok : okC c = true) (hln : isin m.ln c.li = true) (hkk : m.kd = 6) :
    Calls Try.prog 23 #[cv c, mv m] w fun e w' => e = .returned (.bool (mayM c m)) ∧ Below w.heap.size w w' := by
  have hkd : isKind m.kd = true := by rw [hkk]; rfl
  rcases Bool.eq_false_or_eq_true (isin m.to c.co) with f_to | g_to
  · rcases (Bool.eq_false_or_eq_true (m.fr != m.ln % c.ho)).symm with f_fr | g_fr
    · rcases Bool.eq_false_or_eq_true (isin m.wh c.co) with f_wh | g_wh
      · rcases (Bool.eq_false_or_eq_true (m.wh == m.to)).symm with f_wt | g_wt
        · rcases (Bool.eq_false_or_eq_true (m.ow != 0)).symm with f_ow | g_ow
          · rcases (Bool.eq_false_or_eq_true (m.ac != 0)).symm with f_ac | g_ac
            · exact ((refMay_6 c m w hok hln hkk f_to f_fr f_wh f_wt f_ow f_ac).mono fun _ _ ⟨h, hb⟩ => ⟨h.trans (ret_bool (may_pass hok hln hkd (by grind [isin, holdsB, cth, htc, ctc, bare, another, acks, given, sender, fwdB, datB, ansB]) (by unfold nw; rw [hkk]; rfl)).symm), hb⟩)
            · exact ((refMay_6_ac c m w hok hln hkk f_to f_fr f_wh f_wt f_ow g_ac).mono fun _ _ ⟨h, hb⟩ => ⟨h.trans (ret_bool (may_no4 (by grind [isin, holdsB, cth, htc, ctc, bare, another, acks, given, sender, fwdB, datB, ansB])).symm), hb⟩)
          · exact ((refMay_6_ow c m w hok hln hkk f_to f_fr f_wh f_wt g_ow).mono fun _ _ ⟨h, hb⟩ => ⟨h.trans (ret_bool (may_no4 (by grind [isin, holdsB, cth, htc, ctc, bare, another, acks, given, sender, fwdB, datB, ansB])).symm), hb⟩)
        · exact ((refMay_6_wt c m w hok hln hkk f_to f_fr f_wh g_wt).mono fun _ _ ⟨h, hb⟩ => ⟨h.trans (ret_bool (may_no4 (by grind [isin, holdsB, cth, htc, ctc, bare, another, acks, given, sender, fwdB, datB, ansB])).symm), hb⟩)
      · exact ((refMay_6_wh c m w hok hln hkk f_to f_fr g_wh).mono fun _ _ ⟨h, hb⟩ => ⟨h.trans (ret_bool (may_no4 (by grind [isin, holdsB, cth, htc, ctc, bare, another, acks, given, sender, fwdB, datB, ansB])).symm), hb⟩)
    · exact ((refMay_6_fr c m w hok hln hkk f_to g_fr).mono fun _ _ ⟨h, hb⟩ => ⟨h.trans (ret_bool (may_no4 (by grind [isin, holdsB, cth, htc, ctc, bare, another, acks, given, sender, fwdB, datB, ansB])).symm), hb⟩)
  · exact ((refMay_N_to c m w hok hln (by rw [hkk]; rfl) (by omega) (by omega) g_to).mono fun _ _ ⟨h, hb⟩ => ⟨h.trans (ret_bool (may_no4 (by grind [isin, holdsB, cth, htc, ctc, bare, another, acks, given, sender, fwdB, datB, ansB])).symm), hb⟩)

theorem refMay_all_8 (c : Cfg) (m : Msg) (w : World) (hok : okC c = true) (hln : isin m.ln c.li = true) (hkk : m.kd = 8) :
    Calls Try.prog 23 #[cv c, mv m] w fun e w' => e = .returned (.bool (mayM c m)) ∧ Below w.heap.size w w' := by
  have hkd : isKind m.kd = true := by rw [hkk]; rfl
  rcases Bool.eq_false_or_eq_true (isin m.to c.co) with f_to | g_to
  · rcases (Bool.eq_false_or_eq_true (m.fr != m.ln % c.ho)).symm with f_fr | g_fr
    · rcases (Bool.eq_false_or_eq_true (m.ow != 0)).symm with f_ow | g_ow
      · rcases (Bool.eq_false_or_eq_true (m.wh != 0)).symm with f_wh | g_wh
        · rcases (show 0 ≤ m.ac ∨ m.ac < 0 by omega) with f_ac0 | g_ac0
          · rcases (show m.ac < c.co ∨ c.co ≤ m.ac by omega) with f_ac1 | g_ac1
            · exact ((refMay_8 c m w hok hln hkk f_to f_fr f_ow f_wh f_ac0 f_ac1).mono fun _ _ ⟨h, hb⟩ => ⟨h.trans (ret_bool (may_pass hok hln hkd (by grind [isin, holdsB, cth, htc, ctc, bare, another, acks, given, sender, fwdB, datB, ansB]) (by unfold nw; rw [hkk]; rfl)).symm), hb⟩)
            · exact ((refMay_8_ac1 c m w hok hln hkk f_to f_fr f_ow f_wh f_ac0 g_ac1).mono fun _ _ ⟨h, hb⟩ => ⟨h.trans (ret_bool (may_no4 (by grind [isin, holdsB, cth, htc, ctc, bare, another, acks, given, sender, fwdB, datB, ansB])).symm), hb⟩)
          · exact ((refMay_8_ac0 c m w hok hln hkk f_to f_fr f_ow f_wh g_ac0).mono fun _ _ ⟨h, hb⟩ => ⟨h.trans (ret_bool (may_no4 (by grind [isin, holdsB, cth, htc, ctc, bare, another, acks, given, sender, fwdB, datB, ansB])).symm), hb⟩)
        · exact ((refMay_8_wh c m w hok hln hkk f_to f_fr f_ow g_wh).mono fun _ _ ⟨h, hb⟩ => ⟨h.trans (ret_bool (may_no4 (by grind [isin, holdsB, cth, htc, ctc, bare, another, acks, given, sender, fwdB, datB, ansB])).symm), hb⟩)
      · exact ((refMay_8_ow c m w hok hln hkk f_to f_fr g_ow).mono fun _ _ ⟨h, hb⟩ => ⟨h.trans (ret_bool (may_no4 (by grind [isin, holdsB, cth, htc, ctc, bare, another, acks, given, sender, fwdB, datB, ansB])).symm), hb⟩)
    · exact ((refMay_8_fr c m w hok hln hkk f_to g_fr).mono fun _ _ ⟨h, hb⟩ => ⟨h.trans (ret_bool (may_no4 (by grind [isin, holdsB, cth, htc, ctc, bare, another, acks, given, sender, fwdB, datB, ansB])).symm), hb⟩)
  · exact ((refMay_N_to c m w hok hln (by rw [hkk]; rfl) (by omega) (by omega) g_to).mono fun _ _ ⟨h, hb⟩ => ⟨h.trans (ret_bool (may_no4 (by grind [isin, holdsB, cth, htc, ctc, bare, another, acks, given, sender, fwdB, datB, ansB])).symm), hb⟩)

theorem refMay_all_9 (c : Cfg) (m : Msg) (w : World) (hok : okC c = true) (hln : isin m.ln c.li = true) (hkk : m.kd = 9) :
    Calls Try.prog 23 #[cv c, mv m] w fun e w' => e = .returned (.bool (mayM c m)) ∧ Below w.heap.size w w' := by
  have hkd : isKind m.kd = true := by rw [hkk]; rfl
  rcases Bool.eq_false_or_eq_true (isin m.to c.co) with f_to | g_to
  · rcases Bool.eq_false_or_eq_true (isin m.fr c.co) with f_fr | g_fr
    · rcases (Bool.eq_false_or_eq_true (m.fr == m.to)).symm with f_ft | g_ft
      · rcases (Bool.eq_false_or_eq_true (m.ow != 0)).symm with f_ow | g_ow
        · rcases (Bool.eq_false_or_eq_true (m.wh != 0)).symm with f_wh | g_wh
          · rcases (Bool.eq_false_or_eq_true (m.ac != 0)).symm with f_ac | g_ac
            · exact ((refMay_9 c m w hok hln hkk f_to f_fr f_ft f_ow f_wh f_ac).mono fun _ _ ⟨h, hb⟩ => ⟨h.trans (ret_bool (may_pass hok hln hkd (by grind [isin, holdsB, cth, htc, ctc, bare, another, acks, given, sender, fwdB, datB, ansB]) (by unfold nw; rw [hkk]; rfl)).symm), hb⟩)
            · exact ((refMay_9_ac c m w hok hln hkk f_to f_fr f_ft f_ow f_wh g_ac).mono fun _ _ ⟨h, hb⟩ => ⟨h.trans (ret_bool (may_no4 (by grind [isin, holdsB, cth, htc, ctc, bare, another, acks, given, sender, fwdB, datB, ansB])).symm), hb⟩)
          · exact ((refMay_9_wh c m w hok hln hkk f_to f_fr f_ft f_ow g_wh).mono fun _ _ ⟨h, hb⟩ => ⟨h.trans (ret_bool (may_no4 (by grind [isin, holdsB, cth, htc, ctc, bare, another, acks, given, sender, fwdB, datB, ansB])).symm), hb⟩)
        · exact ((refMay_9_ow c m w hok hln hkk f_to f_fr f_ft g_ow).mono fun _ _ ⟨h, hb⟩ => ⟨h.trans (ret_bool (may_no4 (by grind [isin, holdsB, cth, htc, ctc, bare, another, acks, given, sender, fwdB, datB, ansB])).symm), hb⟩)
      · exact ((refMay_9_ft c m w hok hln hkk f_to f_fr g_ft).mono fun _ _ ⟨h, hb⟩ => ⟨h.trans (ret_bool (may_no4 (by grind [isin, holdsB, cth, htc, ctc, bare, another, acks, given, sender, fwdB, datB, ansB])).symm), hb⟩)
    · exact ((refMay_9_fr c m w hok hln hkk f_to g_fr).mono fun _ _ ⟨h, hb⟩ => ⟨h.trans (ret_bool (may_no4 (by grind [isin, holdsB, cth, htc, ctc, bare, another, acks, given, sender, fwdB, datB, ansB])).symm), hb⟩)
  · exact ((refMay_N_to c m w hok hln (by rw [hkk]; rfl) (by omega) (by omega) g_to).mono fun _ _ ⟨h, hb⟩ => ⟨h.trans (ret_bool (may_no4 (by grind [isin, holdsB, cth, htc, ctc, bare, another, acks, given, sender, fwdB, datB, ansB])).symm), hb⟩)

theorem refMay_all_10 (c : Cfg) (m : Msg) (w : World) (hok : okC c = true) (hln : isin m.ln c.li = true) (hkk : m.kd = 10) :
    Calls Try.prog 23 #[cv c, mv m] w fun e w' => e = .returned (.bool (mayM c m)) ∧ Below w.heap.size w w' := by
  have hkd : isKind m.kd = true := by rw [hkk]; rfl
  rcases Bool.eq_false_or_eq_true (isin m.to c.co) with f_to | g_to
  · rcases (Bool.eq_false_or_eq_true (m.fr != m.ln % c.ho)).symm with f_fr | g_fr
    · rcases (Bool.eq_false_or_eq_true (m.ow != 0)).symm with f_ow | g_ow
      · rcases (Bool.eq_false_or_eq_true (m.wh != 0)).symm with f_wh | g_wh
        · rcases (Bool.eq_false_or_eq_true (m.ac != 0)).symm with f_ac | g_ac
          · exact ((refMay_10 c m w hok hln hkk f_to f_fr f_ow f_wh f_ac).mono fun _ _ ⟨h, hb⟩ => ⟨h.trans (ret_bool (may_pass hok hln hkd (by grind [isin, holdsB, cth, htc, ctc, bare, another, acks, given, sender, fwdB, datB, ansB]) (by unfold nw; rw [hkk]; rfl)).symm), hb⟩)
          · exact ((refMay_10_ac c m w hok hln hkk f_to f_fr f_ow f_wh g_ac).mono fun _ _ ⟨h, hb⟩ => ⟨h.trans (ret_bool (may_no4 (by grind [isin, holdsB, cth, htc, ctc, bare, another, acks, given, sender, fwdB, datB, ansB])).symm), hb⟩)
        · exact ((refMay_10_wh c m w hok hln hkk f_to f_fr f_ow g_wh).mono fun _ _ ⟨h, hb⟩ => ⟨h.trans (ret_bool (may_no4 (by grind [isin, holdsB, cth, htc, ctc, bare, another, acks, given, sender, fwdB, datB, ansB])).symm), hb⟩)
      · exact ((refMay_10_ow c m w hok hln hkk f_to f_fr g_ow).mono fun _ _ ⟨h, hb⟩ => ⟨h.trans (ret_bool (may_no4 (by grind [isin, holdsB, cth, htc, ctc, bare, another, acks, given, sender, fwdB, datB, ansB])).symm), hb⟩)
    · exact ((refMay_10_fr c m w hok hln hkk f_to g_fr).mono fun _ _ ⟨h, hb⟩ => ⟨h.trans (ret_bool (may_no4 (by grind [isin, holdsB, cth, htc, ctc, bare, another, acks, given, sender, fwdB, datB, ansB])).symm), hb⟩)
  · exact ((refMay_N_to c m w hok hln (by rw [hkk]; rfl) (by omega) (by omega) g_to).mono fun _ _ ⟨h, hb⟩ => ⟨h.trans (ret_bool (may_no4 (by grind [isin, holdsB, cth, htc, ctc, bare, another, acks, given, sender, fwdB, datB, ansB])).symm), hb⟩)

theorem refMay_all_11 (c : Cfg) (m : Msg) (w : World) (hok : okC c = true) (hln : isin m.ln c.li = true) (hkk : m.kd = 11) :
    Calls Try.prog 23 #[cv c, mv m] w fun e w' => e = .returned (.bool (mayM c m)) ∧ Below w.heap.size w w' := by
  have hkd : isKind m.kd = true := by rw [hkk]; rfl
  rcases Bool.eq_false_or_eq_true (isin m.fr c.co) with f_fr | g_fr
  · rcases (Bool.eq_false_or_eq_true (m.to != m.ln % c.ho)).symm with f_to | g_to
    · rcases (Bool.eq_false_or_eq_true (m.ow != 0)).symm with f_ow | g_ow
      · rcases (Bool.eq_false_or_eq_true (m.wh != 0)).symm with f_wh | g_wh
        · rcases (Bool.eq_false_or_eq_true (m.ac != 0)).symm with f_ac | g_ac
          · exact ((refMay_11 c m w hok hln hkk f_fr f_to f_ow f_wh f_ac).mono fun _ _ ⟨h, hb⟩ => ⟨h.trans (ret_bool (may_pass hok hln hkd (by grind [isin, holdsB, cth, htc, ctc, bare, another, acks, given, sender, fwdB, datB, ansB]) (by unfold nw; rw [hkk]; rfl)).symm), hb⟩)
          · exact ((refMay_11_ac c m w hok hln hkk f_fr f_to f_ow f_wh g_ac).mono fun _ _ ⟨h, hb⟩ => ⟨h.trans (ret_bool (may_no4 (by grind [isin, holdsB, cth, htc, ctc, bare, another, acks, given, sender, fwdB, datB, ansB])).symm), hb⟩)
        · exact ((refMay_11_wh c m w hok hln hkk f_fr f_to f_ow g_wh).mono fun _ _ ⟨h, hb⟩ => ⟨h.trans (ret_bool (may_no4 (by grind [isin, holdsB, cth, htc, ctc, bare, another, acks, given, sender, fwdB, datB, ansB])).symm), hb⟩)
      · exact ((refMay_11_ow c m w hok hln hkk f_fr f_to g_ow).mono fun _ _ ⟨h, hb⟩ => ⟨h.trans (ret_bool (may_no4 (by grind [isin, holdsB, cth, htc, ctc, bare, another, acks, given, sender, fwdB, datB, ansB])).symm), hb⟩)
    · exact ((refMay_H_to c m w hok hln (by rw [hkk]; rfl) (by omega) (by omega) f_fr g_to).mono fun _ _ ⟨h, hb⟩ => ⟨h.trans (ret_bool (may_no4 (by grind [isin, holdsB, cth, htc, ctc, bare, another, acks, given, sender, fwdB, datB, ansB])).symm), hb⟩)
  · exact ((refMay_H_fr c m w hok hln (by rw [hkk]; rfl) (by omega) (by omega) g_fr).mono fun _ _ ⟨h, hb⟩ => ⟨h.trans (ret_bool (may_no4 (by grind [isin, holdsB, cth, htc, ctc, bare, another, acks, given, sender, fwdB, datB, ansB])).symm), hb⟩)

theorem refMay_all_7 (c : Cfg) (m : Msg) (w : World) (hok : okC c = true) (hln : isin m.ln c.li = true) (hkk : m.kd = 7) :
    Calls Try.prog 23 #[cv c, mv m] w fun e w' => e = .returned (.bool (mayM c m)) ∧ Below w.heap.size w w' := by
  have hkd : isKind m.kd = true := by rw [hkk]; rfl
  rcases Bool.eq_false_or_eq_true (isin m.to c.co) with f_to | g_to
  rotate_left
  · exact ((refMay_N_to c m w hok hln (by rw [hkk]; rfl) (by omega) (by omega) g_to).mono fun _ _ ⟨h, hb⟩ => ⟨h.trans (ret_bool (may_no4 (by grind [isin, holdsB, cth, htc, ctc, bare, another, acks, given, sender, fwdB, datB, ansB])).symm), hb⟩)
  rcases (show m.wh = 0 ∨ m.wh = 1 ∨ m.wh < 0 ∨ 1 < m.wh by omega) with hwh | hwh | g_w | g_w
  · rcases (Bool.eq_false_or_eq_true (m.fr != m.ln % c.ho)).symm with f_fr | g_fr
    rotate_left
    · exact ((refMay_7_0_fr c m w hok hln hkk hwh f_to g_fr).mono fun _ _ ⟨h, hb⟩ => ⟨h.trans (ret_bool (may_no4 (by grind [isin, holdsB, cth, htc, ctc, bare, another, acks, given, sender, fwdB, datB, ansB])).symm), hb⟩)
    rcases (show m.ow = 1 ∨ m.ow = 2 ∨ m.ow = 4 ∨ (m.ow ≠ 1 ∧ m.ow ≠ 2 ∧ m.ow ≠ 4) by omega) with how | how | how | ⟨o1, o2, o4⟩
    · rcases (show 0 ≤ m.ac ∨ m.ac < 0 by omega) with f_ac0 | g_ac0
      · rcases (show m.ac < c.co ∨ c.co ≤ m.ac by omega) with f_ac1 | g_ac1
        · exact ((refMay_7_0_1 c m w hok hln hkk hwh how f_to f_fr f_ac0 f_ac1).mono fun _ _ ⟨h, hb⟩ => ⟨h.trans (ret_bool (may_pass hok hln hkd (by grind [isin, holdsB, cth, htc, ctc, bare, another, acks, given, sender, fwdB, datB, ansB]) (by unfold nw; rw [hkk]; rfl)).symm), hb⟩)
        · exact ((refMay_7_0_1_ac1 c m w hok hln hkk hwh how f_to f_fr f_ac0 g_ac1).mono fun _ _ ⟨h, hb⟩ => ⟨h.trans (ret_bool (may_no4 (by grind [isin, holdsB, cth, htc, ctc, bare, another, acks, given, sender, fwdB, datB, ansB])).symm), hb⟩)
      · exact ((refMay_7_0_1_ac0 c m w hok hln hkk hwh how f_to f_fr g_ac0).mono fun _ _ ⟨h, hb⟩ => ⟨h.trans (ret_bool (may_no4 (by grind [isin, holdsB, cth, htc, ctc, bare, another, acks, given, sender, fwdB, datB, ansB])).symm), hb⟩)
    · rcases (show 0 ≤ m.ac ∨ m.ac < 0 by omega) with f_ac0 | g_ac0
      · rcases (show m.ac < c.co ∨ c.co ≤ m.ac by omega) with f_ac1 | g_ac1
        · exact ((refMay_7_0_2 c m w hok hln hkk hwh how f_to f_fr f_ac0 f_ac1).mono fun _ _ ⟨h, hb⟩ => ⟨h.trans (ret_bool (may_pass hok hln hkd (by grind [isin, holdsB, cth, htc, ctc, bare, another, acks, given, sender, fwdB, datB, ansB]) (by unfold nw; rw [hkk]; rfl)).symm), hb⟩)
        · exact ((refMay_7_0_2_ac1 c m w hok hln hkk hwh how f_to f_fr f_ac0 g_ac1).mono fun _ _ ⟨h, hb⟩ => ⟨h.trans (ret_bool (may_no4 (by grind [isin, holdsB, cth, htc, ctc, bare, another, acks, given, sender, fwdB, datB, ansB])).symm), hb⟩)
      · exact ((refMay_7_0_2_ac0 c m w hok hln hkk hwh how f_to f_fr g_ac0).mono fun _ _ ⟨h, hb⟩ => ⟨h.trans (ret_bool (may_no4 (by grind [isin, holdsB, cth, htc, ctc, bare, another, acks, given, sender, fwdB, datB, ansB])).symm), hb⟩)
    · rcases (show 0 ≤ m.ac ∨ m.ac < 0 by omega) with f_ac0 | g_ac0
      · rcases (show m.ac < c.co ∨ c.co ≤ m.ac by omega) with f_ac1 | g_ac1
        · exact ((refMay_7_0_4 c m w hok hln hkk hwh how f_to f_fr f_ac0 f_ac1).mono fun _ _ ⟨h, hb⟩ => ⟨h.trans (ret_bool (may_pass hok hln hkd (by grind [isin, holdsB, cth, htc, ctc, bare, another, acks, given, sender, fwdB, datB, ansB]) (by unfold nw; rw [hkk]; rfl)).symm), hb⟩)
        · exact ((refMay_7_0_4_ac1 c m w hok hln hkk hwh how f_to f_fr f_ac0 g_ac1).mono fun _ _ ⟨h, hb⟩ => ⟨h.trans (ret_bool (may_no4 (by grind [isin, holdsB, cth, htc, ctc, bare, another, acks, given, sender, fwdB, datB, ansB])).symm), hb⟩)
      · exact ((refMay_7_0_4_ac0 c m w hok hln hkk hwh how f_to f_fr g_ac0).mono fun _ _ ⟨h, hb⟩ => ⟨h.trans (ret_bool (may_no4 (by grind [isin, holdsB, cth, htc, ctc, bare, another, acks, given, sender, fwdB, datB, ansB])).symm), hb⟩)
    · exact ((refMay_7_0_ow c m w hok hln hkk hwh f_to f_fr (by simpa using o1) (by simpa using o2) (by simpa using o4)).mono fun _ _ ⟨h, hb⟩ => ⟨h.trans (ret_bool (may_no4 (by grind [isin, holdsB, cth, htc, ctc, bare, another, acks, given, sender, fwdB, datB, ansB])).symm), hb⟩)
  · rcases Bool.eq_false_or_eq_true (isin m.fr c.co) with f_fr | g_fr
    rotate_left
    · exact ((refMay_7_1_fr c m w hok hln hkk hwh f_to g_fr).mono fun _ _ ⟨h, hb⟩ => ⟨h.trans (ret_bool (may_no4 (by grind [isin, holdsB, cth, htc, ctc, bare, another, acks, given, sender, fwdB, datB, ansB])).symm), hb⟩)
    rcases (Bool.eq_false_or_eq_true (m.fr == m.to)).symm with f_ft | g_ft
    rotate_left
    · exact ((refMay_7_1_ft c m w hok hln hkk hwh f_to f_fr g_ft).mono fun _ _ ⟨h, hb⟩ => ⟨h.trans (ret_bool (may_no4 (by grind [isin, holdsB, cth, htc, ctc, bare, another, acks, given, sender, fwdB, datB, ansB])).symm), hb⟩)
    rcases (show m.ow = 1 ∨ m.ow = 2 ∨ m.ow = 4 ∨ (m.ow ≠ 1 ∧ m.ow ≠ 2 ∧ m.ow ≠ 4) by omega) with how | how | how | ⟨o1, o2, o4⟩
    · rcases (show 0 ≤ m.ac ∨ m.ac < 0 by omega) with f_ac0 | g_ac0
      · rcases (show m.ac < c.co ∨ c.co ≤ m.ac by omega) with f_ac1 | g_ac1
        · exact ((refMay_7_1_1 c m w hok hln hkk hwh how f_to f_fr f_ft f_ac0 f_ac1).mono fun _ _ ⟨h, hb⟩ => ⟨h.trans (ret_bool (may_pass hok hln hkd (by grind [isin, holdsB, cth, htc, ctc, bare, another, acks, given, sender, fwdB, datB, ansB]) (by unfold nw; rw [hkk]; rfl)).symm), hb⟩)
        · exact ((refMay_7_1_1_ac1 c m w hok hln hkk hwh how f_to f_fr f_ft f_ac0 g_ac1).mono fun _ _ ⟨h, hb⟩ => ⟨h.trans (ret_bool (may_no4 (by grind [isin, holdsB, cth, htc, ctc, bare, another, acks, given, sender, fwdB, datB, ansB])).symm), hb⟩)
      · exact ((refMay_7_1_1_ac0 c m w hok hln hkk hwh how f_to f_fr f_ft g_ac0).mono fun _ _ ⟨h, hb⟩ => ⟨h.trans (ret_bool (may_no4 (by grind [isin, holdsB, cth, htc, ctc, bare, another, acks, given, sender, fwdB, datB, ansB])).symm), hb⟩)
    · rcases (show 0 ≤ m.ac ∨ m.ac < 0 by omega) with f_ac0 | g_ac0
      · rcases (show m.ac < c.co ∨ c.co ≤ m.ac by omega) with f_ac1 | g_ac1
        · exact ((refMay_7_1_2 c m w hok hln hkk hwh how f_to f_fr f_ft f_ac0 f_ac1).mono fun _ _ ⟨h, hb⟩ => ⟨h.trans (ret_bool (may_pass hok hln hkd (by grind [isin, holdsB, cth, htc, ctc, bare, another, acks, given, sender, fwdB, datB, ansB]) (by unfold nw; rw [hkk]; rfl)).symm), hb⟩)
        · exact ((refMay_7_1_2_ac1 c m w hok hln hkk hwh how f_to f_fr f_ft f_ac0 g_ac1).mono fun _ _ ⟨h, hb⟩ => ⟨h.trans (ret_bool (may_no4 (by grind [isin, holdsB, cth, htc, ctc, bare, another, acks, given, sender, fwdB, datB, ansB])).symm), hb⟩)
      · exact ((refMay_7_1_2_ac0 c m w hok hln hkk hwh how f_to f_fr f_ft g_ac0).mono fun _ _ ⟨h, hb⟩ => ⟨h.trans (ret_bool (may_no4 (by grind [isin, holdsB, cth, htc, ctc, bare, another, acks, given, sender, fwdB, datB, ansB])).symm), hb⟩)
    · rcases (show 0 ≤ m.ac ∨ m.ac < 0 by omega) with f_ac0 | g_ac0
      · rcases (show m.ac < c.co ∨ c.co ≤ m.ac by omega) with f_ac1 | g_ac1
        · exact ((refMay_7_1_4 c m w hok hln hkk hwh how f_to f_fr f_ft f_ac0 f_ac1).mono fun _ _ ⟨h, hb⟩ => ⟨h.trans (ret_bool (may_pass hok hln hkd (by grind [isin, holdsB, cth, htc, ctc, bare, another, acks, given, sender, fwdB, datB, ansB]) (by unfold nw; rw [hkk]; rfl)).symm), hb⟩)
        · exact ((refMay_7_1_4_ac1 c m w hok hln hkk hwh how f_to f_fr f_ft f_ac0 g_ac1).mono fun _ _ ⟨h, hb⟩ => ⟨h.trans (ret_bool (may_no4 (by grind [isin, holdsB, cth, htc, ctc, bare, another, acks, given, sender, fwdB, datB, ansB])).symm), hb⟩)
      · exact ((refMay_7_1_4_ac0 c m w hok hln hkk hwh how f_to f_fr f_ft g_ac0).mono fun _ _ ⟨h, hb⟩ => ⟨h.trans (ret_bool (may_no4 (by grind [isin, holdsB, cth, htc, ctc, bare, another, acks, given, sender, fwdB, datB, ansB])).symm), hb⟩)
    · exact ((refMay_7_1_ow c m w hok hln hkk hwh f_to f_fr f_ft (by simpa using o1) (by simpa using o2) (by simpa using o4)).mono fun _ _ ⟨h, hb⟩ => ⟨h.trans (ret_bool (may_no4 (by grind [isin, holdsB, cth, htc, ctc, bare, another, acks, given, sender, fwdB, datB, ansB])).symm), hb⟩)
  · exact ((refMay_7_w0 c m w hok hln hkk f_to g_w).mono fun _ _ ⟨h, hb⟩ => ⟨h.trans (ret_bool (may_no4 (by grind [isin, holdsB, cth, htc, ctc, bare, another, acks, given, sender, fwdB, datB, ansB])).symm), hb⟩)
  · exact ((refMay_7_w1 c m w hok hln hkk f_to g_w).mono fun _ _ ⟨h, hb⟩ => ⟨h.trans (ret_bool (may_no4 (by grind [isin, holdsB, cth, htc, ctc, bare, another, acks, given, sender, fwdB, datB, ansB])).symm), hb⟩)

end Go.Proofs.Ytdggjbaapnkcgaa
