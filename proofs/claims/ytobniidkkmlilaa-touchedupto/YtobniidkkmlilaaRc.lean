/- The walks over package coherentref: the victims. -/
import Derived.Test.YtobniidkkmlilaaRb
namespace Go.Proofs.Ytobniidkkmlilaa
open Go.RowKit Go.Coh

theorem argm_neg (T : Nat → Int) (lo k : Nat) : argm (fun i j => decide (T j < T i)) lo k = argm (fun i j => decide ((fun i => - T i) i < (fun i => - T i) j)) lo k := by
  congr 1
  funext i j
  rw [Bool.eq_iff_iff]
  simp only [decide_eq_true_eq]
  omega

set_option maxHeartbeats 1000000 in
theorem refHalved_any (b g cap lo hi : Nat) (h : Int) (s : RC) (w : World) (eh : h = hi) (ehi : hi = lo + s.W) (ok : RcOk s) (hh : hi ≤ s.n) (H : RefAt w b g cap s) :
    Calls Try.prog 74 #[.pointer (some ⟨b, 0, none⟩), .int .i64 lo, .int .i64 h] w fun e w' => e = .returned (.int .i64 (leaf (fun i => - s.T i) (lg s.W) lo : Nat)) ∧ ∃ q, w' = w.drewN q := by
  subst eh
  have HH : Hid (RefAt w b g cap s) := H
  have hn := ok.n
  have HST : Hid (∃ m : Nat, lg s.W = m ∧ (hi = lo + 1 ∧ m = 0 ∨ hi = lo + 2 ∧ m = 1 ∨ hi = lo + 4 ∧ m = 2 ∨ hi = lo + 8 ∧ m = 3)) := by
    rcases ok.wz with e | e | e | e <;> rw [e] at ehi ⊢ <;> exact ⟨_, rfl, by simp [lg]; omega⟩
  clear H ok ehi
  go_enter Try.func74, Try.ntmps74
  go_wp2
  go_loopw [1, 2] (fun l h wr => ∃ (m a z q : Nat), z ≤ hi ∧ l = .int .i64 a ∧ h = .int .i64 z ∧ wr = w.drewN q ∧ leaf (fun i => - s.T i) m a = leaf (fun i => - s.T i) (lg s.W) lo ∧ (z = a + 1 ∧ m = 0 ∨ z = a + 2 ∧ m = 1 ∨ z = a + 4 ∧ m = 2 ∨ z = a + 8 ∧ m = 3)) (fun l h _ => (intOf h - intOf l).toNat)
  case atStart =>
    obtain ⟨m, hm, hst⟩ := HST.out
    exact ⟨m, lo, hi, 0, Nat.le_refl _, rfl, rfl, rfl, by rw [hm], hst⟩
  case round =>
    obtain ⟨m, a, z, q, hz, rfl, rfl, rfl, hlf, hcase⟩ := hrel
    have HLF : Hid (leaf (fun i => - s.T i) m a = leaf (fun i => - s.T i) (lg s.W) lo) := hlf
    clear hlf HST
    rcases hcase with ⟨rfl, rfl⟩ | ⟨rfl, rfl⟩ | ⟨rfl, rfl⟩ | ⟨rfl, rfl⟩
    · go_wp2
      go_ret
      exact ⟨ret_int (by rw [← HLF.out]; rfl), q, rfl⟩
    · have HA : Hid (leaf (fun i => - s.T i) 1 a = leaf (fun i => - s.T i) 0 (if argm (fun i j => decide (s.T j < s.T i)) a (a + 2 - a) < a + 1 then a + 1 else a)) := by
        rw [argm_neg, show a + 2 - a = 2 by omega]; rfl
      have hy := argm_bd (fun i j => decide (s.T j < s.T i)) a (a + 2 - a)
      have hmid : ((a : Int) + ((a : Int) + 2)) / 2 = ((a + 1 : Nat) : Int) := by omega
      have HMID := (show Hid _ from hmid)
      have htw : (a : Int) + 2 - a = 2 := by omega
      clear hmid
      go_wp2_with fail
      refine (refNewest_any b g cap a (a + 2) _ _ s _ rfl (by simp) (by omega) (by omega) hn (HH.out.drewN q)).mono ?_
      rintro e w' ⟨rfl, q1, rfl⟩
      rw [HMID.out]
      generalize argm (fun i j => decide (s.T j < s.T i)) a (a + 2 - a) = y at *
      by_cases hyl : y < a + 1
      · go_wp2
        go_roundw
        case rel =>
          refine ⟨0, a + 1, a + 2, _, by omega, by first | rfl | go_num, by first | rfl | go_num, rfl, ?_, by omega⟩
          rw [← HLF.out, HA.out]; rw [if_pos hyl]
        case measure => simp [intOf]; omega
      · go_wp2
        go_roundw
        case rel =>
          refine ⟨0, a, a + 1, _, by omega, by first | rfl | go_num, by first | rfl | go_num, rfl, ?_, by omega⟩
          rw [← HLF.out, HA.out]; rw [if_neg hyl]
        case measure => simp [intOf]; omega
    · have HA : Hid (leaf (fun i => - s.T i) 2 a = leaf (fun i => - s.T i) 1 (if argm (fun i j => decide (s.T j < s.T i)) a (a + 4 - a) < a + 2 then a + 2 else a)) := by
        rw [argm_neg, show a + 4 - a = 4 by omega]; rfl
      have hy := argm_bd (fun i j => decide (s.T j < s.T i)) a (a + 4 - a)
      have hmid : ((a : Int) + ((a : Int) + 4)) / 2 = ((a + 2 : Nat) : Int) := by omega
      have HMID := (show Hid _ from hmid)
      have htw : (a : Int) + 4 - a = 4 := by omega
      clear hmid
      go_wp2_with fail
      refine (refNewest_any b g cap a (a + 4) _ _ s _ rfl (by simp) (by omega) (by omega) hn (HH.out.drewN q)).mono ?_
      rintro e w' ⟨rfl, q1, rfl⟩
      rw [HMID.out]
      generalize argm (fun i j => decide (s.T j < s.T i)) a (a + 4 - a) = y at *
      by_cases hyl : y < a + 2
      · go_wp2
        go_roundw
        case rel =>
          refine ⟨1, a + 2, a + 4, _, by omega, by first | rfl | go_num, by first | rfl | go_num, rfl, ?_, by omega⟩
          rw [← HLF.out, HA.out]; rw [if_pos hyl]
        case measure => simp [intOf]; omega
      · go_wp2
        go_roundw
        case rel =>
          refine ⟨1, a, a + 2, _, by omega, by first | rfl | go_num, by first | rfl | go_num, rfl, ?_, by omega⟩
          rw [← HLF.out, HA.out]; rw [if_neg hyl]
        case measure => simp [intOf]; omega
    · have HA : Hid (leaf (fun i => - s.T i) 3 a = leaf (fun i => - s.T i) 2 (if argm (fun i j => decide (s.T j < s.T i)) a (a + 8 - a) < a + 4 then a + 4 else a)) := by
        rw [argm_neg, show a + 8 - a = 8 by omega]; rfl
      have hy := argm_bd (fun i j => decide (s.T j < s.T i)) a (a + 8 - a)
      have hmid : ((a : Int) + ((a : Int) + 8)) / 2 = ((a + 4 : Nat) : Int) := by omega
      have HMID := (show Hid _ from hmid)
      have htw : (a : Int) + 8 - a = 8 := by omega
      clear hmid
      go_wp2_with fail
      refine (refNewest_any b g cap a (a + 8) _ _ s _ rfl (by simp) (by omega) (by omega) hn (HH.out.drewN q)).mono ?_
      rintro e w' ⟨rfl, q1, rfl⟩
      rw [HMID.out]
      generalize argm (fun i j => decide (s.T j < s.T i)) a (a + 8 - a) = y at *
      by_cases hyl : y < a + 4
      · go_wp2
        go_roundw
        case rel =>
          refine ⟨2, a + 4, a + 8, _, by omega, by first | rfl | go_num, by first | rfl | go_num, rfl, ?_, by omega⟩
          rw [← HLF.out, HA.out]; rw [if_pos hyl]
        case measure => simp [intOf]; omega
      · go_wp2
        go_roundw
        case rel =>
          refine ⟨2, a, a + 4, _, by omega, by first | rfl | go_num, by first | rfl | go_num, rfl, ?_, by omega⟩
          rw [← HLF.out, HA.out]; rw [if_neg hyl]
        case measure => simp [intOf]; omega

end Go.Proofs.Ytobniidkkmlilaa
