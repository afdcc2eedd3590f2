/- The walks over package set: a line put in, a new set. -/
import Derived.Test.YtobniidkkmlilaaWd
namespace Go.Proofs.Ytobniidkkmlilaa
open Go.RowKit Go.Coh

set_option maxHeartbeats 1000000 in
theorem Put_any (b off n p : Nat) (x r : Int) (L A R : Nat → Int) (w : World) (hn : Size n) (hA : ∀ j, 0 ≤ A j ∧ A j ≤ 100) (hR : ∀ j, 0 ≤ R j ∧ R j ≤ 3) (H : SetAt w b off n L A R) :
    Calls Try.prog 95 #[.pointer (some ⟨b, off, none⟩), .int .i64 p, .int .i64 x, .int .i64 r] w fun e w' =>
      e = .returned (.tuple #[.int .i64 (putW p n L A R : Nat), .int .i64 (L (putW p n L A R))]) ∧
      SetAt w' b off n (upd L (putW p n L A R) x) (touchA n (putW p n L A R) A) (upd (putR p n L R) (putW p n L A R) r) ∧ Upd (rowS b off 25) w w' := by
  have hn8 : n ≤ 8 ∧ 0 < n := by rcases hn with h | h | h | h <;> omega
  have hlt := putW_lt (p := p) L A R hn
  have HH : Hid (SetAt w b off n L A R) := H
  have HA : Hid (∀ j, 0 ≤ A j ∧ A j ≤ 100) := hA
  have HB : Hid (∀ j, 0 ≤ R j ∧ R j ≤ 3) := hR
  have HN : Hid (Size n) := hn
  clear H hA hR hn
  cases hf : findN L (-1) n with
  | some k =>
    have HW : Hid (putW p n L A R = k) := by unfold putW; rw [hf]; rfl
    have HP : Hid (putR p n L R = R) := by unfold putR; rw [hf]; rfl
    have HF : Hid (findN L (-1) n = some k) := hf
    rw [HW.out, HP.out]
    rw [HW.out] at hlt
    clear hf HP HW
    have hl := HH.out.ln.c k (by omega)
    have hlf := HH.out.ln.f k (by omega)
    have hr := HH.out.rk.c k (by omega)
    have hrf := HH.out.rk.f k (by omega)
    go_enter Try.func95, Try.ntmps95
    go_wp2_with fail
    refine (Find_any b off n _ L A R _ hn8.1 HH.out).mono ?_
    rintro e w1 ⟨rfl, rfl⟩
    rw [HF.out]
    simp only [oi]
    go_wp2_with fail
    refine (touch_int b off n k _ _ _ _ _ rfl hn8.1 hlt HA.out ((HH.out.setL (by omega) x).setR (by omega) r)).mono ?_
    rintro e w2 ⟨rfl, hs, hu⟩
    have HS : Hid (SetAt w2 b off n (upd L k x) (touchA n k A) (upd R k r)) := hs
    have HU : Hid (Upd (rowS b off 25) w1 w2) := (upd_at (upd_at (Upd.refl _ _) (by omega) _) (by omega) _).trans hu
    clear hs hu
    go_wp2
    go_ret2
    exact ⟨rfl, HS.out, HU.out⟩
  | none =>
    have HW : Hid (putW p n L A R = victimW p n A R) := by unfold putW; rw [hf]; rfl
    have HP : Hid (putR p n L R = victimR p n R) := by unfold putR; rw [hf]; rfl
    have HF : Hid (findN L (-1) n = none) := hf
    rw [HW.out, HP.out]
    rw [HW.out] at hlt
    clear hf HP HW
    generalize hv : victimW p n A R = k at *
    have HV : Hid (victimW p n A R = k) := hv
    clear hv
    go_enter Try.func95, Try.ntmps95
    go_wp2_with fail
    refine (Find_any b off n _ L A R _ hn8.1 HH.out).mono ?_
    rintro e w1 ⟨rfl, rfl⟩
    rw [HF.out]
    simp only [oi]
    go_wp2_with fail
    refine (victim_any b off n p L A R _ HN.out HB.out HH.out).mono ?_
    rintro e w2 ⟨rfl, hs, hu⟩
    rw [HV.out]
    have hl := hs.ln.c k (by omega)
    have hlf := hs.ln.f k (by omega)
    have hr := hs.rk.c k (by omega)
    have hrf := hs.rk.f k (by omega)
    have HS : Hid (SetAt w2 b off n L A (victimR p n R)) := hs
    have HU : Hid (Upd (rowS b off 25) w1 w2) := hu
    clear hs hu
    go_wp2_with fail
    refine (touch_int b off n k _ _ _ _ _ rfl hn8.1 hlt HA.out ((HS.out.setL (by omega) x).setR (by omega) r)).mono ?_
    rintro e w3 ⟨rfl, hs, hu⟩
    have HS3 : Hid (SetAt w3 b off n (upd L k x) (touchA n k A) (upd (victimR p n R) k r)) := hs
    have HU3 : Hid (Upd (rowS b off 25) w1 w3) := (upd_at (upd_at HU.out (by omega) _) (by omega) _).trans hu
    clear hs hu
    go_wp2
    go_ret2
    exact ⟨rfl, HS3.out, HU3.out⟩

end Go.Proofs.Ytobniidkkmlilaa
