/- The walks over package set: the methods that write. -/
import Derived.Test.YtobniidkkmlilaaWb
import Derived.RegionTactic
import Derived.BigRegion
namespace Go.Proofs.Ytobniidkkmlilaa
open Go.RowKit Go.Coh

theorem SetAt.drew {w : World} {b off n : Nat} {L A R : Nat → Int} (h : SetAt w b off n L A R) : SetAt w.drew b off n L A R := ⟨h.cnt, h.ln, h.ag, h.rk⟩

set_option maxHeartbeats 1000000 in
theorem touch_any (b off n way : Nat) (L A R : Nat → Int) (w : World) (hn : n ≤ 8) (hw : way < n) (hA : ∀ j, 0 ≤ A j ∧ A j ≤ 100) (H : SetAt w b off n L A R) :
    Calls Try.prog 114 #[.pointer (some ⟨b, off, none⟩), .int .i64 way] w fun e w' => e = .returned (.tuple #[]) ∧ SetAt w' b off n L (touchA n way A) R ∧ Upd (rowS b off 25) w w' := by
  have ha := H.ag.c way (by omega)
  have hb := hA way
  have HH : Hid (SetAt w b off n L A R) := H
  have HB : Hid (∀ j, 0 ≤ A j ∧ A j ≤ 100) := hA
  clear H hA
  go_enter Try.func114, Try.ntmps114
  go_wp2
  go_loopw [5] (fun i wr => ∃ k : Nat, k ≤ n ∧ i = .int .i64 k ∧ SetAt wr b off n L (touchTo k (A way) A) R ∧ Upd (rowS b off 25) w wr) (fun i _ => n - (intOf i).toNat)
  case atStart => exact ⟨0, Nat.zero_le _, rfl, HH.out.congr (fun _ _ => rfl) (fun j _ => by simp [touchTo]) (fun _ _ => rfl), Upd.refl _ _⟩
  case round =>
    obtain ⟨k, hk, rfl, hs, hu⟩ := hrel
    have hc := hs.cnt
    have HS : Hid (SetAt wr b off n L (touchTo k (A way) A) R) := hs
    have HU : Hid (Upd (rowS b off 25) w wr) := hu
    clear hs hu ha
    by_cases hlt : k < n
    · have hak := HS.out.ag.c k (by omega)
      have hfk := HS.out.ag.f k (by omega)
      have hbk := HB.out k
      have ek : touchTo k (A way) A k = A k := by simp [touchTo]
      rw [ek] at hak
      clear ek
      by_cases hcmp : A k < A way
      · go_wp2
        go_region
        all_goals go_wp2
        all_goals
          go_roundw
          case rel =>
            refine ⟨k + 1, by omega, by go_num, ((HS.out.setA (by omega) (A k + 1)).congr (fun _ _ => rfl) (fun j hj => ?_) (fun _ _ => rfl)).drew, (upd_at HU.out (by omega) _).drew⟩
            unfold upd touchTo
            by_cases hjk : j = k
            · subst hjk; rw [if_pos rfl, if_pos (by omega)]
            · rw [if_neg hjk]
              by_cases hj2 : j < k ∧ A j < A way
              · rw [if_pos hj2, if_pos (by omega)]
              · rw [if_neg hj2, if_neg (by omega)]
          case measure => simp [intOf]; omega
      · go_wp2
        go_roundw
        case rel =>
          refine ⟨k + 1, by omega, by go_num, HS.out.congr (fun _ _ => rfl) (fun j hj => ?_) (fun _ _ => rfl), HU.out⟩
          unfold touchTo
          by_cases hjk : j = k
          · subst hjk; rw [if_neg (by omega), if_neg (by omega)]
          · by_cases hj2 : j < k ∧ A j < A way
            · rw [if_pos hj2, if_pos (by omega)]
            · rw [if_neg hj2, if_neg (by omega)]
        case measure => simp [intOf]; omega
    · have hfw := HS.out.ag.f way (by omega)
      have haw := HS.out.ag.c way (by omega)
      go_wp2
      go_end0
      refine ⟨rfl, (HS.out.setA (by omega) 0).congr (fun _ _ => rfl) (fun j hj => ?_) (fun _ _ => rfl), upd_at HU.out (by omega) _⟩
      unfold upd touchA touchTo
      by_cases hjw : j = way
      · rw [if_pos hjw, if_pos hjw]
      · rw [if_neg hjw, if_neg hjw, show k = n from by omega]

theorem touch_int (b off n way : Nat) (i : Int) (L A R : Nat → Int) (w : World) (ei : i = way) (hn : n ≤ 8) (hw : way < n) (hA : ∀ j, 0 ≤ A j ∧ A j ≤ 100) (H : SetAt w b off n L A R) :
    Calls Try.prog 114 #[.pointer (some ⟨b, off, none⟩), .int .i64 i] w fun e w' => e = .returned (.tuple #[]) ∧ SetAt w' b off n L (touchA n way A) R ∧ Upd (rowS b off 25) w w' := by
  subst ei; exact touch_any b off n way L A R w hn hw hA H

set_option maxHeartbeats 1000000 in
theorem Found_any (b off n way : Nat) (L A R : Nat → Int) (w : World) (hn : n ≤ 8) (hw : way < n) (hA : ∀ j, 0 ≤ A j ∧ A j ≤ 100) (H : SetAt w b off n L A R) :
    Calls Try.prog 93 #[.pointer (some ⟨b, off, none⟩), .int .i64 way] w fun e w' => e = .returned (.tuple #[]) ∧ SetAt w' b off n L (touchA n way A) (upd R way 0) ∧ Upd (rowS b off 25) w w' := by
  have hc := H.cnt
  have HH : Hid (SetAt w b off n L A R) := H
  have HB : Hid (∀ j, 0 ≤ A j ∧ A j ≤ 100) := hA
  clear H hA
  go_enter Try.func93, Try.ntmps93
  go_wp2_with fail
  refine (touch_any b off n way L A R _ hn hw HB.out HH.out).mono ?_
  rintro e w1 ⟨rfl, hs, hu⟩
  have hf := hs.rk.f way (by omega)
  have hcell := hs.rk.c way (by omega)
  have HS : Hid (SetAt w1 b off n L (touchA n way A) R) := hs
  have HU : Hid (Upd (rowS b off 25) w w1) := hu
  clear hs hu hc
  go_wp2
  go_end0
  exact ⟨rfl, HS.out.setR (by omega) 0, upd_at HU.out (by omega) _⟩

set_option maxHeartbeats 1000000 in
theorem Next_any (b off p : Nat) (c : Int) (w : World) (h0 : 0 ≤ c) (h8 : c < 8) (H : HoldsF w b off 1 (fun _ => c)) :
    Calls Try.prog 94 #[.pointer (some ⟨b, off, none⟩), .int .i64 p] w fun e w' => e = .returned (.int .i64 (nextRank p c)) ∧ HoldsF w' b off 1 (fun _ => nextCount p c) ∧ Upd (rowS b off 1) w w' := by
  have hc := H.c 0 (by omega)
  have hf := H.f 0 (by omega)
  rw [Nat.add_zero] at hc hf
  have HH : Hid (HoldsF w b off 1 (fun _ => c)) := H
  clear H
  by_cases hp : p = 3
  · subst hp
    by_cases h7 : c + 1 < 8
    · go_enter Try.func94, Try.ntmps94
      go_wp2
      go_ret
      refine ⟨ret_int (by simp [nextRank, h7]), ?_, ?_⟩
      · exact (HH.out.set (by omega : 0 < 1) (c + 1)).congr (fun j hj => by simp [upd, nextCount, h7]; omega)
      · exact (Upd.refl _ _).setRow (i := 0) (by omega) _
    · go_enter Try.func94, Try.ntmps94
      go_wp2
      go_ret
      refine ⟨ret_int (by simp [nextRank, h7]), ?_, ?_⟩
      · exact ((HH.out.set (by omega : 0 < 1) (c + 1)).set (by omega : 0 < 1) 0).congr (fun j hj => by simp [upd, nextCount]; omega)
      · exact ((Upd.refl _ _).setRow (i := 0) (by omega) _).setRow (i := 0) (by omega) _
  · have hpb : ((p : Int) != 3) = true := by simp; omega
    go_enter Try.func94, Try.ntmps94
    go_wp2
    go_ret
    exact ⟨ret_int (by simp [nextRank, hp]), HH.out.congr (fun j hj => by simp [nextCount, hp]), Upd.refl _ _⟩

end Go.Proofs.Ytobniidkkmlilaa
