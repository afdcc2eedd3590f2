/- The walks over package set: ranks, the victim, a line put in, a new set. -/
import Derived.Test.YtobniidkkmlilaaWc
namespace Go.Proofs.Ytobniidkkmlilaa
open Go.RowKit Go.Coh

set_option maxHeartbeats 1000000 in
theorem highest_any (b off n : Nat) (L A R : Nat → Int) (w : World) (hn : n ≤ 8) (hn0 : 0 < n) (hR : ∀ j, 0 ≤ R j ∧ R j ≤ 3) (H : SetAt w b off n L A R) :
    Calls Try.prog 121 #[.pointer (some ⟨b, off, none⟩)] w fun e w' => e = .returned (.int .i64 (oldestW n R : Nat)) ∧ SetAt w' b off n L A (liftR n (3 - R (oldestW n R)) R) ∧ Upd (rowS b off 25) w w' := by
  have hc := H.cnt
  have hl := H.rk
  have HH : Hid (SetAt w b off n L A R) := H
  have HB : Hid (∀ j, 0 ≤ R j ∧ R j ≤ 3) := hR
  clear H hR
  go_enter Try.func121, Try.ntmps121
  go_wp2
  go_loopw [3, 4] (fun r i wr => ∃ k q : Nat, k ≤ n ∧ r = .int .i64 (argm (fun i j => decide (R j < R i)) 0 k : Nat) ∧ i = .int .i64 k ∧ wr = w.drewN q) (fun _ i _ => n - (intOf i).toNat)
  case atStart => exact ⟨0, 0, Nat.zero_le _, rfl, rfl, rfl⟩
  case round =>
    obtain ⟨k, q, hk, rfl, rfl, rfl⟩ := hrel
    have hlr := argm_lt (fun i j => decide (R j < R i)) 0 k n (by omega) hn0
    have HS : Hid (argm (fun i j => decide (R j < R i)) 0 (k + 1) = if decide (R (argm (fun i j => decide (R j < R i)) 0 k) < R k) then k else argm (fun i j => decide (R j < R i)) 0 k) := by
      show (if _ then _ else _) = _
      simp only [Nat.zero_add]
    by_cases hlt : k < n
    · have hlk := hl.c k (by omega)
      have hla := hl.c (argm (fun i j => decide (R j < R i)) 0 k) (by omega)
      generalize argm (fun i j => decide (R j < R i)) 0 k = r at *
      go_wp2
      go_quiet (fail)
      go_wp2
      all_goals
        go_roundw
        case rel => exact ⟨k + 1, _, by omega, by rw [HS.out]; first | rw [if_pos (decide_eq_true ‹_›)] | rw [if_neg (by simp only [decide_eq_true_eq]; omega)], by go_num, rfl⟩
        case measure => simp [intOf]; omega
    · have HR : Hid (oldestW n R = argm (fun i j => decide (R j < R i)) 0 k) := by rw [show k = n from by omega]; rfl
      clear HS
      generalize argm (fun i j => decide (R j < R i)) 0 k = r at *
      have hr := hl.c r (by omega)
      have hbr := HB.out r
      clear hl
      go_wp2
      go_loopw [6] (fun i wr => ∃ k : Nat, k ≤ n ∧ i = .int .i64 k ∧ SetAt wr b off n L A (liftR k (3 - R r) R) ∧ Upd (rowS b off 25) w wr) (fun i _ => n - (intOf i).toNat)
      case atStart => exact ⟨0, Nat.zero_le _, rfl, (HH.out.drewN q).congr (fun _ _ => rfl) (fun _ _ => rfl) (fun j _ => by simp [liftR]), (Upd.refl _ _).drewN q⟩
      case round =>
        obtain ⟨i, hi, rfl, hs, hu⟩ := hrel
        have hc' := hs.cnt
        have HS : Hid (SetAt wr b off n L A (liftR i (3 - R r) R)) := hs
        have HU : Hid (Upd (rowS b off 25) w wr) := hu
        clear hs hu
        by_cases hlt : i < n
        · have hak := HS.out.rk.c i (by omega)
          have hfk := HS.out.rk.f i (by omega)
          have hbk := HB.out i
          have ek : liftR i (3 - R r) R i = R i := by simp [liftR]
          rw [ek] at hak
          clear ek
          go_wp2
          go_region
          all_goals go_wp2
          all_goals
            go_roundw
            case rel =>
              refine ⟨i + 1, by omega, by go_num, ((HS.out.setR (by omega) (R i + (3 - R r))).congr (fun _ _ => rfl) (fun _ _ => rfl) (fun j hj => ?_)).drew, (upd_at HU.out (by omega) _).drew⟩
              unfold upd liftR
              by_cases hjk : j = i
              · subst hjk; rw [if_pos rfl, if_pos (by omega)]
              · rw [if_neg hjk]
                by_cases hj2 : j < i
                · rw [if_pos hj2, if_pos (by omega)]
                · rw [if_neg hj2, if_neg (by omega)]
            case measure => simp [intOf]; omega
        · go_wp2
          go_ret
          refine ⟨ret_int (by rw [HR.out]), ?_, HU.out⟩
          rw [HR.out]
          rw [show n = i from by omega]
          have := HS.out
          rwa [show n = i from by omega] at this

set_option maxHeartbeats 1000000 in
theorem victim_any (b off n p : Nat) (L A R : Nat → Int) (w : World) (hn : Size n) (hR : ∀ j, 0 ≤ R j ∧ R j ≤ 3) (H : SetAt w b off n L A R) :
    Calls Try.prog 115 #[.pointer (some ⟨b, off, none⟩), .int .i64 p] w fun e w' => e = .returned (.int .i64 (victimW p n A R : Nat)) ∧ SetAt w' b off n L A (victimR p n R) ∧ Upd (rowS b off 25) w w' := by
  have hn8 : n ≤ 8 ∧ 0 < n := by rcases hn with h | h | h | h <;> omega
  have HH : Hid (SetAt w b off n L A R) := H
  have HB : Hid (∀ j, 0 ≤ R j ∧ R j ≤ 3) := hR
  have HN : Hid (Size n) := hn
  clear H hR hn
  by_cases h0 : p = 0
  · subst h0
    go_enter Try.func115, Try.ntmps115
    go_wp2_with fail
    refine (oldest_any b off n L A R _ hn8.1 hn8.2 HH.out).mono ?_
    rintro e w1 ⟨rfl, q, rfl⟩
    go_wp2
    go_ret
    exact ⟨rfl, HH.out.drewN q, (Upd.refl _ _).drewN q⟩
  · have e0 : ((p : Int) == 0) = false := by simp; omega
    by_cases h1 : p = 1
    · subst h1
      go_enter Try.func115, Try.ntmps115
      go_wp2_with fail
      refine (leaf_any b off n L A R _ HN.out HH.out).mono ?_
      rintro e w1 ⟨rfl, q, rfl⟩
      go_wp2
      go_ret
      exact ⟨rfl, HH.out.drewN q, (Upd.refl _ _).drewN q⟩
    · have e1 : ((p : Int) == 1) = false := by simp; omega
      go_enter Try.func115, Try.ntmps115
      go_wp2_with fail
      refine (highest_any b off n L A R _ hn8.1 hn8.2 HB.out HH.out).mono ?_
      rintro e w1 ⟨rfl, hs, hu⟩
      go_wp2
      go_ret
      refine ⟨ret_int (by simp [victimW, h0, h1]), ?_, hu⟩
      have : victimR p n R = liftR n (3 - R (oldestW n R)) R := by simp [victimR, h0, h1]
      rw [this]; exact hs

end Go.Proofs.Ytobniidkkmlilaa
