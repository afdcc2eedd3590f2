import Derived.Test.YtobniidkkmlilabPk03
import Derived.RegionTactic
import Derived.BigRegion

/- The walks over package set: the methods that write. -/
namespace Go.Proofs.Ytobniidkkmlilab
open Go.RowKit Go.Coh

theorem SetAt.drew {w : World} {b off n : Nat} {L A R : Nat → Int} (h : SetAt w b off n L A R) : SetAt w.drew b off n L A R := ⟨h.cnt, h.ln, h.ag, h.rk⟩

set_option maxHeartbeats 1000000 in
theorem touch_any (b off n way : Nat) (L A R : Nat → Int) (w : World) (hn : n ≤ 8) (hw : way < n) (hA : ∀ j, 0 ≤ A j ∧ A j ≤ 100) (H : SetAt w b off n L A R) :
    Calls Try.prog 89 #[.pointer (some ⟨b, off, none⟩), .int .i64 way] w fun e w' => e = .returned (.tuple #[]) ∧ SetAt w' b off n L (touchA n way A) R ∧ Upd (rowS b off 25) w w' := by
  have ha := H.ag.c way (by omega)
  have hb := hA way
  have HH : Hid (SetAt w b off n L A R) := H
  have HB : Hid (∀ j, 0 ≤ A j ∧ A j ≤ 100) := hA
  clear H hA
  go_enter Try.func89, Try.ntmps89
  go_wp2
  go_loopw [5] (fun i wr => ∃ k : Nat, k ≤ n ∧ i = .int .i64 k ∧ SetAt wr b off n L (touchTo k (A way) A) R ∧ Upd (rowS b off 25) w wr) (fun i _ => n - (intOf i).toNat)
  case atStart => exact ⟨0, Nat.zero_le _, rfl, HH.out.congr (fun _ _ => rfl) (fun j _ => by simp [touchTo]) (fun _ _ => rfl), Upd.refl _ _⟩
  case round =>
    obtain ⟨k, hk, rfl, hs, hu⟩ := hrel
    have hc := hs.cnt
    have HS : Hid (SetAt wr b off n L (touchTo k (A way) A) R) := hs
    have HU : Hid (Upd (rowS b off 25) w wr) := hu
    clear hs hu ha
    by_cases hlt : k < n
    · have hak := HS.out.ag.c k (by omega)
      have hfk := HS.out.ag.f k (by omega)
      have hbk := HB.out k
      have ek : touchTo k (A way) A k = A k := by simp [touchTo]
      rw [ek] at hak
      clear ek
      by_cases hcmp : A k < A way
      · go_wp2
        go_region
        all_goals go_wp2
        all_goals
          go_roundw
          case rel =>
            refine ⟨k + 1, by omega, by go_num, ((HS.out.setA (by omega) (A k + 1)).congr (fun _ _ => rfl) (fun j hj => ?_) (fun _ _ => rfl)).drew, (upd_at HU.out (by omega) _).drew⟩
            unfold upd touchTo
            by_cases hjk : j = k
            · subst hjk; rw [if_pos rfl, if_pos (by omega)]
            · rw [if_neg hjk]
              by_cases hj2 : j < k ∧ A j < A way
              · rw [if_pos hj2, if_pos (by omega)]
              · rw [if_neg hj2, if_neg (by omega)]
          case measure => simp [intOf]; omega
      · go_wp2
        go_roundw
        case rel =>
          refine ⟨k + 1, by omega, by go_num, HS.out.congr (fun _ _ => rfl) (fun j hj => ?_) (fun _ _ => rfl), HU.out⟩
          unfold touchTo
          by_cases hjk : j = k
          · subst hjk; rw [if_neg (by omega), if_neg (by omega)]
          · by_cases hj2 : j < k ∧ A j < A way
            · rw [if_pos hj2, if_pos (by omega)]
            · rw [if_neg hj2, if_neg (by omega)]
        case measure => simp [intOf]; omega
    · have hfw := HS.out.ag.f way (by omega)
      have haw := HS.out.ag.c way (by omega)
      go_wp2
      go_end0
      refine ⟨rfl, (HS.out.setA (by omega) 0).congr (fun _ _ => rfl) (fun j hj => ?_) (fun _ _ => rfl), upd_at HU.out (by omega) _⟩
      unfold upd touchA touchTo
      by_cases hjw : j = way
      · rw [if_pos hjw, if_pos hjw]
      · rw [if_neg hjw, if_neg hjw, show k = n from by omega]

theorem touch_int (b off n way : Nat) (i : Int) (L A R : Nat → Int) (w : World) (ei : i = way) (hn : n ≤ 8) (hw : way < n) (hA : ∀ j, 0 ≤ A j ∧ A j ≤ 100) (H : SetAt w b off n L A R) :
    Calls Try.prog 89 #[.pointer (some ⟨b, off, none⟩), .int .i64 i] w fun e w' => e = .returned (.tuple #[]) ∧ SetAt w' b off n L (touchA n way A) R ∧ Upd (rowS b off 25) w w' := by
  subst ei; exact touch_any b off n way L A R w hn hw hA H

set_option maxHeartbeats 1000000 in
theorem Found_any (b off n way : Nat) (L A R : Nat → Int) (w : World) (hn : n ≤ 8) (hw : way < n) (hA : ∀ j, 0 ≤ A j ∧ A j ≤ 100) (H : SetAt w b off n L A R) :
    Calls Try.prog 80 #[.pointer (some ⟨b, off, none⟩), .int .i64 way] w fun e w' => e = .returned (.tuple #[]) ∧ SetAt w' b off n L (touchA n way A) (upd R way 0) ∧ Upd (rowS b off 25) w w' := by
  have hc := H.cnt
  have HH : Hid (SetAt w b off n L A R) := H
  have HB : Hid (∀ j, 0 ≤ A j ∧ A j ≤ 100) := hA
  clear H hA
  go_enter Try.func80, Try.ntmps80
  go_wp2_with fail
  refine (touch_any b off n way L A R _ hn hw HB.out HH.out).mono ?_
  rintro e w1 ⟨rfl, hs, hu⟩
  have hf := hs.rk.f way (by omega)
  have hcell := hs.rk.c way (by omega)
  have HS : Hid (SetAt w1 b off n L (touchA n way A) R) := hs
  have HU : Hid (Upd (rowS b off 25) w w1) := hu
  clear hs hu hc
  go_wp2
  go_end0
  exact ⟨rfl, HS.out.setR (by omega) 0, upd_at HU.out (by omega) _⟩

set_option maxHeartbeats 1000000 in
theorem Next_any (b off p : Nat) (c : Int) (w : World) (h0 : 0 ≤ c) (h8 : c < 8) (H : HoldsF w b off 1 (fun _ => c)) :
    Calls Try.prog 81 #[.pointer (some ⟨b, off, none⟩), .int .i64 p] w fun e w' => e = .returned (.int .i64 (nextRank p c)) ∧ HoldsF w' b off 1 (fun _ => nextCount p c) ∧ Upd (rowS b off 1) w w' := by
  have hc := H.c 0 (by omega)
  have hf := H.f 0 (by omega)
  rw [Nat.add_zero] at hc hf
  have HH : Hid (HoldsF w b off 1 (fun _ => c)) := H
  clear H
  by_cases hp : p = 3
  · subst hp
    by_cases h7 : c + 1 < 8
    · go_enter Try.func81, Try.ntmps81
      go_wp2
      go_ret
      refine ⟨ret_int (by simp [nextRank, h7]), ?_, ?_⟩
      · exact (HH.out.set (by omega : 0 < 1) (c + 1)).congr (fun j hj => by simp [upd, nextCount, h7]; omega)
      · exact (Upd.refl _ _).setRow (i := 0) (by omega) _
    · go_enter Try.func81, Try.ntmps81
      go_wp2
      go_ret
      refine ⟨ret_int (by simp [nextRank, h7]), ?_, ?_⟩
      · exact ((HH.out.set (by omega : 0 < 1) (c + 1)).set (by omega : 0 < 1) 0).congr (fun j hj => by simp [upd, nextCount]; omega)
      · exact ((Upd.refl _ _).setRow (i := 0) (by omega) _).setRow (i := 0) (by omega) _
  · have hpb : ((p : Int) != 3) = true := by simp; omega
    go_enter Try.func81, Try.ntmps81
    go_wp2
    go_ret
    exact ⟨ret_int (by simp [nextRank, hp]), HH.out.congr (fun j hj => by simp [nextCount, hp]), Upd.refl _ _⟩

end Go.Proofs.Ytobniidkkmlilab

/- The walks over package set: ranks, the victim, a line put in, a new set. -/
namespace Go.Proofs.Ytobniidkkmlilab
open Go.RowKit Go.Coh

set_option maxHeartbeats 1000000 in
theorem highest_any (b off n : Nat) (L A R : Nat → Int) (w : World) (hn : n ≤ 8) (hn0 : 0 < n) (hR : ∀ j, 0 ≤ R j ∧ R j ≤ 3) (H : SetAt w b off n L A R) :
    Calls Try.prog 98 #[.pointer (some ⟨b, off, none⟩)] w fun e w' => e = .returned (.int .i64 (oldestW n R : Nat)) ∧ SetAt w' b off n L A (liftR n (3 - R (oldestW n R)) R) ∧ Upd (rowS b off 25) w w' := by
  have hc := H.cnt
  have hl := H.rk
  have HH : Hid (SetAt w b off n L A R) := H
  have HB : Hid (∀ j, 0 ≤ R j ∧ R j ≤ 3) := hR
  clear H hR
  go_enter Try.func98, Try.ntmps98
  go_wp2
  go_loopw [3, 4] (fun r i wr => ∃ k q : Nat, k ≤ n ∧ r = .int .i64 (argm (fun i j => decide (R j < R i)) 0 k : Nat) ∧ i = .int .i64 k ∧ wr = w.drewN q) (fun _ i _ => n - (intOf i).toNat)
  case atStart => exact ⟨0, 0, Nat.zero_le _, rfl, rfl, rfl⟩
  case round =>
    obtain ⟨k, q, hk, rfl, rfl, rfl⟩ := hrel
    have hlr := argm_lt (fun i j => decide (R j < R i)) 0 k n (by omega) hn0
    have HS : Hid (argm (fun i j => decide (R j < R i)) 0 (k + 1) = if decide (R (argm (fun i j => decide (R j < R i)) 0 k) < R k) then k else argm (fun i j => decide (R j < R i)) 0 k) := by
      show (if _ then _ else _) = _
      simp only [Nat.zero_add]
    by_cases hlt : k < n
    · have hlk := hl.c k (by omega)
      have hla := hl.c (argm (fun i j => decide (R j < R i)) 0 k) (by omega)
      generalize argm (fun i j => decide (R j < R i)) 0 k = r at *
      go_wp2
      go_quiet (fail)
      go_wp2
      all_goals
        go_roundw
        case rel => exact ⟨k + 1, _, by omega, by rw [HS.out]; first | rw [if_pos (decide_eq_true ‹_›)] | rw [if_neg (by simp only [decide_eq_true_eq]; omega)], by go_num, rfl⟩
        case measure => simp [intOf]; omega
    · have HR : Hid (oldestW n R = argm (fun i j => decide (R j < R i)) 0 k) := by rw [show k = n from by omega]; rfl
      clear HS
      generalize argm (fun i j => decide (R j < R i)) 0 k = r at *
      have hr := hl.c r (by omega)
      have hbr := HB.out r
      clear hl
      go_wp2
      go_loopw [6] (fun i wr => ∃ k : Nat, k ≤ n ∧ i = .int .i64 k ∧ SetAt wr b off n L A (liftR k (3 - R r) R) ∧ Upd (rowS b off 25) w wr) (fun i _ => n - (intOf i).toNat)
      case atStart => exact ⟨0, Nat.zero_le _, rfl, (HH.out.drewN q).congr (fun _ _ => rfl) (fun _ _ => rfl) (fun j _ => by simp [liftR]), (Upd.refl _ _).drewN q⟩
      case round =>
        obtain ⟨i, hi, rfl, hs, hu⟩ := hrel
        have hc' := hs.cnt
        have HS : Hid (SetAt wr b off n L A (liftR i (3 - R r) R)) := hs
        have HU : Hid (Upd (rowS b off 25) w wr) := hu
        clear hs hu
        by_cases hlt : i < n
        · have hak := HS.out.rk.c i (by omega)
          have hfk := HS.out.rk.f i (by omega)
          have hbk := HB.out i
          have ek : liftR i (3 - R r) R i = R i := by simp [liftR]
          rw [ek] at hak
          clear ek
          go_wp2
          go_region
          all_goals go_wp2
          all_goals
            go_roundw
            case rel =>
              refine ⟨i + 1, by omega, by go_num, ((HS.out.setR (by omega) (R i + (3 - R r))).congr (fun _ _ => rfl) (fun _ _ => rfl) (fun j hj => ?_)).drew, (upd_at HU.out (by omega) _).drew⟩
              unfold upd liftR
              by_cases hjk : j = i
              · subst hjk; rw [if_pos rfl, if_pos (by omega)]
              · rw [if_neg hjk]
                by_cases hj2 : j < i
                · rw [if_pos hj2, if_pos (by omega)]
                · rw [if_neg hj2, if_neg (by omega)]
            case measure => simp [intOf]; omega
        · go_wp2
          go_ret
          refine ⟨ret_int (by rw [HR.out]), ?_, HU.out⟩
          rw [HR.out]
          rw [show n = i from by omega]
          have := HS.out
          rwa [show n = i from by omega] at this

set_option maxHeartbeats 1000000 in
theorem victim_any (b off n p : Nat) (L A R : Nat → Int) (w : World) (hn : Size n) (hR : ∀ j, 0 ≤ R j ∧ R j ≤ 3) (H : SetAt w b off n L A R) :
    Calls Try.prog 90 #[.pointer (some ⟨b, off, none⟩), .int .i64 p] w fun e w' => e = .returned (.int .i64 (victimW p n A R : Nat)) ∧ SetAt w' b off n L A (victimR p n R) ∧ Upd (rowS b off 25) w w' := by
  have hn8 : n ≤ 8 ∧ 0 < n := by rcases hn with h | h | h | h <;> omega
  have HH : Hid (SetAt w b off n L A R) := H
  have HB : Hid (∀ j, 0 ≤ R j ∧ R j ≤ 3) := hR
  have HN : Hid (Size n) := hn
  clear H hR hn
  by_cases h0 : p = 0
  · subst h0
    go_enter Try.func90, Try.ntmps90
    go_wp2_with fail
    refine (oldest_any b off n L A R _ hn8.1 hn8.2 HH.out).mono ?_
    rintro e w1 ⟨rfl, q, rfl⟩
    go_wp2
    go_ret
    exact ⟨rfl, HH.out.drewN q, (Upd.refl _ _).drewN q⟩
  · have e0 : ((p : Int) == 0) = false := by simp; omega
    by_cases h1 : p = 1
    · subst h1
      go_enter Try.func90, Try.ntmps90
      go_wp2_with fail
      refine (leaf_any b off n L A R _ HN.out HH.out).mono ?_
      rintro e w1 ⟨rfl, q, rfl⟩
      go_wp2
      go_ret
      exact ⟨rfl, HH.out.drewN q, (Upd.refl _ _).drewN q⟩
    · have e1 : ((p : Int) == 1) = false := by simp; omega
      go_enter Try.func90, Try.ntmps90
      go_wp2_with fail
      refine (highest_any b off n L A R _ hn8.1 hn8.2 HB.out HH.out).mono ?_
      rintro e w1 ⟨rfl, hs, hu⟩
      go_wp2
      go_ret
      refine ⟨ret_int (by simp [victimW, h0, h1]), ?_, hu⟩
      have : victimR p n R = liftR n (3 - R (oldestW n R)) R := by simp [victimR, h0, h1]
      rw [this]; exact hs

end Go.Proofs.Ytobniidkkmlilab

/- The walks over package set: a line put in, a new set. -/
namespace Go.Proofs.Ytobniidkkmlilab
open Go.RowKit Go.Coh

set_option maxHeartbeats 1000000 in
theorem Put_any (b off n p : Nat) (x r : Int) (L A R : Nat → Int) (w : World) (hn : Size n) (hA : ∀ j, 0 ≤ A j ∧ A j ≤ 100) (hR : ∀ j, 0 ≤ R j ∧ R j ≤ 3) (H : SetAt w b off n L A R) :
    Calls Try.prog 82 #[.pointer (some ⟨b, off, none⟩), .int .i64 p, .int .i64 x, .int .i64 r] w fun e w' =>
      e = .returned (.tuple #[.int .i64 (putW p n L A R : Nat), .int .i64 (L (putW p n L A R))]) ∧
      SetAt w' b off n (upd L (putW p n L A R) x) (touchA n (putW p n L A R) A) (upd (putR p n L R) (putW p n L A R) r) ∧ Upd (rowS b off 25) w w' := by
  have hn8 : n ≤ 8 ∧ 0 < n := by rcases hn with h | h | h | h <;> omega
  have hlt := putW_lt (p := p) L A R hn
  have HH : Hid (SetAt w b off n L A R) := H
  have HA : Hid (∀ j, 0 ≤ A j ∧ A j ≤ 100) := hA
  have HB : Hid (∀ j, 0 ≤ R j ∧ R j ≤ 3) := hR
  have HN : Hid (Size n) := hn
  clear H hA hR hn
  cases hf : findN L (-1) n with
  | some k =>
    have HW : Hid (putW p n L A R = k) := by unfold putW; rw [hf]; rfl
    have HP : Hid (putR p n L R = R) := by unfold putR; rw [hf]; rfl
    have HF : Hid (findN L (-1) n = some k) := hf
    rw [HW.out, HP.out]
    rw [HW.out] at hlt
    clear hf HP HW
    have hl := HH.out.ln.c k (by omega)
    have hlf := HH.out.ln.f k (by omega)
    have hr := HH.out.rk.c k (by omega)
    have hrf := HH.out.rk.f k (by omega)
    go_enter Try.func82, Try.ntmps82
    go_wp2_with fail
    refine (Find_any b off n _ L A R _ hn8.1 HH.out).mono ?_
    rintro e w1 ⟨rfl, rfl⟩
    rw [HF.out]
    simp only [oi]
    go_wp2_with fail
    refine (touch_int b off n k _ _ _ _ _ rfl hn8.1 hlt HA.out ((HH.out.setL (by omega) x).setR (by omega) r)).mono ?_
    rintro e w2 ⟨rfl, hs, hu⟩
    have HS : Hid (SetAt w2 b off n (upd L k x) (touchA n k A) (upd R k r)) := hs
    have HU : Hid (Upd (rowS b off 25) w1 w2) := (upd_at (upd_at (Upd.refl _ _) (by omega) _) (by omega) _).trans hu
    clear hs hu
    go_wp2
    go_ret2
    exact ⟨rfl, HS.out, HU.out⟩
  | none =>
    have HW : Hid (putW p n L A R = victimW p n A R) := by unfold putW; rw [hf]; rfl
    have HP : Hid (putR p n L R = victimR p n R) := by unfold putR; rw [hf]; rfl
    have HF : Hid (findN L (-1) n = none) := hf
    rw [HW.out, HP.out]
    rw [HW.out] at hlt
    clear hf HP HW
    generalize hv : victimW p n A R = k at *
    have HV : Hid (victimW p n A R = k) := hv
    clear hv
    go_enter Try.func82, Try.ntmps82
    go_wp2_with fail
    refine (Find_any b off n _ L A R _ hn8.1 HH.out).mono ?_
    rintro e w1 ⟨rfl, rfl⟩
    rw [HF.out]
    simp only [oi]
    go_wp2_with fail
    refine (victim_any b off n p L A R _ HN.out HB.out HH.out).mono ?_
    rintro e w2 ⟨rfl, hs, hu⟩
    rw [HV.out]
    have hl := hs.ln.c k (by omega)
    have hlf := hs.ln.f k (by omega)
    have hr := hs.rk.c k (by omega)
    have hrf := hs.rk.f k (by omega)
    have HS : Hid (SetAt w2 b off n L A (victimR p n R)) := hs
    have HU : Hid (Upd (rowS b off 25) w1 w2) := hu
    clear hs hu
    go_wp2_with fail
    refine (touch_int b off n k _ _ _ _ _ rfl hn8.1 hlt HA.out ((HS.out.setL (by omega) x).setR (by omega) r)).mono ?_
    rintro e w3 ⟨rfl, hs, hu⟩
    have HS3 : Hid (SetAt w3 b off n (upd L k x) (touchA n k A) (upd (victimR p n R) k r)) := hs
    have HU3 : Hid (Upd (rowS b off 25) w1 w3) := (upd_at (upd_at HU.out (by omega) _) (by omega) _).trans hu
    clear hs hu
    go_wp2
    go_ret2
    exact ⟨rfl, HS3.out, HU3.out⟩

end Go.Proofs.Ytobniidkkmlilab
