import Derived.Test.YtobniidkkmlilaaPa02
import Derived.RegionTactic
import Derived.BigRegion

/- The walks over package set: the leaf of the tree, the ranks, a touch. -/
namespace Go.Proofs.Ytobniidkkmlilaa
open Go.RowKit Go.Coh

theorem youngest_int (b off n lo hi : Nat) (l h : Int) (L A R : Nat → Int) (w : World) (el : l = lo) (eh : h = hi) (hh : hi ≤ 8) (hl8 : lo < hi) (H : SetAt w b off n L A R) :
    Calls Try.prog 122 #[.pointer (some ⟨b, off, none⟩), .int .i64 l, .int .i64 h] w fun e w' => e = .returned (.int .i64 (argm (fun i j => decide (A i < A j)) lo (hi - lo) : Nat)) ∧ ∃ q, w' = w.drewN q := by
  subst el; subst eh
  exact youngest_any b off n lo hi L A R w hh hl8 H

theorem SetAt.drewN {w : World} {b off n : Nat} {L A R : Nat → Int} (h : SetAt w b off n L A R) (q : Nat) : SetAt (w.drewN q) b off n L A R := ⟨h.cnt, h.ln, h.ag, h.rk⟩

theorem SetAt.of_upd {S : Nat → Nat → Prop} {w w' : World} {b off n : Nat} {L A R : Nat → Int} (h : SetAt w b off n L A R) (u : Upd S w w') (hS : ∀ j, j < 25 → ¬ S b (off + j)) : SetAt w' b off n L A R := by
  have hb : b < w.heap.size := h.ln.lt (by omega)
  refine ⟨?_, ?_, ?_, ?_⟩
  · have := hS 0 (by omega)
    rw [Nat.add_zero] at this
    rw [u.cell hb this]; exact h.cnt
  · exact h.ln.of_upd u fun j hj => by rw [Nat.add_assoc]; exact hS _ (by omega)
  · exact h.ag.of_upd u fun j hj => by rw [Nat.add_assoc]; exact hS _ (by omega)
  · exact h.rk.of_upd u fun j hj => by rw [Nat.add_assoc]; exact hS _ (by omega)

/-- a store into the ages -/
theorem SetAt.setA {w : World} {b off n : Nat} {L A R : Nat → Int} (h : SetAt w b off n L A R) {i : Nat} (hi : i < 8) (v : Int) : SetAt (w.setCell ⟨b, off + 9 + i, none⟩ (.int .i64 v)) b off n L (upd A i v) R := by
  have ne : ∀ o, o ≠ off + 9 + i → (w.setCell ⟨b, off + 9 + i, none⟩ (.int .i64 v)).cell? ⟨b, o, none⟩ = w.cell? ⟨b, o, none⟩ := fun o ho => World.cell?_setCell_other _ _ _ _ (fun he => ho (by injection he; omega))
  refine ⟨by rw [ne _ (by omega)]; exact h.cnt, fun j hj => ⟨by rw [ne _ (by omega)]; exact h.ln.c j hj, by rw [World.frozen?_setCell]; exact h.ln.f j hj⟩, h.ag.set hi v, fun j hj => ⟨by rw [ne _ (by omega)]; exact h.rk.c j hj, by rw [World.frozen?_setCell]; exact h.rk.f j hj⟩⟩
theorem SetAt.setR {w : World} {b off n : Nat} {L A R : Nat → Int} (h : SetAt w b off n L A R) {i : Nat} (hi : i < 8) (v : Int) : SetAt (w.setCell ⟨b, off + 17 + i, none⟩ (.int .i64 v)) b off n L A (upd R i v) := by
  have ne : ∀ o, o ≠ off + 17 + i → (w.setCell ⟨b, off + 17 + i, none⟩ (.int .i64 v)).cell? ⟨b, o, none⟩ = w.cell? ⟨b, o, none⟩ := fun o ho => World.cell?_setCell_other _ _ _ _ (fun he => ho (by injection he; omega))
  refine ⟨by rw [ne _ (by omega)]; exact h.cnt, fun j hj => ⟨by rw [ne _ (by omega)]; exact h.ln.c j hj, by rw [World.frozen?_setCell]; exact h.ln.f j hj⟩, fun j hj => ⟨by rw [ne _ (by omega)]; exact h.ag.c j hj, by rw [World.frozen?_setCell]; exact h.ag.f j hj⟩, h.rk.set hi v⟩
theorem SetAt.setL {w : World} {b off n : Nat} {L A R : Nat → Int} (h : SetAt w b off n L A R) {i : Nat} (hi : i < 8) (v : Int) : SetAt (w.setCell ⟨b, off + 1 + i, none⟩ (.int .i64 v)) b off n (upd L i v) A R := by
  have ne : ∀ o, o ≠ off + 1 + i → (w.setCell ⟨b, off + 1 + i, none⟩ (.int .i64 v)).cell? ⟨b, o, none⟩ = w.cell? ⟨b, o, none⟩ := fun o ho => World.cell?_setCell_other _ _ _ _ (fun he => ho (by injection he; omega))
  refine ⟨by rw [ne _ (by omega)]; exact h.cnt, h.ln.set hi v, fun j hj => ⟨by rw [ne _ (by omega)]; exact h.ag.c j hj, by rw [World.frozen?_setCell]; exact h.ag.f j hj⟩, fun j hj => ⟨by rw [ne _ (by omega)]; exact h.rk.c j hj, by rw [World.frozen?_setCell]; exact h.rk.f j hj⟩⟩
theorem SetAt.congr {w : World} {b off n : Nat} {L A R L' A' R' : Nat → Int} (h : SetAt w b off n L A R) (hl : ∀ j, j < 8 → L j = L' j) (ha : ∀ j, j < 8 → A j = A' j) (hr : ∀ j, j < 8 → R j = R' j) : SetAt w b off n L' A' R' :=
  ⟨h.cnt, h.ln.congr hl, h.ag.congr ha, h.rk.congr hr⟩
theorem upd_at {w w' : World} {b off : Nat} (h : Upd (rowS b off 25) w w') {o : Nat} (ho : off ≤ o ∧ o < off + 25) (v : Value) : Upd (rowS b off 25) w (w'.setCell ⟨b, o, none⟩ v) :=
  h.setCell (fun _ => ⟨rfl, ho.1, ho.2⟩) v

set_option maxHeartbeats 1000000 in
theorem leaf_any (b off n : Nat) (L A R : Nat → Int) (w : World) (hn : Size n) (H : SetAt w b off n L A R) :
    Calls Try.prog 120 #[.pointer (some ⟨b, off, none⟩)] w fun e w' => e = .returned (.int .i64 (leaf A (lg n) 0 : Nat)) ∧ ∃ q, w' = w.drewN q := by
  have hc := H.cnt
  have HH : Hid (SetAt w b off n L A R) := H
  clear H
  have hn8 : n ≤ 8 := by rcases hn with h | h | h | h <;> omega
  have hst : ∃ m : Nat, lg n = m ∧ ((n : Int) / 2 = 0 ∧ m = 0 ∧ n = 1 ∨ (n : Int) / 2 = 1 ∧ m = 1 ∧ n = 2 ∨ (n : Int) / 2 = 2 ∧ m = 2 ∧ n = 4 ∨ (n : Int) / 2 = 4 ∧ m = 3 ∧ n = 8) := by
    rcases hn with rfl | rfl | rfl | rfl <;> exact ⟨_, rfl, by decide⟩
  have HN : Hid (Size n) := hn
  have HST := (show Hid _ from hst)
  clear hn hst
  go_enter Try.func120, Try.ntmps120
  go_wp2
  go_loopw [3, 4] (fun lo ha wr => ∃ (m low : Nat) (h : Int) (q : Nat), low + 2 ^ m ≤ n ∧ lo = .int .i64 low ∧ ha = .int .i64 h ∧ wr = w.drewN q ∧ leaf A m low = leaf A (lg n) 0 ∧ (h = 0 ∧ m = 0 ∨ h = 1 ∧ m = 1 ∨ h = 2 ∧ m = 2 ∨ h = 4 ∧ m = 3)) (fun _ ha _ => (intOf ha).toNat)
  case atStart =>
    obtain ⟨m, hm, hst⟩ := HST.out
    refine ⟨m, 0, (n : Int) / 2, 0, ?_, rfl, rfl, rfl, by rw [hm], by omega⟩
    rcases hst with ⟨_, rfl, rfl⟩ | ⟨_, rfl, rfl⟩ | ⟨_, rfl, rfl⟩ | ⟨_, rfl, rfl⟩ <;> decide
  case round =>
    obtain ⟨m, low, h, q, hle, rfl, rfl, rfl, hlf, hcase⟩ := hrel
    have HLF : Hid (leaf A m low = leaf A (lg n) 0) := hlf
    clear hlf HST
    rcases hcase with ⟨rfl, rfl⟩ | ⟨rfl, rfl⟩ | ⟨rfl, rfl⟩ | ⟨rfl, rfl⟩
    · go_wp2
      go_ret
      exact ⟨ret_int (by rw [← HLF.out]; rfl), q, rfl⟩
    · have hle' : low + 2 ≤ n := hle
      clear hle
      have HA : Hid (leaf A 1 low = leaf A 0 (if argm (fun i j => decide (A i < A j)) low (low + 2 - low) < low + 1 then low + 1 else low)) := by
        rw [show low + 2 - low = 2 by omega]; rfl
      have hy := argm_bd (fun i j => decide (A i < A j)) low (low + 2 - low)
      go_wp2_with fail
      refine (youngest_int b off n low (low + 2) _ _ L A R _ rfl (by simp) (by omega) (by omega) (HH.out.drewN q)).mono ?_
      rintro e w' ⟨rfl, q1, rfl⟩
      generalize argm (fun i j => decide (A i < A j)) low (low + 2 - low) = y at *
      by_cases hyl : y < low + 1
      all_goals
        go_wp2
        go_roundw
        case rel =>
          refine ⟨0, _, 0, _, ?_, by first | rfl | go_num, by first | rfl | go_num, rfl, ?_, by omega⟩
          rotate_left
          · rw [← HLF.out, HA.out]; first | rw [if_pos hyl] | rw [if_neg hyl]
          · show _ + 1 ≤ n; omega
        case measure => simp [intOf]
    · have hle' : low + 4 ≤ n := hle
      clear hle
      have HA : Hid (leaf A 2 low = leaf A 1 (if argm (fun i j => decide (A i < A j)) low (low + 4 - low) < low + 2 then low + 2 else low)) := by
        rw [show low + 4 - low = 4 by omega]; rfl
      have hy := argm_bd (fun i j => decide (A i < A j)) low (low + 4 - low)
      go_wp2_with fail
      refine (youngest_int b off n low (low + 4) _ _ L A R _ rfl (by simp) (by omega) (by omega) (HH.out.drewN q)).mono ?_
      rintro e w' ⟨rfl, q1, rfl⟩
      generalize argm (fun i j => decide (A i < A j)) low (low + 4 - low) = y at *
      by_cases hyl : y < low + 2
      all_goals
        go_wp2
        go_roundw
        case rel =>
          refine ⟨1, _, 1, _, ?_, by first | rfl | go_num, by first | rfl | go_num, rfl, ?_, by omega⟩
          rotate_left
          · rw [← HLF.out, HA.out]; first | rw [if_pos hyl] | rw [if_neg hyl]
          · show _ + 2 ≤ n; omega
        case measure => simp [intOf]
    · have hle' : low + 8 ≤ n := hle
      clear hle
      have HA : Hid (leaf A 3 low = leaf A 2 (if argm (fun i j => decide (A i < A j)) low (low + 8 - low) < low + 4 then low + 4 else low)) := by
        rw [show low + 8 - low = 8 by omega]; rfl
      have hy := argm_bd (fun i j => decide (A i < A j)) low (low + 8 - low)
      go_wp2_with fail
      refine (youngest_int b off n low (low + 8) _ _ L A R _ rfl (by simp) (by omega) (by omega) (HH.out.drewN q)).mono ?_
      rintro e w' ⟨rfl, q1, rfl⟩
      generalize argm (fun i j => decide (A i < A j)) low (low + 8 - low) = y at *
      by_cases hyl : y < low + 4
      all_goals
        go_wp2
        go_roundw
        case rel =>
          refine ⟨2, _, 2, _, ?_, by first | rfl | go_num, by first | rfl | go_num, rfl, ?_, by omega⟩
          rotate_left
          · rw [← HLF.out, HA.out]; first | rw [if_pos hyl] | rw [if_neg hyl]
          · show _ + 4 ≤ n; omega
        case measure => simp [intOf]

end Go.Proofs.Ytobniidkkmlilaa

/- The walks over package set: the methods that write. -/
namespace Go.Proofs.Ytobniidkkmlilaa
open Go.RowKit Go.Coh

theorem SetAt.drew {w : World} {b off n : Nat} {L A R : Nat → Int} (h : SetAt w b off n L A R) : SetAt w.drew b off n L A R := ⟨h.cnt, h.ln, h.ag, h.rk⟩

set_option maxHeartbeats 1000000 in
theorem touch_any (b off n way : Nat) (L A R : Nat → Int) (w : World) (hn : n ≤ 8) (hw : way < n) (hA : ∀ j, 0 ≤ A j ∧ A j ≤ 100) (H : SetAt w b off n L A R) :
    Calls Try.prog 114 #[.pointer (some ⟨b, off, none⟩), .int .i64 way] w fun e w' => e = .returned (.tuple #[]) ∧ SetAt w' b off n L (touchA n way A) R ∧ Upd (rowS b off 25) w w' := by
  have ha := H.ag.c way (by omega)
  have hb := hA way
  have HH : Hid (SetAt w b off n L A R) := H
  have HB : Hid (∀ j, 0 ≤ A j ∧ A j ≤ 100) := hA
  clear H hA
  go_enter Try.func114, Try.ntmps114
  go_wp2
  go_loopw [5] (fun i wr => ∃ k : Nat, k ≤ n ∧ i = .int .i64 k ∧ SetAt wr b off n L (touchTo k (A way) A) R ∧ Upd (rowS b off 25) w wr) (fun i _ => n - (intOf i).toNat)
  case atStart => exact ⟨0, Nat.zero_le _, rfl, HH.out.congr (fun _ _ => rfl) (fun j _ => by simp [touchTo]) (fun _ _ => rfl), Upd.refl _ _⟩
  case round =>
    obtain ⟨k, hk, rfl, hs, hu⟩ := hrel
    have hc := hs.cnt
    have HS : Hid (SetAt wr b off n L (touchTo k (A way) A) R) := hs
    have HU : Hid (Upd (rowS b off 25) w wr) := hu
    clear hs hu ha
    by_cases hlt : k < n
    · have hak := HS.out.ag.c k (by omega)
      have hfk := HS.out.ag.f k (by omega)
      have hbk := HB.out k
      have ek : touchTo k (A way) A k = A k := by simp [touchTo]
      rw [ek] at hak
      clear ek
      by_cases hcmp : A k < A way
      · go_wp2
        go_region
        all_goals go_wp2
        all_goals
          go_roundw
          case rel =>
            refine ⟨k + 1, by omega, by go_num, ((HS.out.setA (by omega) (A k + 1)).congr (fun _ _ => rfl) (fun j hj => ?_) (fun _ _ => rfl)).drew, (upd_at HU.out (by omega) _).drew⟩
            unfold upd touchTo
            by_cases hjk : j = k
            · subst hjk; rw [if_pos rfl, if_pos (by omega)]
            · rw [if_neg hjk]
              by_cases hj2 : j < k ∧ A j < A way
              · rw [if_pos hj2, if_pos (by omega)]
              · rw [if_neg hj2, if_neg (by omega)]
          case measure => simp [intOf]; omega
      · go_wp2
        go_roundw
        case rel =>
          refine ⟨k + 1, by omega, by go_num, HS.out.congr (fun _ _ => rfl) (fun j hj => ?_) (fun _ _ => rfl), HU.out⟩
          unfold touchTo
          by_cases hjk : j = k
          · subst hjk; rw [if_neg (by omega), if_neg (by omega)]
          · by_cases hj2 : j < k ∧ A j < A way
            · rw [if_pos hj2, if_pos (by omega)]
            · rw [if_neg hj2, if_neg (by omega)]
        case measure => simp [intOf]; omega
    · have hfw := HS.out.ag.f way (by omega)
      have haw := HS.out.ag.c way (by omega)
      go_wp2
      go_end0
      refine ⟨rfl, (HS.out.setA (by omega) 0).congr (fun _ _ => rfl) (fun j hj => ?_) (fun _ _ => rfl), upd_at HU.out (by omega) _⟩
      unfold upd touchA touchTo
      by_cases hjw : j = way
      · rw [if_pos hjw, if_pos hjw]
      · rw [if_neg hjw, if_neg hjw, show k = n from by omega]

theorem touch_int (b off n way : Nat) (i : Int) (L A R : Nat → Int) (w : World) (ei : i = way) (hn : n ≤ 8) (hw : way < n) (hA : ∀ j, 0 ≤ A j ∧ A j ≤ 100) (H : SetAt w b off n L A R) :
    Calls Try.prog 114 #[.pointer (some ⟨b, off, none⟩), .int .i64 i] w fun e w' => e = .returned (.tuple #[]) ∧ SetAt w' b off n L (touchA n way A) R ∧ Upd (rowS b off 25) w w' := by
  subst ei; exact touch_any b off n way L A R w hn hw hA H

set_option maxHeartbeats 1000000 in
theorem Found_any (b off n way : Nat) (L A R : Nat → Int) (w : World) (hn : n ≤ 8) (hw : way < n) (hA : ∀ j, 0 ≤ A j ∧ A j ≤ 100) (H : SetAt w b off n L A R) :
    Calls Try.prog 93 #[.pointer (some ⟨b, off, none⟩), .int .i64 way] w fun e w' => e = .returned (.tuple #[]) ∧ SetAt w' b off n L (touchA n way A) (upd R way 0) ∧ Upd (rowS b off 25) w w' := by
  have hc := H.cnt
  have HH : Hid (SetAt w b off n L A R) := H
  have HB : Hid (∀ j, 0 ≤ A j ∧ A j ≤ 100) := hA
  clear H hA
  go_enter Try.func93, Try.ntmps93
  go_wp2_with fail
  refine (touch_any b off n way L A R _ hn hw HB.out HH.out).mono ?_
  rintro e w1 ⟨rfl, hs, hu⟩
  have hf := hs.rk.f way (by omega)
  have hcell := hs.rk.c way (by omega)
  have HS : Hid (SetAt w1 b off n L (touchA n way A) R) := hs
  have HU : Hid (Upd (rowS b off 25) w w1) := hu
  clear hs hu hc
  go_wp2
  go_end0
  exact ⟨rfl, HS.out.setR (by omega) 0, upd_at HU.out (by omega) _⟩

set_option maxHeartbeats 1000000 in
theorem Next_any (b off p : Nat) (c : Int) (w : World) (h0 : 0 ≤ c) (h8 : c < 8) (H : HoldsF w b off 1 (fun _ => c)) :
    Calls Try.prog 94 #[.pointer (some ⟨b, off, none⟩), .int .i64 p] w fun e w' => e = .returned (.int .i64 (nextRank p c)) ∧ HoldsF w' b off 1 (fun _ => nextCount p c) ∧ Upd (rowS b off 1) w w' := by
  have hc := H.c 0 (by omega)
  have hf := H.f 0 (by omega)
  rw [Nat.add_zero] at hc hf
  have HH : Hid (HoldsF w b off 1 (fun _ => c)) := H
  clear H
  by_cases hp : p = 3
  · subst hp
    by_cases h7 : c + 1 < 8
    · go_enter Try.func94, Try.ntmps94
      go_wp2
      go_ret
      refine ⟨ret_int (by simp [nextRank, h7]), ?_, ?_⟩
      · exact (HH.out.set (by omega : 0 < 1) (c + 1)).congr (fun j hj => by simp [upd, nextCount, h7]; omega)
      · exact (Upd.refl _ _).setRow (i := 0) (by omega) _
    · go_enter Try.func94, Try.ntmps94
      go_wp2
      go_ret
      refine ⟨ret_int (by simp [nextRank, h7]), ?_, ?_⟩
      · exact ((HH.out.set (by omega : 0 < 1) (c + 1)).set (by omega : 0 < 1) 0).congr (fun j hj => by simp [upd, nextCount]; omega)
      · exact ((Upd.refl _ _).setRow (i := 0) (by omega) _).setRow (i := 0) (by omega) _
  · have hpb : ((p : Int) != 3) = true := by simp; omega
    go_enter Try.func94, Try.ntmps94
    go_wp2
    go_ret
    exact ⟨ret_int (by simp [nextRank, hp]), HH.out.congr (fun j hj => by simp [nextCount, hp]), Upd.refl _ _⟩

end Go.Proofs.Ytobniidkkmlilaa
