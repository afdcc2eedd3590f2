import Derived.Test.YtobniidkkmlilabPk47

/- The walks over package coherentkeep: wrong, same. -/
namespace Go.Proofs.Ytobniidkkmlilab
open Go.RowKit Go.Coh

set_option maxHeartbeats 1000000 in
theorem pick_wide (c : Int) (w : World) (hc : InI64 c) :
    Calls Try.prog 17 #[.int .i64 c, .int .i64 1099511627776] w fun e w' => e = .returned (.int .i64 (pickN c 1099511627776 : Nat)) ∧ w' = w := by
  obtain ⟨hc1, hc2⟩ := hc
  by_cases h : c < 0
  · have HP : Hid ((-(c + 1)) % (1099511627776 : Int) = (pickN c 1099511627776 : Int)) := pickN_neg c 1099511627776 (by omega) h
    go_enter Try.func17, Try.ntmps17
    go_wp2
    go_ret
    exact ⟨ret_int (by rw [← Int.neg_tmod, Int.tmod_eq_emod_of_nonneg (by omega)]; exact HP.out), rfl⟩
  · have HP : Hid (c % (1099511627776 : Int) = (pickN c 1099511627776 : Int)) := pickN_pos c 1099511627776 (by omega) h
    go_enter Try.func17, Try.ntmps17
    go_wp2
    go_ret
    exact ⟨ret_int HP.out, rfl⟩

set_option maxRecDepth 100000 in
set_option maxHeartbeats 2000000 in
theorem wrong_any (xb : Nat) (m : RM) (v : Int) (w : World) (hc : 0 < m.cores ∧ m.cores ≤ 4) (hv : InI64 v) (HP : PmAt w xb m) :
    Calls Try.prog 15 #[.pointer (some ⟨xb, 0, none⟩), .int .i64 m.cores, .int .i64 v] w fun e w' => e = .returned (.bool true) ∧ Upd no w w' := by
  have HH := (show Hid _ from HP)
  have HV := (show Hid _ from hv)
  have hpl := pickN_lt v 1099511627776 (by omega)
  clear HP hv
  go_enter Try.func15, Try.ntmps15
  go_wp2_with fail
  refine (pick_wide v _ HV.out).mono ?_
  rintro e w1 ⟨rfl, rfl⟩
  generalize pickN v 1099511627776 = p at *
  go_wp2_with fail
  have E1 : Hid (refE m.cores ((m.cores : Int) - 1 + (1 + (p : Int))) 0 = 6) := by show _ = _; unfold refE; rw [if_pos (by omega)]
  have E2 : Hid (refE m.cores (-(1 + (p : Int))) 0 = 6) := by show _ = _; unfold refE; rw [if_pos (by omega)]
  have E3 : Hid (refE m.cores 0 (-(1 + (p : Int))) = 8) := by show _ = _; unfold refE; rw [if_neg (by omega), if_pos (by omega)]
  have E4 : Hid (refE m.cores 0 (255 + (1 + (p : Int))) = 8) := by show _ = _; unfold refE; rw [if_neg (by omega), if_pos (by omega)]
  have E5 : Hid (stateE m.cores ((m.cores : Int) - 1 + (1 + (p : Int))) 0 = 6) := by show _ = _; unfold stateE; rw [if_pos (by omega)]
  have E6 : Hid (stateE m.cores 0 (63 + (1 + (p : Int))) = 7) := by show _ = _; unfold stateE; rw [if_neg (by omega), if_pos (by omega)]
  have E7 : Hid (stateE m.cores 0 (-(1 + (p : Int))) = 7) := by show _ = _; unfold stateE; rw [if_neg (by omega), if_pos (by omega)]
  refine (pLoad_bad xb m ((m.cores : Int) - 1 + (1 + (p : Int))) 0 _ (by rw [E1.out]; omega) HH.out).mono ?_
  rintro e w2 ⟨rfl, rfl⟩
  rw [E1.out]
  go_wp2_with fail
  refine (pStoreR_bad xb m (-(1 + (p : Int))) 0 7 _ (by rw [E2.out]; omega) HH.out).mono ?_
  rintro e w2 ⟨rfl, rfl⟩
  rw [E2.out]
  go_wp2_with fail
  refine (pLoad_bad xb m 0 (-(1 + (p : Int))) _ (by rw [E3.out]; omega) HH.out).mono ?_
  rintro e w2 ⟨rfl, rfl⟩
  rw [E3.out]
  go_wp2_with fail
  refine (pStoreR_bad xb m 0 (255 + (1 + (p : Int))) 7 _ (by rw [E4.out]; omega) HH.out).mono ?_
  rintro e w2 ⟨rfl, rfl⟩
  rw [E4.out]
  go_wp2_with fail
  refine (pEvict_bad xb m ((m.cores : Int) - 1 + (1 + (p : Int))) 0 _ (by rw [E5.out]; omega) HH.out).mono ?_
  rintro e w2 ⟨rfl, rfl⟩
  rw [E5.out]
  go_wp2_with fail
  refine (pEvict_bad xb m 0 (63 + (1 + (p : Int))) _ (by rw [E6.out]; omega) HH.out).mono ?_
  rintro e w2 ⟨rfl, rfl⟩
  rw [E6.out]
  go_wp2_with fail
  refine (pEvict_bad xb m 0 (-(1 + (p : Int))) _ (by rw [E7.out]; omega) HH.out).mono ?_
  rintro e w2 ⟨rfl, rfl⟩
  rw [E7.out]
  go_wp2
  go_ret
  exact ⟨rfl, Upd.refl _ _⟩

/-- two machines with the same data -/
structure Two (w : World) (xb yb : Nat) (m : RM) (wr : World) : Prop where
  p : PmAt wr xb m
  q : PmAt wr yb m
  u : Upd no w wr

set_option maxRecDepth 100000 in
set_option maxHeartbeats 2000000 in
theorem same_any (xb yb : Nat) (m : RM) (w : World) (hc : 0 < m.cores ∧ m.cores ≤ 4) (HP : PmAt w xb m) (HQ : PmAt w yb m) :
    Calls Try.prog 16 #[.pointer (some ⟨xb, 0, none⟩), .pointer (some ⟨yb, 0, none⟩), .int .i64 m.cores] w fun e w' => e = .returned (.bool true) ∧ Upd no w w' := by
  have HT0 : Hid (Two w xb yb m w) := ⟨HP, HQ, Upd.refl _ _⟩
  clear HP HQ
  go_enter Try.func16, Try.ntmps16
  go_wp2
  go_loopw [7] (fun i wr => ∃ k : Nat, k ≤ 64 ∧ i = .int .i64 k ∧ Two w xb yb m wr) (fun i _ => 64 - (intOf i).toNat)
  case atStart => exact ⟨0, by omega, rfl, HT0.out⟩
  case round =>
    obtain ⟨k, hk, rfl, ht⟩ := hrel
    have HT : Hid (Two w xb yb m wr) := ht
    clear ht HT0
    by_cases hlt : k < 64
    · have hd : decide ((k : Int) < 64) = true := by simp; omega
      go_wp2
      go_loopw [8] (fun i wr => ∃ j : Nat, j ≤ m.cores ∧ i = .int .i64 j ∧ Two w xb yb m wr) (fun i _ => m.cores - (intOf i).toNat)
      case atStart => exact ⟨0, by omega, rfl, HT.out⟩
      case round =>
        obtain ⟨j, hj, rfl, ht⟩ := hrel
        have HTI : Hid (Two w xb yb m wr) := ht
        clear ht HT
        by_cases hj2 : j < m.cores
        · have HE : Hid (stateE m.cores j k = 0) := stateE_zero hj2 hlt
          go_wp2_with fail
          refine (pState_any xb m j k _ hc.2 HTI.out.p).mono ?_
          rintro e w1 ⟨rfl, rfl⟩
          rw [HE.out]
          go_wp2_with fail
          refine (pState_any yb m j k _ hc.2 HTI.out.q).mono ?_
          rintro e w1 ⟨rfl, rfl⟩
          rw [HE.out]
          generalize m.stateV j k = x1 at *
          go_wp2
          go_roundw
          case rel => exact ⟨j + 1, by omega, by go_num, HTI.out⟩
          case measure => simp [intOf]; omega
        · have hjc : j = m.cores := by omega
          subst hjc
          have HE : Hid (RM.lastE k = 0) := by show _ = _; unfold RM.lastE; rw [if_neg (by omega)]
          go_wp2_with fail
          refine (pLast_any xb m k _ HTI.out.p).mono ?_
          rintro e w1 ⟨rfl, rfl⟩
          rw [HE.out]
          go_wp2_with fail
          refine (pLast_any yb m k _ HTI.out.q).mono ?_
          rintro e w1 ⟨rfl, rfl⟩
          rw [HE.out]
          generalize m.lastV k = x1 at *
          go_wp2
          go_roundw
          case rel => exact ⟨k + 1, by omega, by go_num, HTI.out⟩
          case measure => simp [intOf]; omega
    · have hd : decide ((k : Int) < 64) = false := by simp; omega
      go_wp2
      go_loopw [17] (fun i wr => ∃ j : Nat, j ≤ 256 ∧ i = .int .i64 j ∧ Two w xb yb m wr) (fun i _ => 256 - (intOf i).toNat)
      case atStart => exact ⟨0, by omega, rfl, HT.out⟩
      case round =>
        obtain ⟨j, hj, rfl, ht⟩ := hrel
        have HTI : Hid (Two w xb yb m wr) := ht
        clear ht HT
        by_cases hj2 : j < 256
        · have HE : Hid (memE (j : Int) = 0) := by show _ = _; unfold memE; rw [if_neg (by omega)]
          go_wp2_with fail
          refine (pMemory_any xb m j _ HTI.out.p).mono ?_
          rintro e w1 ⟨rfl, rfl⟩
          rw [HE.out]
          go_wp2_with fail
          refine (pMemory_any yb m j _ HTI.out.q).mono ?_
          rintro e w1 ⟨rfl, rfl⟩
          rw [HE.out]
          generalize m.memV j = x1 at *
          go_wp2
          go_roundw
          case rel => exact ⟨j + 1, by omega, by go_num, HTI.out⟩
          case measure => simp [intOf]; omega
        · have hjc : j = 256 := by omega
          subst hjc
          go_wp2_with fail
          refine (pCounts_any xb m _ HTI.out.p).mono ?_
          rintro e w1 ⟨rfl, u1⟩
          have HU1 := (show Hid _ from u1)
          clear u1
          unfold aggT celT
          go_wp2_with fail
          refine (pCounts_any yb m _ ((HTI.out.q.of_upd HU1.out (fun _ e => e)).box _)).mono ?_
          rintro e w2 ⟨rfl, u2⟩
          have HU2 : Hid (Upd no w w2) := ((HTI.out.u.trans HU1.out).alloc _).trans u2
          have hbk : w2.heap[w1.heap.size]? = some (.cells (celT m.countsV) 43) := by rw [u2.block (by simp) (fun _ h => h)]; exact heap_alloc_new w1 _
          clear u2
          have cs : ∀ j, j < 10 → w2.cell? ⟨w1.heap.size, j, none⟩ = some (.int .i64 (m.countsV j)) := fun j hj => by
            have : w2.cell? ⟨w1.heap.size, j, none⟩ = (celT m.countsV)[j]? := by simp [World.cell?, hbk]
            rw [this]
            match j, hj with
            | 0, _ | 1, _ | 2, _ | 3, _ | 4, _ | 5, _ | 6, _ | 7, _ | 8, _ | 9, _ => rfl
          have hz : w1.heap.size < w2.heap.size := (Array.getElem?_eq_some_iff.1 hbk).1
          have s0 := cs 0 (by omega)
          have s1 := cs 1 (by omega)
          have s2 := cs 2 (by omega)
          have s3 := cs 3 (by omega)
          have s4 := cs 4 (by omega)
          have s5 := cs 5 (by omega)
          have s6 := cs 6 (by omega)
          have s7 := cs 7 (by omega)
          have s8 := cs 8 (by omega)
          have s9 := cs 9 (by omega)
          clear cs hbk
          unfold aggT celT
          generalize m.countsV = cv at *
          go_wp2
          go_ret
          exact ⟨rfl, HU2.out.alloc _⟩

end Go.Proofs.Ytobniidkkmlilab
