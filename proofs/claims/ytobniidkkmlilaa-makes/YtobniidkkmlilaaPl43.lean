import Derived.Test.YtobniidkkmlilaaPl40

/- The walks over package coherentlaw: asks. -/
namespace Go.Proofs.Ytobniidkkmlilaa
open Go.RowKit Go.Coh

set_option maxRecDepth 100000 in
set_option maxHeartbeats 2000000 in
theorem asks_nil (k mm a b c : Int) (cf : Nat → Int) (w : World) :
    Calls Try.prog 81 #[.agg (prC none), .agg (opC k mm a b c cf)] w fun e w' => ∃ q, e = .returned (.tuple #[.bool true, .int .i64 q]) ∧ WhichOk q ∧ Upd no w w' := by
  unfold prC opC
  by_cases k7 : k = 7
  · subst k7
    go_enter Try.func81, Try.ntmps81
    go_wp2_with fail
    refine (pState_nil a b _).mono ?_
    rintro e w1 ⟨rfl, rfl⟩
    go_wp2_with fail
    refine (refState_nil a b _).mono ?_
    rintro e w2 ⟨rfl, rfl⟩
    go_wp2
    go_ret2
    exact ⟨4, rfl, by unfold WhichOk; omega, ((Upd.refl _ _).alloc _).alloc _⟩
  · by_cases k8 : k = 8
    · subst k8
      go_enter Try.func81, Try.ntmps81
      go_wp2_with fail
      refine (pLast_nil a _).mono ?_
      rintro e w1 ⟨rfl, rfl⟩
      go_wp2_with fail
      refine (refLast_nil a _).mono ?_
      rintro e w2 ⟨rfl, rfl⟩
      go_wp2
      go_ret2
      exact ⟨4, rfl, by unfold WhichOk; omega, ((Upd.refl _ _).alloc _).alloc _⟩
    · by_cases k9 : k = 9
      · subst k9
        go_enter Try.func81, Try.ntmps81
        go_wp2_with fail
        refine (pMemory_nil a _).mono ?_
        rintro e w1 ⟨rfl, rfl⟩
        go_wp2_with fail
        refine (refMemory_nil a _).mono ?_
        rintro e w2 ⟨rfl, rfl⟩
        go_wp2
        go_ret2
        exact ⟨8, rfl, by unfold WhichOk; omega, ((Upd.refl _ _).alloc _).alloc _⟩
      · have b7 : (k == 7) = false := by simpa using k7
        have b8 : (k == 8) = false := by simpa using k8
        have b9 : (k == 9) = false := by simpa using k9
        clear k7 k8 k9
        go_enter Try.func81, Try.ntmps81
        go_wp2_with fail
        refine (pCounts_nil _).mono ?_
        rintro e w1 ⟨rfl, hu1⟩
        have HU1 := (show Hid _ from (((Upd.refl no w).alloc _).alloc _).trans hu1)
        have hbk := heap_alloc2_new w (.cells #[.pointer none, .pointer none] 102) (.cells #[.int .i64 k, .int .i64 mm, .int .i64 a, .int .i64 b, .int .i64 c, .int .i64 (cf 0), .int .i64 (cf 1), .int .i64 (cf 2), .int .i64 (cf 3), .int .i64 (cf 4), .int .i64 (cf 5), .int .i64 (cf 6)] 97)
        have hb0 : ((w.alloc (.cells #[.pointer none, .pointer none] 102)).alloc (.cells #[.int .i64 k, .int .i64 mm, .int .i64 a, .int .i64 b, .int .i64 c, .int .i64 (cf 0), .int .i64 (cf 1), .int .i64 (cf 2), .int .i64 (cf 3), .int .i64 (cf 4), .int .i64 (cf 5), .int .i64 (cf 6)] 97)).heap[w.heap.size]? = some (.cells #[.pointer none, .pointer none] 102) := by
          rw [Below.heap_alloc _ _ _ (by simp), heap_alloc_new]
        rw [← hu1.block (by simp; omega) (fun _ h => h)] at hb0
        have hsz : w.heap.size < w1.heap.size := (Array.getElem?_eq_some_iff.1 hb0).1
        have d1 : w1.cell? ⟨w.heap.size, 1, none⟩ = some (.pointer none) := by simp [World.cell?, hb0]
        clear hu1 hbk hb0
        simp only [aggT, celT]
        go_wp2_with fail
        refine (refCounts_nil _).mono ?_
        rintro e w2 ⟨rfl, hu2⟩
        have HU2 := (show Hid _ from (HU1.out.alloc _).trans hu2)
        have hb3 := heap_alloc_new w1 (.cells #[.int .i64 0, .int .i64 0, .int .i64 0, .int .i64 0, .int .i64 0, .int .i64 0, .int .i64 0, .int .i64 0, .int .i64 0, .int .i64 0] 68)
        rw [← hu2.block (by simp) (fun _ h => h)] at hb3
        have hz1 : w1.heap.size < w2.heap.size := (Array.getElem?_eq_some_iff.1 hb3).1
        have g0 : w2.cell? ⟨w1.heap.size, 0, none⟩ = some (.int .i64 0) := by simp [World.cell?, hb3]
        have g1 : w2.cell? ⟨w1.heap.size, 1, none⟩ = some (.int .i64 0) := by simp [World.cell?, hb3]
        have g2 : w2.cell? ⟨w1.heap.size, 2, none⟩ = some (.int .i64 0) := by simp [World.cell?, hb3]
        have g3 : w2.cell? ⟨w1.heap.size, 3, none⟩ = some (.int .i64 0) := by simp [World.cell?, hb3]
        have g4 : w2.cell? ⟨w1.heap.size, 4, none⟩ = some (.int .i64 0) := by simp [World.cell?, hb3]
        have g5 : w2.cell? ⟨w1.heap.size, 5, none⟩ = some (.int .i64 0) := by simp [World.cell?, hb3]
        have g6 : w2.cell? ⟨w1.heap.size, 6, none⟩ = some (.int .i64 0) := by simp [World.cell?, hb3]
        have g7 : w2.cell? ⟨w1.heap.size, 7, none⟩ = some (.int .i64 0) := by simp [World.cell?, hb3]
        have g8 : w2.cell? ⟨w1.heap.size, 8, none⟩ = some (.int .i64 0) := by simp [World.cell?, hb3]
        have g9 : w2.cell? ⟨w1.heap.size, 9, none⟩ = some (.int .i64 0) := by simp [World.cell?, hb3]
        clear hu2 hb3
        simp only [aggT, celT]
        go_wp2
        go_ret2
        exact ⟨16, rfl, by unfold WhichOk; omega, HU2.out.alloc _⟩


set_option maxRecDepth 100000 in
set_option maxHeartbeats 2000000 in
theorem asks_any (x : PD) (k mm a b c : Int) (cf : Nat → Int) (B : Int) (w : World) (H : PairAt w x B) :
    Calls Try.prog 81 #[.agg (prC (some x)), .agg (opC k mm a b c cf)] w fun e w' => ∃ ok q, e = .returned (.tuple #[.bool ok, .int .i64 q]) ∧ WhichOk q ∧ (x.r1 = x.r2 → ok = true) ∧ Upd no w w' := by
  have HP : Hid (∀ w', Upd no w w' → PmAt w' x.b x.r1) := fun w' u => H.p.of_upd u (fun _ h => h)
  have HR : Hid (∀ w', Upd no w w' → RmAt w' x.y x.r2) := fun w' u => H.r.of_upd u (fun _ _ _ h => h)
  have hc1 := H.i1.c
  have hc2 := H.i2.c
  have HCC : Hid (x.r1.cores = x.r2.cores) := H.c
  clear H
  unfold prC opC
  dsimp only
  by_cases k7 : k = 7
  · subst k7
    have HE : Hid (stateE x.r1.cores a b = stateE x.r2.cores a b) := by show _ = _; rw [HCC.out]
    obtain ⟨v1, hv1⟩ : ∃ v, x.r1.stateV a b = v := ⟨_, rfl⟩
    obtain ⟨v2, hv2⟩ : ∃ v, x.r2.stateV a b = v := ⟨_, rfl⟩
    have HV1 : Hid (x.r1.stateV a b = v1) := hv1
    have HV2 : Hid (x.r2.stateV a b = v2) := hv2
    have HVV : Hid (x.r1 = x.r2 → v1 = v2) := fun e => by rw [← hv1, ← hv2, e]
    clear hv1 hv2
    by_cases hv : v1 = v2
    · subst hv
      go_enter Try.func81, Try.ntmps81
      go_wp2_with fail
      refine (pState_any x.b x.r1 a b _ hc1.2 (HP.out _ (by (repeat (first | exact Upd.refl _ _ | apply Upd.drew | apply Upd.alloc))))).mono ?_
      rintro e w1 ⟨rfl, rfl⟩
      rw [HV1.out, HE.out]
      go_wp2_with fail
      refine (refState_any x.y x.r2 a b _ hc2.2 (HR.out _ (by (repeat (first | exact Upd.refl _ _ | apply Upd.drew | apply Upd.alloc))))).mono ?_
      rintro e w2 ⟨rfl, rfl⟩
      rw [HV2.out]
      generalize stateE x.r2.cores a b = E at *
      go_wp2
      go_ret2
      exact ⟨true, 4, rfl, by unfold WhichOk; omega, fun _ => rfl, ((Upd.refl _ _).alloc _).alloc _⟩
    · have hvb : (v1 == v2) = false := by simpa using hv
      have HNE : Hid (¬ v1 = v2) := hv
      clear hv
      go_enter Try.func81, Try.ntmps81
      go_wp2_with fail
      refine (pState_any x.b x.r1 a b _ hc1.2 (HP.out _ (by (repeat (first | exact Upd.refl _ _ | apply Upd.drew | apply Upd.alloc))))).mono ?_
      rintro e w1 ⟨rfl, rfl⟩
      rw [HV1.out, HE.out]
      go_wp2_with fail
      refine (refState_any x.y x.r2 a b _ hc2.2 (HR.out _ (by (repeat (first | exact Upd.refl _ _ | apply Upd.drew | apply Upd.alloc))))).mono ?_
      rintro e w2 ⟨rfl, rfl⟩
      rw [HV2.out]
      generalize stateE x.r2.cores a b = E at *
      go_wp2
      go_ret2
      exact ⟨false, 4, rfl, by unfold WhichOk; omega, fun e => absurd (HVV.out e) HNE.out, ((Upd.refl _ _).alloc _).alloc _⟩
  · by_cases k8 : k = 8
    · subst k8
      obtain ⟨v1, hv1⟩ : ∃ v, x.r1.lastV a = v := ⟨_, rfl⟩
      obtain ⟨v2, hv2⟩ : ∃ v, x.r2.lastV a = v := ⟨_, rfl⟩
      have HV1 : Hid (x.r1.lastV a = v1) := hv1
      have HV2 : Hid (x.r2.lastV a = v2) := hv2
      have HVV : Hid (x.r1 = x.r2 → v1 = v2) := fun e => by rw [← hv1, ← hv2, e]
      clear hv1 hv2
      by_cases hv : v1 = v2
      · subst hv
        go_enter Try.func81, Try.ntmps81
        go_wp2_with fail
        refine (pLast_any x.b x.r1 a _ (HP.out _ (by (repeat (first | exact Upd.refl _ _ | apply Upd.drew | apply Upd.alloc))))).mono ?_
        rintro e w1 ⟨rfl, rfl⟩
        rw [HV1.out]
        go_wp2_with fail
        refine (refLast_any x.y x.r2 a _ (HR.out _ (by (repeat (first | exact Upd.refl _ _ | apply Upd.drew | apply Upd.alloc))))).mono ?_
        rintro e w2 ⟨rfl, rfl⟩
        rw [HV2.out]
        generalize RM.lastE a = E at *
        go_wp2
        go_ret2
        exact ⟨true, 4, rfl, by unfold WhichOk; omega, fun _ => rfl, ((Upd.refl _ _).alloc _).alloc _⟩
      · have hvb : (v1 == v2) = false := by simpa using hv
        have HNE : Hid (¬ v1 = v2) := hv
        clear hv
        go_enter Try.func81, Try.ntmps81
        go_wp2_with fail
        refine (pLast_any x.b x.r1 a _ (HP.out _ (by (repeat (first | exact Upd.refl _ _ | apply Upd.drew | apply Upd.alloc))))).mono ?_
        rintro e w1 ⟨rfl, rfl⟩
        rw [HV1.out]
        go_wp2_with fail
        refine (refLast_any x.y x.r2 a _ (HR.out _ (by (repeat (first | exact Upd.refl _ _ | apply Upd.drew | apply Upd.alloc))))).mono ?_
        rintro e w2 ⟨rfl, rfl⟩
        rw [HV2.out]
        generalize RM.lastE a = E at *
        go_wp2
        go_ret2
        exact ⟨false, 4, rfl, by unfold WhichOk; omega, fun e => absurd (HVV.out e) HNE.out, ((Upd.refl _ _).alloc _).alloc _⟩
    · by_cases k9 : k = 9
      · subst k9
        obtain ⟨v1, hv1⟩ : ∃ v, x.r1.memV a = v := ⟨_, rfl⟩
        obtain ⟨v2, hv2⟩ : ∃ v, x.r2.memV a = v := ⟨_, rfl⟩
        have HV1 : Hid (x.r1.memV a = v1) := hv1
        have HV2 : Hid (x.r2.memV a = v2) := hv2
        have HVV : Hid (x.r1 = x.r2 → v1 = v2) := fun e => by rw [← hv1, ← hv2, e]
        clear hv1 hv2
        by_cases hv : v1 = v2
        · subst hv
          go_enter Try.func81, Try.ntmps81
          go_wp2_with fail
          refine (pMemory_any x.b x.r1 a _ (HP.out _ (by (repeat (first | exact Upd.refl _ _ | apply Upd.drew | apply Upd.alloc))))).mono ?_
          rintro e w1 ⟨rfl, rfl⟩
          rw [HV1.out]
          go_wp2_with fail
          refine (refMemory_any x.y x.r2 a _ hc2.1 (HR.out _ (by (repeat (first | exact Upd.refl _ _ | apply Upd.drew | apply Upd.alloc))))).mono ?_
          rintro e w2 ⟨rfl, rfl⟩
          rw [HV2.out]
          generalize memE a = E at *
          go_wp2
          go_ret2
          exact ⟨true, 8, rfl, by unfold WhichOk; omega, fun _ => rfl, ((Upd.refl _ _).alloc _).alloc _⟩
        · have hvb : (v1 == v2) = false := by simpa using hv
          have HNE : Hid (¬ v1 = v2) := hv
          clear hv
          go_enter Try.func81, Try.ntmps81
          go_wp2_with fail
          refine (pMemory_any x.b x.r1 a _ (HP.out _ (by (repeat (first | exact Upd.refl _ _ | apply Upd.drew | apply Upd.alloc))))).mono ?_
          rintro e w1 ⟨rfl, rfl⟩
          rw [HV1.out]
          go_wp2_with fail
          refine (refMemory_any x.y x.r2 a _ hc2.1 (HR.out _ (by (repeat (first | exact Upd.refl _ _ | apply Upd.drew | apply Upd.alloc))))).mono ?_
          rintro e w2 ⟨rfl, rfl⟩
          rw [HV2.out]
          generalize memE a = E at *
          go_wp2
          go_ret2
          exact ⟨false, 8, rfl, by unfold WhichOk; omega, fun e => absurd (HVV.out e) HNE.out, ((Upd.refl _ _).alloc _).alloc _⟩
      · have b7 : (k == 7) = false := by simpa using k7
        have b8 : (k == 8) = false := by simpa using k8
        have b9 : (k == 9) = false := by simpa using k9
        clear k7 k8 k9
        have HV : Hid (x.r1 = x.r2 → x.r1.countsV = x.r2.countsV) := fun e => by rw [e]
        obtain ⟨t1, ht1⟩ : ∃ t, x.r1.countsV = t := ⟨_, rfl⟩
        obtain ⟨t2, ht2⟩ : ∃ t, x.r2.countsV = t := ⟨_, rfl⟩
        have HT1 : Hid (x.r1.countsV = t1) := ht1
        have HT2 : Hid (x.r2.countsV = t2) := ht2
        rw [ht1, ht2] at HV
        clear ht1 ht2
        go_enter Try.func81, Try.ntmps81
        go_wp2_with fail
        refine (pCounts_any x.b x.r1 _ (HP.out _ (by (repeat (first | exact Upd.refl _ _ | apply Upd.drew | apply Upd.alloc))))).mono ?_
        rintro e w1 ⟨rfl, hu1⟩
        rw [HT1.out]
        have HU1 := (show Hid _ from (((Upd.refl no w).alloc _).alloc _).trans hu1)
        have hb0 : ((w.alloc (.cells #[.pointer (some ⟨x.b, 0, none⟩), .pointer (some ⟨x.y.blk 0, 0, none⟩)] 102)).alloc (.cells #[.int .i64 k, .int .i64 mm, .int .i64 a, .int .i64 b, .int .i64 c, .int .i64 (cf 0), .int .i64 (cf 1), .int .i64 (cf 2), .int .i64 (cf 3), .int .i64 (cf 4), .int .i64 (cf 5), .int .i64 (cf 6)] 97)).heap[w.heap.size]? = some (.cells #[.pointer (some ⟨x.b, 0, none⟩), .pointer (some ⟨x.y.blk 0, 0, none⟩)] 102) := by
          rw [Below.heap_alloc _ _ _ (by simp), heap_alloc_new]
        rw [← hu1.block (by simp; omega) (fun _ h => h)] at hb0
        have hsz : w.heap.size < w1.heap.size := (Array.getElem?_eq_some_iff.1 hb0).1
        have d1 : w1.cell? ⟨w.heap.size, 1, none⟩ = some (.pointer (some ⟨x.y.blk 0, 0, none⟩)) := by simp [World.cell?, hb0]
        clear hu1 hb0
        simp only [aggT, celT]
        go_wp2_with fail
        refine (refCounts_any x.y x.r2 _ (HR.out _ (HU1.out.alloc _))).mono ?_
        rintro e w2 ⟨rfl, hu2⟩
        rw [HT2.out]
        have HU2 := (show Hid _ from (HU1.out.alloc _).trans hu2)
        have hb3 := heap_alloc_new w1 (.cells #[.int .i64 (t1 0), .int .i64 (t1 1), .int .i64 (t1 2), .int .i64 (t1 3), .int .i64 (t1 4), .int .i64 (t1 5), .int .i64 (t1 6), .int .i64 (t1 7), .int .i64 (t1 8), .int .i64 (t1 9)] 68)
        rw [← hu2.block (by simp) (fun _ h => h)] at hb3
        have hz1 : w1.heap.size < w2.heap.size := (Array.getElem?_eq_some_iff.1 hb3).1
        have g0 : w2.cell? ⟨w1.heap.size, 0, none⟩ = some (.int .i64 (t1 0)) := by simp [World.cell?, hb3]
        have g1 : w2.cell? ⟨w1.heap.size, 1, none⟩ = some (.int .i64 (t1 1)) := by simp [World.cell?, hb3]
        have g2 : w2.cell? ⟨w1.heap.size, 2, none⟩ = some (.int .i64 (t1 2)) := by simp [World.cell?, hb3]
        have g3 : w2.cell? ⟨w1.heap.size, 3, none⟩ = some (.int .i64 (t1 3)) := by simp [World.cell?, hb3]
        have g4 : w2.cell? ⟨w1.heap.size, 4, none⟩ = some (.int .i64 (t1 4)) := by simp [World.cell?, hb3]
        have g5 : w2.cell? ⟨w1.heap.size, 5, none⟩ = some (.int .i64 (t1 5)) := by simp [World.cell?, hb3]
        have g6 : w2.cell? ⟨w1.heap.size, 6, none⟩ = some (.int .i64 (t1 6)) := by simp [World.cell?, hb3]
        have g7 : w2.cell? ⟨w1.heap.size, 7, none⟩ = some (.int .i64 (t1 7)) := by simp [World.cell?, hb3]
        have g8 : w2.cell? ⟨w1.heap.size, 8, none⟩ = some (.int .i64 (t1 8)) := by simp [World.cell?, hb3]
        have g9 : w2.cell? ⟨w1.heap.size, 9, none⟩ = some (.int .i64 (t1 9)) := by simp [World.cell?, hb3]
        clear hu2 hb3
        simp only [aggT, celT]
        have HW : Hid (WhichOk 16) := by show WhichOk 16; unfold WhichOk; omega
        go_wp2
        all_goals
          go_ret2
          first
            | exact ⟨true, 16, rfl, HW.out, fun _ => rfl, HU2.out.alloc _⟩
            | exact ⟨false, 16, rfl, HW.out, fun e => by have h' := HV.out e; subst h'; simp_all, HU2.out.alloc _⟩

end Go.Proofs.Ytobniidkkmlilaa
