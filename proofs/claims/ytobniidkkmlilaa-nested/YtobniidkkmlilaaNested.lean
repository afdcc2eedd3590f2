import Derived.Test.YtobniidkkmlilaaPa50

/- The walk over Nested. -/
namespace Go.Proofs.Ytobniidkkmlilaa
open Go.RowKit Go.Coh

def StopP (p : Prop) : Prop := p
theorem stopP {p : Prop} (h : StopP p) : p := h
theorem nst_kind (m : RM) (o : Nat → Int) : (pickN (o 0) 2 = 0 → m.nst o = m.lS 0 (nAd o)) ∧ (¬ pickN (o 0) 2 = 0 → m.nst o = m.sS 0 (nAd o) (o 3)) := by
  unfold RM.nst
  exact ⟨fun h => if_pos h, fun h => if_neg h⟩

set_option maxRecDepth 100000 in
set_option maxHeartbeats 4000000 in
theorem nestedL_any (c : Nat → Int) (M : Nat) (oS : Option Addr) (capS : Nat) (os : Nat → Nat → Int) (w : World) (hc : ∀ j, j < 7 → InI64 (c j)) (_hM : M ≤ 9223372036854775807) (hs : Script w oS M os) :
    Calls Try.prog 12 #[.agg (celC c), .slice oS M capS] w fun e w' => e = .returned (.bool true) ∧ Below w.heap.size w w' := by
  obtain ⟨i0, hi, hz0, hz1, hz2⟩ := info_parts info3
  have HC := (show Hid _ from hc)
  have HS := (show Hid _ from hs)
  have HCF := (show Hid _ from nest_ok c)
  clear hc hs
  unfold celC
  go_enter Try.func12, Try.ntmps12
  go_wp2_with fail
  refine (fit_any c _ HC.out).mono ?_
  rintro e w1 ⟨rfl, u1⟩
  have HU1 : Hid (Upd no w w1) := ((Upd.refl no w).alloc _).trans u1
  clear u1
  unfold celC
  go_wp2_with fail
  refine (pNew_good (nestC c) _ (checkE_ok HCF.out)).mono ?_
  rintro e w2 ⟨⟨xb, rfl, hxb, hpx⟩, u2⟩
  have hbc : w2.heap[w1.heap.size]? = some (.cells (celC (nestC c)) 53) := by rw [u2.block (by simp) (fun _ h => h)]; exact heap_alloc_new w1 _
  have hz2w : w1.heap.size < w2.heap.size := (Array.getElem?_eq_some_iff.1 hbc).1
  have hxb' : w1.heap.size < xb := by simp at hxb; omega
  have s1 := HU1.out.size
  have hk0 : LN w w2 w1.heap.size xb (nestC c) ((newM (nestC c)).freshS.nrun os 0) (.slice none 0 0) (.slice none 0 0) 0 0 (fun i => (nLn (os i) : Int)) (fun i => ((newM (nestC c)).freshS.nrun os i).nPl (os i)) :=
    ⟨⟨s1, by omega⟩, by omega, hz2w, conf_cells hbc, hpx, World.ownsRow_nil _ _ _ _, World.ownsRow_nil _ _ _ _, fun g e => (by cases e), fun g e => (by cases e), fun g e => (by cases e), (HU1.out.alloc _).trans u2⟩
  have HK0 := (show Hid _ from hk0)
  obtain ⟨n1, n2, n3⟩ := nest_start c
  have HRUN := (show Hid _ from nrun_all n1 n2 os)
  clear hk0 u2 hpx hxb HU1 HC hbc s1 n1 n2 n3
  go_wp2_with fail
  generalize w1.heap.size = cb at *
  generalize hm0 : (newM (nestC c)).freshS = m0 at *
  go_loopw [8, 9, 10] (fun vl vp i wr => ∃ k : Nat, k ≤ M ∧ k ≤ 200 ∧ i = .int .i64 k ∧ LN w wr cb xb (nestC c) (m0.nrun os k) vl vp k k (fun i => (nLn (os i) : Int)) (fun i => (m0.nrun os i).nPl (os i))) (fun _ _ i _ => M - (intOf i).toNat)
  case atStart => exact ⟨0, Nat.zero_le _, Nat.zero_le _, rfl, HK0.out⟩
  case round =>
    obtain ⟨k, hk, hk2, rfl, hK⟩ := hrel
    obtain ⟨ol8, cap8, rfl⟩ := own_slice' hK.ol
    obtain ⟨ol9, cap9, rfl⟩ := own_slice' hK.op
    have HK := (show Hid _ from hK)
    obtain ⟨ni, _, _, _⟩ := HRUN.out k
    have HNI := (show Hid _ from ni)
    have hsz := hK.u.size
    by_cases hlt : k < M ∧ k < 200
    · obtain ⟨hlt, h200⟩ := hlt
      obtain ⟨a, off, rfl, c0, c1, c2, c3⟩ := HS.out.cells hK.u hlt
      have HR := (show Hid _ from HS.out.r k hlt)
      have hxl := hK.p.blt
      have HKEEP : Hid (∀ W, Upd (blkS xb) wr W → W.cell? ⟨a, off + k * 4 + 3, none⟩ = some (.int .i64 (os k 3))) := fun W u => by
        obtain ⟨a', off', e', r⟩ := HS.out.cells (upd_above hK.u u (fun k' o e => by have : k' = xb := e; have := hK.n1; omega)) hlt
        injection e' with e'
        injection e' with e1 e2
        subst e1
        subst e2
        exact r.2.2.2
      obtain ⟨mN, hmN⟩ : ∃ x, m0.nrun os (k + 1) = x := ⟨_, rfl⟩
      have hmE : mN = (m0.nrun os k).nst (os k) := hmN.symm
      have HAD : Hid (((pickN (os k 2) 256 : Nat) : Int) / 4 = (nLn (os k) : Int)) := by
        show ((pickN (os k 2) 256 : Nat) : Int) / 4 = (nLn (os k) : Int)
        unfold nLn nAd; omega
      have HMN := (show Hid _ from hmN)
      have HME := (show Hid _ from hmE)
      have hno := nst_kind (m0.nrun os k) (os k)
      have HNO := (show Hid _ from hno)
      have hal := nAd_lt (os k)
      have hal2 := pickN_lt (os k 2) 256 (by omega)
      have hler := ni.refE (os k)
      have HER := (show Hid _ from hler)
      have HLE := (show Hid _ from (ni.load_eq (os k)).2)
      have HSE := (show Hid _ from (ni.store_eq (os k)).2)
      have hB : (12 * (k : Int)) ≤ 2400 := by omega
      clear hK ni hmN hmE hno hler
      go_wp2_with fail
      refine (pick_same (os k 2) 256 256 _ rfl (by omega) (by omega) (HR.out 2 (by omega))).mono ?_
      rintro e w3 ⟨rfl, rfl⟩
      go_wp2_with fail
      refine (pick_same (os k 0) 2 2 _ rfl (by omega) (by omega) (HR.out 0 (by omega))).mono ?_
      rintro e w3 ⟨rfl, rfl⟩
      by_cases hk0 : pickN (os k 0) 2 = 0
      · have HST := (show Hid _ from HNO.out.1 hk0)
        rw [hk0]
        clear hk0 HNO
        go_wp2_with fail
        refine (pLoad_all xb (m0.nrun os k) 0 (nAd (os k)) (12 * (k : Int)) _ HNI.out.I (by omega) HK.out.p).mono ?_
        rintro e w4 ⟨rfl, g4, u4⟩
        rw [HER.out, HLE.out]
        have HL4 : Hid (LN w w4 cb xb (nestC c) mN (.slice ol8 k cap8) (.slice ol9 k cap9) k k (fun i => (nLn (os i) : Int)) (fun i => (m0.nrun os i).nPl (os i))) := by
          show LN _ _ _ _ _ _ _ _ _ _ _ _
          rw [HME.out, HST.out]; exact HK.out.mach g4 u4
        obtain ⟨pv, hpv⟩ : ∃ x, (m0.nrun os k).nPl (os k) = x := ⟨_, rfl⟩
        rw [hpv]
        generalize (m0.nrun os k).lV 0 (nAd (os k)) = lv at *
        have HPV := (show Hid _ from hpv)
        have hsz4 := HL4.out.u.size
        clear g4 u4 hpv
        go_wp2_with (at_builtin; refine stopP ?_)
        unfold StopP
        refine wpList_append_own_at _ rfl _ _ 24 rfl w.heap.size 3 i0 (.int .i64 0) 1 8 Try.underlying24 hi hz0 hz1 hz2 rfl (by decide) (.slice ol8 k cap8) _ _ rfl ((HL4.out.ol).alloc _) ⟨w4.heap.size, 0, none⟩ 1 1 [.int .i64 (((pickN (os k 2) 256 : Nat) : Int) / 4)] rfl rfl (cell_one_new _ _ _) (ints_oneCell .i64 [((pickN (os k 2) 256 : Nat) : Int) / 4]) (by unfold maxLen; omega) (by omega) (by simp; omega) ?_
        intro v5 w5 hown5 hgrow5 hnil5 hblk5
        clear hnil5
        obtain ⟨o5, cap5, rfl⟩ := own_slice' hown5
        have HL5 := (show Hid _ from (HL4.out.of_no ((Upd.refl no w4).alloc _)).growL hgrow5 (by have e := iv_succ (fun i => (nLn (os i) : Int)) k; rw [← HAD.out] at e; rw [← e]; exact hown5) hblk5)
        have hsz5 := HL5.out.u.size
        clear hown5 hgrow5 hblk5
        go_wp2_with (at_builtin; refine stopP ?_)
        unfold StopP
        refine wpList_append_own_at _ rfl _ _ 24 rfl w.heap.size 3 i0 (.int .i64 0) 1 8 Try.underlying24 hi hz0 hz1 hz2 rfl (by decide) (.slice ol9 k cap9) _ _ rfl ((HL5.out.op).alloc _) ⟨w5.heap.size, 0, none⟩ 1 1 [.int .i64 (pv)] rfl rfl (cell_one_new _ _ _) (ints_oneCell .i64 [pv]) (by unfold maxLen; omega) (by omega) (by simp; omega) ?_
        intro v6 w6 hown6 hgrow6 hnil6 hblk6
        clear hnil6
        obtain ⟨o6, cap6, rfl⟩ := own_slice' hown6
        have HL6 := (show Hid _ from (HL5.out.of_no ((Upd.refl no w5).alloc _)).growP hgrow6 (by have e := iv_succ (fun i => (m0.nrun os i).nPl (os i)) k; rw [HPV.out] at e; rw [← e]; exact hown6) hblk6)
        clear hown6 hgrow6 hblk6
        go_wp2
        go_roundw
        case rel => exact ⟨k + 1, by omega, by omega, by go_num, by rw [HMN.out]; exact HL6.out⟩
        case measure => simp [intOf]; omega
      · have hkb : (((pickN (os k 0) 2 : Nat) : Int) == 0) = false := by simp; omega
        have HST := (show Hid _ from HNO.out.2 hk0)
        clear hk0 HNO
        generalize pickN (os k 0) 2 = kd at *
        go_wp2_with fail
        refine (pStore_all xb (m0.nrun os k) 0 (nAd (os k)) (os k 3) (12 * (k : Int)) _ HNI.out.I HNI.out.C (by omega) HK.out.p).mono ?_
        rintro e w4 ⟨rfl, g4, u4⟩
        rw [HER.out, HSE.out]
        have HL4 : Hid (LN w w4 cb xb (nestC c) mN (.slice ol8 k cap8) (.slice ol9 k cap9) k k (fun i => (nLn (os i) : Int)) (fun i => (m0.nrun os i).nPl (os i))) := by
          show LN _ _ _ _ _ _ _ _ _ _ _ _
          rw [HME.out, HST.out]; exact HK.out.mach g4 u4
        obtain ⟨pv, hpv⟩ : ∃ x, (m0.nrun os k).nPl (os k) = x := ⟨_, rfl⟩
        rw [hpv]
        have HPV := (show Hid _ from hpv)
        have hsz4 := HL4.out.u.size
        clear g4 u4 hpv
        go_wp2_with (at_builtin; refine stopP ?_)
        unfold StopP
        refine wpList_append_own_at _ rfl _ _ 24 rfl w.heap.size 3 i0 (.int .i64 0) 1 8 Try.underlying24 hi hz0 hz1 hz2 rfl (by decide) (.slice ol8 k cap8) _ _ rfl ((HL4.out.ol).alloc _) ⟨w4.heap.size, 0, none⟩ 1 1 [.int .i64 (((pickN (os k 2) 256 : Nat) : Int) / 4)] rfl rfl (cell_one_new _ _ _) (ints_oneCell .i64 [((pickN (os k 2) 256 : Nat) : Int) / 4]) (by unfold maxLen; omega) (by omega) (by simp; omega) ?_
        intro v5 w5 hown5 hgrow5 hnil5 hblk5
        clear hnil5
        obtain ⟨o5, cap5, rfl⟩ := own_slice' hown5
        have HL5 := (show Hid _ from (HL4.out.of_no ((Upd.refl no w4).alloc _)).growL hgrow5 (by have e := iv_succ (fun i => (nLn (os i) : Int)) k; rw [← HAD.out] at e; rw [← e]; exact hown5) hblk5)
        have hsz5 := HL5.out.u.size
        clear hown5 hgrow5 hblk5
        go_wp2_with (at_builtin; refine stopP ?_)
        unfold StopP
        refine wpList_append_own_at _ rfl _ _ 24 rfl w.heap.size 3 i0 (.int .i64 0) 1 8 Try.underlying24 hi hz0 hz1 hz2 rfl (by decide) (.slice ol9 k cap9) _ _ rfl ((HL5.out.op).alloc _) ⟨w5.heap.size, 0, none⟩ 1 1 [.int .i64 (pv)] rfl rfl (cell_one_new _ _ _) (ints_oneCell .i64 [pv]) (by unfold maxLen; omega) (by omega) (by simp; omega) ?_
        intro v6 w6 hown6 hgrow6 hnil6 hblk6
        clear hnil6
        obtain ⟨o6, cap6, rfl⟩ := own_slice' hown6
        have HL6 := (show Hid _ from (HL5.out.of_no ((Upd.refl no w5).alloc _)).growP hgrow6 (by have e := iv_succ (fun i => (m0.nrun os i).nPl (os i)) k; rw [HPV.out] at e; rw [← e]; exact hown6) hblk6)
        clear hown6 hgrow6 hblk6
        go_wp2
        go_roundw
        case rel => exact ⟨k + 1, by omega, by omega, by go_num, by rw [HMN.out]; exact HL6.out⟩
        case measure => simp [intOf]; omega
    · have hcases : (decide (k < M) = false ∧ ¬ k < M) ∨ (decide (k < M) = true ∧ k < M ∧ ¬ ((k : Int) < 200)) := by
        simp only [decide_eq_false_iff_not, decide_eq_true_eq]; omega
      have HSETS := (show Hid _ from fun s => nest_sets c os k s)
      rw [hm0] at HSETS
      have HC1 := (show Hid _ from HNI.out.s.c)
      have hp8 : powerN (c 1) ≤ 8 := by have := HCF.out.sS; unfold Size at this; omega
      clear hK hlt
      generalize hmk : m0.nrun os k = mk at *
      rcases hcases with ⟨hA, hA2⟩ | ⟨hA, hA2, hB⟩
      all_goals
        go_wp2_with fail
        go_loopw [14] (fun i wx => ∃ s : Nat, s ≤ powerN (c 1) ∧ i = .int .i64 s ∧ LN w wx cb xb (nestC c) mk (.slice ol8 k cap8) (.slice ol9 k cap9) k k (fun i => (nLn (os i) : Int)) (fun i => (m0.nrun os i).nPl (os i))) (fun i _ => powerN (c 1) - (intOf i).toNat)
        case atStart => exact ⟨0, Nat.zero_le _, rfl, HK.out⟩
        case round =>
          obtain ⟨s, hs, rfl, hL⟩ := hrel
          have HL := (show Hid _ from hL)
          have d0 := hL.c 0 (by omega)
          have d1 : wr.cell? ⟨cb, 1, none⟩ = some (.int .i64 (powerN (c 1) : Nat)) := hL.c 1 (by omega)
          have d2 := hL.c 2 (by omega)
          have d3 := hL.c 3 (by omega)
          have d4 := hL.c 4 (by omega)
          have d5 := hL.c 5 (by omega)
          have d6 := hL.c 6 (by omega)
          clear hL
          by_cases hsl : s < powerN (c 1)
          · go_wp2_with fail
            refine (nested_any xb k (powerN (c 1)) (powerN (c 2)) (pickN (c 3) 2) s mk (nestC c) (fun i => nLn (os i)) (fun i => (m0.nrun os i).nPl (os i)) (.slice ol8 k cap8) (.slice ol9 k cap9) _ hk2 HCF.out.sS HCF.out.sW HCF.out.sP hsl rfl rfl rfl HC1.out (fun i => nLn_lt (os i)) (HSETS.out s).1 (HSETS.out s).2 HL.out.p (ints_of_own HL.out.ol).1 (ints_of_own HL.out.op).1).mono ?_
            rintro e w7 ⟨rfl, u7⟩
            have HL7 := (show Hid _ from HL.out.of_no u7)
            clear u7 d0 d1 d2 d3 d4 d5 d6
            go_wp2
            go_roundw
            case rel => exact ⟨s + 1, by omega, by go_num, HL7.out⟩
            case measure => simp [intOf]; omega
          · go_wp2
            go_ret
            exact ⟨rfl, HL.out.u.below (Nat.le_refl _) (fun _ _ _ h => h)⟩

end Go.Proofs.Ytobniidkkmlilaa
