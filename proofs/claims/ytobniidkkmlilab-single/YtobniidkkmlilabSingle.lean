import Derived.Test.YtobniidkkmlilabPk47

/- The walk over Single. -/
namespace Go.Proofs.Ytobniidkkmlilab
open Go.RowKit Go.Coh

set_option maxRecDepth 100000 in
set_option maxHeartbeats 4000000 in
theorem single_any (c : Nat → Int) (M : Nat) (oS : Option Addr) (capS : Nat) (os : Nat → Nat → Int) (w : World) (hc : ∀ j, j < 7 → InI64 (c j)) (hM : M ≤ 4398046511104) (hs : Script w oS M os) :
    Calls Try.prog 3 #[.agg (celC c), .slice oS M capS] w fun e w' => e = .returned (.bool true) ∧ Below w.heap.size w w' := by
  have HC := (show Hid _ from hc)
  have HS := (show Hid _ from hs)
  have HCF := (show Hid _ from setN_ok (x := 1) (n' := 1) (fit_ok c) rfl (by omega))
  clear hc hs
  unfold celC
  go_enter Try.func3, Try.ntmps3
  go_wp2_with fail
  refine (fit_any c _ HC.out).mono ?_
  rintro e w1 ⟨rfl, u1⟩
  have HU1 : Hid (Upd no w w1) := ((Upd.refl no w).alloc _).trans u1
  clear u1
  unfold celC
  go_wp2_with fail
  refine (pNew_good (setN (fitC c) 1) _ (checkE_ok HCF.out)).mono ?_
  rintro e w2 ⟨⟨b2, rfl, hb2, hp2⟩, u2⟩
  have hk0 := KAt.start (cf := setN (fitC c) 1) HU1.out hb2 u2 hp2
  have HK0 := (show Hid _ from hk0)
  have HI0 := (show Hid _ from newM_inv (checkE_ok HCF.out))
  have HC0 := (show Hid _ from newM_cinv (checkE_ok HCF.out))
  have HS1 := (show Hid _ from newM_s1 (cf := setN (fitC c) 1) rfl)
  clear hk0 u2 hp2 hb2 HU1 HC
  generalize (newM (setN (fitC c) 1)).freshS = m0 at *
  go_wp2_with fail
  generalize w1.heap.size = cb at *
  generalize hbb : w2.heap.size = bb at *
  generalize hw3 : w2.alloc (.cells Try.zeroCells34 34) = w3 at *
  clear hw3 hbb
  go_loopw [9] (fun i wr => ∃ k : Nat, k ≤ M ∧ i = .int .i64 k ∧ KAt w wr cb bb b2 (setN (fitC c) 1) (m0.krun os k)) (fun i _ => M - (intOf i).toNat)
  case atStart => exact ⟨0, Nat.zero_le _, rfl, HK0.out⟩
  case round =>
    obtain ⟨k, hk, rfl, hK⟩ := hrel
    have HK := (show Hid _ from hK)
    obtain ⟨i1, i2, i3⟩ := krun_inv HI0.out HC0.out os k
    by_cases hlt : k < M
    · obtain ⟨a, off, rfl, c0, c1, c2, c3⟩ := HS.out.cells hK.u hlt
      have HR := (show Hid _ from HS.out.r k hlt)
      have hco1 := (krun_s1 HI0.out HC0.out HS1.out os k).c
      have HIV := (show Hid _ from i1)
      have HCV := (show Hid _ from i2)
      have HNX : Hid (∀ W w', Upd no wr W → Went bb b2 ((m0.krun os k).kst (os k)) W w' → KAt w w' cb bb b2 (setN (fitC c) 1) (m0.krun os (k + 1))) := fun W w' u g => (hK.of_no u).step g
      obtain ⟨kk, hb, hbi⟩ := hK.b
      have hn2 := hK.n2
      have HPB : Hid (∀ W, Upd no wr W → PmAt W b2 (m0.krun os k) ∧ BkAt W bb kk) := fun W u => ⟨hK.p.of_upd u (fun _ e => e), hb.of_upd u (fun _ e => e)⟩
      have HBI := (show Hid _ from hbi)
      have HCN := (show Hid _ from hco1)
      clear hK i1 i2 i3 hb hbi hco1
      generalize m0.krun os k = m at *
      generalize os k = o at *
      go_wp2_with fail
      refine (step_at bb b2 m kk o (0 + 128 * (k : Int)) _ 1 HCN.out hn2.2.2 (by omega) HR.out HIV.out HCV.out HBI.out (HPB.out _ (Upd.refl _ _)).1 (HPB.out _ (Upd.refl _ _)).2).mono ?_
      rintro e1 w4 ⟨rfl, g4⟩
      have HG4 := (show Hid _ from HNX.out _ w4 (Upd.refl _ _) g4)
      clear g4
      go_wp2
      go_roundw
      case rel => exact ⟨k + 1, by omega, by go_num, HG4.out⟩
      case measure => simp [intOf]; omega
    · have hkM : k = M := by omega
      subst hkM
      obtain ⟨kk, hb, hbi⟩ := hK.b
      have hs1 := krun_s1 HI0.out HC0.out HS1.out os k
      have HIV := (show Hid _ from i1)
      have HCV := (show Hid _ from i2)
      have HPM := (show Hid _ from hK.p)
      have HBK := (show Hid _ from hb)
      have HBI := (show Hid _ from hbi)
      have HSV := (show Hid _ from hs1)
      have hn2 := hK.n2
      have hn1 := hK.n1
      have HU := (show Hid _ from hK.u)
      clear hK hb hbi i1 i2 i3 HS HK hs1 HI0 HC0 HS1 HK0
      generalize m0.krun os k = m at *
      have hc1 : m.cores = 1 := HSV.out.c
      have er : refE m.cores (0 : Int) (9 : Int) = 0 := by rw [hc1]; rfl
      have els : m.lS 0 9 = m.loadS 0 2 := by unfold RM.lS; rw [if_pos er]; rfl
      have hs2 := HSV.out.load HIV.out (c := 0) (l := 2) (by omega) (by omega)
      have hh2 := load_has HIV.out (c := 0) (l := 2) (by omega) (by omega)
      obtain ⟨p, hp, _⟩ := pPlace_lt m 0 2
      have hpl : m.loadW 0 2 = p := by rw [← (HIV.out.pLoad_eq (c := 0) (l := 2) (by omega) (by omega)).2, hp]
      have hbl := (HBI.out.load HIV.out (c := 0) (l := 2) (by omega) (by omega) hpl).l
      have hrg := (HCV.out.lS HIV.out 0 9).rg 0 2
      have hcl := (HIV.out.lS 0 9).2
      rw [← els] at hs2 hh2 hbl
      have h23 : (m.lS 0 9).has 0 2 = 2 ∨ (m.lS 0 9).has 0 2 = 3 := by have := hs2.has 0 2; omega
      have ht0 := HIV.out.ht 0
      rw [← HBI.out.l] at ht0
      have HR1 : Hid (refE m.cores (0 : Int) (9 : Int) = 0) := er
      have HS2 := (show Hid _ from hs2)
      have H23 := (show Hid _ from h23)
      have HBL : Hid (kk.L + 1 = (m.lS 0 9).tally 0) := hbl
      have HCL : Hid ((m.lS 0 9).cores = 1) := hcl.trans hc1
      clear er els hs2 hh2 hbl hrg hcl h23 hpl hp
      go_wp2_with fail
      refine (pLoad_all b2 m 0 9 (0 + 128 * (k : Int)) _ HIV.out (by omega) HPM.out).mono ?_
      rintro e w4 ⟨rfl, g4, u4⟩
      rw [HR1.out]
      have HP4 := (show Hid _ from g4)
      have HB4 : Hid (BkAt w4 bb kk) := HBK.out.of_upd u4 (fun _ e => hn2.2.2 e)
      have HU4 : Hid (Upd no w w4) := upd_above HU.out u4 (fun k' o e => by have : k' = b2 := e; omega)
      clear g4 u4 HPM HBK HU HIV HCV HSV HBI HR1
      generalize m.lW 0 9 = lw at *
      generalize m.lV 0 9 = lv at *
      generalize m.lS 0 9 = m1 at *
      have HSE : Hid (stateE m1.cores (0 : Int) (2 : Int) = 0) := by show _ = _; rw [HCL.out]; rfl
      have HSV : Hid (m1.stateV (0 : Int) (2 : Int) = m1.has 0 2) := by
        show _ = _
        unfold RM.stateV; rw [HSE.out, if_pos rfl]; rfl
      have hc41 : m1.cores ≤ 4 := by rw [HCL.out]; omega
      go_wp2_with fail
      refine (pState_any b2 m1 0 2 _ hc41 HP4.out).mono ?_
      rintro e w5 ⟨rfl, rfl⟩
      rw [HSE.out, HSV.out]
      have HLOOP : Hid (∀ j : Nat, j < 64 → stateE m1.cores (0 : Int) (j : Int) = 0 ∧ m1.stateV (0 : Int) (j : Int) = m1.has 0 j ∧ (m1.has 0 j == 1) = false) := fun j hj => by
        have e1 : stateE m1.cores (0 : Int) (j : Int) = 0 := by rw [HCL.out]; exact stateE_zero (n := 1) (c := 0) (by omega) hj
        refine ⟨e1, ?_, by simpa using HS2.out.has 0 j⟩
        unfold RM.stateV; rw [e1, if_pos rfl]; rfl
      clear HSV
      rcases H23.out with h | h
      all_goals
        rw [h]
        clear h H23
        go_wp2_with fail
        go_loopw [16] (fun i wx => ∃ j : Nat, j ≤ 64 ∧ i = .int .i64 j ∧ wx = w5) (fun i _ => 64 - (intOf i).toNat)
        case atStart => exact ⟨0, by omega, rfl, rfl⟩
        case round =>
          obtain ⟨j, hj, rfl, rfl⟩ := hrel
          by_cases hj2 : j < 64
          · obtain ⟨q1, q2, q3⟩ := HLOOP.out j hj2
            have HQ1 := (show Hid _ from q1)
            have HQ2 := (show Hid _ from q2)
            clear q1 q2
            go_wp2_with fail
            refine (pState_any b2 m1 0 j _ hc41 HP4.out).mono ?_
            rintro e w6 ⟨rfl, rfl⟩
            rw [HQ1.out, HQ2.out]
            clear HQ1 HQ2
            generalize m1.has 0 j = hh at *
            go_wp2
            go_roundw
            case rel => exact ⟨j + 1, by omega, by go_num, by first | rfl | trivial⟩
            case measure => simp [intOf]; omega
          · have hj6 : j = 64 := by omega
            subst hj6
            go_wp2_with fail
            refine (pCounts_any b2 m1 _ HP4.out).mono ?_
            rintro e w6 ⟨rfl, u6⟩
            have hb6 : BkAt w6 bb kk := HB4.out.of_upd u6 (fun _ e => e)
            have l0 := hb6.loads.c 0 (by omega)
            change World.cell? _ _ = some (.int .i64 kk.L) at l0
            have q0 : m1.countsV 0 = kk.L + 1 := HBL.out.symm
            have q5 : m1.countsV 5 = 0 := HS2.out.t5
            have q6 : m1.countsV 6 = 0 := HS2.out.t6
            have HU6 : Hid (Upd no w w6) := HU4.out.trans u6
            have hbl6 := hb6.blt
            unfold aggT celT
            rw [q0, q5, q6]
            clear u6 hb6 q0 q5 q6
            generalize kk.L = kL at *
            go_wp2
            go_quiet (fail)
            go_wp2
            go_ret
            exact ⟨rfl, ((HU6.out.alloc _).drewN _).below (Nat.le_refl _) (fun _ _ _ h => h)⟩

end Go.Proofs.Ytobniidkkmlilab
