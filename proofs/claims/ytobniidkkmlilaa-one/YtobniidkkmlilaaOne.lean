import Derived.Test.YtobniidkkmlilaaPk47
import Derived.Test.YtobniidkkmlilaaPk49

/- The walk over One. -/
namespace Go.Proofs.Ytobniidkkmlilaa
open Go.RowKit Go.Coh

theorem fits_arg (xb : Nat) (m : RM) (B : Int) (w : World) (I : MInv m B) (CI : CInv m) (D : Dm m) (HP : PmAt w xb m) :
    Calls Try.prog 38 #[.pointer (some ⟨xb, 0, none⟩), .agg #[.int .i64 m.cores, .int .i64 (m.conf 1), .int .i64 (m.conf 2), .int .i64 (m.conf 3), .int .i64 (m.conf 4), .int .i64 (m.conf 5), .int .i64 (m.conf 6)]] w fun e w' => e = .returned (.bool true) ∧ Upd no w w' := by
  have h := fits_any xb m B w I CI D HP
  unfold celC at h
  rw [I.c0] at h
  exact h

set_option maxRecDepth 100000 in
set_option maxHeartbeats 4000000 in
theorem one_any (c : Nat → Int) (M : Nat) (oS : Option Addr) (capS : Nat) (os : Nat → Nat → Int) (zc za zv : Int) (w : World) (hc : ∀ j, j < 7 → InI64 (c j)) (hM : M ≤ 4398046511104) (hs : Script w oS M os) (hzc : InI64 zc) (hza : InI64 za) (hzv : InI64 zv) :
    Calls Try.prog 14 #[.agg (celC c), .slice oS M capS, .int .i64 zc, .int .i64 za, .int .i64 zv] w fun e w' => e = .returned (.bool true) ∧ Below w.heap.size w w' := by
  have HC := (show Hid _ from hc)
  have HS := (show Hid _ from hs)
  have HCF := (show Hid _ from fit_ok c)
  have HZC := (show Hid _ from hzc)
  have HZA := (show Hid _ from hza)
  have HZV := (show Hid _ from hzv)
  clear hc hs hzc hza hzv
  unfold celC
  go_enter Try.func14, Try.ntmps14
  go_wp2_with fail
  refine (fit_any c _ HC.out).mono ?_
  rintro e w1 ⟨rfl, u1⟩
  have HU1 : Hid (Upd no w w1) := ((Upd.refl no w).alloc _).trans u1
  clear u1
  unfold celC
  go_wp2_with fail
  refine (pNew_good (fitC c) _ (checkE_ok HCF.out)).mono ?_
  rintro e w2 ⟨⟨b2, rfl, hb2, hp2⟩, u2⟩
  have hk0 := KAt.start HU1.out hb2 u2 hp2
  have HK0 := (show Hid _ from hk0)
  have hcz : fitC c 0 = (newM (fitC c)).freshS.cores := by show fitC c 0 = ((fitC c 0).toNat : Int); have := HCF.out.e0; omega
  have HCZ := (show Hid _ from hcz)
  have HI0 := (show Hid _ from newM_inv (checkE_ok HCF.out))
  have HC0 := (show Hid _ from newM_cinv (checkE_ok HCF.out))
  have HDM := (show Hid _ from fresh_dm (newM (fitC c)))
  have HCO : Hid ((newM (fitC c)).freshS.conf = fitC c) := rfl
  clear hk0 hcz u2 hp2 hb2 HU1 HC
  generalize (newM (fitC c)).freshS = m0 at *
  go_wp2_with fail
  generalize w1.heap.size = cb at *
  generalize hbb : w2.heap.size = bb at *
  generalize hw3 : w2.alloc (.cells Try.zeroCells63 63) = w3 at *
  clear hw3 hbb
  go_loopw [15] (fun i wr => ∃ k : Nat, k ≤ M ∧ i = .int .i64 k ∧ KAt w wr cb bb b2 (fitC c) (m0.krun os k)) (fun i _ => M - (intOf i).toNat)
  case atStart => exact ⟨0, Nat.zero_le _, rfl, HK0.out⟩
  case round =>
    obtain ⟨k, hk, rfl, hK⟩ := hrel
    have HK := (show Hid _ from hK)
    obtain ⟨i1, i2, i3⟩ := krun_inv HI0.out HC0.out os k
    by_cases hlt : k < M
    · obtain ⟨a, off, rfl, c0, c1, c2, c3⟩ := HS.out.cells hK.u hlt
      have HR := (show Hid _ from HS.out.r k hlt)
      have d0 := hK.c 0 (by omega)
      rw [HCZ.out, ← i3] at d0
      have HIV := (show Hid _ from i1)
      have HCV := (show Hid _ from i2)
      have HNX : Hid (∀ W w', Upd no wr W → Went bb b2 ((m0.krun os k).kst (os k)) W w' → KAt w w' cb bb b2 (fitC c) (m0.krun os (k + 1))) := fun W w' u g => (hK.of_no u).step g
      obtain ⟨kk, hb, hbi⟩ := hK.b
      have hn2 := hK.n2
      have HPB : Hid (∀ W, Upd no wr W → PmAt W b2 (m0.krun os k) ∧ BkAt W bb kk) := fun W u => ⟨hK.p.of_upd u (fun _ e => e), hb.of_upd u (fun _ e => e)⟩
      have HBI := (show Hid _ from hbi)
      clear hK i1 i2 i3 hb hbi
      generalize m0.krun os k = m at *
      generalize os k = o at *
      go_wp2_with fail
      go_region_with (go_at_call 30; refine (step_any bb b2 m kk o (0 + 128 * (k : Int)) _ hn2.2.2 (by omega) HR.out HIV.out HCV.out HBI.out (HPB.out _ (by (repeat (first | exact Upd.refl _ _ | apply Upd.drew | apply Upd.alloc)))).1 (HPB.out _ (by (repeat (first | exact Upd.refl _ _ | apply Upd.drew | apply Upd.alloc)))).2).mono ?_; rintro e1 w4 ⟨rfl, g4⟩; have HG4 := (show Hid _ from HNX.out _ w4 (by (repeat (first | exact Upd.refl _ _ | apply Upd.drew | apply Upd.alloc))) g4); clear g4)
      all_goals go_wp2
      all_goals
        go_roundw
        case rel => exact ⟨k + 1, by omega, by go_num, HG4.out.of_no (by (repeat (first | exact Upd.refl _ _ | apply Upd.drew | apply Upd.alloc)))⟩
        case measure => simp [intOf]; omega
    · have hkM : k = M := by omega
      subst hkM
      have HIV := (show Hid _ from i1)
      have HCV := (show Hid _ from i2)
      have HPM := (show Hid _ from hK.p)
      have hn1 := hK.n1
      have HU := (show Hid _ from hK.u)
      have hdm := krun_dm HI0.out HC0.out HDM.out os k
      have HDV := (show Hid _ from hdm.1)
      have hcl := hK.lt
      have hn2 := hK.n2
      have hcc : ∀ j, j < 7 → wr.cell? ⟨cb, j, none⟩ = some (.int .i64 ((m0.krun os k).conf j)) := fun j hj => by rw [hdm.2, HCO.out]; exact hK.c j hj
      have d0 := hcc 0 (by omega)
      rw [i1.c0] at d0
      have d1 := hcc 1 (by omega)
      have d2 := hcc 2 (by omega)
      have d3 := hcc 3 (by omega)
      have d4 := hcc 4 (by omega)
      have d5 := hcc 5 (by omega)
      have d6 := hcc 6 (by omega)
      have HCC := (show Hid _ from hcc)
      have hc4 := i1.c
      have hmx := HPM.out.blt
      clear hK i1 i2 i3 HS HK hdm hcc HI0 HC0 HDM HCO HCZ HK0
      generalize m0.krun os k = m at *
      go_wp2_with fail
      refine (single_any b2 m _ hc4.2 HCV.out HPM.out).mono ?_
      rintro e w4 ⟨rfl, rfl⟩
      go_wp2_with fail
      refine (fits_arg b2 m (0 + 128 * (k : Int)) _ HIV.out HCV.out HDV.out HPM.out).mono ?_
      rintro e w5 ⟨rfl, u5⟩
      have HP5 := (show Hid _ from HPM.out.of_upd u5 (fun _ e => e))
      have HU5 : Hid (Upd no w w5) := HU.out.trans u5
      have hc5 : ∀ j, j < 7 → w5.cell? ⟨cb, j, none⟩ = some (.int .i64 (m.conf j)) := fun j hj => by rw [u5.cell hcl (fun h => h)]; exact HCC.out j hj
      have hl5 := Nat.lt_of_lt_of_le hcl u5.size
      have e0 := hc5 0 (by omega)
      rw [HIV.out.c0] at e0
      have HC5 := (show Hid _ from hc5)
      clear u5 hc5 d0 d1 d2 d3 d4 d5 d6 HCC HPM HU hcl hmx
      have hwl := pickN_lt zc m.cores (by omega)
      have hal := pickN_lt za 256 (by omega)
      have hol := pickN_lt zv m.cores (by omega)
      go_wp2_with fail
      refine (pick_same zc m.cores m.cores _ rfl (by omega) (by omega) HZC.out).mono ?_
      rintro e w6 ⟨rfl, rfl⟩
      go_wp2_with fail
      refine (pick_same za 256 256 _ rfl (by omega) (by omega) HZA.out).mono ?_
      rintro e w6 ⟨rfl, rfl⟩
      obtain ⟨ot, hot⟩ : ∃ ot, pickN zv m.cores = ot := ⟨_, rfl⟩
      have HOT := (show Hid _ from hot)
      rw [hot] at hol
      clear hot
      generalize pickN zc m.cores = wh at *
      generalize pickN za 256 = ad at *
      have er := refE_zero (n := m.cores) hwl hal
      have HR1 : Hid (refE m.cores wh ad = 0) := er
      have hst := HCV.out.store HIV.out hwl hal zv
      have ess : m.sS wh ad zv = m.storeS wh (ad / 4) ad zv := by unfold RM.sS; rw [if_pos er]; rfl
      rw [← ess] at hst
      have his := HIV.out.sS wh ad zv
      have hws := sS_words HIV.out hwl hal zv
      have hds := HDV.out.of (DimR.sS HIV.out wh ad zv)
      have hco := (DimR.sS HIV.out wh ad zv).cf
      have HI1 := (show Hid _ from his.1)
      have HN1 : Hid ((m.sS wh ad zv).cores = m.cores) := his.2
      have HC1 := (show Hid _ from hst.1)
      have HH1 := (show Hid _ from hst.2)
      have HW1 : Hid ((m.sS wh ad zv).words ad = zv) := by show _ = _; rw [hws]; unfold upd; rw [if_pos rfl]
      have HD1 := (show Hid _ from hds)
      have HCO1 : Hid ((m.sS wh ad zv).conf = m.conf) := hco
      have HAD : Hid ((ad : Int) / 4 = ((ad / 4 : Nat) : Int)) := by show _ = _; omega
      clear hst his hws hds hco er ess
      go_wp2_with fail
      refine (pStore_all b2 m wh ad zv (0 + 128 * (k : Int)) _ HIV.out HCV.out (by omega) HP5.out).mono ?_
      rintro e w6 ⟨rfl, g6, u6⟩
      rw [HR1.out]
      have hc6 : ∀ j, j < 7 → w6.cell? ⟨cb, j, none⟩ = some (.int .i64 (m.conf j)) := fun j hj => by rw [u6.cell hl5 (fun h => hn2.2.1 h)]; exact HC5.out j hj
      have hl6 := Nat.lt_of_lt_of_le hl5 u6.size
      have HP6 := (show Hid _ from g6)
      have HU6 : Hid (Upd no w w6) := upd_above HU5.out u6 (fun k' o e => by have : k' = b2 := e; omega)
      have HC6 := (show Hid _ from hc6)
      have f0 := hc6 0 (by omega)
      rw [HIV.out.c0] at f0
      clear g6 u6 hc6 e0 HC5 HU5 HP5 HR1 HDV
      generalize m.sW wh ad = sw at *
      have HC0m : Hid (m.conf 0 = m.cores) := HIV.out.c0
      clear HIV HCV
      generalize m.sS wh ad zv = m1 at *
      have HSE : Hid (stateE m1.cores wh ((ad / 4 : Nat) : Int) = 0) := stateE0 (by rw [HN1.out]; exact hwl) (by omega)
      have HSV : Hid (m1.stateV wh ((ad / 4 : Nat) : Int) = 3) := (stateV_is (by rw [HN1.out]; exact hwl) (by omega)).trans HH1.out
      have hc41 : m1.cores ≤ 4 := by rw [HN1.out]; exact hc4.2
      go_wp2_with fail
      rw [HAD.out]
      refine (pState_any b2 m1 wh ((ad / 4 : Nat) : Int) _ hc41 HP6.out).mono ?_
      rintro e w7 ⟨rfl, rfl⟩
      rw [HSE.out, HSV.out]
      go_wp2_with fail
      refine (pick_same zv m.cores m.cores _ rfl (by omega) (by omega) HZV.out).mono ?_
      rintro e w8 ⟨rfl, rfl⟩
      rw [HOT.out]
      have hol1 : ot < m1.cores := by rw [HN1.out]; exact hol
      have er := refE_zero (n := m1.cores) hol1 hal
      have HR2 : Hid (refE m1.cores ot ad = 0) := er
      have HV2 : Hid (m1.lV ot ad = zv) := by show _ = _; unfold RM.lV; rw [if_pos er]; exact HW1.out
      have els : m1.lS ot ad = m1.loadS ot (ad / 4) := by unfold RM.lS; rw [if_pos er]; rfl
      have hh2 := load_has HI1.out hol1 (l := ad / 4) (by omega)
      rw [← els] at hh2
      have hil := HI1.out.lS ot ad
      have HI2 := (show Hid _ from hil.1)
      have HN2 : Hid ((m1.lS ot ad).cores = m1.cores) := hil.2
      have HC2 := (show Hid _ from HC1.out.lS HI1.out ot ad)
      have HD2 := (show Hid _ from HD1.out.of (DimR.lS HI1.out ot ad))
      have HCO2 : Hid ((m1.lS ot ad).conf = m.conf) := (DimR.lS HI1.out ot ad).cf.trans HCO1.out
      have HH2 := (show Hid _ from hh2)
      clear els hil hh2 er
      go_wp2_with fail
      refine (pLoad_all b2 m1 ot ad (0 + 128 * (k : Int) + 12) _ HI1.out (by omega) HP6.out).mono ?_
      rintro e w9 ⟨rfl, g9, u9⟩
      rw [HR2.out, HV2.out]
      have HC9 : Hid (∀ j, j < 7 → w9.cell? ⟨cb, j, none⟩ = some (.int .i64 (m.conf j))) := fun j hj => by rw [u9.cell hl6 (fun h => hn2.2.1 h)]; exact HC6.out j hj
      have HP9 := (show Hid _ from g9)
      have HU9 : Hid (Upd no w w9) := upd_above HU6.out u9 (fun k' o e => by have : k' = b2 := e; omega)
      clear g9 u9 f0
      generalize m1.lW ot ad = lw at *
      clear HI1 HC1 HD1 HH1 HW1 HP6 HU6 HC6 HSE HSV HV2 HR2
      generalize m1.lS ot ad = m2 at *
      have hc42 : m2.cores ≤ 4 := by rw [HN2.out]; exact hc41
      have HSE : Hid (stateE m2.cores ot ((ad / 4 : Nat) : Int) = 0) := stateE0 (by rw [HN2.out]; exact hol1) (by omega)
      have HSV : Hid (m2.stateV ot ((ad / 4 : Nat) : Int) = m2.has ot (ad / 4)) := stateV_is (by rw [HN2.out]; exact hol1) (by omega)
      have hb2 : (m2.has ot (ad / 4) == 0) = false := by simpa using HH2.out
      go_wp2_with fail
      rw [HAD.out]
      refine (pState_any b2 m2 ot ((ad / 4 : Nat) : Int) _ hc42 HP9.out).mono ?_
      rintro e w10 ⟨rfl, rfl⟩
      rw [HSE.out, HSV.out]
      have d0 := HC9.out 0 (by omega)
      have d1 := HC9.out 1 (by omega)
      have d2 := HC9.out 2 (by omega)
      have d3 := HC9.out 3 (by omega)
      have d4 := HC9.out 4 (by omega)
      have d5 := HC9.out 5 (by omega)
      have d6 := HC9.out 6 (by omega)
      rw [HC0m.out, ← HN1.out, ← HN2.out] at d0
      rw [← HCO2.out] at d1 d2 d3 d4 d5 d6
      clear HSV HH2
      generalize m2.has ot (ad / 4) = hh at *
      go_wp2_with fail
      refine (single_any b2 m2 _ hc42 HC2.out HP9.out).mono ?_
      rintro e w11 ⟨rfl, rfl⟩
      go_wp2_with fail
      refine (fits_arg b2 m2 (0 + 128 * (k : Int) + 12 + 8) _ HI2.out HC2.out HD2.out HP9.out).mono ?_
      rintro e w12 ⟨rfl, u12⟩
      have HU12 : Hid (Upd no w w12) := HU9.out.trans u12
      clear u12
      go_wp2
      go_ret
      exact ⟨rfl, HU12.out.below (Nat.le_refl _) (fun _ _ _ h => h)⟩

end Go.Proofs.Ytobniidkkmlilaa
