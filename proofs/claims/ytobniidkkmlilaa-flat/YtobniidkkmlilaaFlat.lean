import Derived.Test.YtobniidkkmlilaaPk47

/- The walk over Flat. -/
namespace Go.Proofs.Ytobniidkkmlilaa
open Go.RowKit Go.Coh

set_option maxRecDepth 100000 in
set_option maxHeartbeats 4000000 in
theorem flat_any (c : Nat → Int) (M : Nat) (oS : Option Addr) (capS : Nat) (os : Nat → Nat → Int) (w : World) (hc : ∀ j, j < 7 → InI64 (c j)) (hM : M ≤ 4398046511104) (hs : Script w oS M os) :
    Calls Try.prog 10 #[.agg (celC c), .slice oS M capS] w fun e w' => e = .returned (.bool true) ∧ Below w.heap.size w w' := by
  have HC := (show Hid _ from hc)
  have HS := (show Hid _ from hs)
  have HCF := (show Hid _ from fit_ok c)
  clear hc hs
  unfold celC
  go_enter Try.func10, Try.ntmps10
  go_wp2_with fail
  refine (fit_any c _ HC.out).mono ?_
  rintro e w1 ⟨rfl, u1⟩
  have HU1 : Hid (Upd no w w1) := ((Upd.refl no w).alloc _).trans u1
  clear u1
  unfold celC
  go_wp2_with fail
  refine (pNew_good (fitC c) _ (checkE_ok HCF.out)).mono ?_
  rintro e w2 ⟨⟨b2, rfl, hb2, hp2⟩, u2⟩
  have hk0 := KAt.start HU1.out hb2 u2 hp2
  have HK0 := (show Hid _ from hk0)
  have hcz : fitC c 0 = (newM (fitC c)).freshS.cores := by show fitC c 0 = ((fitC c 0).toNat : Int); have := HCF.out.e0; omega
  have HCZ := (show Hid _ from hcz)
  have HI0 := (show Hid _ from newM_inv (checkE_ok HCF.out))
  have HC0 := (show Hid _ from newM_cinv (checkE_ok HCF.out))
  clear hk0 hcz u2 hp2 hb2 HU1 HC
  generalize (newM (fitC c)).freshS = m0 at *
  go_wp2_with fail
  generalize w1.heap.size = cb at *
  generalize hbb : w2.heap.size = bb at *
  generalize hw3 : w2.alloc (.cells Try.zeroCells63 63) = w3 at *
  clear hw3 hbb
  go_loopw [9] (fun i wr => ∃ k : Nat, k ≤ M ∧ i = .int .i64 k ∧ KAt w wr cb bb b2 (fitC c) (m0.krun os k)) (fun i _ => M - (intOf i).toNat)
  case atStart => exact ⟨0, Nat.zero_le _, rfl, HK0.out⟩
  case round =>
    obtain ⟨k, hk, rfl, hK⟩ := hrel
    have HK := (show Hid _ from hK)
    obtain ⟨i1, i2, i3⟩ := krun_inv HI0.out HC0.out os k
    by_cases hlt : k < M
    · obtain ⟨a, off, rfl, c0, c1, c2, c3⟩ := HS.out.cells hK.u hlt
      have HR := (show Hid _ from HS.out.r k hlt)
      have d0 := hK.c 0 (by omega)
      rw [HCZ.out, ← i3] at d0
      have HIV := (show Hid _ from i1)
      have HCV := (show Hid _ from i2)
      have HNX : Hid (∀ W w', Upd no wr W → Went bb b2 ((m0.krun os k).kst (os k)) W w' → KAt w w' cb bb b2 (fitC c) (m0.krun os (k + 1))) := fun W w' u g => (hK.of_no u).step g
      obtain ⟨kk, hb, hbi⟩ := hK.b
      have hn2 := hK.n2
      have HPB : Hid (∀ W, Upd no wr W → PmAt W b2 (m0.krun os k) ∧ BkAt W bb kk) := fun W u => ⟨hK.p.of_upd u (fun _ e => e), hb.of_upd u (fun _ e => e)⟩
      have HBI := (show Hid _ from hbi)
      clear hK i1 i2 i3 hb hbi
      generalize m0.krun os k = m at *
      generalize os k = o at *
      go_wp2_with fail
      go_region_with (go_at_call 30; refine (step_any bb b2 m kk o (0 + 128 * (k : Int)) _ hn2.2.2 (by omega) HR.out HIV.out HCV.out HBI.out (HPB.out _ (by (repeat (first | exact Upd.refl _ _ | apply Upd.drew | apply Upd.alloc)))).1 (HPB.out _ (by (repeat (first | exact Upd.refl _ _ | apply Upd.drew | apply Upd.alloc)))).2).mono ?_; rintro e1 w4 ⟨rfl, g4⟩; have HG4 := (show Hid _ from HNX.out _ w4 (by (repeat (first | exact Upd.refl _ _ | apply Upd.drew | apply Upd.alloc))) g4); clear g4)
      all_goals go_wp2
      all_goals
        go_roundw
        case rel => exact ⟨k + 1, by omega, by go_num, HG4.out.of_no (by (repeat (first | exact Upd.refl _ _ | apply Upd.drew | apply Upd.alloc)))⟩
        case measure => simp [intOf]; omega
    · have hkM : k = M := by omega
      subst hkM
      obtain ⟨kk, hb, hbi⟩ := hK.b
      have HIV := (show Hid _ from i1)
      have HCV := (show Hid _ from i2)
      have HPM := (show Hid _ from hK.p)
      have HBK := (show Hid _ from hb)
      have HBI := (show Hid _ from hbi)
      have hn2 := hK.n2
      have hn1 := hK.n1
      have HU := (show Hid _ from hK.u)
      clear hK hb hbi i1 i2 i3 HS HK
      generalize m0.krun os k = m at *
      go_wp2_with fail
      refine (pCounts_any b2 m _ HPM.out).mono ?_
      rintro e w4 ⟨rfl, u4⟩
      have hp4 := HPM.out.of_upd u4 (fun _ e => e)
      have hb4 := HBK.out.of_upd u4 (fun _ e => e)
      have l0 := hb4.loads.c 0 (by omega)
      have l1 := hb4.stores.c 0 (by omega)
      have l2 := hb4.places.c 0 (by omega)
      have l3 := hb4.places.c 1 (by omega)
      have l4 := hb4.places.c 2 (by omega)
      change World.cell? _ _ = some (.int .i64 kk.L) at l0
      change World.cell? _ _ = some (.int .i64 kk.S) at l1
      rw [HBI.out.l] at l0
      rw [HBI.out.s] at l1
      rw [HBI.out.p 0 (by omega)] at l2
      rw [HBI.out.p 1 (by omega)] at l3
      rw [HBI.out.p 2 (by omega)] at l4
      have HP4 := (show Hid _ from hp4)
      have HB4 := (show Hid _ from hb4)
      have HU4 : Hid (Upd no w w4) := HU.out.trans u4
      have hbl := hb4.blt
      clear u4 hp4 hb4
      have q0 : m.countsV 0 = m.tally 0 := rfl
      have q1 : m.countsV 1 = m.tally 1 := rfl
      have q2 : m.countsV 2 = m.tally 2 := rfl
      have q3 : m.countsV 3 = m.tally 3 := rfl
      have q4 : m.countsV 4 = m.tally 4 := rfl
      unfold aggT celT
      rw [q0, q1, q2, q3, q4]
      clear q0 q1 q2 q3 q4
      go_wp2
      go_quiet (fail)
      go_wp2_with fail
      have HUQ := (show Hid _ from ((Upd.refl no w4).alloc (.cells #[.int .i64 (m.tally 0), .int .i64 (m.tally 1), .int .i64 (m.tally 2), .int .i64 (m.tally 3), .int .i64 (m.tally 4), .int .i64 (m.countsV 5), .int .i64 (m.countsV 6), .int .i64 (m.countsV 7), .int .i64 (m.countsV 8), .int .i64 (m.countsV 9)] 68)).drewN nq)
      refine (pDrain_any b2 m (0 + 128 * (k : Int)) _ HIV.out (by omega) (HP4.out.of_upd HUQ.out (fun _ e => e))).mono ?_
      rintro e w5 ⟨rfl, g5, u5⟩
      have hdr := HCV.out.drain HIV.out
      have HP5 := (show Hid _ from g5)
      have HB5 : Hid (BkAt w5 bb kk) := (HB4.out.of_upd HUQ.out (fun _ e => e)).of_upd u5 (fun _ e => hn2.2.2 e)
      have HU5 : Hid (Upd no w w5) := upd_above (HU4.out.trans HUQ.out) u5 (fun k' o e => by have : k' = b2 := e; omega)
      have HM5 : Hid (∀ a : Nat, a < 256 → m.drainS.memV a = kk.W a) := fun a ha => by
        unfold RM.memV
        rw [if_neg (show ¬ ((a : Int) < 0 ∨ (a : Int) ≥ 256) by omega)]
        show m.drainS.mem a = _
        rw [hdr.2.1 a ha, HBI.out.w a ha]
      clear g5 u5 hdr HUQ HU4 HP4 HB4 HIV HCV HBI HPM HBK HU l0 l1 l2 l3 l4
      generalize m.drainS = md at *
      generalize m.tally 0 = t0 at *
      go_wp2_with fail
      go_loopw [14] (fun i wx => ∃ j : Nat, j ≤ 256 ∧ i = .int .i64 j ∧ PmAt wx b2 md ∧ BkAt wx bb kk ∧ Upd no w wx) (fun i _ => 256 - (intOf i).toNat)
      case atStart => exact ⟨0, by omega, rfl, HP5.out, HB5.out, HU5.out⟩
      case round =>
        obtain ⟨j, hj, rfl, g1, g2, g3⟩ := hrel
        have HG1 := (show Hid _ from g1)
        have HG2 := (show Hid _ from g2)
        have HG3 := (show Hid _ from g3)
        by_cases hj2 : j < 256
        · have HE : Hid (memE (j : Int) = 0) := by show _ = _; unfold memE; rw [if_neg (by omega)]
          have HV : Hid (md.memV j = kk.W j) := HM5.out j hj2
          have dw := g2.words.c j hj2
          rw [Nat.zero_add] at dw
          clear g1 g2 g3
          generalize kk.W j = x at *
          go_wp2_with fail
          refine (pMemory_any b2 md j _ HG1.out).mono ?_
          rintro e w6 ⟨rfl, rfl⟩
          rw [HE.out, HV.out]
          go_wp2
          go_roundw
          case rel => exact ⟨j + 1, by omega, by go_num, HG1.out, HG2.out, HG3.out⟩
          case measure => simp [intOf]; omega
        · clear g1 g2 g3
          have hj6 : j = 256 := by omega
          subst hj6
          go_wp2
          go_ret
          exact ⟨rfl, HG3.out.below (Nat.le_refl _) (fun _ _ _ h => h)⟩

end Go.Proofs.Ytobniidkkmlilaa
