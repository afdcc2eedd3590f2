import Derived.Test.YtobniidkkmlilaaPk47

/- The walk over Neutral. -/
namespace Go.Proofs.Ytobniidkkmlilaa
open Go.RowKit Go.Coh

/-- two machines, behind some steps -/
structure NAt (w0 wr : World) (cb xb yb n : Nat) (mx my : RM) (B : Int) : Prop where
  n1 : w0.heap.size ≤ cb ∧ w0.heap.size ≤ xb ∧ w0.heap.size ≤ yb
  n2 : cb ≠ xb ∧ cb ≠ yb ∧ xb ≠ yb
  lt : cb < wr.heap.size
  c : wr.cell? ⟨cb, 0, none⟩ = some (.int .i64 n)
  px : PmAt wr xb mx
  py : PmAt wr yb my
  ix : MInv mx B
  iy : MInv my B
  cx : CInv mx
  cy : CInv my
  nx : mx.cores = n
  ny : my.cores = n
  wd : mx.words = my.words
  u : Upd no w0 wr

theorem NAt.of_no {w0 wr w' : World} {cb xb yb n : Nat} {mx my : RM} {B : Int} (h : NAt w0 wr cb xb yb n mx my B) (u : Upd no wr w') : NAt w0 w' cb xb yb n mx my B :=
  ⟨h.n1, h.n2, Nat.lt_of_lt_of_le h.lt u.size, by rw [u.cell h.lt (fun q => q)]; exact h.c, h.px.of_upd u (fun _ e => e), h.py.of_upd u (fun _ e => e), h.ix, h.iy, h.cx, h.cy, h.nx, h.ny, h.wd, h.u.trans u⟩
theorem NAt.both {w0 wr w1 w2 : World} {cb xb yb n : Nat} {mx my mx' my' : RM} {B B' : Int} (h : NAt w0 wr cb xb yb n mx my B) (px : PmAt w1 xb mx') (u1 : Upd (blkS xb) wr w1) (py : PmAt w2 yb my') (u2 : Upd (blkS yb) w1 w2)
    (ix : MInv mx' B') (iy : MInv my' B') (cx : CInv mx') (cy : CInv my') (nx : mx'.cores = mx.cores) (ny : my'.cores = my.cores) (wd : mx'.words = my'.words) : NAt w0 w2 cb xb yb n mx' my' B' := by
  have n1 := h.n1
  have n2 := h.n2
  have l1 := Nat.lt_of_lt_of_le h.lt u1.size
  refine ⟨n1, n2, Nat.lt_of_lt_of_le l1 u2.size, ?_, px.of_upd u2 (fun _ e => n2.2.2 e), py, ix, iy, cx, cy, nx.trans h.nx, ny.trans h.ny, wd, upd_above (upd_above h.u u1 (fun k o e => ?_)) u2 (fun k o e => ?_)⟩
  · rw [u2.cell l1 (fun q => n2.2.1 q), u1.cell h.lt (fun q => n2.1 q)]; exact h.c
  · have : k = xb := e; omega
  · have : k = yb := e; omega

set_option maxRecDepth 100000 in
set_option maxHeartbeats 4000000 in
theorem neutral_any (c d : Nat → Int) (M : Nat) (oS : Option Addr) (capS : Nat) (os : Nat → Nat → Int) (w : World) (hc : ∀ j, j < 7 → InI64 (c j)) (hd : ∀ j, j < 7 → InI64 (d j)) (hM : M ≤ 4398046511104) (hs : Script w oS M os) :
    Calls Try.prog 11 #[.agg (celC c), .agg (celC d), .slice oS M capS] w fun e w' => e = .returned (.bool true) ∧ Below w.heap.size w w' := by
  have HC := (show Hid _ from hc)
  have HD := (show Hid _ from hd)
  have HS := (show Hid _ from hs)
  have HCF := (show Hid _ from fit_ok c)
  have HDF := (show Hid _ from fit_ok d)
  clear hc hs hd
  unfold celC
  go_enter Try.func11, Try.ntmps11
  go_wp2_with fail
  refine (fit_any c _ HC.out).mono ?_
  rintro e w1 ⟨rfl, u1⟩
  have hbd : w1.heap[w.heap.size + 1]? = some (.cells (celC d) 53) := by rw [u1.block (by simp) (fun _ h => h)]; exact heap_alloc2_new w _ _
  have hz1 : w.heap.size + 1 < w1.heap.size := (Array.getElem?_eq_some_iff.1 hbd).1
  have f0 := conf_cells hbd 0 (by omega)
  have f1 := conf_cells hbd 1 (by omega)
  have f2 := conf_cells hbd 2 (by omega)
  have f3 := conf_cells hbd 3 (by omega)
  have f4 := conf_cells hbd 4 (by omega)
  have f5 := conf_cells hbd 5 (by omega)
  have f6 := conf_cells hbd 6 (by omega)
  have HU1 : Hid (Upd no w w1) := (((Upd.refl no w).alloc _).alloc _).trans u1
  clear u1 hbd
  unfold celC
  go_wp2_with fail
  refine (fit_any d _ HD.out).mono ?_
  rintro e w2 ⟨rfl, u2⟩
  have hbc : w2.heap[w1.heap.size]? = some (.cells (celC (fitC c)) 53) := by rw [u2.block (by simp) (fun _ h => h)]; exact heap_alloc_new w1 _
  have hz2 : w1.heap.size < w2.heap.size := (Array.getElem?_eq_some_iff.1 hbc).1
  have HBC := (show Hid _ from hbc)
  have HU2 : Hid (Upd no w w2) := (HU1.out.alloc _).trans u2
  have g0 := conf_cells hbc 0 (by omega)
  have g1 := conf_cells hbc 1 (by omega)
  have g2 := conf_cells hbc 2 (by omega)
  have g3 := conf_cells hbc 3 (by omega)
  have g4 := conf_cells hbc 4 (by omega)
  have g5 := conf_cells hbc 5 (by omega)
  have g6 := conf_cells hbc 6 (by omega)
  clear u2 hbc f0 f1 f2 f3 f4 f5 f6
  unfold celC
  go_wp2_with fail
  refine (pNew_good (fitC c) _ (checkE_ok HCF.out)).mono ?_
  rintro e w3 ⟨⟨xb, rfl, hxb, hpx⟩, u3⟩
  have hbd : w3.heap[w2.heap.size]? = some (.cells (celC (setN (fitC d) (fitC c 0))) 53) := by rw [u3.block (by simp) (fun _ h => h)]; exact heap_alloc_new w2 _
  have hz3 : w2.heap.size < w3.heap.size := (Array.getElem?_eq_some_iff.1 hbd).1
  have HBC3 : Hid (w3.heap[w1.heap.size]? = some (.cells (celC (fitC c)) 53)) := by
    show _ = _
    rw [u3.block (by simp; omega) (fun _ h => h), Below.heap_alloc _ _ _ hz2]; exact HBC.out
  have HU3 : Hid (Upd no w w3) := (HU2.out.alloc _).trans u3
  have hxb' : w2.heap.size < xb := by simp at hxb; omega
  have HPX := (show Hid _ from hpx)
  have hdf := setN_ok HDF.out HCF.out.e0 HCF.out.n0
  have HDF2 := (show Hid _ from hdf)
  have f0 := conf_cells hbd 0 (by omega)
  have f1 := conf_cells hbd 1 (by omega)
  have f2 := conf_cells hbd 2 (by omega)
  have f3 := conf_cells hbd 3 (by omega)
  have f4 := conf_cells hbd 4 (by omega)
  have f5 := conf_cells hbd 5 (by omega)
  have f6 := conf_cells hbd 6 (by omega)
  clear u3 hbd g0 g1 g2 g3 g4 g5 g6 hxb hpx hdf HBC
  generalize setN (fitC d) (fitC c 0) = d' at *
  go_wp2_with fail
  refine (pNew_good d' _ (checkE_ok HDF2.out)).mono ?_
  rintro e w4 ⟨⟨yb, rfl, hyb, hpy⟩, u4⟩
  have hxlt := HPX.out.blt
  have hN : NAt w w4 w1.heap.size xb yb (1 + pickN (c 0) 4) (newM (fitC c)).freshS (newM d').freshS 0 := by
    have s1 := HU1.out.size
    refine ⟨⟨s1, by omega, by omega⟩, ⟨by omega, by omega, by omega⟩, Nat.lt_of_lt_of_le (by omega) u4.size, ?_, HPX.out.of_upd u4 (fun _ e => e), hpy, newM_inv (checkE_ok HCF.out), newM_inv (checkE_ok HDF2.out), newM_cinv (checkE_ok HCF.out), newM_cinv (checkE_ok HDF2.out), ?_, ?_, rfl, HU3.out.trans u4⟩
    · rw [u4.cell (by omega) (fun h => h), conf_cells HBC3.out 0 (by omega), HCF.out.e0]
    · show (fitC c 0).toNat = _; rw [HCF.out.e0]; rfl
    · show (d' 0).toNat = _; rw [HDF2.out.e0]; rfl
  have HN := (show Hid _ from hN)
  have hn4 := HCF.out.n0
  clear hN u4 hpy hyb f0 f1 f2 f3 f4 f5 f6 HPX HU1 HU2 HU3 HBC3 HC HD hxlt
  go_wp2_with fail
  generalize w1.heap.size = cb at *
  generalize 1 + pickN (c 0) 4 = n at *
  generalize (newM (fitC c)).freshS = mx0 at *
  generalize (newM d').freshS = my0 at *
  go_loopw [13] (fun i wr => ∃ (k : Nat) (mx my : RM), k ≤ M ∧ i = .int .i64 k ∧ NAt w wr cb xb yb n mx my (128 * (k : Int))) (fun i _ => M - (intOf i).toNat)
  case atStart => exact ⟨0, mx0, my0, Nat.zero_le _, rfl, HN.out⟩
  case round =>
    obtain ⟨k, mx, my, hk, rfl, hK⟩ := hrel
    have n1 := hK.n1
    have n2 := hK.n2
    by_cases hlt : k < M
    · obtain ⟨a, off, rfl, c0, c1, c2, c3⟩ := HS.out.cells hK.u hlt
      have HR := (show Hid _ from HS.out.r k hlt)
      generalize os k = o at *
      have HK : Hid (NAt w (wr.alloc (.cells #[.int .i64 (o 0), .int .i64 (o 1), .int .i64 (o 2), .int .i64 (o 3)] 66)) cb xb yb n mx my (128 * (k : Int))) := hK.of_no ((Upd.refl no wr).alloc _)
      have d0 := hK.c
      have hcl := hK.lt
      have hxl := hK.px.blt
      have hyl := hK.py.blt
      have hcn := pickN_lt (o 1) n (by omega)
      have han := pickN_lt (o 2) 256 (by omega)
      have HX : Hid (mx.cores = n) := hK.nx
      have HY : Hid (my.cores = n) := hK.ny
      have HRX : Hid (refE mx.cores (pickN (o 1) n : Nat) (pickN (o 2) 256 : Nat) = 0) := refE_zero (by rw [hK.nx]; exact hcn) han
      have HRY : Hid (refE my.cores (pickN (o 1) n : Nat) (pickN (o 2) 256 : Nat) = 0) := refE_zero (by rw [hK.ny]; exact hcn) han
      have HEV : Hid (mx.lV (pickN (o 1) n : Nat) (pickN (o 2) 256 : Nat) = my.lV (pickN (o 1) n : Nat) (pickN (o 2) 256 : Nat)) := by
        show _ = _
        unfold RM.lV
        rw [HRX.out, HRY.out, if_pos rfl, if_pos rfl, hK.wd]
      clear hK HN
      go_wp2_with fail
      refine (pick_same (o 1) n n _ rfl (by omega) (by omega) (HR.out 1 (by omega))).mono ?_
      rintro e w5 ⟨rfl, rfl⟩
      go_wp2_with fail
      refine (pick_same (o 2) 256 256 _ rfl (by omega) (by omega) (HR.out 2 (by omega))).mono ?_
      rintro e w5 ⟨rfl, rfl⟩
      go_wp2_with fail
      refine (pick_same (o 0) 2 2 _ rfl (by omega) (by omega) (HR.out 0 (by omega))).mono ?_
      rintro e w5 ⟨rfl, rfl⟩
      generalize pickN (o 1) n = co at *
      generalize pickN (o 2) 256 = ad at *
      by_cases hk0 : pickN (o 0) 2 = 0
      · rw [hk0]
        clear hk0
        go_wp2_with fail
        refine (pLoad_all xb mx co ad (128 * (k : Int)) _ HK.out.ix (by omega) HK.out.px).mono ?_
        rintro e w5 ⟨rfl, g5, u5⟩
        rw [HRX.out, HEV.out]
        have HG5 := (show Hid _ from g5)
        have HU5 := (show Hid _ from u5)
        clear g5 u5
        go_wp2_with fail
        refine (pLoad_all yb my co ad (128 * (k : Int)) _ HK.out.iy (by omega) (HK.out.py.of_upd HU5.out (fun _ e => n2.2.2 e.symm))).mono ?_
        rintro e w6 ⟨rfl, g6, u6⟩
        rw [HRY.out]
        have hix := HK.out.ix.lS co ad
        have hiy := HK.out.iy.lS co ad
        have HF := (show Hid _ from HK.out.both (B' := 128 * ((k + 1 : Nat) : Int)) HG5.out HU5.out g6 u6 (hix.1.mono (by omega)) (hiy.1.mono (by omega)) (HK.out.cx.lS HK.out.ix co ad) (HK.out.cy.lS HK.out.iy co ad) hix.2 hiy.2 (by rw [lS_words HK.out.ix, lS_words HK.out.iy]; exact HK.out.wd))
        clear g6 u6 hix hiy
        go_wp2
        go_roundw
        case rel => exact ⟨k + 1, _, _, by omega, by go_num, HF.out⟩
        case measure => simp [intOf]; omega
      · have hkb : (((pickN (o 0) 2 : Nat) : Int) == 0) = false := by simp; omega
        clear hk0
        generalize pickN (o 0) 2 = q at *
        go_wp2_with fail
        refine (pStore_all xb mx co ad (o 3) (128 * (k : Int)) _ HK.out.ix HK.out.cx (by omega) HK.out.px).mono ?_
        rintro e w5 ⟨rfl, g5, u5⟩
        rw [HRX.out]
        have kop : w5.heap[wr.heap.size]? = some (.cells #[.int .i64 (o 0), .int .i64 (o 1), .int .i64 (o 2), .int .i64 (o 3)] 66) := by rw [u5.block (by simp) (fun o h => by have : wr.heap.size = xb := h; omega)]; exact heap_alloc_new wr _
        have e3 : w5.cell? ⟨wr.heap.size, 3, none⟩ = some (.int .i64 (o 3)) := by simp [World.cell?, kop]
        have HG5 := (show Hid _ from g5)
        have HU5 := (show Hid _ from u5)
        clear g5 u5 kop
        go_wp2_with fail
        refine (pStore_all yb my co ad (o 3) (128 * (k : Int)) _ HK.out.iy HK.out.cy (by omega) (HK.out.py.of_upd HU5.out (fun _ e => n2.2.2 e.symm))).mono ?_
        rintro e w6 ⟨rfl, g6, u6⟩
        rw [HRY.out]
        have hix := HK.out.ix.sS co ad (o 3)
        have hiy := HK.out.iy.sS co ad (o 3)
        have HF := (show Hid _ from HK.out.both (B' := 128 * ((k + 1 : Nat) : Int)) HG5.out HU5.out g6 u6 (hix.1.mono (by omega)) (hiy.1.mono (by omega)) (HK.out.cx.sS HK.out.ix co ad (o 3)) (HK.out.cy.sS HK.out.iy co ad (o 3)) hix.2 hiy.2 (by rw [sS_words HK.out.ix (by rw [HX.out]; exact hcn) han, sS_words HK.out.iy (by rw [HY.out]; exact hcn) han, HK.out.wd]))
        clear g6 u6 hix hiy e3
        go_wp2
        go_roundw
        case rel => exact ⟨k + 1, _, _, by omega, by go_num, HF.out⟩
        case measure => simp [intOf]; omega
    · have hkM : k = M := by omega
      subst hkM
      have HK := (show Hid _ from hK)
      clear hK HN HS
      go_wp2_with fail
      refine (pDrain_any xb mx (128 * (k : Int)) _ HK.out.ix (by omega) HK.out.px).mono ?_
      rintro e w5 ⟨rfl, g5, u5⟩
      have HG5 := (show Hid _ from g5)
      have HU5 := (show Hid _ from u5)
      clear g5 u5
      go_wp2_with fail
      refine (pDrain_any yb my (128 * (k : Int)) _ HK.out.iy (by omega) (HK.out.py.of_upd HU5.out (fun _ e => n2.2.2 e.symm))).mono ?_
      rintro e w6 ⟨rfl, g6, u6⟩
      have dx := HK.out.cx.drain HK.out.ix
      have dy := HK.out.cy.drain HK.out.iy
      have HF := (show Hid _ from HK.out.both (B' := 128 * (k : Int) + 64) HG5.out HU5.out g6 u6 HK.out.ix.drain HK.out.iy.drain dx.1 dy.1 (drainS_cores _) (drainS_cores _) (by rw [dx.2.2, dy.2.2]; exact HK.out.wd))
      have HM : Hid (∀ a : Nat, a < 256 → mx.drainS.memV a = my.drainS.memV a) := fun a ha => by
        unfold RM.memV
        rw [if_neg (show ¬ ((a : Int) < 0 ∨ (a : Int) ≥ 256) by omega), if_neg (show ¬ ((a : Int) < 0 ∨ (a : Int) ≥ 256) by omega)]
        show mx.drainS.mem a = my.drainS.mem a
        rw [dx.2.1 a ha, dy.2.1 a ha, HK.out.wd]
      clear g6 u6 dx dy HG5 HU5 HK
      generalize mx.drainS = ex at *
      generalize my.drainS = ey at *
      go_wp2_with fail
      go_loopw [27] (fun i wx => ∃ j : Nat, j ≤ 256 ∧ i = .int .i64 j ∧ wx = w6) (fun i _ => 256 - (intOf i).toNat)
      case atStart => exact ⟨0, by omega, rfl, rfl⟩
      case round =>
        obtain ⟨j, hj, rfl, rfl⟩ := hrel
        by_cases hj2 : j < 256
        · have HE : Hid (memE (j : Int) = 0) := by show _ = _; unfold memE; rw [if_neg (by omega)]
          have HV : Hid (ex.memV j = ey.memV j) := HM.out j hj2
          go_wp2_with fail
          refine (pMemory_any xb ex j _ HF.out.px).mono ?_
          rintro e w7 ⟨rfl, rfl⟩
          rw [HE.out, HV.out]
          go_wp2_with fail
          refine (pMemory_any yb ey j _ HF.out.py).mono ?_
          rintro e w7 ⟨rfl, rfl⟩
          rw [HE.out]
          clear HV
          generalize ey.memV j = x at *
          go_wp2
          go_roundw
          case rel => exact ⟨j + 1, by omega, by go_num, by first | rfl | trivial⟩
          case measure => simp [intOf]; omega
        · have hj6 : j = 256 := by omega
          subst hj6
          go_wp2
          go_ret
          exact ⟨rfl, HF.out.u.below (Nat.le_refl _) (fun _ _ _ h => h)⟩

end Go.Proofs.Ytobniidkkmlilaa
