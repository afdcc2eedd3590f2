import Derived.Test.YtobniidkkmlilabPk48

/- The walk over Refused. -/
namespace Go.Proofs.Ytobniidkkmlilab
open Go.RowKit Go.Coh

theorem wrap64_in (x : Int) : InI64 (wrap64 x) := by
  unfold InI64 wrap64
  omega

/-- two machines and two books, behind some steps -/
structure QAt (w0 wr : World) (cb ab bb xb yb : Nat) (cf : Nat → Int) (m : RM) : Prop where
  n1 : w0.heap.size ≤ cb ∧ w0.heap.size ≤ ab ∧ w0.heap.size ≤ bb ∧ w0.heap.size ≤ xb ∧ w0.heap.size ≤ yb
  n2 : cb ≠ ab ∧ cb ≠ bb ∧ cb ≠ xb ∧ cb ≠ yb ∧ ab ≠ bb ∧ ab ≠ xb ∧ ab ≠ yb ∧ bb ≠ xb ∧ bb ≠ yb ∧ xb ≠ yb
  lt : cb < wr.heap.size
  c : ∀ j, j < 7 → wr.cell? ⟨cb, j, none⟩ = some (.int .i64 (cf j))
  p : PmAt wr xb m
  q : PmAt wr yb m
  a : ∃ k, BkAt wr ab k ∧ BkIs k m
  b : ∃ k, BkAt wr bb k ∧ BkIs k m
  u : Upd no w0 wr

theorem QAt.of_no {w0 wr w' : World} {cb ab bb xb yb : Nat} {cf : Nat → Int} {m : RM} (h : QAt w0 wr cb ab bb xb yb cf m) (u : Upd no wr w') : QAt w0 w' cb ab bb xb yb cf m := by
  obtain ⟨k1, h1, h2⟩ := h.a
  obtain ⟨k2, h3, h4⟩ := h.b
  exact ⟨h.n1, h.n2, Nat.lt_of_lt_of_le h.lt u.size, fun j hj => by rw [u.cell h.lt (fun q => q)]; exact h.c j hj, h.p.of_upd u (fun _ e => e), h.q.of_upd u (fun _ e => e), ⟨k1, h1.of_upd u (fun _ e => e), h2⟩, ⟨k2, h3.of_upd u (fun _ e => e), h4⟩, h.u.trans u⟩

/-- a step of the one, and the same of the other -/
theorem QAt.both {w0 wr w1 w2 w3 : World} {cb ab bb xb yb : Nat} {cf : Nat → Int} {m m' : RM} (h : QAt w0 wr cb ab bb xb yb cf m) (g1 : Went ab xb m' wr w1) (u : Upd no w1 w2) (g2 : Went bb yb m' w2 w3) : QAt w0 w3 cb ab bb xb yb cf m' := by
  have n1 := h.n1
  have n2 := h.n2
  have l1 := Nat.lt_of_lt_of_le h.lt g1.u.size
  have l2 := Nat.lt_of_lt_of_le l1 u.size
  have d1 : ∀ o, ¬ duoS ab xb cb o := fun o e => by rcases e with e | e <;> omega
  have d2 : ∀ o, ¬ duoS bb yb cb o := fun o e => by rcases e with e | e <;> omega
  have d3 : ∀ o, ¬ duoS bb yb ab o := fun o e => by rcases e with e | e <;> omega
  have d4 : ∀ o, ¬ duoS bb yb xb o := fun o e => by rcases e with e | e <;> omega
  obtain ⟨k1, h1, h2⟩ := g1.b
  refine ⟨n1, n2, Nat.lt_of_lt_of_le l2 g2.u.size, fun j hj => ?_, (g1.p.of_upd u (fun _ e => e)).of_upd g2.u d4, g2.p, ⟨k1, (h1.of_upd u (fun _ e => e)).of_upd g2.u d3, h2⟩, g2.b, upd_above ((upd_above h.u g1.u (fun k o e => ?_)).trans u) g2.u (fun k o e => ?_)⟩
  · rw [g2.u.cell l2 (d2 _), u.cell l1 (fun q => q), g1.u.cell h.lt (d1 _)]; exact h.c j hj
  · rcases e with e | e <;> omega
  · rcases e with e | e <;> omega

set_option maxRecDepth 100000 in
set_option maxHeartbeats 4000000 in
theorem refused_any (c : Nat → Int) (M : Nat) (oS : Option Addr) (capS : Nat) (os : Nat → Nat → Int) (zv : Int) (w : World) (hc : ∀ j, j < 7 → InI64 (c j)) (hM : M ≤ 4398046511104) (hs : Script w oS M os) (hzv : InI64 zv) :
    Calls Try.prog 6 #[.agg (celC c), .slice oS M capS, .int .i64 zv] w fun e w' => e = .returned (.bool true) ∧ Below w.heap.size w w' := by
  have HC := (show Hid _ from hc)
  have HS := (show Hid _ from hs)
  have HZV := (show Hid _ from hzv)
  have HCF := (show Hid _ from fit_ok c)
  clear hc hs hzv
  unfold celC
  go_enter Try.func6, Try.ntmps6
  go_wp2_with fail
  refine (fit_any c _ HC.out).mono ?_
  rintro e w1 ⟨rfl, u1⟩
  have HU1 : Hid (Upd no w w1) := ((Upd.refl no w).alloc _).trans u1
  clear u1
  unfold celC
  go_wp2_with fail
  refine (pNew_good (fitC c) _ (checkE_ok HCF.out)).mono ?_
  rintro e w2 ⟨⟨xb, rfl, hxb, hpx⟩, u2⟩
  have hbc : w2.heap[w1.heap.size]? = some (.cells (celC (fitC c)) 23) := by rw [u2.block (by simp) (fun _ h => h)]; exact heap_alloc_new w1 _
  have hz2 : w1.heap.size < w2.heap.size := (Array.getElem?_eq_some_iff.1 hbc).1
  have HPX := (show Hid _ from hpx)
  have HU2 : Hid (Upd no w w2) := (HU1.out.alloc _).trans u2
  have hxb' : w1.heap.size < xb := by simp at hxb; omega
  have HBC := (show Hid _ from hbc)
  have g0 := conf_cells hbc 0 (by omega)
  have g1 := conf_cells hbc 1 (by omega)
  have g2 := conf_cells hbc 2 (by omega)
  have g3 := conf_cells hbc 3 (by omega)
  have g4 := conf_cells hbc 4 (by omega)
  have g5 := conf_cells hbc 5 (by omega)
  have g6 := conf_cells hbc 6 (by omega)
  clear u2 hbc hpx hxb
  go_wp2_with fail
  refine (pNew_good (fitC c) _ (checkE_ok HCF.out)).mono ?_
  rintro e w3 ⟨⟨yb, rfl, hyb, hpy⟩, u3⟩
  have hxlt := HPX.out.blt
  have hylt := hpy.blt
  have hk0 : QAt w ((w3.alloc (.cells Try.zeroCells34 34)).alloc (.cells Try.zeroCells34 34)) w1.heap.size w3.heap.size (w3.heap.size + 1) xb yb (fitC c) (newM (fitC c)).freshS := by
    have s1 := HU1.out.size
    have s3 := u3.size
    have hbc3 : w3.heap[w1.heap.size]? = some (.cells (celC (fitC c)) 23) := by rw [u3.block hz2 (fun _ h => h)]; exact HBC.out
    have hz3 : w1.heap.size < w3.heap.size := by omega
    refine ⟨⟨s1, by omega, by omega, by omega, by omega⟩, ⟨by omega, by omega, by omega, by omega, by omega, by omega, by omega, by omega, by omega, by omega⟩, by simp; omega, fun j hj => ?_, ((HPX.out.of_upd u3 (fun _ e => e)).box _).box _, (hpy.box _).box _, ⟨_, new_book (w := (w3.alloc (.cells Try.zeroCells34 34)).alloc (.cells Try.zeroCells34 34)) ?_, new_bkIs _⟩, ⟨_, new_book ?_, new_bkIs _⟩, ((HU2.out.trans u3).alloc _).alloc _⟩
    · refine conf_cells ?_ j hj
      rw [Below.heap_alloc _ _ _ (by simp; omega), Below.heap_alloc _ _ _ hz3]; exact hbc3
    · rw [Below.heap_alloc _ _ _ (by simp), heap_alloc_new, zeroBook]
    · have := heap_alloc_new (w3.alloc (.cells Try.zeroCells34 34)) (.cells Try.zeroCells34 34)
      rw [zeroBook] at this ⊢
      simpa using this
  have HK0 := (show Hid _ from hk0)
  have hcz : fitC c 0 = (newM (fitC c)).freshS.cores := by show fitC c 0 = ((fitC c 0).toNat : Int); have := HCF.out.e0; omega
  have HCZ := (show Hid _ from hcz)
  have HI0 := (show Hid _ from newM_inv (checkE_ok HCF.out))
  have HC0 := (show Hid _ from newM_cinv (checkE_ok HCF.out))
  clear hk0 hcz u3 hpy hyb HU1 HU2 HC HPX HBC g0 g1 g2 g3 g4 g5 g6 hxlt hylt
  generalize (newM (fitC c)).freshS = m0 at *
  go_wp2_with fail
  generalize w1.heap.size = cb at *
  generalize w3.heap.size + 1 = bb at *
  generalize hab : w3.heap.size = ab at *
  generalize hw4 : (w3.alloc (.cells Try.zeroCells34 34)).alloc (.cells Try.zeroCells34 34) = w4 at *
  clear hw4 hab
  go_loopw [14] (fun i wr => ∃ k : Nat, k ≤ M ∧ i = .int .i64 k ∧ QAt w wr cb ab bb xb yb (fitC c) (m0.krun os k)) (fun i _ => M - (intOf i).toNat)
  case atStart => exact ⟨0, Nat.zero_le _, rfl, HK0.out⟩
  case round =>
    obtain ⟨k, hk, rfl, hK⟩ := hrel
    obtain ⟨i1, i2, i3⟩ := krun_inv HI0.out HC0.out os k
    have hn2 := hK.n2
    have hn1 := hK.n1
    by_cases hlt : k < M
    · have HR := (show Hid _ from HS.out.r k hlt)
      obtain ⟨a, off, rfl, c0, c1, c2, c3⟩ := HS.out.cells hK.u hlt
      have d0 := hK.c 0 (by omega)
      rw [HCZ.out, ← i3] at d0
      have HIV := (show Hid _ from i1)
      have HCV := (show Hid _ from i2)
      have hI' := i1.kst (os k)
      have hc4 := hI'.c
      have hcc := kst_cores i1 (os k)
      obtain ⟨k1, ha1, ha2⟩ := hK.a
      obtain ⟨k2, hb1, hb2⟩ := hK.b
      have HPA : Hid (∀ W, Upd no wr W → PmAt W xb (m0.krun os k) ∧ BkAt W ab k1) := fun W u => ⟨hK.p.of_upd u (fun _ e => e), ha1.of_upd u (fun _ e => e)⟩
      have HMID : Hid (∀ W w5, Upd no wr W → Went ab xb ((m0.krun os k).kst (os k)) W w5 → (w5.cell? ⟨cb, 0, none⟩ = some (.int .i64 (m0.krun os k).cores) ∧ (w5.cell? ⟨a, off + k * 4, none⟩ = some (.int .i64 (os k 0)) ∧ w5.cell? ⟨a, off + k * 4 + 1, none⟩ = some (.int .i64 (os k 1)) ∧ w5.cell? ⟨a, off + k * 4 + 2, none⟩ = some (.int .i64 (os k 2)) ∧ w5.cell? ⟨a, off + k * 4 + 3, none⟩ = some (.int .i64 (os k 3))) ∧ ∀ W', Upd no w5 W' → PmAt W' yb (m0.krun os k) ∧ BkAt W' bb k2)) := fun W w5 u g => by
        have q := hK.of_no u
        have hu5 : Upd no w w5 := upd_above q.u g.u (fun k' o e => by rcases e with e | e <;> omega)
        refine ⟨?_, ?_, fun W' u' => ⟨((hK.q.of_upd u (fun _ e => e)).of_upd g.u (fun _ e => by rcases e with e | e <;> omega)).of_upd u' (fun _ e => e), ((hb1.of_upd u (fun _ e => e)).of_upd g.u (fun _ e => by rcases e with e | e <;> omega)).of_upd u' (fun _ e => e)⟩⟩
        · rw [g.u.cell q.lt (fun e => by rcases e with e | e <;> omega), q.c 0 (by omega), HCZ.out, ← i3]
        · obtain ⟨a', off', e', r⟩ := HS.out.cells hu5 hlt
          injection e' with e'
          injection e' with e1 e2
          subst e1
          subst e2
          exact r
      have HFIN : Hid (∀ W w5 W' w6, Upd no wr W → Went ab xb ((m0.krun os k).kst (os k)) W w5 → Upd no w5 W' → Went bb yb ((m0.krun os k).kst (os k)) W' w6 → QAt w w6 cb ab bb xb yb (fitC c) (m0.krun os (k + 1))) := fun W w5 W' w6 u g u' g' => (hK.of_no u).both g u' g'
      have HBA := (show Hid _ from ha2)
      have HBB := (show Hid _ from hb2)
      have HKQ : Hid (m0.krun os (k + 1) = (m0.krun os k).kst (os k)) := rfl
      have HSTEP : Hid (∀ w6, QAt w w6 cb ab bb xb yb (fitC c) (m0.krun os (k + 1)) → w6.cell? ⟨cb, 0, none⟩ = some (.int .i64 ((m0.krun os k).kst (os k)).cores) ∧ ∀ W, Upd no w6 W → PmAt W yb ((m0.krun os k).kst (os k))) := fun w6 q => ⟨by rw [q.c 0 (by omega), HCZ.out, ← i3, hcc], fun W u => q.q.of_upd u (fun _ e => e)⟩
      clear hK i1 i2 i3 ha1 ha2 hb1 hb2 hI' hcc HK0
      obtain ⟨mN, hmN⟩ : ∃ x, m0.krun os (k + 1) = x := ⟨_, rfl⟩
      rw [hmN] at HFIN HKQ HSTEP
      have HMN := (show Hid _ from hmN)
      clear hmN
      generalize m0.krun os k = m at *
      generalize os k = o at *
      go_wp2_with fail
      go_region_with (go_at_call 10; refine (step_any ab xb m k1 o (0 + 128 * (k : Int)) _ hn2.2.2.2.2.2.1 (by omega) HR.out HIV.out HCV.out HBA.out (HPA.out _ (by (repeat (first | exact Upd.refl _ _ | apply Upd.drew | apply Upd.alloc)))).1 (HPA.out _ (by (repeat (first | exact Upd.refl _ _ | apply Upd.drew | apply Upd.alloc)))).2).mono ?_; rintro e1 w5 ⟨rfl, g5⟩; obtain ⟨W5, HW5, HG5⟩ : ∃ W5, Hid (Upd no wr W5) ∧ Hid (Went ab xb (m.kst o) W5 w5) := ⟨_, (by (repeat (first | exact Upd.refl _ _ | apply Upd.drew | apply Upd.alloc))), g5⟩; clear g5)
      all_goals
        obtain ⟨d1, ⟨c4, c5, c6, c7⟩, hm⟩ := HMID.out _ _ HW5.out HG5.out
        have HM := (show Hid _ from hm)
        clear hm d0 c0 c1 c2 c3
        go_wp2_with fail
        go_region_with (go_at_call 10; refine (step_any bb yb m k2 o (0 + 128 * (k : Int)) _ hn2.2.2.2.2.2.2.2.2.1 (by omega) HR.out HIV.out HCV.out HBB.out (HM.out _ (by (repeat (first | exact Upd.refl _ _ | apply Upd.drew | apply Upd.alloc)))).1 (HM.out _ (by (repeat (first | exact Upd.refl _ _ | apply Upd.drew | apply Upd.alloc)))).2).mono ?_; rintro e1 w6 ⟨rfl, g6⟩; have HQ6 := (show Hid _ from HFIN.out _ _ _ _ HW5.out HG5.out (by (repeat (first | exact Upd.refl _ _ | apply Upd.drew | apply Upd.alloc))) g6); clear g6)
      all_goals
        obtain ⟨d2, hq⟩ := HSTEP.out _ HQ6.out
        have HQQ := (show Hid _ from hq)
        clear hq d1 c4 c5 c6 c7 HM
        go_wp2_with fail
        refine (wrong_any yb (m.kst o) (wrap64 (zv + (k : Int))) _ hc4 (wrap64_in _) (HQQ.out _ (by (repeat (first | exact Upd.refl _ _ | apply Upd.drew | apply Upd.alloc))))).mono ?_
        rintro e w7 ⟨rfl, u7⟩
        have HQ7 := (show Hid _ from (HQ6.out.of_no (by (repeat (first | exact Upd.refl _ _ | apply Upd.drew | apply Upd.alloc)))).of_no u7)
        clear u7 d2
        go_wp2
        go_roundw
        case rel => exact ⟨k + 1, by omega, by go_num, by rw [HMN.out]; exact HQ7.out⟩
        case measure => simp [intOf]; omega
    · have hkM : k = M := by omega
      subst hkM
      have d0 := hK.c 0 (by omega)
      rw [HCZ.out, ← i3] at d0
      have hc4 := i1.c
      have HK := (show Hid _ from hK)
      clear hK i1 i2 i3 HS HK0 HI0 HC0 HCZ
      generalize m0.krun os k = m at *
      go_wp2_with fail
      refine (wrong_any yb m zv _ hc4 HZV.out HK.out.q).mono ?_
      rintro e w7 ⟨rfl, u7⟩
      have hq7 := HK.out.of_no u7
      have d1 : w7.cell? ⟨cb, 0, none⟩ = some (.int .i64 m.cores) := by rw [u7.cell HK.out.lt (fun h => h)]; exact d0
      have HQ7 := (show Hid _ from hq7)
      clear hq7 u7 d0
      go_wp2_with fail
      refine (same_any xb yb m _ hc4 HQ7.out.p HQ7.out.q).mono ?_
      rintro e w8 ⟨rfl, u8⟩
      have HU8 : Hid (Upd no w w8) := HQ7.out.u.trans u8
      clear u8 d1
      go_wp2
      go_ret
      exact ⟨rfl, HU8.out.below (Nat.le_refl _) (fun _ _ _ h => h)⟩

end Go.Proofs.Ytobniidkkmlilab
