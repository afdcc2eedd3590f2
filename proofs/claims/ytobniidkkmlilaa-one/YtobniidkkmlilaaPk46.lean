import Derived.Test.YtobniidkkmlilaaPk45

/- The walks over package coherentkeep: a step. -/
namespace Go.Proofs.Ytobniidkkmlilaa
open Go.RowKit Go.Coh

def opK (o : Nat → Int) : Array Value := #[.int .i64 (o 0), .int .i64 (o 1), .int .i64 (o 2), .int .i64 (o 3)]
def duoS (a b : Nat) : Nat → Nat → Prop := fun k _ => k = a ∨ k = b

/-- what a step of the book comes to -/
structure Went (bb xb : Nat) (m : RM) (w w' : World) : Prop where
  p : PmAt w' xb m
  b : ∃ k', BkAt w' bb k' ∧ BkIs k' m
  u : Upd (duoS bb xb) w w'
def Stept (bb xb : Nat) (m : RM) (o : Nat → Int) (w : World) (e : Ending) (w' : World) : Prop := e = .returned (.bool true) ∧ Went bb xb (m.kst o) w w'

theorem PmAt.box {w : World} {b : Nat} {m : RM} (h : PmAt w b m) (o : Obj) : PmAt (w.alloc o) b m := h.of_upd (S := no) ((Upd.refl no w).alloc _) (fun _ e => e)
theorem BkAt.box {w : World} {b : Nat} {k : Bk} (h : BkAt w b k) (o : Obj) : BkAt (w.alloc o) b k := h.of_upd (S := no) ((Upd.refl no w).alloc _) (fun _ e => e)

theorem stateE_zero {n c l : Nat} (hc : c < n) (hl : l < 64) : stateE n c l = 0 := by unfold stateE; rw [if_neg (by omega), if_neg (by omega)]
theorem refE_zero {n c a : Nat} (hc : c < n) (ha : a < 256) : refE n c a = 0 := by unfold refE; rw [if_neg (by omega), if_neg (by omega)]

section
variable (bb xb : Nat) (m : RM) (k : Bk) (o : Nat → Int) (B : Int) (w : World)

set_option maxRecDepth 100000 in
set_option maxHeartbeats 2000000 in
theorem step_evict (hne : bb ≠ xb) (ho : ∀ j, j < 4 → -9223372036854775808 ≤ o j ∧ o j ≤ 9223372036854775807) (I : MInv m B) (hk : BkIs k m) (HP : PmAt w xb m) (HB : BkAt w bb k) (ht : pickN (o 0) 8 = 6) :
    Calls Try.prog 30 #[.pointer (some ⟨bb, 0, none⟩), .pointer (some ⟨xb, 0, none⟩), .int .i64 m.cores, .agg (opK o)] w (Stept bb xb m o w) := by
  have hc4 := I.c
  have HO := (show Hid _ from ho)
  have HT : Hid (pickN (o 0) 8 = 6) := ht
  have hc := pickN_lt (o 1) m.cores (by omega)
  have ha := pickN_lt (o 2) 256 (by omega)
  have HI : Hid (MInv m B) := I
  have hbl := HP.blt
  have HPP : Hid (PmAt (w.alloc (.cells #[.int .i64 (o 0), .int .i64 (o 1), .int .i64 (o 2), .int .i64 (o 3)] 66)) xb m) := HP.box _
  have HBB : Hid (BkAt (w.alloc (.cells #[.int .i64 (o 0), .int .i64 (o 1), .int .i64 (o 2), .int .i64 (o 3)] 66)) bb k) := HB.box _
  have HEND : Hid (∀ w', PmAt w' xb (m.evictS (pickN (o 1) m.cores) ((pickN (o 2) 256 / 4 : Nat) : Int)) → Upd (blkS xb) (w.alloc (.cells #[.int .i64 (o 0), .int .i64 (o 1), .int .i64 (o 2), .int .i64 (o 3)] 66)) w' → Went bb xb (m.kst o) w w') := by
    intro w' hp hu
    have e : m.kst o = m.evictS (pickN (o 1) m.cores) ((pickN (o 2) 256 / 4 : Nat) : Int) := by unfold RM.kst; rw [if_pos ht]
    refine ⟨by rw [e]; exact hp, ⟨k, HBB.out.of_upd hu (fun _ h => hne h), by rw [e]; exact hk.evict _ _⟩, ((Upd.refl _ w).alloc _).trans (hu.mono (fun _ _ h => .inr h))⟩
  have HST : Hid (stateE m.cores (pickN (o 1) m.cores : Nat) ((pickN (o 2) 256 / 4 : Nat) : Int) = 0) := stateE_zero hc (by omega)
  have HQ : Hid (((pickN (o 2) 256 : Nat) : Int) / 4 = ((pickN (o 2) 256 / 4 : Nat) : Int)) := by show _ = _; omega
  clear ho HP HB I hk ht
  unfold opK
  go_enter Try.func30, Try.ntmps30
  go_wp2_with fail
  refine (pick_same (o 1) m.cores m.cores _ rfl (by omega) (by omega) (HO.out 1 (by omega))).mono ?_
  rintro e w1 ⟨rfl, rfl⟩
  go_wp2_with fail
  refine (pick_same (o 2) 256 256 _ rfl (by omega) (by omega) (HO.out 2 (by omega))).mono ?_
  rintro e w1 ⟨rfl, rfl⟩
  go_wp2_with fail
  refine (pick_same (o 0) 8 8 _ rfl (by omega) (by omega) (HO.out 0 (by omega))).mono ?_
  rintro e w1 ⟨rfl, rfl⟩
  rw [HT.out]
  go_wp2_with fail
  rw [HQ.out]
  refine (pEvict_all xb m _ _ B _ HI.out HPP.out).mono ?_
  rintro e w1 ⟨rfl, g1, u1⟩
  rw [HST.out]
  have HF := (show Hid _ from HEND.out _ g1 u1)
  clear g1 u1
  go_wp2
  go_ret
  exact ⟨rfl, HF.out⟩


set_option maxRecDepth 100000 in
set_option maxHeartbeats 2000000 in
theorem step_drain (hne : bb ≠ xb) (hB : B ≤ 576460752303423488) (ho : ∀ j, j < 4 → -9223372036854775808 ≤ o j ∧ o j ≤ 9223372036854775807) (I : MInv m B) (CI : CInv m) (hk : BkIs k m) (HP : PmAt w xb m) (HB : BkAt w bb k) (ht : pickN (o 0) 8 = 7) (hv : pickN (o 3) 4 = 0) :
    Calls Try.prog 30 #[.pointer (some ⟨bb, 0, none⟩), .pointer (some ⟨xb, 0, none⟩), .int .i64 m.cores, .agg (opK o)] w (Stept bb xb m o w) := by
  have hc4 := I.c
  have HO := (show Hid _ from ho)
  have hc := pickN_lt (o 1) m.cores (by omega)
  have ha := pickN_lt (o 2) 256 (by omega)
  have HI : Hid (MInv m B) := I
  have HCI : Hid (CInv m) := CI
  have HK : Hid (BkIs k m) := hk
  have hbl := HP.blt
  have hbl2 := HB.blt
  have HPP : Hid (PmAt (w.alloc (.cells #[.int .i64 (o 0), .int .i64 (o 1), .int .i64 (o 2), .int .i64 (o 3)] 66)) xb m) := HP.box _
  have HBB : Hid (BkAt (w.alloc (.cells #[.int .i64 (o 0), .int .i64 (o 1), .int .i64 (o 2), .int .i64 (o 3)] 66)) bb k) := HB.box _
  have HT : Hid (pickN (o 0) 8 = 7) := ht
  have HV : Hid (pickN (o 3) 4 = 0) := hv
  have HEND : Hid (∀ w', PmAt w' xb m.drainS → Upd (blkS xb) (w.alloc (.cells #[.int .i64 (o 0), .int .i64 (o 1), .int .i64 (o 2), .int .i64 (o 3)] 66)) w' → Went bb xb (m.kst o) w w') := by
    intro w' hp hu
    have e : m.kst o = m.drainS := by unfold RM.kst; rw [if_neg (by omega), if_pos ⟨ht, hv⟩]
    refine ⟨by rw [e]; exact hp, ⟨k, HBB.out.of_upd hu (fun _ h => hne h), by rw [e]; exact hk.drain⟩, ((Upd.refl _ w).alloc _).trans (hu.mono (fun _ _ h => .inr h))⟩
  clear ho HP HB I CI hk ht hv
  unfold opK
  go_enter Try.func30, Try.ntmps30
  go_wp2_with fail
  refine (pick_same (o 1) m.cores m.cores _ rfl (by omega) (by omega) (HO.out 1 (by omega))).mono ?_
  rintro e w1 ⟨rfl, rfl⟩
  go_wp2_with fail
  refine (pick_same (o 2) 256 256 _ rfl (by omega) (by omega) (HO.out 2 (by omega))).mono ?_
  rintro e w1 ⟨rfl, rfl⟩
  go_wp2_with fail
  refine (pick_same (o 0) 8 8 _ rfl (by omega) (by omega) (HO.out 0 (by omega))).mono ?_
  rintro e w1 ⟨rfl, rfl⟩
  rw [HT.out]
  go_wp2_with fail
  refine (pick_same (o 3) 4 4 _ rfl (by omega) (by omega) (HO.out 3 (by omega))).mono ?_
  rintro e w1 ⟨rfl, rfl⟩
  rw [HV.out]
  go_wp2_with fail
  refine (pDrain_any xb m B _ HI.out (by omega) HPP.out).mono ?_
  rintro e w1 ⟨rfl, g1, u1⟩
  have HF := (show Hid _ from HEND.out _ g1 u1)
  clear g1 u1
  go_wp2
  go_ret
  exact ⟨rfl, HF.out⟩

set_option maxRecDepth 100000 in
set_option maxHeartbeats 2000000 in
theorem step_store (hne : bb ≠ xb) (hB : B ≤ 576460752303423488) (ho : ∀ j, j < 4 → -9223372036854775808 ≤ o j ∧ o j ≤ 9223372036854775807) (I : MInv m B) (CI : CInv m) (hk : BkIs k m) (HP : PmAt w xb m) (HB : BkAt w bb k) (ht : 0 < pickN (o 0) 8 ∧ pickN (o 0) 8 < 6) :
    Calls Try.prog 30 #[.pointer (some ⟨bb, 0, none⟩), .pointer (some ⟨xb, 0, none⟩), .int .i64 m.cores, .agg (opK o)] w (Stept bb xb m o w) := by
  have hc4 := I.c
  have HO := (show Hid _ from ho)
  have hc := pickN_lt (o 1) m.cores (by omega)
  have ha := pickN_lt (o 2) 256 (by omega)
  have HI : Hid (MInv m B) := I
  have HCI : Hid (CInv m) := CI
  have HK : Hid (BkIs k m) := hk
  have hbl := HP.blt
  have hbl2 := HB.blt
  have HPP : Hid (PmAt (w.alloc (.cells #[.int .i64 (o 0), .int .i64 (o 1), .int .i64 (o 2), .int .i64 (o 3)] 66)) xb m) := HP.box _
  have HBB : Hid (BkAt (w.alloc (.cells #[.int .i64 (o 0), .int .i64 (o 1), .int .i64 (o 2), .int .i64 (o 3)] 66)) bb k) := HB.box _
  obtain ⟨c, ec⟩ : ∃ c, pickN (o 1) m.cores = c := ⟨_, rfl⟩
  obtain ⟨a, ea⟩ : ∃ a, pickN (o 2) 256 = a := ⟨_, rfl⟩
  obtain ⟨t, et⟩ : ∃ t, pickN (o 0) 8 = t := ⟨_, rfl⟩
  have e : m.kst o = m.sS c a (o 3) := by unfold RM.kst; rw [if_neg (by omega), if_neg (by omega), if_pos ht, ec, ea]
  rw [ec] at hc
  rw [ea] at ha
  rw [et] at ht
  have b6 : ((t : Int) == 6) = false := by simp; omega
  have b7 : ((t : Int) == 7) = false := by simp; omega
  have b0 : decide ((t : Int) > 0) = true := by simp; omega
  have bl : decide ((t : Int) < 6) = true := by simp; omega
  have er := refE_zero (n := m.cores) hc ha
  have esw : m.sW c a = m.storeW c (a / 4) := by unfold RM.sW; rw [if_pos er]; rfl
  have ess : m.sS c a (o 3) = m.storeS c (a / 4) a (o 3) := by unfold RM.sS; rw [if_pos er]; rfl
  obtain ⟨p, hp, hp3⟩ : ∃ p : Nat, m.storeW c (a / 4) = p ∧ p < 3 := by
    obtain ⟨p, hp, hp3⟩ := pPlace_lt m c (a / 4)
    exact ⟨p, by rw [← (I.pStore_eq hc (l := a / 4) (by omega) a (o 3)).2, hp], hp3⟩
  have hkk : BkIs { k with W := upd k.W a (o 3), S := k.S + 1, P := upd k.P p (k.P p + 1) } (m.kst o) := by rw [e, ess]; exact hk.store I hc (by omega) a (o 3) hp
  have HKK := (show Hid _ from hkk)
  have HE : Hid (m.kst o = m.sS c a (o 3)) := e
  have HR : Hid (refE m.cores c a = 0) := er
  have HW : Hid (m.sW c a = p) := by show _ = _; rw [esw, hp]
  have hts := I.ht 1
  have htp := I.ht (2 + p)
  rw [← hk.s] at hts
  rw [← hk.p p hp3] at htp
  have HEC : Hid (pickN (o 1) m.cores = c) := ec
  have HEA : Hid (pickN (o 2) 256 = a) := ea
  have HET : Hid (pickN (o 0) 8 = t) := et
  clear ho HP HB I CI hk ec ea et e er esw ess hp hkk
  unfold opK
  go_enter Try.func30, Try.ntmps30
  go_wp2_with fail
  refine (pick_same (o 1) m.cores m.cores _ rfl (by omega) (by omega) (HO.out 1 (by omega))).mono ?_
  rintro e w1 ⟨rfl, rfl⟩
  go_wp2_with fail
  refine (pick_same (o 2) 256 256 _ rfl (by omega) (by omega) (HO.out 2 (by omega))).mono ?_
  rintro e w1 ⟨rfl, rfl⟩
  go_wp2_with fail
  refine (pick_same (o 0) 8 8 _ rfl (by omega) (by omega) (HO.out 0 (by omega))).mono ?_
  rintro e w1 ⟨rfl, rfl⟩
  rw [HEC.out, HEA.out, HET.out]
  go_wp2_with fail
  refine (pStore_all xb m c a (o 3) B _ HI.out HCI.out hB HPP.out).mono ?_
  rintro e w1 ⟨rfl, g1, u1⟩
  rw [HR.out, HW.out]
  have hb1 : BkAt w1 bb k := HBB.out.of_upd u1 (fun _ h => hne h)
  have kop : w1.heap[w.heap.size]? = some (.cells #[.int .i64 (o 0), .int .i64 (o 1), .int .i64 (o 2), .int .i64 (o 3)] 66) := by rw [u1.block (by simp) (fun o h => by have : w.heap.size = xb := h; omega), heap_alloc_new]
  have d3 : w1.cell? ⟨w.heap.size, 3, none⟩ = some (.int .i64 (o 3)) := by simp [World.cell?, kop]
  have dw := hb1.words.c a ha
  have dwf := hb1.words.f a ha
  rw [Nat.zero_add] at dw dwf
  have hb2 := hb1.setW a ha (o 3)
  have ds := hb2.stores.c 0 (by omega)
  have dsf := hb2.stores.f 0 (by omega)
  have HB3 : Hid (BkAt ((w1.setCell ⟨bb, a, none⟩ (.int .i64 (o 3))).setCell ⟨bb, 257, none⟩ (.int .i64 (k.S + 1))) bb { k with W := upd k.W a (o 3), S := k.S + 1 }) := hb2.setS (k.S + 1)
  have HG1 : Hid (PmAt w1 xb (m.sS c a (o 3))) := g1
  have HU1 := (show Hid _ from u1)
  have hz := u1.size
  simp at hz
  clear g1 u1 hb1 hb2 kop
  change World.cell? _ _ = some (.int .i64 k.S) at ds
  generalize k.S = kS at *
  go_wp2
  go_region
  go_wp2_with fail
  refine (place_any bb p { k with W := upd k.W a (o 3), S := kS + 1 } _ hp3 ⟨htp.1, Int.le_trans htp.2 (by omega)⟩ (HB3.out.of_upd ((Upd.refl no _).drew) (fun _ h => h))).mono ?_
  rintro e w2 ⟨rfl, g2, u2⟩
  have hu : Upd (blkS bb) w1 w2 := (((Upd.refl _ w1).setCell (fun _ => blk_self bb _) _).setCell (fun _ => blk_self bb _) _).drew.trans u2
  have HF : Hid (Went bb xb (m.kst o) w w2) := by
    refine ⟨?_, ⟨_, g2, HKK.out⟩, ?_⟩
    · rw [HE.out]; exact HG1.out.of_upd hu (fun _ h => hne h.symm)
    · exact (((Upd.refl _ w).alloc _).trans (HU1.out.mono (fun _ _ h => .inr h))).trans (hu.mono (fun _ _ h => .inl h))
  clear g2 u2 hu
  go_wp2
  go_ret
  exact ⟨rfl, HF.out⟩

set_option maxRecDepth 100000 in
set_option maxHeartbeats 2000000 in
theorem step_load (hne : bb ≠ xb) (hB : B ≤ 576460752303423488) (ho : ∀ j, j < 4 → -9223372036854775808 ≤ o j ∧ o j ≤ 9223372036854775807) (I : MInv m B) (CI : CInv m) (hk : BkIs k m) (HP : PmAt w xb m) (HB : BkAt w bb k) (ht : pickN (o 0) 8 = 0 ∨ (pickN (o 0) 8 = 7 ∧ pickN (o 3) 4 ≠ 0)) :
    Calls Try.prog 30 #[.pointer (some ⟨bb, 0, none⟩), .pointer (some ⟨xb, 0, none⟩), .int .i64 m.cores, .agg (opK o)] w (Stept bb xb m o w) := by
  have hc4 := I.c
  have HO := (show Hid _ from ho)
  have hc := pickN_lt (o 1) m.cores (by omega)
  have ha := pickN_lt (o 2) 256 (by omega)
  have HI : Hid (MInv m B) := I
  have HCI : Hid (CInv m) := CI
  have HK : Hid (BkIs k m) := hk
  have hbl := HP.blt
  have hbl2 := HB.blt
  have HPP : Hid (PmAt (w.alloc (.cells #[.int .i64 (o 0), .int .i64 (o 1), .int .i64 (o 2), .int .i64 (o 3)] 66)) xb m) := HP.box _
  have HBB : Hid (BkAt (w.alloc (.cells #[.int .i64 (o 0), .int .i64 (o 1), .int .i64 (o 2), .int .i64 (o 3)] 66)) bb k) := HB.box _
  obtain ⟨c, ec⟩ : ∃ c, pickN (o 1) m.cores = c := ⟨_, rfl⟩
  obtain ⟨a, ea⟩ : ∃ a, pickN (o 2) 256 = a := ⟨_, rfl⟩
  have e : m.kst o = m.lS c a := by unfold RM.kst; rw [if_neg (by omega), if_neg (by omega), if_neg (by omega), ec, ea]
  rw [ec] at hc
  rw [ea] at ha
  have er := refE_zero (n := m.cores) hc ha
  have elw : m.lW c a = m.loadW c (a / 4) := by unfold RM.lW; rw [if_pos er]; rfl
  have elv : m.lV c a = m.words a := by unfold RM.lV; rw [if_pos er]; rfl
  have els : m.lS c a = m.loadS c (a / 4) := by unfold RM.lS; rw [if_pos er]; rfl
  obtain ⟨p, hp, hp3⟩ : ∃ p : Nat, m.loadW c (a / 4) = p ∧ p < 3 := by
    obtain ⟨p, hp, hp3⟩ := pPlace_lt m c (a / 4)
    exact ⟨p, by rw [← (I.pLoad_eq hc (l := a / 4) (by omega)).2, hp], hp3⟩
  have hkk : BkIs { k with L := k.L + 1, P := upd k.P p (k.P p + 1) } (m.kst o) := by rw [e, els]; exact hk.load I hc (by omega) hp
  have HKK := (show Hid _ from hkk)
  have HE : Hid (m.kst o = m.lS c a) := e
  have HR : Hid (refE m.cores c a = 0) := er
  have HW : Hid (m.lW c a = p) := by show _ = _; rw [elw, hp]
  have HV : Hid (m.lV c a = k.W a) := by show _ = _; rw [elv, hk.w a ha]
  have htl := I.ht 0
  have htp := I.ht (2 + p)
  rw [← hk.l] at htl
  rw [← hk.p p hp3] at htp
  have HEC : Hid (pickN (o 1) m.cores = c) := ec
  have HEA : Hid (pickN (o 2) 256 = a) := ea
  have HTT : Hid (pickN (o 0) 8 = 0 ∨ (pickN (o 0) 8 = 7 ∧ pickN (o 3) 4 ≠ 0)) := ht
  clear ho HP HB I CI hk ec ea e er elw elv els hp hkk ht
  have HREST : Hid (∀ w1, PmAt w1 xb (m.lS c a) → Upd (blkS xb) (w.alloc (.cells #[.int .i64 (o 0), .int .i64 (o 1), .int .i64 (o 2), .int .i64 (o 3)] 66)) w1 → BkAt w1 bb k) := fun w1 _ u1 => HBB.out.of_upd u1 (fun _ h => hne h)
  have HFIN : Hid (∀ w1 w2, PmAt w1 xb (m.lS c a) → Upd (blkS xb) (w.alloc (.cells #[.int .i64 (o 0), .int .i64 (o 1), .int .i64 (o 2), .int .i64 (o 3)] 66)) w1 → BkAt w2 bb { k with L := k.L + 1, P := upd k.P p (k.P p + 1) } → Upd (blkS bb) w1 w2 → Went bb xb (m.kst o) w w2) := by
    intro w1 w2 g1 u1 g2 u2
    refine ⟨?_, ⟨_, g2, HKK.out⟩, ?_⟩
    · rw [HE.out]; exact g1.of_upd u2 (fun _ h => hne h.symm)
    · exact (((Upd.refl _ w).alloc _).trans (u1.mono (fun _ _ h => .inr h))).trans (u2.mono (fun _ _ h => .inl h))
  clear HE HKK
  unfold opK
  go_enter Try.func30, Try.ntmps30
  go_wp2_with fail
  refine (pick_same (o 1) m.cores m.cores _ rfl (by omega) (by omega) (HO.out 1 (by omega))).mono ?_
  rintro e w1 ⟨rfl, rfl⟩
  go_wp2_with fail
  refine (pick_same (o 2) 256 256 _ rfl (by omega) (by omega) (HO.out 2 (by omega))).mono ?_
  rintro e w1 ⟨rfl, rfl⟩
  go_wp2_with fail
  refine (pick_same (o 0) 8 8 _ rfl (by omega) (by omega) (HO.out 0 (by omega))).mono ?_
  rintro e w1 ⟨rfl, rfl⟩
  rw [HEC.out, HEA.out]
  rcases HTT.out with h | ⟨h, hv⟩
  · rw [h]
    clear h
    go_wp2_with fail
    refine (pLoad_all xb m c a B _ HI.out (by omega) HPP.out).mono ?_
    rintro e w1 ⟨rfl, g1, u1⟩
    rw [HR.out, HW.out, HV.out]
    have hb1 := HREST.out _ g1 u1
    have dl := hb1.loads.c 0 (by omega)
    have dlf := hb1.loads.f 0 (by omega)
    have hb2 := hb1.setL (k.L + 1)
    have dw := hb2.words.c a ha
    have dwf := hb2.words.f a ha
    rw [Nat.zero_add] at dw dwf
    have HB2 := (show Hid _ from hb2)
    have HG1 := (show Hid _ from g1)
    have HU1 := (show Hid _ from u1)
    clear g1 u1 hb1 hb2 HREST
    change World.cell? _ _ = some (.int .i64 k.L) at dl
    change World.cell? _ _ = some (.int .i64 (k.W a)) at dw
    generalize k.W a = kW at *
    generalize k.L = kL at *
    go_wp2_with fail
    refine (place_any bb p { k with L := kL + 1 } _ hp3 ⟨htp.1, Int.le_trans htp.2 (by omega)⟩ HB2.out).mono ?_
    rintro e w2 ⟨rfl, g2, u2⟩
    have HF := (show Hid _ from HFIN.out _ _ HG1.out HU1.out g2 (((Upd.refl _ w1).setCell (fun _ => blk_self bb _) _).trans u2))
    clear g2 u2
    go_wp2
    go_ret
    exact ⟨rfl, HF.out⟩
  · rw [h]
    have hvb : (((pickN (o 3) 4 : Nat) : Int) == 0) = false := by simp; omega
    clear h hv HTT
    go_wp2_with fail
    refine (pick_same (o 3) 4 4 _ rfl (by omega) (by omega) (HO.out 3 (by omega))).mono ?_
    rintro e w1 ⟨rfl, rfl⟩
    generalize pickN (o 3) 4 = q at *
    go_wp2_with fail
    refine (pLoad_all xb m c a B _ HI.out (by omega) HPP.out).mono ?_
    rintro e w1 ⟨rfl, g1, u1⟩
    rw [HR.out, HW.out, HV.out]
    have hb1 := HREST.out _ g1 u1
    have dl := hb1.loads.c 0 (by omega)
    have dlf := hb1.loads.f 0 (by omega)
    have hb2 := hb1.setL (k.L + 1)
    have dw := hb2.words.c a ha
    have dwf := hb2.words.f a ha
    rw [Nat.zero_add] at dw dwf
    have HB2 := (show Hid _ from hb2)
    have HG1 := (show Hid _ from g1)
    have HU1 := (show Hid _ from u1)
    clear g1 u1 hb1 hb2 HREST
    change World.cell? _ _ = some (.int .i64 k.L) at dl
    change World.cell? _ _ = some (.int .i64 (k.W a)) at dw
    generalize k.W a = kW at *
    generalize k.L = kL at *
    go_wp2_with fail
    refine (place_any bb p { k with L := kL + 1 } _ hp3 ⟨htp.1, Int.le_trans htp.2 (by omega)⟩ HB2.out).mono ?_
    rintro e w2 ⟨rfl, g2, u2⟩
    have HF := (show Hid _ from HFIN.out _ _ HG1.out HU1.out g2 (((Upd.refl _ w1).setCell (fun _ => blk_self bb _) _).trans u2))
    clear g2 u2
    go_wp2
    go_ret
    exact ⟨rfl, HF.out⟩

theorem step_any (hne : bb ≠ xb) (hB : B ≤ 576460752303423488) (ho : ∀ j, j < 4 → -9223372036854775808 ≤ o j ∧ o j ≤ 9223372036854775807) (I : MInv m B) (CI : CInv m) (hk : BkIs k m) (HP : PmAt w xb m) (HB : BkAt w bb k) :
    Calls Try.prog 30 #[.pointer (some ⟨bb, 0, none⟩), .pointer (some ⟨xb, 0, none⟩), .int .i64 m.cores, .agg (opK o)] w (Stept bb xb m o w) := by
  have h8 := pickN_lt (o 0) 8 (by omega)
  by_cases h6 : pickN (o 0) 8 = 6
  · exact step_evict bb xb m k o B w hne ho I hk HP HB h6
  · by_cases h7 : pickN (o 0) 8 = 7
    · by_cases hv : pickN (o 3) 4 = 0
      · exact step_drain bb xb m k o B w hne hB ho I CI hk HP HB h7 hv
      · exact step_load bb xb m k o B w hne hB ho I CI hk HP HB (.inr ⟨h7, hv⟩)
    · by_cases h0 : pickN (o 0) 8 = 0
      · exact step_load bb xb m k o B w hne hB ho I CI hk HP HB (.inl h0)
      · exact step_store bb xb m k o B w hne hB ho I CI hk HP HB (by omega)

end
end Go.Proofs.Ytobniidkkmlilaa
