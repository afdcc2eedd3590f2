import Derived.Test.YtobniidkkmlilaaPk45
import Derived.Test.YtobniidkkmlilaaPk48

/- The walks over package coherentkeep: copies, single, fits. -/
namespace Go.Proofs.Ytobniidkkmlilaa
open Go.RowKit Go.Coh

theorem stateE0 {n c l : Nat} (hc : c < n) (hl : l < 64) : stateE n c l = 0 := by unfold stateE; rw [if_neg (by omega), if_neg (by omega)]
theorem stateV_is {m : RM} {c l : Nat} (hc : c < m.cores) (hl : l < 64) : m.stateV c l = m.has c l := by
  unfold RM.stateV; rw [stateE0 hc hl, if_pos rfl]; rfl

theorem shN_succ (m : RM) (l k : Nat) : m.shN l (k + 1) = m.shN l k + (if m.has k l = 1 then 1 else 0) := by
  show cnt _ k + (if decide (m.has k l = 1) = true then 1 else 0) = cnt _ k + _
  simp only [decide_eq_true_eq]
theorem ownN_succ (m : RM) (l k : Nat) : m.ownN l (k + 1) = m.ownN l k + (if 2 ≤ m.has k l then 1 else 0) := by
  show cnt _ k + (if decide (2 ≤ m.has k l) = true then 1 else 0) = cnt _ k + _
  simp only [decide_eq_true_eq]
theorem cnt_le_k (P : Nat → Bool) : ∀ k, cnt P k ≤ k
  | 0 => by simp [cnt]
  | k + 1 => by
    unfold cnt
    have := cnt_le_k P k
    split <;> omega

set_option maxRecDepth 100000 in
set_option maxHeartbeats 2000000 in
theorem copies_any (xb : Nat) (m : RM) (l : Nat) (w : World) (hc4 : m.cores ≤ 4) (hl : l < 64) (CI : CInv m) (HP : PmAt w xb m) :
    Calls Try.prog 65 #[.pointer (some ⟨xb, 0, none⟩), .int .i64 m.cores, .int .i64 l] w fun e w' => e = .returned (.tuple #[.int .i64 (m.shN l m.cores), .int .i64 (m.ownN l m.cores), .bool true]) ∧ w' = w := by
  have HH := (show Hid _ from HP)
  have HCI := (show Hid _ from CI)
  clear HP CI
  go_enter Try.func65, Try.ntmps65
  go_wp2
  go_loopw [9, 10, 11] (fun s o i wr => ∃ k : Nat, k ≤ m.cores ∧ s = .int .i64 (m.shN l k) ∧ o = .int .i64 (m.ownN l k) ∧ i = .int .i64 k ∧ wr = w) (fun _ _ i _ => m.cores - (intOf i).toNat)
  case atStart => exact ⟨0, Nat.zero_le _, rfl, rfl, rfl, rfl⟩
  case round =>
    obtain ⟨k, hk, rfl, rfl, rfl, rfl⟩ := hrel
    have hs4 : m.shN l k ≤ k := cnt_le_k _ k
    have ho4 : m.ownN l k ≤ k := cnt_le_k _ k
    by_cases hlt : k < m.cores
    · have HE : Hid (stateE m.cores k l = 0) := stateE0 hlt hl
      have HV : Hid (m.stateV k l = m.has k l) := stateV_is hlt hl
      have hrg := HCI.out.rg k l
      have e1 := shN_succ m l k
      have e2 := ownN_succ m l k
      have h4 : m.has k l = 0 ∨ m.has k l = 1 ∨ m.has k l = 2 ∨ m.has k l = 3 := by omega
      clear hrg
      rcases h4 with h | h | h | h
      all_goals
        rw [h] at e1 e2
        have HX : Hid (m.stateV k l = m.has k l ∧ m.shN l (k + 1) = _ ∧ m.ownN l (k + 1) = _) := ⟨HV.out, e1, e2⟩
        have HV2 := (show Hid _ from HV.out.trans h)
        clear h e1 e2 HV
        generalize m.shN l k = sh at *
        generalize m.ownN l k = ow at *
        go_wp2_with fail
        refine (pState_any xb m k l _ hc4 HH.out).mono ?_
        rintro e w1 ⟨rfl, rfl⟩
        rw [HE.out, HV2.out]
        go_wp2
        go_roundw
        case rel =>
          refine ⟨k + 1, by omega, ?_, ?_, by go_num, by first | rfl | trivial⟩
          · rw [HX.out.2.1]; go_num
          · rw [HX.out.2.2]; go_num
        case measure => simp [intOf]; omega
    · have hkM : k = m.cores := by omega
      subst hkM
      go_wp2
      go_ret3
      exact ⟨rfl, rfl⟩

set_option maxRecDepth 100000 in
set_option maxHeartbeats 2000000 in
theorem single_any (xb : Nat) (m : RM) (w : World) (hc4 : m.cores ≤ 4) (CI : CInv m) (HP : PmAt w xb m) :
    Calls Try.prog 37 #[.pointer (some ⟨xb, 0, none⟩), .int .i64 m.cores] w fun e w' => e = .returned (.bool true) ∧ w' = w := by
  have HH := (show Hid _ from HP)
  have HCI := (show Hid _ from CI)
  clear HP CI
  go_enter Try.func37, Try.ntmps37
  go_wp2
  go_loopw [5] (fun i wr => ∃ k : Nat, k ≤ 64 ∧ i = .int .i64 k ∧ wr = w) (fun i _ => 64 - (intOf i).toNat)
  case atStart => exact ⟨0, by omega, rfl, rfl⟩
  case round =>
    obtain ⟨k, hk, rfl, rfl⟩ := hrel
    by_cases hlt : k < 64
    · have HE : Hid (RM.lastE k = 0) := by show _ = _; unfold RM.lastE; rw [if_neg (by omega)]
      have HV : Hid (m.lastV k = m.lasts k) := by show _ = _; unfold RM.lastV; rw [if_neg (by omega)]; rfl
      obtain ⟨q1, q2, q3⟩ := HCI.out.copies hlt
      have hs4 : m.shN k m.cores ≤ 4 := Nat.le_trans (cnt_le_k _ _) hc4
      go_wp2_with fail
      refine (copies_any xb m k _ hc4 hlt HCI.out HH.out).mono ?_
      rintro e w1 ⟨rfl, rfl⟩
      generalize m.shN k m.cores = sh at *
      generalize m.ownN k m.cores = ow at *
      go_wp2_with fail
      refine (pLast_any xb m k _ HH.out).mono ?_
      rintro e w1 ⟨rfl, rfl⟩
      rw [HE.out, HV.out]
      clear HV
      generalize m.lasts k = la at *
      have hcase : (ow = 0 ∧ sh = 0) ∨ ((la == 0) = false ∧ ((ow = 1 ∧ sh = 0) ∨ (ow = 0 ∧ (sh = 1 ∨ sh = 2 ∨ sh = 3 ∨ sh = 4)))) := by
        by_cases z : ow + sh = 0
        · left; omega
        · right
          exact ⟨by simpa using q3 z, by omega⟩
      clear q1 q2 q3 hs4
      rcases hcase with ⟨rfl, rfl⟩ | ⟨hla, ⟨rfl, rfl⟩ | ⟨rfl, rfl | rfl | rfl | rfl⟩⟩
      all_goals
        go_wp2
        go_roundw
        case rel => exact ⟨k + 1, by omega, by go_num, by first | rfl | trivial⟩
        case measure => simp [intOf]; omega
    · have hkM : k = 64 := by omega
      subst hkM
      go_wp2
      go_ret
      exact ⟨rfl, rfl⟩

theorem nearN_succ (m : RM) (i S s k : Nat) : m.nearN i S s (k + 1) = m.nearN i S s k + (if k % S = s ∧ m.has i k ≠ 0 then 1 else 0) := by
  show cnt _ k + (if (decide (k % S = s) && decide (m.has i k ≠ 0)) = true then 1 else 0) = cnt _ k + _
  simp only [Bool.and_eq_true, decide_eq_true_eq]
theorem farN_succ (m : RM) (S s k : Nat) : m.farN S s (k + 1) = m.farN S s k + (if k % S = s ∧ m.lasts k ≠ 0 then 1 else 0) := by
  show cnt _ k + (if (decide (k % S = s) && decide (m.lasts k ≠ 0)) = true then 1 else 0) = cnt _ k + _
  simp only [Bool.and_eq_true, decide_eq_true_eq]

theorem conf_cellsV {w : World} {b : Nat} {c : Nat → Int} (h : w.heap[b]? = some (.cells (celC c) 53)) : ∀ j, j < 7 → w.cell? ⟨b, j, none⟩ = some (.int .i64 (c j)) := fun j hj => by
  have : w.cell? ⟨b, j, none⟩ = (celC c)[j]? := by simp [World.cell?, h]
  rw [this]
  match j, hj with
  | 0, _ | 1, _ | 2, _ | 3, _ | 4, _ | 5, _ | 6, _ => rfl

theorem upd_abv {S : Nat → Nat → Prop} {w w1 w2 : World} (h : Upd no w w1) (g : Upd S w1 w2) (hl : ∀ k o, S k o → w.heap.size ≤ k) : Upd no w w2 :=
  ((h.mono (S' := S) (fun _ _ e => e.elim)).trans g).shrink (fun k o hk hs => by have := hl k o hs; omega)
theorem box_zero (w : World) (t : TypeId) : HoldsF (w.alloc (.cells #[.int .i64 0, .int .i64 0, .int .i64 0, .int .i64 0, .int .i64 0, .int .i64 0, .int .i64 0, .int .i64 0] t)) w.heap.size 0 8 (fun _ => 0) := fun j hj => by
  have h := heap_alloc_new w (.cells #[.int .i64 0, .int .i64 0, .int .i64 0, .int .i64 0, .int .i64 0, .int .i64 0, .int .i64 0, .int .i64 0] t)
  refine ⟨?_, by unfold World.frozen?; simp only [h]; simp⟩
  have e : (w.alloc (.cells #[.int .i64 0, .int .i64 0, .int .i64 0, .int .i64 0, .int .i64 0, .int .i64 0, .int .i64 0, .int .i64 0] t)).cell? ⟨w.heap.size, 0 + j, none⟩ = (#[Value.int .i64 0, .int .i64 0, .int .i64 0, .int .i64 0, .int .i64 0, .int .i64 0, .int .i64 0, .int .i64 0] : Array Value)[0 + j]? := by unfold World.cell?; simp only [h]; rfl
  rw [e, Nat.zero_add]
  match j, hj with
  | 0, _ | 1, _ | 2, _ | 3, _ | 4, _ | 5, _ | 6, _ | 7, _ => rfl

set_option maxRecDepth 100000 in
set_option maxHeartbeats 2000000 in
theorem fits_any (xb : Nat) (m : RM) (B : Int) (w : World) (I : MInv m B) (CI : CInv m) (D : Dm m) (HP : PmAt w xb m) :
    Calls Try.prog 38 #[.pointer (some ⟨xb, 0, none⟩), .agg (celC m.conf)] w fun e w' => e = .returned (.bool true) ∧ Upd no w w' := by
  obtain ⟨n, S, W, P, LS, LW, LP, hcf⟩ := cf_ok I.ck
  have hcn : m.cores = n := by have := hcf.e0; have := I.c0; omega
  have HH := (show Hid _ from HP)
  have HI := (show Hid _ from I)
  have HCI := (show Hid _ from CI)
  have HD := (show Hid _ from D)
  have HCF := (show Hid _ from hcf)
  have hc4 := I.c.2
  have eS : (m.conf 1).toNat = S := by rw [hcf.e1]; rfl
  have eW : (m.conf 2).toNat = W := by rw [hcf.e2]; rfl
  have HNR : Hid (∀ i, i < n → ∀ s k, k ≤ 64 → m.nearN i S s k ≤ W) := fun i hi s k hk => by
    have := I.near_room D (i := i) (by omega) s k hk
    rw [eS, eW] at this; exact this
  have eLS : (m.conf 4).toNat = LS := by rw [hcf.e4]; rfl
  have eLW : (m.conf 5).toNat = LW := by rw [hcf.e5]; rfl
  have HFR : Hid (∀ s k, k ≤ 64 → m.farN LS s k ≤ LW) := fun s k hk => by
    have := CI.far_room D s k hk
    rw [eLS, eLW] at this; exact this
  have hbl := HP.blt
  have HBX : Hid (∀ wr, Upd no (w.alloc (.cells (celC m.conf) 53)) wr → PmAt wr xb m ∧ (∀ j, j < 7 → wr.cell? ⟨w.heap.size, j, none⟩ = some (.int .i64 (m.conf j))) ∧ w.heap.size < wr.heap.size) := fun wr u => by
    refine ⟨(HP.of_upd (S := no) ((Upd.refl no w).alloc _) (fun _ e => e)).of_upd u (fun _ e => e), fun j hj => ?_, ?_⟩
    · rw [u.cell (by simp) (fun h => h)]; exact conf_cellsV (heap_alloc_new w _) j hj
    · have := u.size; simp at this; omega
  clear HP I CI D hcf eS eW eLS eLW
  unfold celC at *
  go_enter Try.func38, Try.ntmps38
  go_wp2
  go_loopw [5] (fun i wr => ∃ k : Nat, k ≤ n ∧ i = .int .i64 k ∧ Upd no (w.alloc (.cells #[.int .i64 (m.conf 0), .int .i64 (m.conf 1), .int .i64 (m.conf 2), .int .i64 (m.conf 3), .int .i64 (m.conf 4), .int .i64 (m.conf 5), .int .i64 (m.conf 6)] 53)) wr) (fun i _ => n - (intOf i).toNat)
  case atStart => exact ⟨0, Nat.zero_le _, rfl, Upd.refl _ _⟩
  case round =>
    obtain ⟨k, hk, rfl, hU⟩ := hrel
    obtain ⟨wo, hwo⟩ : ∃ x, x = wr := ⟨_, rfl⟩
    subst hwo
    have HU := (show Hid _ from hU)
    obtain ⟨b1, b2, b3⟩ := HBX.out _ hU
    have d0 := b2 0 (by omega)
    rw [HCF.out.e0] at d0
    have hxl := b1.blt
    by_cases hlt : k < n
    · have HIN : Hid (∀ wx, Upd (blkS wo.heap.size) (wo.alloc (.cells #[.int .i64 0, .int .i64 0, .int .i64 0, .int .i64 0, .int .i64 0, .int .i64 0, .int .i64 0, .int .i64 0] 106)) wx → PmAt wx xb m ∧ (wx.cell? ⟨w.heap.size, 1, none⟩ = some (.int .i64 S) ∧ wx.cell? ⟨w.heap.size, 2, none⟩ = some (.int .i64 W))) := fun wx u => by
        refine ⟨(b1.of_upd (S := no) ((Upd.refl no wo).alloc _) (fun _ e => e)).of_upd u (fun _ e => by have : xb = wo.heap.size := e; omega), ?_, ?_⟩
        · rw [u.cell (by simp; omega) (fun e => by have : w.heap.size = wo.heap.size := e; omega), (((Upd.refl no wo).alloc _).cell b3 (fun h => h)), b2 1 (by omega), HCF.out.e1]
        · rw [u.cell (by simp; omega) (fun e => by have : w.heap.size = wo.heap.size := e; omega), (((Upd.refl no wo).alloc _).cell b3 (fun h => h)), b2 2 (by omega), HCF.out.e2]
      have hN0 : HoldsF (wo.alloc (.cells #[.int .i64 0, .int .i64 0, .int .i64 0, .int .i64 0, .int .i64 0, .int .i64 0, .int .i64 0, .int .i64 0] 106)) wo.heap.size 0 8 (fun s => (m.nearN k S s 0 : Int)) := box_zero wo _
      have HN0 := (show Hid _ from hN0)
      clear b1 b2 hU hN0
      go_wp2
      go_loopw [7] (fun i wx => ∃ j : Nat, j ≤ 64 ∧ i = .int .i64 j ∧ HoldsF wx wo.heap.size 0 8 (fun s => (m.nearN k S s j : Int)) ∧ Upd (blkS wo.heap.size) (wo.alloc (.cells #[.int .i64 0, .int .i64 0, .int .i64 0, .int .i64 0, .int .i64 0, .int .i64 0, .int .i64 0, .int .i64 0] 106)) wx) (fun i _ => 64 - (intOf i).toNat)
      case atStart => exact ⟨0, by omega, rfl, HN0.out, Upd.refl _ _⟩
      case round =>
        obtain ⟨j, hj, rfl, hN, hU2⟩ := hrel
        have hU3 := hU2
        by_cases hj2 : j < 64
        · have HE : Hid (stateE m.cores k j = 0) := stateE0 (by omega) hj2
          have HV : Hid (m.stateV k j = m.has k j) := stateV_is (by omega) hj2
          obtain ⟨p1, c1, c2⟩ := HIN.out _ hU2
          have HP1 := (show Hid _ from p1)
          have hs8 : 0 < S ∧ S ≤ 8 := by have := HCF.out.sS; unfold Size at this; omega
          have hw8 : W ≤ 8 := by have := HCF.out.sW; unfold Size at this; omega
          have hm : j % S < S := Nat.mod_lt _ hs8.1
          have hm8 : (j : Int) % (S : Int) < 8 := by rw [← Int.natCast_emod]; omega
          have hm0 : 0 ≤ (j : Int) % (S : Int) := by rw [← Int.natCast_emod]; omega
          have hcS := hN.c (j % S) (by omega)
          have hfS := hN.f (j % S) (by omega)
          rw [Nat.zero_add] at hcS hfS
          have hr1 := HNR.out k hlt (j % S) (j + 1) (by omega)
          have hsucc := nearN_succ m k S (j % S) j
          have HNX0 : Hid (m.has k j = 0 → HoldsF wr wo.heap.size 0 8 (fun s => (m.nearN k S s (j + 1) : Int))) := fun h0 => by
            refine hN.congr (fun s hs => ?_)
            show (m.nearN k S s j : Int) = m.nearN k S s (j + 1)
            rw [nearN_succ, if_neg (fun q => q.2 h0)]; omega
          have HNX1 : Hid (m.has k j ≠ 0 → HoldsF (wr.setCell ⟨wo.heap.size, j % S, none⟩ (.int .i64 ((m.nearN k S (j % S) j : Int) + 1))) wo.heap.size 0 8 (fun s => (m.nearN k S s (j + 1) : Int))) := fun h0 => by
            have hq := hN.set (i := j % S) (by omega) ((m.nearN k S (j % S) j : Int) + 1)
            rw [Nat.zero_add] at hq
            refine hq.congr (fun s hs => ?_)
            show upd (fun s => (m.nearN k S s j : Int)) (j % S) ((m.nearN k S (j % S) j : Int) + 1) s = m.nearN k S s (j + 1)
            show (if s = j % S then (m.nearN k S (j % S) j : Int) + 1 else (m.nearN k S s j : Int)) = _
            by_cases e : s = j % S
            · subst e; rw [if_pos rfl, nearN_succ, if_pos ⟨rfl, h0⟩]; omega
            · rw [if_neg e, nearN_succ, if_neg (fun q => e q.1.symm)]; omega
          have HU2 := (show Hid _ from hU2)
          have HSX := (show Hid _ from hs8)
          have hSne : (S : Int) ≠ 0 := by omega
          clear p1 hN hU2 hU3
          by_cases h0 : m.has k j = 0
          · have HZ : Hid (HoldsF wr wo.heap.size 0 8 (fun s => (m.nearN k S s (j + 1) : Int))) := HNX0.out h0
            have HV0 := (show Hid _ from HV.out.trans h0)
            rw [if_neg (fun q => q.2 h0), Nat.add_zero] at hsucc
            rw [hsucc] at hr1
            clear HNX0 HNX1 HV h0 hsucc
            generalize m.nearN k S (j % S) j = x at *
            have hgt : decide ((x : Int) > (W : Int)) = false := by simp; omega
            go_wp2_with fail
            refine (pState_any xb m k j _ hc4 HP1.out).mono ?_
            rintro e w1 ⟨rfl, rfl⟩
            rw [HE.out, HV0.out]
            go_wp2
            go_quiet (fail)
            go_wp2
            go_roundw
            case rel => exact ⟨j + 1, by omega, by go_num, HoldsF.of_upd HZ.out ((Upd.refl no _).drewN _) (fun _ _ h => h), HU2.out.drewN _⟩
            case measure => simp [intOf]; omega
          · have HZ : Hid (HoldsF (wr.setCell ⟨wo.heap.size, j % S, none⟩ (.int .i64 ((m.nearN k S (j % S) j : Int) + 1))) wo.heap.size 0 8 (fun s => (m.nearN k S s (j + 1) : Int))) := HNX1.out h0
            have hb0 : (m.has k j != 0) = true := by simpa using h0
            rw [if_pos ⟨rfl, h0⟩] at hsucc
            rw [hsucc] at hr1
            clear HNX0 HNX1 h0 hsucc
            generalize m.nearN k S (j % S) j = x at *
            generalize m.has k j = hh at *
            have hgt : decide ((x : Int) + 1 > (W : Int)) = false := by simp; omega
            go_wp2_with fail
            refine (pState_any xb m k j _ hc4 HP1.out).mono ?_
            rintro e w1 ⟨rfl, rfl⟩
            rw [HE.out, HV.out]
            go_wp2
            go_quiet (fail)
            go_wp2
            go_roundw
            case rel => exact ⟨j + 1, by omega, by go_num, HoldsF.of_upd HZ.out ((Upd.refl no _).drewN _) (fun _ _ h => h), (HU2.out.setCell (fun _ => blk_self _ _) _).drewN _⟩
            case measure => simp [intOf]; omega
        · have HU2 := (show Hid _ from hU2)
          clear hN hU2 hU3
          have hj6 : j = 64 := by omega
          subst hj6
          go_wp2
          go_roundw
          case rel => exact ⟨k + 1, by omega, by go_num, upd_abv (HU.out.alloc _) HU2.out (fun k' o e => by have : k' = wo.heap.size := e; simp; omega)⟩
          case measure => simp [intOf]; omega
    · have hkM : k = n := by omega
      subst hkM
      have HIN : Hid (∀ wx, Upd (blkS wo.heap.size) (wo.alloc (.cells #[.int .i64 0, .int .i64 0, .int .i64 0, .int .i64 0, .int .i64 0, .int .i64 0, .int .i64 0, .int .i64 0] 106)) wx → PmAt wx xb m ∧ (wx.cell? ⟨w.heap.size, 4, none⟩ = some (.int .i64 LS) ∧ wx.cell? ⟨w.heap.size, 5, none⟩ = some (.int .i64 LW))) := fun wx u => by
        refine ⟨(b1.of_upd (S := no) ((Upd.refl no wo).alloc _) (fun _ e => e)).of_upd u (fun _ e => by have : xb = wo.heap.size := e; omega), ?_, ?_⟩
        · rw [u.cell (by simp; omega) (fun e => by have : w.heap.size = wo.heap.size := e; omega), (((Upd.refl no wo).alloc _).cell b3 (fun h => h)), b2 4 (by omega), HCF.out.e4]
        · rw [u.cell (by simp; omega) (fun e => by have : w.heap.size = wo.heap.size := e; omega), (((Upd.refl no wo).alloc _).cell b3 (fun h => h)), b2 5 (by omega), HCF.out.e5]
      have hN0 : HoldsF (wo.alloc (.cells #[.int .i64 0, .int .i64 0, .int .i64 0, .int .i64 0, .int .i64 0, .int .i64 0, .int .i64 0, .int .i64 0] 106)) wo.heap.size 0 8 (fun s => (m.farN LS s 0 : Int)) := box_zero wo _
      have HN0 := (show Hid _ from hN0)
      clear b1 b2 hU hN0
      go_wp2
      go_loopw [11] (fun i wx => ∃ j : Nat, j ≤ 64 ∧ i = .int .i64 j ∧ HoldsF wx wo.heap.size 0 8 (fun s => (m.farN LS s j : Int)) ∧ Upd (blkS wo.heap.size) (wo.alloc (.cells #[.int .i64 0, .int .i64 0, .int .i64 0, .int .i64 0, .int .i64 0, .int .i64 0, .int .i64 0, .int .i64 0] 106)) wx) (fun i _ => 64 - (intOf i).toNat)
      case atStart => exact ⟨0, by omega, rfl, HN0.out, Upd.refl _ _⟩
      case round =>
        obtain ⟨j, hj, rfl, hN, hU2⟩ := hrel
        have hU3 := hU2
        by_cases hj2 : j < 64
        · have HE : Hid (RM.lastE j = 0) := by show _ = _; unfold RM.lastE; rw [if_neg (by omega)]
          have HV : Hid (m.lastV j = m.lasts j) := by show _ = _; unfold RM.lastV; rw [if_neg (by omega)]; rfl
          obtain ⟨p1, c1, c2⟩ := HIN.out _ hU2
          have HP1 := (show Hid _ from p1)
          have hs8 : 0 < LS ∧ LS ≤ 8 := by have := HCF.out.sLS; unfold Size at this; omega
          have hw8 : LW ≤ 8 := by have := HCF.out.sLW; unfold Size at this; omega
          have hm : j % LS < LS := Nat.mod_lt _ hs8.1
          have hm8 : (j : Int) % (LS : Int) < 8 := by rw [← Int.natCast_emod]; omega
          have hm0 : 0 ≤ (j : Int) % (LS : Int) := by rw [← Int.natCast_emod]; omega
          have hcS := hN.c (j % LS) (by omega)
          have hfS := hN.f (j % LS) (by omega)
          rw [Nat.zero_add] at hcS hfS
          have hr1 := HFR.out (j % LS) (j + 1) (by omega)
          have hsucc := farN_succ m LS (j % LS) j
          have HNX0 : Hid (m.lasts j = 0 → HoldsF wr wo.heap.size 0 8 (fun s => (m.farN LS s (j + 1) : Int))) := fun h0 => by
            refine hN.congr (fun s hs => ?_)
            show (m.farN LS s j : Int) = m.farN LS s (j + 1)
            rw [farN_succ, if_neg (fun q => q.2 h0)]; omega
          have HNX1 : Hid (m.lasts j ≠ 0 → HoldsF (wr.setCell ⟨wo.heap.size, j % LS, none⟩ (.int .i64 ((m.farN LS (j % LS) j : Int) + 1))) wo.heap.size 0 8 (fun s => (m.farN LS s (j + 1) : Int))) := fun h0 => by
            have hq := hN.set (i := j % LS) (by omega) ((m.farN LS (j % LS) j : Int) + 1)
            rw [Nat.zero_add] at hq
            refine hq.congr (fun s hs => ?_)
            show upd (fun s => (m.farN LS s j : Int)) (j % LS) ((m.farN LS (j % LS) j : Int) + 1) s = m.farN LS s (j + 1)
            show (if s = j % LS then (m.farN LS (j % LS) j : Int) + 1 else (m.farN LS s j : Int)) = _
            by_cases e : s = j % LS
            · subst e; rw [if_pos rfl, farN_succ, if_pos ⟨rfl, h0⟩]; omega
            · rw [if_neg e, farN_succ, if_neg (fun q => e q.1.symm)]; omega
          have HU2 := (show Hid _ from hU2)
          have HSX := (show Hid _ from hs8)
          have hSne : (LS : Int) ≠ 0 := by omega
          clear p1 hN hU2 hU3
          by_cases h0 : m.lasts j = 0
          · have HZ : Hid (HoldsF wr wo.heap.size 0 8 (fun s => (m.farN LS s (j + 1) : Int))) := HNX0.out h0
            have HV0 := (show Hid _ from HV.out.trans h0)
            rw [if_neg (fun q => q.2 h0), Nat.add_zero] at hsucc
            rw [hsucc] at hr1
            clear HNX0 HNX1 HV h0 hsucc
            generalize m.farN LS (j % LS) j = x at *
            have hgt : decide ((x : Int) > (LW : Int)) = false := by simp; omega
            go_wp2_with fail
            refine (pLast_any xb m j _ HP1.out).mono ?_
            rintro e w1 ⟨rfl, rfl⟩
            rw [HE.out, HV0.out]
            go_wp2
            go_quiet (fail)
            go_wp2
            go_roundw
            case rel => exact ⟨j + 1, by omega, by go_num, HoldsF.of_upd HZ.out ((Upd.refl no _).drewN _) (fun _ _ h => h), HU2.out.drewN _⟩
            case measure => simp [intOf]; omega
          · have HZ : Hid (HoldsF (wr.setCell ⟨wo.heap.size, j % LS, none⟩ (.int .i64 ((m.farN LS (j % LS) j : Int) + 1))) wo.heap.size 0 8 (fun s => (m.farN LS s (j + 1) : Int))) := HNX1.out h0
            have hb0 : (m.lasts j != 0) = true := by simpa using h0
            rw [if_pos ⟨rfl, h0⟩] at hsucc
            rw [hsucc] at hr1
            clear HNX0 HNX1 h0 hsucc
            generalize m.farN LS (j % LS) j = x at *
            generalize m.lasts j = hh at *
            have hgt : decide ((x : Int) + 1 > (LW : Int)) = false := by simp; omega
            go_wp2_with fail
            refine (pLast_any xb m j _ HP1.out).mono ?_
            rintro e w1 ⟨rfl, rfl⟩
            rw [HE.out, HV.out]
            go_wp2
            go_quiet (fail)
            go_wp2
            go_roundw
            case rel => exact ⟨j + 1, by omega, by go_num, HoldsF.of_upd HZ.out ((Upd.refl no _).drewN _) (fun _ _ h => h), (HU2.out.setCell (fun _ => blk_self _ _) _).drewN _⟩
            case measure => simp [intOf]; omega
        · have HU2 := (show Hid _ from hU2)
          clear hN hU2 hU3
          have hj6 : j = 64 := by omega
          subst hj6
          go_wp2
          go_ret
          exact ⟨rfl, upd_abv ((((Upd.refl no w).alloc _).trans HU.out).alloc _) HU2.out (fun k' o e => by have : k' = wo.heap.size := e; omega)⟩

end Go.Proofs.Ytobniidkkmlilaa
