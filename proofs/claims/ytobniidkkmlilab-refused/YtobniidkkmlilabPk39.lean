import Derived.Test.YtobniidkkmlilabPk37
import Derived.Test.YtobniidkkmlilabPk38

/- The walks over the reference's machine: New, Drain. -/
namespace Go.Proofs.Ytobniidkkmlilab
open Go.RowKit Go.Coh

def rcN (n : Nat) (c : Nat → Int) : Array Value := (.int .i64 (c 0) :: .int .i64 (c 1) :: .int .i64 (c 2) :: .int .i64 (c 3) :: .int .i64 (c 4) :: .int .i64 (c 5) :: .int .i64 (c 6) :: .slice none 0 0 :: .pointer none :: List.replicate n (.int .i64 0)).toArray
theorem rcN_size (n : Nat) (c : Nat → Int) : (rcN n c).size = n + 9 := by simp [rcN]
theorem rcN_get (n : Nat) (c : Nat → Int) (j : Nat) (h : j < n + 9) (h7 : j ≠ 7) (h8 : j ≠ 8) : (rcN n c)[j]? = some (.int .i64 (if j < 7 then c j else 0)) := by
  unfold rcN
  rw [List.getElem?_toArray]
  match j, h with
  | 0, _ | 1, _ | 2, _ | 3, _ | 4, _ | 5, _ | 6, _ => rfl
  | 7, _ => exact absurd rfl h7
  | 8, _ => exact absurd rfl h8
  | j + 9, h =>
    rw [List.getElem?_cons_succ, List.getElem?_cons_succ, List.getElem?_cons_succ, List.getElem?_cons_succ, List.getElem?_cons_succ, List.getElem?_cons_succ, List.getElem?_cons_succ, List.getElem?_cons_succ, List.getElem?_cons_succ, if_neg (by omega)]
    have : j < n := by omega
    simp [this]

theorem rawR_new {w : World} {b : Nat} {c : Nat → Int} {n S W P LS LW LP : Nat} (hcf : CfOk c n S W P LS LW LP) (h : w.heap[b]? = some (.cells (rcN 842 c) 97 (0, 0))) : RrAt w b (newM c) := by
  have hc : ∀ j, j < 851 → j ≠ 7 → j ≠ 8 → w.cell? ⟨b, j, none⟩ = some (.int .i64 (if j < 7 then c j else 0)) := fun j hj h7 h8 => by
    have : w.cell? ⟨b, j, none⟩ = (rcN 842 c)[j]? := by simp [World.cell?, h]
    rw [this]; exact rcN_get 842 c j hj h7 h8
  have hf : ∀ o, w.frozen? ⟨b, o, none⟩ = false := fun o => by simp [World.frozen?, h]
  refine ⟨by show c 0 = ((c 0).toNat : Int); have := hcf.e0; omega, fun j hj => ⟨?_, hf _⟩, fun j hj => ⟨?_, hf _⟩, fun j hj => ⟨?_, hf _⟩, fun j hj => ⟨?_, hf _⟩, hf, fun j hj => ⟨?_, hf _⟩⟩
  · rw [Nat.zero_add, hc j (by omega) (by omega) (by omega), if_pos hj]; rfl
  · rw [hc _ (by omega) (by omega) (by omega), if_neg (by omega)]; rfl
  · rw [hc _ (by omega) (by omega) (by omega), if_neg (by omega)]; rfl
  · rw [hc _ (by omega) (by omega) (by omega), if_neg (by omega)]; rfl
  · rw [Nat.zero_add]
    have : w.cell? ⟨b, j, none⟩ = (rcN 842 c)[j]? := by simp [World.cell?, h]
    have hz := rcN_size 842 c
    rw [this, Array.getElem?_eq_getElem (by omega)]; rfl

theorem zero118 (c : Nat → Int) : ((((((Try.zeroCells97.setIfInBounds 0 (Value.int IntKind.i64 (c 0))).setIfInBounds 1 (Value.int IntKind.i64 (c 1))).setIfInBounds 2 (Value.int IntKind.i64 (c 2))).setIfInBounds 3 (Value.int IntKind.i64 (c 3))).setIfInBounds 4 (Value.int IntKind.i64 (c 4))).setIfInBounds 5 (Value.int IntKind.i64 (c 5))).setIfInBounds 6 (Value.int IntKind.i64 (c 6)) = rcN 842 c := by kernel_rfl

set_option maxRecDepth 100000 in
set_option maxHeartbeats 2000000 in
theorem refNew_bad (c : Nat → Int) (w : World) (he : checkE c ≠ 0) : Calls Try.prog 30 #[.agg (celC c)] w fun e w' => e = .returned (.tuple #[.pointer none, .int .i64 (checkE c)]) ∧ Upd no w w' := by
  have hb : (checkE c != 0) = true := by simpa using he
  obtain ⟨E, hE⟩ : ∃ E, checkE c = E := ⟨_, rfl⟩
  have HEE : Hid (checkE c = E) := hE
  rw [hE] at hb ⊢
  clear he hE
  unfold celC
  go_enter Try.func30, Try.ntmps30
  go_wp2_with fail
  refine (refCheck_any c _).mono ?_
  rintro e w1 ⟨rfl, hu⟩
  rw [HEE.out]
  have HU := (show Hid _ from ((Upd.refl no w).alloc _).trans hu)
  clear hu
  go_wp2
  go_ret2
  exact ⟨rfl, HU.out⟩

set_option maxRecDepth 100000 in
set_option maxHeartbeats 2000000 in
theorem refNew_good (c : Nat → Int) (w : World) (he : checkE c = 0) : Calls Try.prog 30 #[.agg (celC c)] w fun e w' => (∃ y, e = .returned (.tuple #[.pointer (some ⟨y.blk 0, 0, none⟩), .int .i64 0]) ∧ (∀ p, p < 4 + 2 * (newM c).cores → w.heap.size ≤ y.blk p) ∧ RmAt w' y (newM c).freshS) ∧ Upd no w w' := by
  have HEE : Hid (checkE c = 0) := he
  obtain ⟨n, S, W, P, LS, LW, LP, hcf⟩ := cf_ok he
  have HCF : Hid (CfOk (newM c).conf n S W P LS LW LP) := hcf
  clear he hcf
  unfold celC
  go_enter Try.func30, Try.ntmps30
  go_wp2_with fail
  refine (refCheck_any c _).mono ?_
  rintro e w1 ⟨rfl, hu⟩
  rw [HEE.out]
  have hu1 : Upd no w w1 := ((Upd.refl no w).alloc _).trans hu
  have hbl := heap_alloc_new w (Obj.cells #[Value.int IntKind.i64 (c 0), Value.int IntKind.i64 (c 1), Value.int IntKind.i64 (c 2), Value.int IntKind.i64 (c 3), Value.int IntKind.i64 (c 4), Value.int IntKind.i64 (c 5), Value.int IntKind.i64 (c 6)] 23)
  rw [← hu.block (by simp) (fun _ h => h)] at hbl
  have hsz : w.heap.size < w1.heap.size := (Array.getElem?_eq_some_iff.1 hbl).1
  have d0 : w1.cell? ⟨w.heap.size, 0, none⟩ = some (.int .i64 (c 0)) := by simp [World.cell?, hbl]
  have d1 : w1.cell? ⟨w.heap.size, 1, none⟩ = some (.int .i64 (c 1)) := by simp [World.cell?, hbl]
  have d2 : w1.cell? ⟨w.heap.size, 2, none⟩ = some (.int .i64 (c 2)) := by simp [World.cell?, hbl]
  have d3 : w1.cell? ⟨w.heap.size, 3, none⟩ = some (.int .i64 (c 3)) := by simp [World.cell?, hbl]
  have d4 : w1.cell? ⟨w.heap.size, 4, none⟩ = some (.int .i64 (c 4)) := by simp [World.cell?, hbl]
  have d5 : w1.cell? ⟨w.heap.size, 5, none⟩ = some (.int .i64 (c 5)) := by simp [World.cell?, hbl]
  have d6 : w1.cell? ⟨w.heap.size, 6, none⟩ = some (.int .i64 (c 6)) := by simp [World.cell?, hbl]
  have HU1 := (show Hid _ from hu1)
  clear hu hbl hu1
  go_upto_region 5 with fail
  rw [zero118]
  have hnew := heap_alloc_new w1 (.cells (rcN 842 c) 97)
  have HPR : Hid (RrAt (w1.alloc (.cells (rcN 842 c) 97)) w1.heap.size (newM c)) := rawR_new (c := c) HCF.out hnew
  have HUA : Hid (Upd no w (w1.alloc (.cells (rcN 842 c) 97))) := HU1.out.alloc _
  have hs2 : w1.heap.size < (w1.alloc (.cells (rcN 842 c) 97)).heap.size := by simp
  generalize w1.alloc (.cells (rcN 842 c) 97) = w2 at *
  generalize hM : w1.heap.size = M at *
  clear d0 d1 d2 d3 d4 d5 d6 hnew
  go_wp2_with fail
  refine (refFresh_any M (newM c) n S W P LS LW LP _ HCF.out HPR.out).mono ?_
  rintro e w3 ⟨rfl, ⟨y, hy, g3, hlo⟩, u3⟩
  have HG3 := (show Hid _ from g3)
  have HLO : Hid (∀ p, p < 4 + 2 * (newM c).cores → w.heap.size ≤ y.blk p) := fun p hp => by
    by_cases h0 : p = 0
    · subst h0; rw [hy]; omega
    · have := hlo p (by omega) hp; omega
  have HU3 : Hid (Upd no w w3) := ((HUA.out.mono (S' := blkS M) (fun _ _ h => h.elim)).trans u3).shrink (fun k o hk h => by
    have : k = M := h
    omega)
  have HY : Hid (y.blk 0 = M) := hy
  clear g3 u3 hlo hy
  go_wp2
  go_ret2
  exact ⟨⟨y, by rw [HY.out]; rfl, HLO.out, HG3.out⟩, HU3.out⟩

/-- newer, while the cores are asked -/
def RM.newerK (m : RM) (l : Nat) : Nat → Bool
  | 0 => m.lasts l == 2
  | k + 1 => m.newerK l k || m.has k l == 3
theorem newerK_iff (m : RM) (l : Nat) : ∀ k, m.newerK l k = true ↔ m.lasts l = 2 ∨ ∃ i, i < k ∧ m.has i l = 3
  | 0 => by
    unfold RM.newerK
    constructor
    · intro h; exact .inl (by simpa using h)
    · rintro (h | ⟨i, hi, _⟩)
      · simpa using h
      · omega
  | k + 1 => by
    unfold RM.newerK
    rw [Bool.or_eq_true, newerK_iff m l k]
    constructor
    · rintro ((h | ⟨i, hi, h⟩) | h)
      · exact .inl h
      · exact .inr ⟨i, by omega, h⟩
      · exact .inr ⟨k, by omega, by simpa using h⟩
    · rintro (h | ⟨i, hi, h⟩)
      · exact .inl (.inl h)
      · by_cases e : i = k
        · subst e; exact .inr (by simpa using h)
        · exact .inl (.inr ⟨i, by omega, h⟩)

set_option maxHeartbeats 1000000 in
theorem refDrain_nil (w : World) : Calls Try.prog 54 #[.pointer none] w fun e w' => e = .returned (.int .i64 1) ∧ w' = w := by
  go_enter Try.func54, Try.ntmps54
  go_wp2
  go_ret
  exact ⟨rfl, rfl⟩

set_option maxRecDepth 100000 in
set_option maxHeartbeats 2000000 in
theorem refDrain_any (y : Lay) (m : RM) (B : Int) (w : World) (I : MInv m B) (hB : B ≤ 1152921504606846976) (H : RmAt w y m) :
    Calls Try.prog 54 #[.pointer (some ⟨y.blk 0, 0, none⟩)] w fun e w' => e = .returned (.int .i64 0) ∧ (∃ y', y'.blk 0 = y.blk 0 ∧ RmAt w' y' m.drainS ∧ ∀ p, 0 < p → p < 4 + 2 * m.cores → w.heap.size ≤ y'.blk p) ∧ Upd (rmS y m.cores) w w' := by
  have HH : Hid (RmAt w y m) := H
  have hc4 := I.c.2
  have ht8 := I.ht 8
  have HCK : Hid (checkE m.conf = 0) := I.ck
  clear H I
  go_enter Try.func54, Try.ntmps54
  go_wp2
  go_loopw [3] (fun i wr => ∃ k : Nat, k ≤ 64 ∧ i = .int .i64 k ∧ RmAt wr y (m.drainK k) ∧ Upd (rmS y m.cores) w wr) (fun i _ => 64 - (intOf i).toNat)
  case atStart => exact ⟨0, by omega, rfl, HH.out, Upd.refl _ _⟩
  case round =>
    obtain ⟨k, hk, rfl, hs, hu⟩ := hrel
    have HS : Hid (RmAt wr y (m.drainK k)) := hs
    have HU : Hid (Upd (rmS y m.cores) w wr) := hu
    have kp := RM.drainK_keep m k
    by_cases hlt : k < 64
    · have l1 := hs.lasts.c k hlt
      rw [kp.2.2.2.1] at l1
      have HHAS : Hid (∀ i, i < 4 → wr.cell? ⟨y.blk 0, 9 + i * 64 + k, none⟩ = some (.int .i64 (m.has i k))) := fun i hi => by
        have := hs.has i k hi hlt
        rw [kp.2.2.1] at this; exact this
      have d0 := hs.conf.c 0 (by omega)
      rw [hs.c0, kp.1] at d0
      have HKT : Hid (0 ≤ (m.drainK k).tally 8 ∧ (m.drainK k).tally 8 ≤ 4611686018427387904) := by show _ ∧ _; have := kp.2.2.2.2.2.2.2.1; omega
      have HKC : Hid ((m.drainK k).cores = m.cores) := kp.1
      clear hs hu kp
      have hd : decide ((k : Int) < 64) = true := by simp; omega
      generalize hn : m.cores = n at *
      have HN : Hid (m.cores = n) := hn
      clear hn
      have HL0 : Hid (m.newerK k 0 = (m.lasts k == 2)) := rfl
      go_wp2
      go_loopw [4, 5] (fun nw i wq => ∃ j : Nat, j ≤ n ∧ i = .int .i64 j ∧ nw = .bool (m.newerK k j) ∧ wq = wr) (fun _ i _ => n - (intOf i).toNat)
      case atStart => exact ⟨0, by omega, rfl, rfl, rfl⟩
      case round =>
        obtain ⟨j, hj, rfl, rfl, rfl⟩ := hrel
        by_cases hjl : j < n
        · have h1 := HHAS.out j (by omega)
          cases hnw : m.newerK k j with
          | true =>
            have HNW : Hid (m.newerK k (j + 1) = true) := by show _ = _; unfold RM.newerK; rw [hnw]; rfl
            clear hnw
            go_wp2
            go_roundw
            case rel => exact ⟨j + 1, by omega, by go_num, by rw [HNW.out], trivial⟩
            case measure => simp [intOf]; omega
          | false =>
            have HNW : Hid (m.newerK k (j + 1) = (m.has j k == 3)) := by show _ = _; unfold RM.newerK; rw [hnw]; rfl
            clear hnw
            go_wp2
            go_roundw
            case rel => exact ⟨j + 1, by omega, by go_num, by rw [HNW.out], trivial⟩
            case measure => simp [intOf]; omega
        · have hjn : j = n := by omega
          subst hjn
          have hni := newerK_iff m k j
          cases hnw : m.newerK k j with
          | true =>
            have hnew : m.newer k := by
              have := hni.1 hnw
              rw [← HN.out] at this
              exact this
            have HD : Hid (m.drainK (k + 1) = (m.drainK k).writtenS k) := (drainK_succ m k).1 hnew
            clear hni hnw hnew
            go_wp2_with fail
            refine (refWritten_any y (m.drainK k) k _ hlt HKT.out HS.out).mono ?_
            rintro e w3 ⟨rfl, g3, u3⟩
            rw [← HD.out] at g3
            rw [HKC.out] at u3
            have HG3 := (show Hid _ from g3)
            have HU3 := (show Hid _ from HU.out.trans u3)
            clear g3 u3
            go_wp2
            go_roundw
            case rel => exact ⟨k + 1, by omega, by go_num, HG3.out, HU3.out⟩
            case measure => simp [intOf]; omega
          | false =>
            have hnew : ¬ m.newer k := fun h => by
              have : m.newerK k j = true := hni.2 (by rw [← HN.out]; exact h)
              rw [hnw] at this; cases this
            have HG3 : Hid (RmAt wr y (m.drainK (k + 1))) := by show RmAt _ _ _; rw [(drainK_succ m k).2 hnew]; exact HS.out
            clear hni hnw hnew
            go_wp2
            go_roundw
            case rel => exact ⟨k + 1, by omega, by go_num, HG3.out, HU.out⟩
            case measure => simp [intOf]; omega
    · have hk64 : k = 64 := by omega
      subst hk64
      obtain ⟨n, S, W, P, LS, LW, LP, hcf⟩ := cf_ok HCK.out
      rw [← kp.2.1] at hcf
      have HCF := (show Hid _ from hcf)
      have HKC : Hid ((m.drainK 64).cores = m.cores) := kp.1
      have hsz := hu.size
      clear hcf kp hs hu
      go_wp2_with fail
      refine (refFresh_any (y.blk 0) (m.drainK 64) n S W P LS LW LP _ HCF.out HS.out.raw).mono ?_
      rintro e w3 ⟨rfl, ⟨y', hy, g3, hlo⟩, u3⟩
      rw [HKC.out] at hlo
      have HG3 : Hid (∃ y', y'.blk 0 = y.blk 0 ∧ RmAt w3 y' m.drainS ∧ ∀ p, 0 < p → p < 4 + 2 * m.cores → w.heap.size ≤ y'.blk p) := ⟨y', hy, g3, fun p h0 hp => Nat.le_trans hsz (hlo p h0 hp)⟩
      have HU3 : Hid (Upd (rmS y m.cores) w w3) := HU.out.trans (u3.mono (fun k o h => by have : k = y.blk 0 := h; subst this; exact rmS_0 _))
      clear g3 u3 hlo hy
      go_wp2
      go_ret
      exact ⟨rfl, HG3.out, HU3.out⟩

end Go.Proofs.Ytobniidkkmlilab
