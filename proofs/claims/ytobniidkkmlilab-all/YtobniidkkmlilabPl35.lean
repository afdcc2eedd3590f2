import Derived.Test.YtobniidkkmlilabPl34

/- The walks over the program's machine: Drain. -/
namespace Go.Proofs.Ytobniidkkmlilab
open Go.RowKit Go.Coh

/-- is the line newer than the memory? -/
def RM.newer (m : RM) (l : Nat) : Prop := m.lasts l = 2 ∨ ∃ i, i < m.cores ∧ m.has i l = 3
open Classical in
noncomputable def RM.drainK (m : RM) : Nat → RM
  | 0 => m
  | k + 1 => if m.newer k then (m.drainK k).writtenS k else m.drainK k
noncomputable def RM.drainS (m : RM) : RM := (m.drainK 64).freshS

def RM.handK (m : RM) (l : Nat) : Nat → RM
  | 0 => m
  | k + 1 => (m.handK l k).handS k l
def RM.pDrainK (m : RM) : Nat → RM
  | 0 => m
  | k + 1 => ((m.pDrainK k).handK k 4).backS k

theorem drainK_succ (m : RM) (k : Nat) : (m.newer k → m.drainK (k + 1) = (m.drainK k).writtenS k) ∧ (¬ m.newer k → m.drainK (k + 1) = m.drainK k) := by
  constructor
  · intro h; rw [RM.drainK, if_pos h]
  · intro h; rw [RM.drainK, if_neg h]

theorem RM.drainK_keep (m : RM) : ∀ k, (m.drainK k).cores = m.cores ∧ (m.drainK k).conf = m.conf ∧ (m.drainK k).has = m.has ∧ (m.drainK k).lasts = m.lasts ∧ (m.drainK k).words = m.words ∧ (m.drainK k).firsts = m.firsts ∧ (m.drainK k).far = m.far ∧
    (m.tally 8 ≤ (m.drainK k).tally 8 ∧ (m.drainK k).tally 8 ≤ m.tally 8 + k) ∧ (∀ j, j ≠ 8 → (m.drainK k).tally j = m.tally j)
  | 0 => ⟨rfl, rfl, rfl, rfl, rfl, rfl, rfl, ⟨by show m.tally 8 ≤ m.tally 8; omega, by show m.tally 8 ≤ m.tally 8 + ((0 : Nat) : Int); omega⟩, fun _ _ => rfl⟩
  | k + 1 => by
    obtain ⟨h1, h2, h3, h4, h5, h6, h7, h8, h9⟩ := RM.drainK_keep m k
    unfold RM.drainK
    split
    · have t8 : ((m.drainK k).writtenS k).tally 8 = (m.drainK k).tally 8 + 1 := by
        show upd (m.drainK k).tally 8 ((m.drainK k).tally 8 + 1) 8 = _
        unfold upd; rw [if_pos rfl]
      refine ⟨h1, h2, h3, h4, h5, h6, h7, ⟨by rw [t8]; omega, by rw [t8]; omega⟩, fun j hj => ?_⟩
      show upd (m.drainK k).tally 8 ((m.drainK k).tally 8 + 1) j = _
      unfold upd; rw [if_neg hj]; exact h9 j hj
    · exact ⟨h1, h2, h3, h4, h5, h6, h7, by omega, h9⟩

theorem handK_eq (m : RM) (l : Nat) : ∀ k, ∃ L, m.handK l k = { m with lasts := L } ∧ (∀ j, j ≠ l → L j = m.lasts j) ∧ (L l = 2 ↔ m.lasts l = 2 ∨ ∃ i, i < k ∧ m.has i l = 3)
  | 0 => ⟨m.lasts, rfl, fun _ _ => rfl, ⟨fun h => .inl h, fun h => by rcases h with h | ⟨i, hi, _⟩; exact h; omega⟩⟩
  | k + 1 => by
    obtain ⟨L, e, h1, h2⟩ := handK_eq m l k
    unfold RM.handK
    rw [e]
    unfold RM.handS
    by_cases h3 : m.has k l = 3
    · refine ⟨upd L l 2, ?_, fun j hj => ?_, ⟨fun _ => .inr ⟨k, by omega, h3⟩, fun _ => ?_⟩⟩
      · rw [if_pos (by exact h3)]; rfl
      · unfold upd; rw [if_neg hj]; exact h1 j hj
      · unfold upd; rw [if_pos rfl]
    · refine ⟨L, ?_, h1, ?_⟩
      · rw [if_neg (by exact h3)]
      · rw [h2]
        constructor
        · rintro (h | ⟨i, hi, h⟩)
          · exact .inl h
          · exact .inr ⟨i, by omega, h⟩
        · rintro (h | ⟨i, hi, h⟩)
          · exact .inl h
          · by_cases e : i = k
            · subst e; exact absurd h h3
            · exact .inr ⟨i, by omega, h⟩

theorem writtenS_lasts (m : RM) (l : Nat) (L : Nat → Int) : ({ m with lasts := L } : RM).writtenS l = { m.writtenS l with lasts := L } := rfl

theorem pDrainK_eq (m : RM) (hc4 : m.cores ≤ 4) (h0 : ∀ i l, m.cores ≤ i → m.has i l = 0) : ∀ k, ∃ L, m.pDrainK k = { m.drainK k with lasts := L } ∧ ∀ j, k ≤ j → L j = m.lasts j
  | 0 => ⟨m.lasts, rfl, fun _ _ => rfl⟩
  | k + 1 => by
    obtain ⟨L, e, h1⟩ := pDrainK_eq m hc4 h0 k
    obtain ⟨_, _, kh, _, _, _, _, _, _⟩ := RM.drainK_keep m k
    unfold RM.pDrainK
    obtain ⟨L', e', h2, h3⟩ := handK_eq (m.pDrainK k) k 4
    rw [e']
    have hl : (m.pDrainK k).lasts = L := by rw [e]
    have hh : (m.pDrainK k).has = m.has := by rw [e]; exact kh
    rw [hl] at h2 h3
    rw [hh, h1 k (Nat.le_refl _)] at h3
    have hn : L' k = 2 ↔ m.newer k := by
      rw [h3]
      unfold RM.newer
      constructor
      · rintro (h | ⟨i, hi, h⟩)
        · exact .inl h
        · by_cases hc : i < m.cores
          · exact .inr ⟨i, hc, h⟩
          · have := h0 i k (by omega); omega
      · rintro (h | ⟨i, hi, h⟩)
        · exact .inl h
        · exact .inr ⟨i, by omega, h⟩
    have ep : ({ m.pDrainK k with lasts := L' } : RM) = { m.drainK k with lasts := L' } := by rw [e]
    rw [ep]
    refine ⟨L', ?_, fun j hj => by rw [h2 j (by omega)]; exact h1 j (by omega)⟩
    unfold RM.backS
    by_cases hw : m.newer k
    · rw [if_pos (by exact hn.2 hw), (drainK_succ m k).1 hw]; rfl
    · rw [if_neg (by exact fun h => hw (hn.1 h)), (drainK_succ m k).2 hw]

theorem pDrain_fresh (m : RM) (hc4 : m.cores ≤ 4) (h0 : ∀ i l, m.cores ≤ i → m.has i l = 0) : (m.pDrainK 64).freshS = m.drainS := by
  obtain ⟨L, e, _⟩ := pDrainK_eq m hc4 h0 64
  rw [e]; rfl

theorem pDrainK_keep (m : RM) (hc4 : m.cores ≤ 4) (h0 : ∀ i l, m.cores ≤ i → m.has i l = 0) (k : Nat) : (m.pDrainK k).cores = m.cores ∧ (m.pDrainK k).conf = m.conf ∧ (m.tally 8 ≤ (m.pDrainK k).tally 8 ∧ (m.pDrainK k).tally 8 ≤ m.tally 8 + k) := by
  obtain ⟨L, e, _⟩ := pDrainK_eq m hc4 h0 k
  have kp := RM.drainK_keep m k
  rw [e]
  exact ⟨kp.1, kp.2.1, kp.2.2.2.2.2.2.2.1⟩

theorem handK_keep (m : RM) (l k : Nat) : (m.handK l k).cores = m.cores ∧ (m.handK l k).tally = m.tally := by
  obtain ⟨L, e, _⟩ := handK_eq m l k
  rw [e]; exact ⟨rfl, rfl⟩

set_option maxHeartbeats 1000000 in
theorem pDrain_nil (w : World) : Calls Try.prog 22 #[.pointer none] w fun e w' => e = .returned (.int .i64 1) ∧ w' = w := by
  go_enter Try.func22, Try.ntmps22
  go_wp2
  go_ret
  exact ⟨rfl, rfl⟩

set_option maxRecDepth 100000 in
set_option maxHeartbeats 2000000 in
theorem pDrain_any (b : Nat) (m : RM) (B : Int) (w : World) (I : MInv m B) (hB : B ≤ 1152921504606846976) (H : PmAt w b m) :
    Calls Try.prog 22 #[.pointer (some ⟨b, 0, none⟩)] w fun e w' => e = .returned (.int .i64 0) ∧ PmAt w' b m.drainS ∧ Upd (blkS b) w w' := by
  have HH : Hid (PmAt w b m) := H
  have hc4 := I.c.2
  have H00 : Hid (∀ i l, m.cores ≤ i → m.has i l = 0) := I.fi.h0
  have ht8 := I.ht 8
  have HCK : Hid (checkE m.conf = 0) := I.ck
  clear H I
  go_enter Try.func22, Try.ntmps22
  go_wp2
  go_loopw [3] (fun i wr => ∃ k : Nat, k ≤ 64 ∧ i = .int .i64 k ∧ PmAt wr b (m.pDrainK k) ∧ Upd (blkS b) w wr) (fun i _ => 64 - (intOf i).toNat)
  case atStart => exact ⟨0, by omega, rfl, HH.out, Upd.refl _ _⟩
  case round =>
    obtain ⟨k, hk, rfl, hs, hu⟩ := hrel
    have HS : Hid (PmAt wr b (m.pDrainK k)) := hs
    have HU : Hid (Upd (blkS b) w wr) := hu
    clear hs hu
    by_cases hlt : k < 64
    · go_wp2
      have hd : decide ((k : Int) < 64) = true := by simp; omega
      rw [hd]
      go_loopw [4] (fun i wq => ∃ j : Nat, j ≤ 4 ∧ i = .int .i64 j ∧ PmAt wq b ((m.pDrainK k).handK k j) ∧ Upd (blkS b) w wq) (fun i _ => 4 - (intOf i).toNat)
      case atStart => exact ⟨0, by omega, rfl, HS.out, HU.out⟩
      case round =>
        obtain ⟨j, hj, rfl, hs2, hu2⟩ := hrel
        have HS2 := (show Hid _ from hs2)
        have HU2 := (show Hid _ from hu2)
        clear hs2 hu2
        have pk := pDrainK_keep m hc4 H00.out k
        have hk2 := handK_keep (m.pDrainK k) k j
        have HC2 : Hid (((m.pDrainK k).handK k j).cores = m.cores) := by show _ = _; rw [hk2.1, pk.1]
        by_cases hjl : j < 4
        · clear pk hk2
          go_wp2_with fail
          refine (handOn_any b _ j k _ hjl hlt (by rw [HC2.out]; exact hc4) HS2.out).mono ?_
          rintro e w3 ⟨rfl, g3, u3⟩
          have HG3 : Hid (PmAt w3 b ((m.pDrainK k).handK k (j + 1))) := g3
          have HU3 := (show Hid _ from HU2.out.trans u3)
          clear g3 u3
          go_wp2
          go_roundw
          case rel => exact ⟨j + 1, by omega, by go_num, HG3.out, HU3.out⟩
          case measure => simp [intOf]; omega
        · have hj4 : j = 4 := by omega
          subst hj4
          have HT8 : Hid (0 ≤ ((m.pDrainK k).handK k 4).tally 8 ∧ ((m.pDrainK k).handK k 4).tally 8 ≤ 4611686018427387904) := by show _ ∧ _; rw [hk2.2]; have := pk.2.2; omega
          clear pk hk2
          go_wp2_with fail
          refine (writeBack_any b _ k _ hlt (by rw [HC2.out]; exact hc4) HT8.out HS2.out).mono ?_
          rintro e w3 ⟨rfl, g3, u3⟩
          have HG3 : Hid (PmAt w3 b (m.pDrainK (k + 1))) := g3
          have HU3 := (show Hid _ from HU2.out.trans u3)
          clear g3 u3
          go_wp2
          go_roundw
          case rel => exact ⟨k + 1, by omega, by go_num, HG3.out, HU3.out⟩
          case measure => simp [intOf]; omega
    · have hk64 : k = 64 := by omega
      subst hk64
      have pk := pDrainK_keep m hc4 H00.out 64
      obtain ⟨n, S, W, P, LS, LW, LP, hcf⟩ := cf_ok HCK.out
      rw [← pk.2.1] at hcf
      have HCF := (show Hid _ from hcf)
      clear pk hcf
      go_wp2_with fail
      refine (empty_any b (m.pDrainK 64) n S W P LS LW LP _ HCF.out HS.out.raw).mono ?_
      rintro e w3 ⟨rfl, g3, u3⟩
      rw [pDrain_fresh m hc4 H00.out] at g3
      have HG3 := (show Hid _ from g3)
      have HU3 := (show Hid _ from HU.out.trans u3)
      clear g3 u3
      go_wp2
      go_ret
      exact ⟨rfl, HG3.out, HU3.out⟩

end Go.Proofs.Ytobniidkkmlilab
