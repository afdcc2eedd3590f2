import Derived.Test.YtobniidkkmlilaaPk18

/- The walks over the reference's machine: State, Last, Memory, Evict. -/
namespace Go.Proofs.Ytobniidkkmlilaa
open Go.RowKit Go.Coh

/-- the errors of State and Evict -/
def stateE (cores : Nat) (c l : Int) : Int := if c < 0 ∨ c ≥ cores then 6 else if l < 0 ∨ l ≥ 64 then 7 else 0
def RM.stateV (m : RM) (c l : Int) : Int := if stateE m.cores c l = 0 then m.has c.toNat l.toNat else 0
def RM.lastE (l : Int) : Int := if l < 0 ∨ l ≥ 64 then 7 else 0
def RM.lastV (m : RM) (l : Int) : Int := if l < 0 ∨ l ≥ 64 then 0 else m.lasts l.toNat
def RM.memV (m : RM) (a : Int) : Int := if a < 0 ∨ a ≥ 256 then 0 else m.mem a.toNat
def memE (a : Int) : Int := if a < 0 ∨ a ≥ 256 then 8 else 0

set_option maxHeartbeats 1000000 in
theorem refState_nil (c a : Int) (w : World) :
    Calls Try.prog 102 #[.pointer none, .int .i64 c, .int .i64 a] w fun e w' => e = .returned (.tuple #[.int .i64 0, .int .i64 1]) ∧ w' = w := by
  go_enter Try.func102, Try.ntmps102
  go_wp2_with fail
  refine (refRefuses_nil c 0 _).mono ?_
  rintro e w1 ⟨rfl, rfl⟩
  go_wp2
  go_ret2
  exact ⟨rfl, rfl⟩

set_option maxHeartbeats 1000000 in
theorem refState_any (y : Lay) (m : RM) (c l : Int) (w : World) (hc4 : m.cores ≤ 4) (H : RmAt w y m) :
    Calls Try.prog 102 #[.pointer (some ⟨y.blk 0, 0, none⟩), .int .i64 c, .int .i64 l] w fun e w' => e = .returned (.tuple #[.int .i64 (m.stateV c l), .int .i64 (stateE m.cores c l)]) ∧ w' = w := by
  have HH : Hid (RmAt w y m) := H
  clear H
  by_cases h1 : c < 0 ∨ c ≥ m.cores
  · have HE : Hid (stateE m.cores c l = 6) := by show _ = _; unfold stateE; rw [if_pos h1]
    have HV : Hid (m.stateV c l = 0) := by show _ = _; unfold RM.stateV; rw [HE.out, if_neg (by omega)]
    have HR : Hid (refE m.cores c 0 = 6) := by show _ = _; unfold refE; rw [if_pos h1]
    rw [HE.out, HV.out]
    clear h1 HE HV
    go_enter Try.func102, Try.ntmps102
    go_wp2_with fail
    refine (refRefuses_any y m c 0 _ HH.out).mono ?_
    rintro e w1 ⟨rfl, rfl⟩
    rw [HR.out]
    go_wp2
    go_ret2
    exact ⟨rfl, rfl⟩
  · have HR : Hid (refE m.cores c 0 = 0) := by show _ = _; unfold refE; rw [if_neg h1, if_neg (by omega)]
    obtain ⟨i, rfl⟩ : ∃ i : Nat, c = i := ⟨c.toNat, by omega⟩
    have hi : i < m.cores := by omega
    by_cases h2 : l < 0 ∨ l ≥ 64
    · have HE : Hid (stateE m.cores i l = 7) := by show _ = _; unfold stateE; rw [if_neg h1, if_pos h2]
      have HV : Hid (m.stateV i l = 0) := by show _ = _; unfold RM.stateV; rw [HE.out, if_neg (by omega)]
      rw [HE.out, HV.out]
      clear HE HV h1
      go_enter Try.func102, Try.ntmps102
      go_wp2_with fail
      refine (refRefuses_any y m i 0 _ HH.out).mono ?_
      rintro e w1 ⟨rfl, rfl⟩
      rw [HR.out]
      by_cases h3 : l < 0
      · clear h2
        go_wp2
        go_ret2
        exact ⟨rfl, rfl⟩
      · have h4 : l ≥ 64 := by omega
        clear h2
        go_wp2
        go_ret2
        exact ⟨rfl, rfl⟩
    · obtain ⟨k, rfl⟩ : ∃ k : Nat, l = k := ⟨l.toNat, by omega⟩
      have hk : k < 64 := by omega
      have HE : Hid (stateE m.cores i k = 0) := by show _ = _; unfold stateE; rw [if_neg h1, if_neg h2]
      have HV : Hid (m.stateV i k = m.has i k) := by show _ = _; unfold RM.stateV; rw [HE.out, if_pos rfl]; rfl
      rw [HE.out, HV.out]
      have hh := HH.out.has i k (by omega) hk
      clear HE HV h1 h2
      go_enter Try.func102, Try.ntmps102
      go_wp2_with fail
      refine (refRefuses_any y m i 0 _ HH.out).mono ?_
      rintro e w1 ⟨rfl, rfl⟩
      rw [HR.out]
      go_wp2
      go_ret2
      exact ⟨rfl, rfl⟩

set_option maxHeartbeats 1000000 in
theorem refLast_nil (a : Int) (w : World) :
    Calls Try.prog 104 #[.pointer none, .int .i64 a] w fun e w' => e = .returned (.tuple #[.int .i64 0, .int .i64 1]) ∧ w' = w := by
  go_enter Try.func104, Try.ntmps104
  go_wp2
  go_ret2
  exact ⟨rfl, rfl⟩

set_option maxHeartbeats 1000000 in
theorem refLast_any (y : Lay) (m : RM) (l : Int) (w : World) (H : RmAt w y m) :
    Calls Try.prog 104 #[.pointer (some ⟨y.blk 0, 0, none⟩), .int .i64 l] w fun e w' => e = .returned (.tuple #[.int .i64 (m.lastV l), .int .i64 (RM.lastE l)]) ∧ w' = w := by
  have HH : Hid (RmAt w y m) := H
  clear H
  by_cases h2 : l < 0 ∨ l ≥ 64
  · have HE : Hid (RM.lastE l = 7) := by show _ = _; unfold RM.lastE; rw [if_pos h2]
    have HV : Hid (m.lastV l = 0) := by show _ = _; unfold RM.lastV; rw [if_pos h2]
    rw [HE.out, HV.out]
    clear HE HV
    by_cases h3 : l < 0
    · clear h2
      go_enter Try.func104, Try.ntmps104
      go_wp2
      go_ret2
      exact ⟨rfl, rfl⟩
    · have h4 : l ≥ 64 := by omega
      clear h2
      go_enter Try.func104, Try.ntmps104
      go_wp2
      go_ret2
      exact ⟨rfl, rfl⟩
  · obtain ⟨k, rfl⟩ : ∃ k : Nat, l = k := ⟨l.toNat, by omega⟩
    have hk : k < 64 := by omega
    have HE : Hid (RM.lastE k = 0) := by show _ = _; unfold RM.lastE; rw [if_neg h2]
    have HV : Hid (m.lastV k = m.lasts k) := by show _ = _; unfold RM.lastV; rw [if_neg h2]; rfl
    rw [HE.out, HV.out]
    have hh := HH.out.lasts.c k hk
    clear HE HV h2
    go_enter Try.func104, Try.ntmps104
    go_wp2
    go_ret2
    exact ⟨rfl, rfl⟩

set_option maxHeartbeats 1000000 in
theorem refMemory_nil (a : Int) (w : World) :
    Calls Try.prog 105 #[.pointer none, .int .i64 a] w fun e w' => e = .returned (.tuple #[.int .i64 0, .int .i64 1]) ∧ w' = w := by
  go_enter Try.func105, Try.ntmps105
  go_wp2_with fail
  refine (refRefuses_nil 0 a _).mono ?_
  rintro e w1 ⟨rfl, rfl⟩
  go_wp2
  go_ret2
  exact ⟨rfl, rfl⟩

set_option maxHeartbeats 1000000 in
theorem refMemory_any (y : Lay) (m : RM) (a : Int) (w : World) (hc : 0 < m.cores) (H : RmAt w y m) :
    Calls Try.prog 105 #[.pointer (some ⟨y.blk 0, 0, none⟩), .int .i64 a] w fun e w' => e = .returned (.tuple #[.int .i64 (m.memV a), .int .i64 (memE a)]) ∧ w' = w := by
  have HH : Hid (RmAt w y m) := H
  clear H
  by_cases h2 : a < 0 ∨ a ≥ 256
  · have HR : Hid (refE m.cores 0 a = 8) := by show _ = _; unfold refE; rw [if_neg (by omega), if_pos h2]
    have HE : Hid (memE a = 8) := by show _ = _; unfold memE; rw [if_pos h2]
    have HV : Hid (m.memV a = 0) := by show _ = _; unfold RM.memV; rw [if_pos h2]
    rw [HE.out, HV.out]
    clear HE HV h2
    go_enter Try.func105, Try.ntmps105
    go_wp2_with fail
    refine (refRefuses_any y m 0 a _ HH.out).mono ?_
    rintro e w1 ⟨rfl, rfl⟩
    rw [HR.out]
    go_wp2
    go_ret2
    exact ⟨rfl, rfl⟩
  · obtain ⟨k, rfl⟩ : ∃ k : Nat, a = k := ⟨a.toNat, by omega⟩
    have hk : k < 256 := by omega
    have HR : Hid (refE m.cores 0 k = 0) := by show _ = _; unfold refE; rw [if_neg (by omega), if_neg h2]
    have HE : Hid (memE k = 0) := by show _ = _; unfold memE; rw [if_neg h2]
    have HV : Hid (m.memV k = m.mem k) := by show _ = _; unfold RM.memV; rw [if_neg h2]; rfl
    rw [HE.out, HV.out]
    have hh := HH.out.mem.c k hk
    clear HE HV h2
    go_enter Try.func105, Try.ntmps105
    go_wp2_with fail
    refine (refRefuses_any y m 0 k _ HH.out).mono ?_
    rintro e w1 ⟨rfl, rfl⟩
    rw [HR.out]
    go_wp2
    go_ret2
    exact ⟨rfl, rfl⟩

end Go.Proofs.Ytobniidkkmlilaa

/- The walks over the reference's machine: Evict, Load. -/
namespace Go.Proofs.Ytobniidkkmlilaa
open Go.RowKit Go.Coh

def RM.evictS (m : RM) (c l : Int) : RM := if stateE m.cores c l = 0 ∧ m.has c.toNat l.toNat ≠ 0 then m.loseAt c.toNat l.toNat else m

set_option maxHeartbeats 1000000 in
theorem refEvict_nil (c a : Int) (w : World) :
    Calls Try.prog 79 #[.pointer none, .int .i64 c, .int .i64 a] w fun e w' => e = .returned (.int .i64 1) ∧ w' = w := by
  go_enter Try.func79, Try.ntmps79
  go_wp2_with fail
  refine (refState_nil c a _).mono ?_
  rintro e w1 ⟨rfl, rfl⟩
  go_wp2
  go_ret
  exact ⟨rfl, rfl⟩

set_option maxHeartbeats 1000000 in
theorem refEvict_any (y : Lay) (m : RM) (c l : Int) (w : World) (hc4 : m.cores ≤ 4) (ok : ∀ i, RcOk (m.firsts i)) (hf : ∀ i k, i < m.cores → k < 64 → m.has i k ≠ 0 → ∃ j, (m.firsts i).find k = some j) (H : RmAt w y m) :
    Calls Try.prog 79 #[.pointer (some ⟨y.blk 0, 0, none⟩), .int .i64 c, .int .i64 l] w fun e w' => e = .returned (.int .i64 (stateE m.cores c l)) ∧ RmAt w' y (m.evictS c l) ∧ Upd (rmS y m.cores) w w' := by
  have HH : Hid (RmAt w y m) := H
  have HOK : Hid (∀ i, RcOk (m.firsts i)) := ok
  have HFD : Hid (∀ i k, i < m.cores → k < 64 → m.has i k ≠ 0 → ∃ j, (m.firsts i).find k = some j) := hf
  clear H ok hf
  by_cases h0 : stateE m.cores c l = 0
  · have h1 : 0 ≤ c ∧ c < m.cores ∧ 0 ≤ l ∧ l < 64 := by
      unfold stateE at h0
      split at h0
      · omega
      · split at h0
        · omega
        · omega
    obtain ⟨i, rfl⟩ : ∃ i : Nat, c = i := ⟨c.toNat, by omega⟩
    obtain ⟨k, rfl⟩ : ∃ k : Nat, l = k := ⟨l.toNat, by omega⟩
    have hi : i < m.cores := by omega
    have hk : k < 64 := by omega
    have hh := HH.out.has i k (by omega) hk
    have HE0 : Hid (stateE m.cores i k = 0) := h0
    by_cases e : m.has i k = 0
    · have HS : Hid (m.evictS i k = m) := by show _ = _; unfold RM.evictS; rw [if_neg (fun h => h.2 e)]
      rw [e] at hh
      clear h0 h1 e
      go_enter Try.func79, Try.ntmps79
      go_wp2_with fail
      refine (refState_any y m i k _ hc4 HH.out).mono ?_
      rintro e w1 ⟨rfl, rfl⟩
      rw [HE0.out]
      go_wp2
      go_ret
      exact ⟨ret_int HE0.out.symm, by rw [HS.out]; exact HH.out, Upd.refl _ _⟩
    · obtain ⟨j, hj⟩ := HFD.out i k hi hk e
      have HS : Hid (m.evictS i k = m.losesS i k ((m.firsts i).lo k + j)) := by
        show _ = _
        unfold RM.evictS
        rw [if_pos ⟨h0, e⟩]
        show m.loseAt i k = _
        unfold RM.loseAt
        rw [hj]
      have HJ : Hid ((m.firsts i).find k = some j) := hj
      have hb : (m.has i k != 0) = true := by simpa using e
      clear h0 h1 e hj
      go_enter Try.func79, Try.ntmps79
      go_wp2_with fail
      refine (refState_any y m i k _ hc4 HH.out).mono ?_
      rintro e w1 ⟨rfl, rfl⟩
      rw [HE0.out]
      go_wp2_with fail
      refine (refLoses_any y m i k j _ hi hc4 hk (HOK.out i) HJ.out _ rfl HH.out).mono ?_
      rintro e w2 ⟨rfl, hs2, hu2⟩
      have HS2 : Hid _ := hs2
      have HU2 : Hid _ := hu2
      clear hs2 hu2
      go_wp2
      go_ret
      exact ⟨ret_int HE0.out.symm, by rw [HS.out]; exact HS2.out, HU2.out⟩
  · have HS : Hid (m.evictS c l = m) := by show _ = _; unfold RM.evictS; rw [if_neg (fun h => h0 h.1)]
    have hb : (stateE m.cores c l == 0) = false := by simpa using h0
    clear h0
    go_enter Try.func79, Try.ntmps79
    go_wp2_with fail
    refine (refState_any y m c l _ hc4 HH.out).mono ?_
    rintro e w1 ⟨rfl, rfl⟩
    generalize hst : stateE m.cores c l = st at *
    have HST : Hid (stateE m.cores c l = st) := hst
    clear hst
    go_wp2
    go_ret
    exact ⟨ret_int HST.out.symm, by rw [HS.out]; exact HH.out, Upd.refl _ _⟩

/-- what a load tells the first k cores -/
def RM.shareK (m : RM) (l : Nat) : Nat → RM
  | 0 => m
  | k + 1 => if m.has k l = 0 then m.shareK l k else if m.has k l = 3 then { (m.shareK l k).late l with has := updH (m.shareK l k).has k l 1 } else { m.shareK l k with has := updH (m.shareK l k).has k l 1 }
def RM.shareV (m : RM) (l : Nat) : Nat → Int
  | 0 => 2
  | k + 1 => if m.has k l = 0 then m.shareV l k else 1

theorem RM.shareK_keep (m : RM) (l : Nat) : ∀ k, (m.shareK l k).cores = m.cores ∧ (m.shareK l k).conf = m.conf ∧ (m.shareK l k).firsts = m.firsts ∧ (m.shareK l k).far = m.far ∧ (m.shareK l k).words = m.words ∧ (m.shareK l k).mem = m.mem ∧ (m.shareK l k).tally = m.tally ∧
    (∀ i, k ≤ i → ∀ x, (m.shareK l k).has i x = m.has i x)
  | 0 => ⟨rfl, rfl, rfl, rfl, rfl, rfl, rfl, fun i _ x => rfl⟩
  | k + 1 => by
    obtain ⟨h1, h2, h3, h4, h5, h6, h7, h8⟩ := RM.shareK_keep m l k
    unfold RM.shareK
    split
    · exact ⟨h1, h2, h3, h4, h5, h6, h7, fun i hi x => h8 i (by omega) x⟩
    · split
      · refine ⟨h1, h2, h3, h4, h5, h6, h7, fun i hi x => ?_⟩
        show updH (m.shareK l k).has k l 1 i x = _
        unfold updH; rw [if_neg (by omega)]; exact h8 i (by omega) x
      · refine ⟨h1, h2, h3, h4, h5, h6, h7, fun i hi x => ?_⟩
        show updH (m.shareK l k).has k l 1 i x = _
        unfold updH; rw [if_neg (by omega)]; exact h8 i (by omega) x

end Go.Proofs.Ytobniidkkmlilaa
