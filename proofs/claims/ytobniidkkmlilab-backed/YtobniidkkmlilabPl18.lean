import Derived.Test.YtobniidkkmlilabPl17

/- The walks over the reference's machine: Evict, Load. -/
namespace Go.Proofs.Ytobniidkkmlilab
open Go.RowKit Go.Coh

def RM.evictS (m : RM) (c l : Int) : RM := if stateE m.cores c l = 0 ∧ m.has c.toNat l.toNat ≠ 0 then m.loseAt c.toNat l.toNat else m

set_option maxHeartbeats 1000000 in
theorem refEvict_nil (c a : Int) (w : World) :
    Calls Try.prog 53 #[.pointer none, .int .i64 c, .int .i64 a] w fun e w' => e = .returned (.int .i64 1) ∧ w' = w := by
  go_enter Try.func53, Try.ntmps53
  go_wp2_with fail
  refine (refState_nil c a _).mono ?_
  rintro e w1 ⟨rfl, rfl⟩
  go_wp2
  go_ret
  exact ⟨rfl, rfl⟩

set_option maxHeartbeats 1000000 in
theorem refEvict_any (y : Lay) (m : RM) (c l : Int) (w : World) (hc4 : m.cores ≤ 4) (ok : ∀ i, RcOk (m.firsts i)) (hf : ∀ i k, i < m.cores → k < 64 → m.has i k ≠ 0 → ∃ j, (m.firsts i).find k = some j) (H : RmAt w y m) :
    Calls Try.prog 53 #[.pointer (some ⟨y.blk 0, 0, none⟩), .int .i64 c, .int .i64 l] w fun e w' => e = .returned (.int .i64 (stateE m.cores c l)) ∧ RmAt w' y (m.evictS c l) ∧ Upd (rmS y m.cores) w w' := by
  have HH : Hid (RmAt w y m) := H
  have HOK : Hid (∀ i, RcOk (m.firsts i)) := ok
  have HFD : Hid (∀ i k, i < m.cores → k < 64 → m.has i k ≠ 0 → ∃ j, (m.firsts i).find k = some j) := hf
  clear H ok hf
  by_cases h0 : stateE m.cores c l = 0
  · have h1 : 0 ≤ c ∧ c < m.cores ∧ 0 ≤ l ∧ l < 64 := by
      unfold stateE at h0
      split at h0
      · omega
      · split at h0
        · omega
        · omega
    obtain ⟨i, rfl⟩ : ∃ i : Nat, c = i := ⟨c.toNat, by omega⟩
    obtain ⟨k, rfl⟩ : ∃ k : Nat, l = k := ⟨l.toNat, by omega⟩
    have hi : i < m.cores := by omega
    have hk : k < 64 := by omega
    have hh := HH.out.has i k (by omega) hk
    have HE0 : Hid (stateE m.cores i k = 0) := h0
    by_cases e : m.has i k = 0
    · have HS : Hid (m.evictS i k = m) := by show _ = _; unfold RM.evictS; rw [if_neg (fun h => h.2 e)]
      rw [e] at hh
      clear h0 h1 e
      go_enter Try.func53, Try.ntmps53
      go_wp2_with fail
      refine (refState_any y m i k _ hc4 HH.out).mono ?_
      rintro e w1 ⟨rfl, rfl⟩
      rw [HE0.out]
      go_wp2
      go_ret
      exact ⟨ret_int HE0.out.symm, by rw [HS.out]; exact HH.out, Upd.refl _ _⟩
    · obtain ⟨j, hj⟩ := HFD.out i k hi hk e
      have HS : Hid (m.evictS i k = m.losesS i k ((m.firsts i).lo k + j)) := by
        show _ = _
        unfold RM.evictS
        rw [if_pos ⟨h0, e⟩]
        show m.loseAt i k = _
        unfold RM.loseAt
        rw [hj]
      have HJ : Hid ((m.firsts i).find k = some j) := hj
      have hb : (m.has i k != 0) = true := by simpa using e
      clear h0 h1 e hj
      go_enter Try.func53, Try.ntmps53
      go_wp2_with fail
      refine (refState_any y m i k _ hc4 HH.out).mono ?_
      rintro e w1 ⟨rfl, rfl⟩
      rw [HE0.out]
      go_wp2_with fail
      refine (refLoses_any y m i k j _ hi hc4 hk (HOK.out i) HJ.out _ rfl HH.out).mono ?_
      rintro e w2 ⟨rfl, hs2, hu2⟩
      have HS2 : Hid _ := hs2
      have HU2 : Hid _ := hu2
      clear hs2 hu2
      go_wp2
      go_ret
      exact ⟨ret_int HE0.out.symm, by rw [HS.out]; exact HS2.out, HU2.out⟩
  · have HS : Hid (m.evictS c l = m) := by show _ = _; unfold RM.evictS; rw [if_neg (fun h => h0 h.1)]
    have hb : (stateE m.cores c l == 0) = false := by simpa using h0
    clear h0
    go_enter Try.func53, Try.ntmps53
    go_wp2_with fail
    refine (refState_any y m c l _ hc4 HH.out).mono ?_
    rintro e w1 ⟨rfl, rfl⟩
    generalize hst : stateE m.cores c l = st at *
    have HST : Hid (stateE m.cores c l = st) := hst
    clear hst
    go_wp2
    go_ret
    exact ⟨ret_int HST.out.symm, by rw [HS.out]; exact HH.out, Upd.refl _ _⟩

/-- what a load tells the first k cores -/
def RM.shareK (m : RM) (l : Nat) : Nat → RM
  | 0 => m
  | k + 1 => if m.has k l = 0 then m.shareK l k else if m.has k l = 3 then { (m.shareK l k).late l with has := updH (m.shareK l k).has k l 1 } else { m.shareK l k with has := updH (m.shareK l k).has k l 1 }
def RM.shareV (m : RM) (l : Nat) : Nat → Int
  | 0 => 2
  | k + 1 => if m.has k l = 0 then m.shareV l k else 1

theorem RM.shareK_keep (m : RM) (l : Nat) : ∀ k, (m.shareK l k).cores = m.cores ∧ (m.shareK l k).conf = m.conf ∧ (m.shareK l k).firsts = m.firsts ∧ (m.shareK l k).far = m.far ∧ (m.shareK l k).words = m.words ∧ (m.shareK l k).mem = m.mem ∧ (m.shareK l k).tally = m.tally ∧
    (∀ i, k ≤ i → ∀ x, (m.shareK l k).has i x = m.has i x)
  | 0 => ⟨rfl, rfl, rfl, rfl, rfl, rfl, rfl, fun i _ x => rfl⟩
  | k + 1 => by
    obtain ⟨h1, h2, h3, h4, h5, h6, h7, h8⟩ := RM.shareK_keep m l k
    unfold RM.shareK
    split
    · exact ⟨h1, h2, h3, h4, h5, h6, h7, fun i hi x => h8 i (by omega) x⟩
    · split
      · refine ⟨h1, h2, h3, h4, h5, h6, h7, fun i hi x => ?_⟩
        show updH (m.shareK l k).has k l 1 i x = _
        unfold updH; rw [if_neg (by omega)]; exact h8 i (by omega) x
      · refine ⟨h1, h2, h3, h4, h5, h6, h7, fun i hi x => ?_⟩
        show updH (m.shareK l k).has k l 1 i x = _
        unfold updH; rw [if_neg (by omega)]; exact h8 i (by omega) x

end Go.Proofs.Ytobniidkkmlilab

/- The walks over the reference's machine: Load. -/
namespace Go.Proofs.Ytobniidkkmlilab
open Go.RowKit Go.Coh

/-- what fetching a line wants -/
structure FetchPre (m : RM) (l : Nat) : Prop where
  hc : 0 < m.cores ∧ m.cores ≤ 4
  ok : ∀ i, RcOk (m.firsts i)
  okf : RcOk m.far
  hcl : m.far.clock ≤ 4611686018427387904
  hfl : m.far.fills ≤ 4611686018427387904
  ho : (missS m.far l).roomOut l < 64
  hf : 0 ≤ (missS m.far l).roomOut l → ∀ i, i < m.cores → m.has i ((missS m.far l).roomOut l).toNat ≠ 0 → ∃ j, (m.firsts i).find ((missS m.far l).roomOut l) = some j
  ht : ∀ k, 0 ≤ m.tally k ∧ m.tally k ≤ 2305843009213693952

/-- what putting a line into a first cache wants -/
structure TakePre (m : RM) (c l : Nat) : Prop where
  ok : RcOk (m.firsts c)
  hcl : (m.firsts c).clock ≤ 4611686018427387904
  hfl : (m.firsts c).fills ≤ 4611686018427387904
  ho : (m.firsts c).roomOut l < 64
  hv : 0 ≤ (m.firsts c).roomOut l → ∃ j, ((m.firsts c).roomS l).find ((m.firsts c).roomOut l) = some j

def RM.loadFar (m : RM) (c l : Nat) : RM := ((m.fetchedS l).shareK l m.cores).takenS c l ((m.fetchedS l).shareV l m.cores)
def RM.loadS (m : RM) (c l : Nat) : RM := if (m.bump 0).nearB c l then (m.bump 0).nearS c l else (m.bump 0).loadFar c l
def RM.loadW (m : RM) (c l : Nat) : Int := if (m.bump 0).nearB c l then 0 else (m.bump 0).fetchedV l

theorem RM.fetchedS_keep (m : RM) (l : Nat) : (m.fetchedS l).cores = m.cores ∧ (m.fetchedS l).conf = m.conf ∧ (m.fetchedS l).words = m.words := by
  unfold RM.fetchedS
  split
  · exact ⟨rfl, rfl, rfl⟩
  · have := RM.clearedF_keep m l
    exact ⟨this.1, this.2.1, this.2.2.2.1⟩
theorem RM.takenS_words (m : RM) (c l : Nat) (h : Int) : (m.takenS c l h).words = m.words := by
  show (m.cleared c l).words = _
  unfold RM.cleared
  split
  · exact (RM.loseAt_keep (m.roomed c l) c _).2.2.2.2.1
  · rfl
theorem RM.nearS_words (m : RM) (c : Nat) (x : Int) : (m.nearS c x).words = m.words := by
  unfold RM.nearS
  split <;> rfl

set_option maxHeartbeats 1000000 in
theorem refLoad_nil (c a : Int) (w : World) :
    Calls Try.prog 51 #[.pointer none, .int .i64 c, .int .i64 a] w fun e w' => e = .returned (.tuple #[.int .i64 0, .int .i64 0, .int .i64 1]) ∧ w' = w := by
  go_enter Try.func51, Try.ntmps51
  go_wp2_with fail
  refine (refRefuses_nil c a _).mono ?_
  rintro e w1 ⟨rfl, rfl⟩
  go_wp2
  go_ret3
  exact ⟨rfl, rfl⟩

set_option maxHeartbeats 1000000 in
theorem refLoad_bad (y : Lay) (m : RM) (c a : Int) (w : World) (he : refE m.cores c a ≠ 0) (H : RmAt w y m) :
    Calls Try.prog 51 #[.pointer (some ⟨y.blk 0, 0, none⟩), .int .i64 c, .int .i64 a] w fun e w' => e = .returned (.tuple #[.int .i64 0, .int .i64 0, .int .i64 (refE m.cores c a)]) ∧ w' = w := by
  have HH : Hid (RmAt w y m) := H
  have hb : (refE m.cores c a != 0) = true := by simpa using he
  clear H he
  go_enter Try.func51, Try.ntmps51
  go_wp2_with fail
  refine (refRefuses_any y m c a _ HH.out).mono ?_
  rintro e w1 ⟨rfl, rfl⟩
  go_wp2
  go_ret3
  exact ⟨rfl, rfl⟩

set_option maxRecDepth 100000 in
set_option maxHeartbeats 2000000 in
theorem refLoad_good (y : Lay) (m : RM) (c a l : Nat) (w : World) (el : l = a / 4) (hc : c < m.cores) (hc4 : m.cores ≤ 4) (ha : a < 256) (ok : RmOk (m.bump 0) 4611686018427387904) (ht0 : 0 ≤ m.tally 0 ∧ m.tally 0 ≤ 4611686018427387904)
    (P : (m.bump 0).nearB c l = false → FetchPre (m.bump 0) l ∧ TakePre (((m.bump 0).fetchedS l).shareK l m.cores) c l) (H : RmAt w y m) :
    Calls Try.prog 51 #[.pointer (some ⟨y.blk 0, 0, none⟩), .int .i64 c, .int .i64 a] w fun e w' => e = .returned (.tuple #[.int .i64 (m.words a), .int .i64 (m.loadW c l), .int .i64 0]) ∧ RmAt w' y (m.loadS c l) ∧ Upd (rmS y m.cores) w w' := by
  have HH : Hid (RmAt w y m) := H
  have HR : Hid (refE m.cores c a = 0) := by show _ = _; unfold refE; rw [if_neg (by omega), if_neg (by omega)]
  have HM0 : Hid (RmAt (w.setCell ⟨y.blk 0, 841, none⟩ (.int .i64 (m.tally 0 + 1))) y (m.bump 0)) := H.setTally 0 (by omega) (m.tally 0 + 1)
  have HU0 : Hid (Upd (rmS y m.cores) w (w.setCell ⟨y.blk 0, 841, none⟩ (.int .i64 (m.tally 0 + 1)))) := (Upd.refl _ _).setCell (fun _ => rmS_0 _) _
  have h0 := H.tally.c 0 (by omega)
  have h0f := H.tally.f 0 (by omega)
  have HOK : Hid (RmOk (m.bump 0) 4611686018427387904) := ok
  have HP : Hid ((m.bump 0).nearB c l = false → FetchPre (m.bump 0) l ∧ TakePre (((m.bump 0).fetchedS l).shareK l m.cores) c l) := P
  have hdiv : ((a : Int)).tdiv 4 = (l : Int) := by rw [Int.tdiv_eq_ediv_of_nonneg (by omega)]; omega
  have hl : l < 64 := by omega
  have HLS : Hid (m.loadS c l = if (m.bump 0).nearB c l then (m.bump 0).nearS c l else (m.bump 0).loadFar c l) := rfl
  have HLW : Hid (m.loadW c l = if (m.bump 0).nearB c l then 0 else (m.bump 0).fetchedV l) := rfl
  have HW0 : Hid ((m.bump 0).words = m.words) := rfl
  have HC0 : Hid ((m.bump 0).cores = m.cores) := rfl
  clear H ok P el
  go_enter Try.func51, Try.ntmps51
  go_wp2_with fail
  refine (refRefuses_any y m c a _ HH.out).mono ?_
  rintro e w1 ⟨rfl, rfl⟩
  rw [HR.out]
  go_wp2_with fail
  refine (refNear_any y (m.bump 0) c l _ hc (by omega) (by omega) HOK.out HM0.out).mono ?_
  rintro e w2 ⟨rfl, hs2, hu2⟩
  have HS2 : Hid (RmAt w2 y ((m.bump 0).nearS c l)) := hs2
  have HU2 : Hid (Upd (rmS y m.cores) w1 w2) := HU0.out.trans hu2
  clear hs2 hu2 h0 h0f
  cases hn : (m.bump 0).nearB c l with
  | true =>
    have HLS2 : Hid (m.loadS c l = (m.bump 0).nearS c l) := by show _ = _; rw [HLS.out, if_pos hn]
    have HLW2 : Hid (m.loadW c l = 0) := by show _ = _; rw [HLW.out, if_pos hn]
    have g1 := HS2.out.words.c a ha
    rw [RM.nearS_words, HW0.out] at g1
    clear hn
    go_wp2
    go_ret3
    exact ⟨by rw [HLW2.out]; rfl, by rw [HLS2.out]; exact HS2.out, HU2.out⟩
  | false =>
    have HLS2 : Hid (m.loadS c l = (((m.bump 0).fetchedS l).shareK l m.cores).takenS c l (((m.bump 0).fetchedS l).shareV l m.cores)) := by show _ = _; rw [HLS.out, if_neg (by rw [hn]; exact Bool.false_ne_true)]; rfl
    have HLW2 : Hid (m.loadW c l = (m.bump 0).fetchedV l) := by show _ = _; rw [HLW.out, if_neg (by rw [hn]; exact Bool.false_ne_true)]
    have PF : Hid (FetchPre (m.bump 0) l) := (HP.out hn).1
    have PT : Hid (TakePre (((m.bump 0).fetchedS l).shareK l m.cores) c l) := (HP.out hn).2
    have ens : (m.bump 0).nearS c l = m.bump 0 := by
      unfold RM.nearB at hn
      unfold RM.nearS
      cases hfd : ((m.bump 0).firsts c).find l with
      | none => rfl
      | some j => rw [hfd] at hn; exact absurd hn (fun h => Bool.noConfusion h)
    have HS3 : Hid (RmAt w2 y (m.bump 0)) := by show RmAt _ _ _; rw [← ens]; exact HS2.out
    clear hn HP HLS HLW ens HS2
    go_wp2_with fail
    refine (refFetched_any y (m.bump 0) l _ PF.out.hc hl PF.out.ok PF.out.okf PF.out.hcl PF.out.hfl PF.out.ho PF.out.hf PF.out.ht HS3.out).mono ?_
    rintro e w3 ⟨rfl, hs3, hu3⟩
    have HS4 : Hid (RmAt w3 y ((m.bump 0).fetchedS l)) := hs3
    have HU4 : Hid (Upd (rmS y m.cores) w1 w3) := HU2.out.trans hu3
    have HK4 : Hid (((m.bump 0).fetchedS l).cores = m.cores ∧ ((m.bump 0).fetchedS l).words = m.words) := ⟨(RM.fetchedS_keep (m.bump 0) l).1, (RM.fetchedS_keep (m.bump 0) l).2.2⟩
    clear hs3 hu3 HS3 HU2 PF
    generalize (m.bump 0).fetchedV l = fv at *
    generalize (m.bump 0).fetchedS l = m4 at *
    go_wp2_with fail
    go_loopw [13, 14] (fun h i wr => ∃ k : Nat, k ≤ m.cores ∧ i = .int .i64 k ∧ h = .int .i64 (m4.shareV l k) ∧ RmAt wr y (m4.shareK l k) ∧ Upd (rmS y m.cores) w1 wr) (fun _ i _ => m.cores - (intOf i).toNat)
    case atStart => exact ⟨0, by omega, rfl, rfl, HS4.out, HU4.out⟩
    case round =>
      obtain ⟨k, hk, rfl, rfl, hs, hu⟩ := hrel
      have HS : Hid (RmAt wr y (m4.shareK l k)) := hs
      have HU : Hid (Upd (rmS y m.cores) w1 wr) := hu
      obtain ⟨e1, e2, e3, e4, e5, e6, e7, e8⟩ := RM.shareK_keep m4 l k
      have hcf := hs.conf.c 0 (by omega)
      rw [hs.c0, e1, HK4.out.1] at hcf
      by_cases hlt : k < m.cores
      · have hh := hs.has k l (by omega) hl
        have hhf := hs.bf (9 + k * 64 + l)
        rw [e8 k (Nat.le_refl _) l] at hh
        have g2 := hs.lasts.c l hl
        have g2f := hs.lasts.f l hl
        by_cases z : m4.has k l = 0
        · have HD : Hid (m4.shareK l (k + 1) = m4.shareK l k) := by show (if m4.has k l = 0 then _ else _) = _; rw [if_pos z]
          have HDV : Hid (m4.shareV l (k + 1) = m4.shareV l k) := by show (if m4.has k l = 0 then _ else _) = _; rw [if_pos z]
          rw [z] at hh
          clear hs hu z e1 e2 e3 e4 e5 e6 e7 e8
          generalize m4.shareV l k = sv at *
          go_wp2
          go_roundw
          case rel => exact ⟨k + 1, by omega, by go_num, by rw [HDV.out], by rw [HD.out]; exact HS.out, HU.out⟩
          case measure => simp [intOf]; omega
        · have HDV : Hid (m4.shareV l (k + 1) = 1) := by show (if m4.has k l = 0 then _ else _) = _; rw [if_neg z]
          have hb : (m4.has k l == 0) = false := by simpa using z
          by_cases z3 : m4.has k l = 3
          · have HD : Hid (m4.shareK l (k + 1) = { (m4.shareK l k).late l with has := updH (m4.shareK l k).has k l 1 }) := by show (if m4.has k l = 0 then _ else _) = _; rw [if_neg z, if_pos z3]
            have HM5 : Hid (RmAt (wr.setCell ⟨y.blk 0, 265 + l, none⟩ (.int .i64 2)) y ((m4.shareK l k).late l)) := hs.setLasts l hl 2
            have g5 := HM5.out.has k l (by omega) hl
            rw [z3] at hh hb
            clear hs hu z z3 e1 e2 e3 e4 e5 e6 e7 e8
            go_wp2
            go_roundw
            case rel => exact ⟨k + 1, by omega, by go_num, by rw [HDV.out], by rw [HD.out]; exact HM5.out.setHas k l (by omega) hl 1, (HU.out.setCell (fun _ => rmS_0 _) _).setCell (fun _ => rmS_0 _) _⟩
            case measure => simp [intOf]; omega
          · have HD : Hid (m4.shareK l (k + 1) = { m4.shareK l k with has := updH (m4.shareK l k).has k l 1 }) := by show (if m4.has k l = 0 then _ else _) = _; rw [if_neg z, if_neg z3]
            have hb3 : (m4.has k l == 3) = false := by simpa using z3
            clear hs hu z z3 e1 e2 e3 e4 e5 e6 e7 e8
            go_wp2
            go_roundw
            case rel => exact ⟨k + 1, by omega, by go_num, by rw [HDV.out], by rw [HD.out]; exact HS.out.setHas k l (by omega) hl 1, HU.out.setCell (fun _ => rmS_0 _) _⟩
            case measure => simp [intOf]; omega
      · have hkc : k = m.cores := by omega
        subst hkc
        have HC5 : Hid ((m4.shareK l m.cores).cores = m.cores) := e1.trans HK4.out.1
        have HW5 : Hid ((m4.shareK l m.cores).words = m.words) := e5.trans HK4.out.2
        clear hs hu e1 e2 e3 e4 e5 e6 e7 e8
        generalize m4.shareV l m.cores = sv at *
        generalize m4.shareK l m.cores = m5 at *
        have hc5 : c < m5.cores := by rw [HC5.out]; exact hc
        have hc54 : m5.cores ≤ 4 := by rw [HC5.out]; exact hc4
        go_wp2_with fail
        refine (refTaken_any y m5 c l sv _ hc5 hc54 hl PT.out.ok PT.out.hcl PT.out.hfl PT.out.ho PT.out.hv HS.out).mono ?_
        rintro e w6 ⟨rfl, hs6, hu6⟩
        rw [HC5.out] at hu6
        have HS6 : Hid _ := hs6
        have HU6 : Hid _ := HU.out.trans hu6
        have g6 := hs6.words.c a ha
        rw [RM.takenS_words, HW5.out] at g6
        clear hs6 hu6
        go_wp2
        go_ret3
        exact ⟨by rw [HLW2.out]; rfl, by rw [HLS2.out]; exact HS6.out, HU6.out⟩

end Go.Proofs.Ytobniidkkmlilab
