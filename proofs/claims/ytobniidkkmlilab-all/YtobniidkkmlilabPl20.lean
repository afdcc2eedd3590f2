import Derived.Test.YtobniidkkmlilabPl18

/- The walks over the reference's machine: Store. -/
namespace Go.Proofs.Ytobniidkkmlilab
open Go.RowKit Go.Coh

/-- what a store takes from the first k cores -/
def RM.takeK (m : RM) (c l : Nat) : Nat → RM
  | 0 => m
  | k + 1 => if k ≠ c ∧ m.has k l ≠ 0 then ((m.takeK c l k).loseAt k l).bump 6 else m.takeK c l k

theorem RM.takeK_keep (m : RM) (c l : Nat) : ∀ k, (m.takeK c l k).cores = m.cores ∧ (m.takeK c l k).conf = m.conf ∧ (m.takeK c l k).far = m.far ∧ (m.takeK c l k).words = m.words ∧ (m.takeK c l k).mem = m.mem ∧
    (m.tally 6 ≤ (m.takeK c l k).tally 6 ∧ (m.takeK c l k).tally 6 ≤ m.tally 6 + k) ∧ (∀ j, j ≠ 6 → (m.takeK c l k).tally j = m.tally j) ∧ (∀ i, k ≤ i ∨ i = c → (m.takeK c l k).firsts i = m.firsts i ∧ ∀ x, (m.takeK c l k).has i x = m.has i x)
  | 0 => ⟨rfl, rfl, rfl, rfl, rfl, ⟨by show m.tally 6 ≤ m.tally 6; omega, by show m.tally 6 ≤ m.tally 6 + ((0 : Nat) : Int); omega⟩, fun _ _ => rfl, fun i _ => ⟨rfl, fun _ => rfl⟩⟩
  | k + 1 => by
    obtain ⟨h1, h2, h3, h4, h5, h6, h7, h8⟩ := RM.takeK_keep m c l k
    unfold RM.takeK
    split
    · rename_i hkc
      obtain ⟨g1, g2, g3, g4, g5, g6, g7⟩ := RM.loseAt_keep (m.takeK c l k) k l
      have t6 : ((((m.takeK c l k).loseAt k l).bump 6).tally 6) = (m.takeK c l k).tally 6 + 1 := by
        show upd ((m.takeK c l k).loseAt k l).tally 6 (((m.takeK c l k).loseAt k l).tally 6 + 1) 6 = _
        unfold upd; rw [if_pos rfl, g4]
      refine ⟨g1.trans h1, g2.trans h2, g3.trans h3, g5.trans h4, g6.trans h5, ⟨by rw [t6]; omega, by rw [t6]; omega⟩, fun j hj => ?_, fun i hi => ⟨?_, fun x => ?_⟩⟩
      · show upd ((m.takeK c l k).loseAt k l).tally 6 (((m.takeK c l k).loseAt k l).tally 6 + 1) j = _
        unfold upd; rw [if_neg hj, g4]; exact h7 j hj
      · exact ((g7 i (by rcases hi with hi | hi; omega; rw [hi]; exact Ne.symm hkc.1)).1).trans (h8 i (by omega)).1
      · exact ((g7 i (by rcases hi with hi | hi; omega; rw [hi]; exact Ne.symm hkc.1)).2 x).trans ((h8 i (by omega)).2 x)
    · exact ⟨h1, h2, h3, h4, h5, by omega, h7, fun i hi => h8 i (by omega)⟩

def RM.upgr (m : RM) (c l : Nat) : RM := if m.has c l = 1 then m.bump 5 else m
def RM.storeNear (m : RM) (c l : Nat) : RM :=
  let m3 := ((m.nearS c l).upgr c l).takeK c l m.cores
  { m3 with has := updH m3.has c l 3 }
def RM.storeFar (m : RM) (c l : Nat) : RM := ((m.fetchedS l).takeK c l m.cores).takenS c l 3
def RM.storeM (m : RM) (c l : Nat) : RM := if (m.bump 1).nearB c l then (m.bump 1).storeNear c l else (m.bump 1).storeFar c l
def RM.storeS (m : RM) (c l a : Nat) (v : Int) : RM := { m.storeM c l with words := upd (m.storeM c l).words a v }
def RM.storeW (m : RM) (c l : Nat) : Int := if (m.bump 1).nearB c l then 0 else (m.bump 1).fetchedV l

theorem RM.nearS_keep (m : RM) (c : Nat) (x : Int) : (m.nearS c x).cores = m.cores ∧ (m.nearS c x).has = m.has ∧ (∀ k, k ≠ 2 → (m.nearS c x).tally k = m.tally k) := by
  unfold RM.nearS
  split
  · refine ⟨rfl, rfl, fun k hk => ?_⟩
    show upd m.tally 2 _ k = _
    unfold upd; rw [if_neg hk]
  · exact ⟨rfl, rfl, fun k _ => rfl⟩

/-- what taking a line from the others wants -/
structure LosePre (m : RM) (c l : Nat) : Prop where
  ok : ∀ i, RcOk (m.firsts i)
  hf : ∀ i, i < m.cores → i ≠ c → m.has i l ≠ 0 → ∃ j, (m.firsts i).find l = some j
  ht : 0 ≤ m.tally 6 ∧ m.tally 6 ≤ 4611686018427387904

set_option maxHeartbeats 1000000 in
theorem refStore_nil (c a v : Int) (w : World) :
    Calls Try.prog 52 #[.pointer none, .int .i64 c, .int .i64 a, .int .i64 v] w fun e w' => e = .returned (.tuple #[.int .i64 0, .int .i64 1]) ∧ w' = w := by
  go_enter Try.func52, Try.ntmps52
  go_wp2_with fail
  refine (refRefuses_nil c a _).mono ?_
  rintro e w1 ⟨rfl, rfl⟩
  go_wp2
  go_ret2
  exact ⟨rfl, rfl⟩

set_option maxHeartbeats 1000000 in
theorem refStore_bad (y : Lay) (m : RM) (c a v : Int) (w : World) (he : refE m.cores c a ≠ 0) (H : RmAt w y m) :
    Calls Try.prog 52 #[.pointer (some ⟨y.blk 0, 0, none⟩), .int .i64 c, .int .i64 a, .int .i64 v] w fun e w' => e = .returned (.tuple #[.int .i64 0, .int .i64 (refE m.cores c a)]) ∧ w' = w := by
  have HH : Hid (RmAt w y m) := H
  have hb : (refE m.cores c a != 0) = true := by simpa using he
  clear H he
  go_enter Try.func52, Try.ntmps52
  go_wp2_with fail
  refine (refRefuses_any y m c a _ HH.out).mono ?_
  rintro e w1 ⟨rfl, rfl⟩
  go_wp2
  go_ret2
  exact ⟨rfl, rfl⟩

set_option maxRecDepth 100000 in
set_option maxHeartbeats 4000000 in
theorem refStore_good (y : Lay) (m : RM) (c a l : Nat) (v : Int) (w : World) (el : l = a / 4) (hc : c < m.cores) (hc4 : m.cores ≤ 4) (ha : a < 256) (ok : RmOk (m.bump 1) 4611686018427387904) (ht1 : 0 ≤ m.tally 1 ∧ m.tally 1 ≤ 4611686018427387904)
    (P : (m.bump 1).nearB c l = false → FetchPre (m.bump 1) l ∧ LosePre ((m.bump 1).fetchedS l) c l ∧ TakePre (((m.bump 1).fetchedS l).takeK c l m.cores) c l)
    (Q : (m.bump 1).nearB c l = true → LosePre (((m.bump 1).nearS c l).upgr c l) c l) (H : RmAt w y m) :
    Calls Try.prog 52 #[.pointer (some ⟨y.blk 0, 0, none⟩), .int .i64 c, .int .i64 a, .int .i64 v] w fun e w' => e = .returned (.tuple #[.int .i64 (m.storeW c l), .int .i64 0]) ∧ RmAt w' y (m.storeS c l a v) ∧ Upd (rmS y m.cores) w w' := by
  have HH : Hid (RmAt w y m) := H
  have HR : Hid (refE m.cores c a = 0) := by show _ = _; unfold refE; rw [if_neg (by omega), if_neg (by omega)]
  have HM0 : Hid (RmAt (w.setCell ⟨y.blk 0, 842, none⟩ (.int .i64 (m.tally 1 + 1))) y (m.bump 1)) := H.setTally 1 (by omega) (m.tally 1 + 1)
  have HU0 : Hid (Upd (rmS y m.cores) w (w.setCell ⟨y.blk 0, 842, none⟩ (.int .i64 (m.tally 1 + 1)))) := (Upd.refl _ _).setCell (fun _ => rmS_0 _) _
  have h0 := H.tally.c 1 (by omega)
  have h0f := H.tally.f 1 (by omega)
  have HOK : Hid (RmOk (m.bump 1) 4611686018427387904) := ok
  have HP : Hid ((m.bump 1).nearB c l = false → FetchPre (m.bump 1) l ∧ LosePre ((m.bump 1).fetchedS l) c l ∧ TakePre (((m.bump 1).fetchedS l).takeK c l m.cores) c l) := P
  have HQ : Hid ((m.bump 1).nearB c l = true → LosePre (((m.bump 1).nearS c l).upgr c l) c l) := Q
  have hdiv : ((a : Int)).tdiv 4 = (l : Int) := by rw [Int.tdiv_eq_ediv_of_nonneg (by omega)]; omega
  have hl : l < 64 := by omega
  have HSS : Hid (m.storeS c l a v = { m.storeM c l with words := upd (m.storeM c l).words a v }) := rfl
  have HLS : Hid (m.storeM c l = if (m.bump 1).nearB c l then (m.bump 1).storeNear c l else (m.bump 1).storeFar c l) := rfl
  have HLW : Hid (m.storeW c l = if (m.bump 1).nearB c l then 0 else (m.bump 1).fetchedV l) := rfl
  clear H ok P Q el
  go_enter Try.func52, Try.ntmps52
  go_wp2_with fail
  refine (refRefuses_any y m c a _ HH.out).mono ?_
  rintro e w1 ⟨rfl, rfl⟩
  rw [HR.out]
  go_wp2_with fail
  refine (refNear_any y (m.bump 1) c l _ hc (by omega) (by omega) HOK.out HM0.out).mono ?_
  rintro e w2 ⟨rfl, hs2, hu2⟩
  have HS2 : Hid (RmAt w2 y ((m.bump 1).nearS c l)) := hs2
  have HU2 : Hid (Upd (rmS y m.cores) w1 w2) := HU0.out.trans hu2
  clear hs2 hu2 h0 h0f
  cases hn : (m.bump 1).nearB c l with
  | true =>
    have HLS2 : Hid (m.storeM c l = { (((m.bump 1).nearS c l).upgr c l).takeK c l m.cores with has := updH ((((m.bump 1).nearS c l).upgr c l).takeK c l m.cores).has c l 3 }) := by show _ = _; rw [HLS.out, if_pos hn]; rfl
    have HLW2 : Hid (m.storeW c l = 0) := by show _ = _; rw [HLW.out, if_pos hn]
    have PL : Hid (LosePre (((m.bump 1).nearS c l).upgr c l) c l) := HQ.out hn
    have g1 := HS2.out.has c l (by omega) hl
    have g5 := HS2.out.tally.c 5 (by omega)
    have g5f := HS2.out.tally.f 5 (by omega)
    have HC2 : Hid (((m.bump 1).nearS c l).cores = m.cores) := (RM.nearS_keep (m.bump 1) c l).1
    have t5 : 0 ≤ ((m.bump 1).nearS c l).tally 5 ∧ ((m.bump 1).nearS c l).tally 5 ≤ 4611686018427387904 := by rw [(RM.nearS_keep (m.bump 1) c l).2.2 5 (by omega)]; exact HOK.out.tally 5
    clear hn HP HQ HLS HLW HM0 HU0 HOK
    generalize (m.bump 1).nearS c l = m2 at *
    by_cases e1 : m2.has c l = 1
    · have HUP : Hid (m2.upgr c l = m2.bump 5) := by show _ = _; unfold RM.upgr; rw [if_pos e1]
      have HS4 : Hid (RmAt (w2.setCell ⟨y.blk 0, 846, none⟩ (.int .i64 (m2.tally 5 + 1))) y (m2.upgr c l)) := by rw [HUP.out]; exact HS2.out.setTally 5 (by omega) _
      have HU4 : Hid (Upd (rmS y m.cores) w1 (w2.setCell ⟨y.blk 0, 846, none⟩ (.int .i64 (m2.tally 5 + 1)))) := HU2.out.setCell (fun _ => rmS_0 _) _
      have HK4 : Hid ((m2.upgr c l).cores = m.cores) := by show _ = _; rw [HUP.out]; exact HC2.out
      rw [e1] at g1
      clear e1 HUP HC2 HS2 HU2
      generalize m2.upgr c l = m4 at *
      go_wp2_with fail
      go_loopw [14] (fun i wr => ∃ k : Nat, k ≤ m.cores ∧ i = .int .i64 k ∧ RmAt wr y (m4.takeK c l k) ∧ Upd (rmS y m.cores) w1 wr) (fun i _ => m.cores - (intOf i).toNat)
      case atStart => exact ⟨0, by omega, rfl, HS4.out, HU4.out⟩
      case round =>
        obtain ⟨k, hk, rfl, hs, hu⟩ := hrel
        have HS : Hid (RmAt wr y (m4.takeK c l k)) := hs
        have HU : Hid (Upd (rmS y m.cores) w1 wr) := hu
        obtain ⟨e1, e2, e3, e4, e5, e6, e7, e8⟩ := RM.takeK_keep m4 c l k
        have hcf := hs.conf.c 0 (by omega)
        rw [hs.c0, e1, HK4.out] at hcf
        have t6 := PL.out.ht
        by_cases hlt : k < m.cores
        · have hh := hs.has k l (by omega) hl
          rw [(e8 k (.inl (Nat.le_refl _))).2 l] at hh
          by_cases z : k ≠ c ∧ m4.has k l ≠ 0
          · obtain ⟨j, hj⟩ := PL.out.hf k (by rw [HK4.out]; exact hlt) z.1 z.2
            have HD : Hid (m4.takeK c l (k + 1) = ((m4.takeK c l k).losesS k l (((m4.takeK c l k).firsts k).lo l + j)).bump 6) := by
              show (if k ≠ c ∧ m4.has k l ≠ 0 then _ else _) = _
              rw [if_pos z]
              unfold RM.loseAt
              rw [(e8 k (.inl (Nat.le_refl _))).1, hj]
            have HJ : Hid (((m4.takeK c l k).firsts k).find l = some j) := by show _ = _; rw [(e8 k (.inl (Nat.le_refl _))).1]; exact hj
            have HOK' : Hid (RcOk ((m4.takeK c l k).firsts k)) := by show RcOk _; rw [(e8 k (.inl (Nat.le_refl _))).1]; exact PL.out.ok k
            have HE1 : Hid ((m4.takeK c l k).cores = m.cores) := e1.trans HK4.out
            have hcc : k < (m4.takeK c l k).cores := by rw [HE1.out]; exact hlt
            have hcc4 : (m4.takeK c l k).cores ≤ 4 := by rw [HE1.out]; exact hc4
            have hb : (m4.has k l != 0) = true := by simpa using z.2
            have hbk : ((k : Int) != (c : Int)) = true := by have := z.1; simp; omega
            clear hs hu z e1 e2 e3 e4 e5 e7 e8 hj
            go_wp2_with fail
            refine (refLoses_any y (m4.takeK c l k) k l j wr hcc hcc4 hl HOK'.out HJ.out _ rfl HS.out).mono ?_
            rintro e w7 ⟨rfl, hs1, hu1⟩
            rw [HE1.out] at hu1
            have q1 := hs1.tally.c 6 (by omega)
            have q1f := hs1.tally.f 6 (by omega)
            have HS1 : Hid _ := hs1
            have HU1 : Hid _ := HU.out.trans hu1
            rw [(RM.losesS_keep (m4.takeK c l k) k l _).2.2.2.1] at q1
            clear hs1 hu1
            go_wp2
            go_roundw
            case rel =>
              refine ⟨k + 1, by omega, by go_num, ?_, HU1.out.setCell (fun _ => rmS_0 _) _⟩
              rw [HD.out]
              have R := HS1.out.setTally 6 (by omega) ((m4.takeK c l k).tally 6 + 1)
              unfold RM.bump
              rw [(RM.losesS_keep (m4.takeK c l k) k l _).2.2.2.1]
              rw [(RM.losesS_keep (m4.takeK c l k) k l _).2.2.2.1] at R
              exact R
            case measure => simp [intOf]; omega
          · have HD : Hid (m4.takeK c l (k + 1) = m4.takeK c l k) := by show (if k ≠ c ∧ m4.has k l ≠ 0 then _ else _) = _; rw [if_neg z]
            by_cases zk : k = c
            · have hbk : ((k : Int) != (c : Int)) = false := by rw [zk]; simp
              clear hs hu z e1 e2 e3 e4 e5 e6 e7 e8 zk
              go_wp2
              go_roundw
              case rel => exact ⟨k + 1, by omega, by go_num, by rw [HD.out]; exact HS.out, HU.out⟩
              case measure => simp [intOf]; omega
            · have hbk : ((k : Int) != (c : Int)) = true := by simp; omega
              have z0 : m4.has k l = 0 := Classical.byContradiction fun h => z ⟨zk, h⟩
              rw [z0] at hh
              clear hs hu z e1 e2 e3 e4 e5 e6 e7 e8 zk z0
              go_wp2
              go_roundw
              case rel => exact ⟨k + 1, by omega, by go_num, by rw [HD.out]; exact HS.out, HU.out⟩
              case measure => simp [intOf]; omega
        · have hkc : k = m.cores := by omega
          subst hkc
          have HC5 : Hid ((m4.takeK c l m.cores).cores = m.cores) := e1.trans HK4.out
          clear hs hu e1 e2 e3 e4 e5 e6 e7 e8
          generalize m4.takeK c l m.cores = m5 at *
          have g7 := HS.out.has c l (by omega) hl
          have g7f := HS.out.bf (9 + c * 64 + l)
          have HM8 : Hid (RmAt (wr.setCell ⟨y.blk 0, 9 + c * 64 + l, none⟩ (.int .i64 3)) y { m5 with has := updH m5.has c l 3 }) := HS.out.setHas c l (by omega) hl 3
          have g8 := HM8.out.words.c a ha
          have g8f := HM8.out.words.f a ha
          go_wp2
          go_ret2
          refine ⟨by rw [HLW2.out]; rfl, ?_, (HU.out.setCell (fun _ => rmS_0 _) _).setCell (fun _ => rmS_0 _) _⟩
          rw [HSS.out, HLS2.out]
          exact HM8.out.setWord a ha v
    · have HUP : Hid (m2.upgr c l = m2) := by show _ = _; unfold RM.upgr; rw [if_neg e1]
      have HS4 : Hid (RmAt w2 y (m2.upgr c l)) := by rw [HUP.out]; exact HS2.out
      have HU4 : Hid (Upd (rmS y m.cores) w1 w2) := HU2.out
      have HK4 : Hid ((m2.upgr c l).cores = m.cores) := by show _ = _; rw [HUP.out]; exact HC2.out
      have hb : (m2.has c l == 1) = false := by simpa using e1
      clear e1 HUP HC2 HS2 HU2
      generalize m2.upgr c l = m4 at *
      go_wp2_with fail
      go_loopw [14] (fun i wr => ∃ k : Nat, k ≤ m.cores ∧ i = .int .i64 k ∧ RmAt wr y (m4.takeK c l k) ∧ Upd (rmS y m.cores) w1 wr) (fun i _ => m.cores - (intOf i).toNat)
      case atStart => exact ⟨0, by omega, rfl, HS4.out, HU4.out⟩
      case round =>
        obtain ⟨k, hk, rfl, hs, hu⟩ := hrel
        have HS : Hid (RmAt wr y (m4.takeK c l k)) := hs
        have HU : Hid (Upd (rmS y m.cores) w1 wr) := hu
        obtain ⟨e1, e2, e3, e4, e5, e6, e7, e8⟩ := RM.takeK_keep m4 c l k
        have hcf := hs.conf.c 0 (by omega)
        rw [hs.c0, e1, HK4.out] at hcf
        have t6 := PL.out.ht
        by_cases hlt : k < m.cores
        · have hh := hs.has k l (by omega) hl
          rw [(e8 k (.inl (Nat.le_refl _))).2 l] at hh
          by_cases z : k ≠ c ∧ m4.has k l ≠ 0
          · obtain ⟨j, hj⟩ := PL.out.hf k (by rw [HK4.out]; exact hlt) z.1 z.2
            have HD : Hid (m4.takeK c l (k + 1) = ((m4.takeK c l k).losesS k l (((m4.takeK c l k).firsts k).lo l + j)).bump 6) := by
              show (if k ≠ c ∧ m4.has k l ≠ 0 then _ else _) = _
              rw [if_pos z]
              unfold RM.loseAt
              rw [(e8 k (.inl (Nat.le_refl _))).1, hj]
            have HJ : Hid (((m4.takeK c l k).firsts k).find l = some j) := by show _ = _; rw [(e8 k (.inl (Nat.le_refl _))).1]; exact hj
            have HOK' : Hid (RcOk ((m4.takeK c l k).firsts k)) := by show RcOk _; rw [(e8 k (.inl (Nat.le_refl _))).1]; exact PL.out.ok k
            have HE1 : Hid ((m4.takeK c l k).cores = m.cores) := e1.trans HK4.out
            have hcc : k < (m4.takeK c l k).cores := by rw [HE1.out]; exact hlt
            have hcc4 : (m4.takeK c l k).cores ≤ 4 := by rw [HE1.out]; exact hc4
            have hb : (m4.has k l != 0) = true := by simpa using z.2
            have hbk : ((k : Int) != (c : Int)) = true := by have := z.1; simp; omega
            clear hs hu z e1 e2 e3 e4 e5 e7 e8 hj
            go_wp2_with fail
            refine (refLoses_any y (m4.takeK c l k) k l j wr hcc hcc4 hl HOK'.out HJ.out _ rfl HS.out).mono ?_
            rintro e w7 ⟨rfl, hs1, hu1⟩
            rw [HE1.out] at hu1
            have q1 := hs1.tally.c 6 (by omega)
            have q1f := hs1.tally.f 6 (by omega)
            have HS1 : Hid _ := hs1
            have HU1 : Hid _ := HU.out.trans hu1
            rw [(RM.losesS_keep (m4.takeK c l k) k l _).2.2.2.1] at q1
            clear hs1 hu1
            go_wp2
            go_roundw
            case rel =>
              refine ⟨k + 1, by omega, by go_num, ?_, HU1.out.setCell (fun _ => rmS_0 _) _⟩
              rw [HD.out]
              have R := HS1.out.setTally 6 (by omega) ((m4.takeK c l k).tally 6 + 1)
              unfold RM.bump
              rw [(RM.losesS_keep (m4.takeK c l k) k l _).2.2.2.1]
              rw [(RM.losesS_keep (m4.takeK c l k) k l _).2.2.2.1] at R
              exact R
            case measure => simp [intOf]; omega
          · have HD : Hid (m4.takeK c l (k + 1) = m4.takeK c l k) := by show (if k ≠ c ∧ m4.has k l ≠ 0 then _ else _) = _; rw [if_neg z]
            by_cases zk : k = c
            · have hbk : ((k : Int) != (c : Int)) = false := by rw [zk]; simp
              clear hs hu z e1 e2 e3 e4 e5 e6 e7 e8 zk
              go_wp2
              go_roundw
              case rel => exact ⟨k + 1, by omega, by go_num, by rw [HD.out]; exact HS.out, HU.out⟩
              case measure => simp [intOf]; omega
            · have hbk : ((k : Int) != (c : Int)) = true := by simp; omega
              have z0 : m4.has k l = 0 := Classical.byContradiction fun h => z ⟨zk, h⟩
              rw [z0] at hh
              clear hs hu z e1 e2 e3 e4 e5 e6 e7 e8 zk z0
              go_wp2
              go_roundw
              case rel => exact ⟨k + 1, by omega, by go_num, by rw [HD.out]; exact HS.out, HU.out⟩
              case measure => simp [intOf]; omega
        · have hkc : k = m.cores := by omega
          subst hkc
          have HC5 : Hid ((m4.takeK c l m.cores).cores = m.cores) := e1.trans HK4.out
          clear hs hu e1 e2 e3 e4 e5 e6 e7 e8
          generalize m4.takeK c l m.cores = m5 at *
          have g7 := HS.out.has c l (by omega) hl
          have g7f := HS.out.bf (9 + c * 64 + l)
          have HM8 : Hid (RmAt (wr.setCell ⟨y.blk 0, 9 + c * 64 + l, none⟩ (.int .i64 3)) y { m5 with has := updH m5.has c l 3 }) := HS.out.setHas c l (by omega) hl 3
          have g8 := HM8.out.words.c a ha
          have g8f := HM8.out.words.f a ha
          go_wp2
          go_ret2
          refine ⟨by rw [HLW2.out]; rfl, ?_, (HU.out.setCell (fun _ => rmS_0 _) _).setCell (fun _ => rmS_0 _) _⟩
          rw [HSS.out, HLS2.out]
          exact HM8.out.setWord a ha v
  | false =>
    have HLS2 : Hid (m.storeM c l = (((m.bump 1).fetchedS l).takeK c l m.cores).takenS c l 3) := by show _ = _; rw [HLS.out, if_neg (by rw [hn]; exact Bool.false_ne_true)]; rfl
    have HLW2 : Hid (m.storeW c l = (m.bump 1).fetchedV l) := by show _ = _; rw [HLW.out, if_neg (by rw [hn]; exact Bool.false_ne_true)]
    have PF : Hid (FetchPre (m.bump 1) l) := (HP.out hn).1
    have PL : Hid (LosePre ((m.bump 1).fetchedS l) c l) := (HP.out hn).2.1
    have PT : Hid (TakePre (((m.bump 1).fetchedS l).takeK c l m.cores) c l) := (HP.out hn).2.2
    have ens : (m.bump 1).nearS c l = m.bump 1 := by
      unfold RM.nearB at hn
      unfold RM.nearS
      cases hfd : ((m.bump 1).firsts c).find l with
      | none => rfl
      | some j => rw [hfd] at hn; exact absurd hn (fun h => Bool.noConfusion h)
    have HS3 : Hid (RmAt w2 y (m.bump 1)) := by show RmAt _ _ _; rw [← ens]; exact HS2.out
    clear hn HP HQ HLS HLW ens HS2
    go_wp2_with fail
    refine (refFetched_any y (m.bump 1) l _ PF.out.hc hl PF.out.ok PF.out.okf PF.out.hcl PF.out.hfl PF.out.ho PF.out.hf PF.out.ht HS3.out).mono ?_
    rintro e w3 ⟨rfl, hs3, hu3⟩
    have HS4 : Hid (RmAt w3 y ((m.bump 1).fetchedS l)) := hs3
    have HU4 : Hid (Upd (rmS y m.cores) w1 w3) := HU2.out.trans hu3
    have HK4 : Hid (((m.bump 1).fetchedS l).cores = m.cores) := (RM.fetchedS_keep (m.bump 1) l).1
    clear hs3 hu3 HS3 HU2 PF
    generalize (m.bump 1).fetchedV l = fv at *
    generalize (m.bump 1).fetchedS l = m4 at *
    go_wp2_with fail
    go_loopw [14] (fun i wr => ∃ k : Nat, k ≤ m.cores ∧ i = .int .i64 k ∧ RmAt wr y (m4.takeK c l k) ∧ Upd (rmS y m.cores) w1 wr) (fun i _ => m.cores - (intOf i).toNat)
    case atStart => exact ⟨0, by omega, rfl, HS4.out, HU4.out⟩
    case round =>
      obtain ⟨k, hk, rfl, hs, hu⟩ := hrel
      have HS : Hid (RmAt wr y (m4.takeK c l k)) := hs
      have HU : Hid (Upd (rmS y m.cores) w1 wr) := hu
      obtain ⟨e1, e2, e3, e4, e5, e6, e7, e8⟩ := RM.takeK_keep m4 c l k
      have hcf := hs.conf.c 0 (by omega)
      rw [hs.c0, e1, HK4.out] at hcf
      have t6 := PL.out.ht
      by_cases hlt : k < m.cores
      · have hh := hs.has k l (by omega) hl
        rw [(e8 k (.inl (Nat.le_refl _))).2 l] at hh
        by_cases z : k ≠ c ∧ m4.has k l ≠ 0
        · obtain ⟨j, hj⟩ := PL.out.hf k (by rw [HK4.out]; exact hlt) z.1 z.2
          have HD : Hid (m4.takeK c l (k + 1) = ((m4.takeK c l k).losesS k l (((m4.takeK c l k).firsts k).lo l + j)).bump 6) := by
            show (if k ≠ c ∧ m4.has k l ≠ 0 then _ else _) = _
            rw [if_pos z]
            unfold RM.loseAt
            rw [(e8 k (.inl (Nat.le_refl _))).1, hj]
          have HJ : Hid (((m4.takeK c l k).firsts k).find l = some j) := by show _ = _; rw [(e8 k (.inl (Nat.le_refl _))).1]; exact hj
          have HOK' : Hid (RcOk ((m4.takeK c l k).firsts k)) := by show RcOk _; rw [(e8 k (.inl (Nat.le_refl _))).1]; exact PL.out.ok k
          have HE1 : Hid ((m4.takeK c l k).cores = m.cores) := e1.trans HK4.out
          have hcc : k < (m4.takeK c l k).cores := by rw [HE1.out]; exact hlt
          have hcc4 : (m4.takeK c l k).cores ≤ 4 := by rw [HE1.out]; exact hc4
          have hb : (m4.has k l != 0) = true := by simpa using z.2
          have hbk : ((k : Int) != (c : Int)) = true := by have := z.1; simp; omega
          clear hs hu z e1 e2 e3 e4 e5 e7 e8 hj
          go_wp2_with fail
          refine (refLoses_any y (m4.takeK c l k) k l j wr hcc hcc4 hl HOK'.out HJ.out _ rfl HS.out).mono ?_
          rintro e w7 ⟨rfl, hs1, hu1⟩
          rw [HE1.out] at hu1
          have q1 := hs1.tally.c 6 (by omega)
          have q1f := hs1.tally.f 6 (by omega)
          have HS1 : Hid _ := hs1
          have HU1 : Hid _ := HU.out.trans hu1
          rw [(RM.losesS_keep (m4.takeK c l k) k l _).2.2.2.1] at q1
          clear hs1 hu1
          go_wp2
          go_roundw
          case rel =>
            refine ⟨k + 1, by omega, by go_num, ?_, HU1.out.setCell (fun _ => rmS_0 _) _⟩
            rw [HD.out]
            have R := HS1.out.setTally 6 (by omega) ((m4.takeK c l k).tally 6 + 1)
            unfold RM.bump
            rw [(RM.losesS_keep (m4.takeK c l k) k l _).2.2.2.1]
            rw [(RM.losesS_keep (m4.takeK c l k) k l _).2.2.2.1] at R
            exact R
          case measure => simp [intOf]; omega
        · have HD : Hid (m4.takeK c l (k + 1) = m4.takeK c l k) := by show (if k ≠ c ∧ m4.has k l ≠ 0 then _ else _) = _; rw [if_neg z]
          by_cases zk : k = c
          · have hbk : ((k : Int) != (c : Int)) = false := by rw [zk]; simp
            clear hs hu z e1 e2 e3 e4 e5 e6 e7 e8 zk
            go_wp2
            go_roundw
            case rel => exact ⟨k + 1, by omega, by go_num, by rw [HD.out]; exact HS.out, HU.out⟩
            case measure => simp [intOf]; omega
          · have hbk : ((k : Int) != (c : Int)) = true := by simp; omega
            have z0 : m4.has k l = 0 := Classical.byContradiction fun h => z ⟨zk, h⟩
            rw [z0] at hh
            clear hs hu z e1 e2 e3 e4 e5 e6 e7 e8 zk z0
            go_wp2
            go_roundw
            case rel => exact ⟨k + 1, by omega, by go_num, by rw [HD.out]; exact HS.out, HU.out⟩
            case measure => simp [intOf]; omega
      · have hkc : k = m.cores := by omega
        subst hkc
        have HC5 : Hid ((m4.takeK c l m.cores).cores = m.cores) := e1.trans HK4.out
        clear hs hu e1 e2 e3 e4 e5 e6 e7 e8
        generalize m4.takeK c l m.cores = m5 at *
        have hc5 : c < m5.cores := by rw [HC5.out]; exact hc
        have hc54 : m5.cores ≤ 4 := by rw [HC5.out]; exact hc4
        go_wp2_with fail
        refine (refTaken_any y m5 c l 3 _ hc5 hc54 hl PT.out.ok PT.out.hcl PT.out.hfl PT.out.ho PT.out.hv HS.out).mono ?_
        rintro e w8 ⟨rfl, hs6, hu6⟩
        rw [HC5.out] at hu6
        have HS6 : Hid _ := hs6
        have HU6 : Hid _ := HU.out.trans hu6
        have g8 := hs6.words.c a ha
        have g8f := hs6.words.f a ha
        clear hs6 hu6
        go_wp2
        go_ret2
        refine ⟨by rw [HLW2.out]; rfl, ?_, HU6.out.setCell (fun _ => rmS_0 _) _⟩
        rw [HSS.out, HLS2.out]
        exact HS6.out.setWord a ha v

end Go.Proofs.Ytobniidkkmlilab
