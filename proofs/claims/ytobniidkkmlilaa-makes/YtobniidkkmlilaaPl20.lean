import Derived.Test.YtobniidkkmlilaaPl19

/- The walks over the reference's machine: Load. -/
namespace Go.Proofs.Ytobniidkkmlilaa
open Go.RowKit Go.Coh

/-- what fetching a line wants -/
structure FetchPre (m : RM) (l : Nat) : Prop where
  hc : 0 < m.cores ∧ m.cores ≤ 4
  ok : ∀ i, RcOk (m.firsts i)
  okf : RcOk m.far
  hcl : m.far.clock ≤ 4611686018427387904
  hfl : m.far.fills ≤ 4611686018427387904
  ho : (missS m.far l).roomOut l < 64
  hf : 0 ≤ (missS m.far l).roomOut l → ∀ i, i < m.cores → m.has i ((missS m.far l).roomOut l).toNat ≠ 0 → ∃ j, (m.firsts i).find ((missS m.far l).roomOut l) = some j
  ht : ∀ k, 0 ≤ m.tally k ∧ m.tally k ≤ 2305843009213693952

/-- what putting a line into a first cache wants -/
structure TakePre (m : RM) (c l : Nat) : Prop where
  ok : RcOk (m.firsts c)
  hcl : (m.firsts c).clock ≤ 4611686018427387904
  hfl : (m.firsts c).fills ≤ 4611686018427387904
  ho : (m.firsts c).roomOut l < 64
  hv : 0 ≤ (m.firsts c).roomOut l → ∃ j, ((m.firsts c).roomS l).find ((m.firsts c).roomOut l) = some j

def RM.loadFar (m : RM) (c l : Nat) : RM := ((m.fetchedS l).shareK l m.cores).takenS c l ((m.fetchedS l).shareV l m.cores)
def RM.loadS (m : RM) (c l : Nat) : RM := if (m.bump 0).nearB c l then (m.bump 0).nearS c l else (m.bump 0).loadFar c l
def RM.loadW (m : RM) (c l : Nat) : Int := if (m.bump 0).nearB c l then 0 else (m.bump 0).fetchedV l

theorem RM.fetchedS_keep (m : RM) (l : Nat) : (m.fetchedS l).cores = m.cores ∧ (m.fetchedS l).conf = m.conf ∧ (m.fetchedS l).words = m.words := by
  unfold RM.fetchedS
  split
  · exact ⟨rfl, rfl, rfl⟩
  · have := RM.clearedF_keep m l
    exact ⟨this.1, this.2.1, this.2.2.2.1⟩
theorem RM.takenS_words (m : RM) (c l : Nat) (h : Int) : (m.takenS c l h).words = m.words := by
  show (m.cleared c l).words = _
  unfold RM.cleared
  split
  · exact (RM.loseAt_keep (m.roomed c l) c _).2.2.2.2.1
  · rfl
theorem RM.nearS_words (m : RM) (c : Nat) (x : Int) : (m.nearS c x).words = m.words := by
  unfold RM.nearS
  split <;> rfl

set_option maxHeartbeats 1000000 in
theorem refLoad_nil (c a : Int) (w : World) :
    Calls Try.prog 77 #[.pointer none, .int .i64 c, .int .i64 a] w fun e w' => e = .returned (.tuple #[.int .i64 0, .int .i64 0, .int .i64 1]) ∧ w' = w := by
  go_enter Try.func77, Try.ntmps77
  go_wp2_with fail
  refine (refRefuses_nil c a _).mono ?_
  rintro e w1 ⟨rfl, rfl⟩
  go_wp2
  go_ret3
  exact ⟨rfl, rfl⟩

set_option maxHeartbeats 1000000 in
theorem refLoad_bad (y : Lay) (m : RM) (c a : Int) (w : World) (he : refE m.cores c a ≠ 0) (H : RmAt w y m) :
    Calls Try.prog 77 #[.pointer (some ⟨y.blk 0, 0, none⟩), .int .i64 c, .int .i64 a] w fun e w' => e = .returned (.tuple #[.int .i64 0, .int .i64 0, .int .i64 (refE m.cores c a)]) ∧ w' = w := by
  have HH : Hid (RmAt w y m) := H
  have hb : (refE m.cores c a != 0) = true := by simpa using he
  clear H he
  go_enter Try.func77, Try.ntmps77
  go_wp2_with fail
  refine (refRefuses_any y m c a _ HH.out).mono ?_
  rintro e w1 ⟨rfl, rfl⟩
  go_wp2
  go_ret3
  exact ⟨rfl, rfl⟩

set_option maxRecDepth 100000 in
set_option maxHeartbeats 2000000 in
theorem refLoad_good (y : Lay) (m : RM) (c a l : Nat) (w : World) (el : l = a / 4) (hc : c < m.cores) (hc4 : m.cores ≤ 4) (ha : a < 256) (ok : RmOk (m.bump 0) 4611686018427387904) (ht0 : 0 ≤ m.tally 0 ∧ m.tally 0 ≤ 4611686018427387904)
    (P : (m.bump 0).nearB c l = false → FetchPre (m.bump 0) l ∧ TakePre (((m.bump 0).fetchedS l).shareK l m.cores) c l) (H : RmAt w y m) :
    Calls Try.prog 77 #[.pointer (some ⟨y.blk 0, 0, none⟩), .int .i64 c, .int .i64 a] w fun e w' => e = .returned (.tuple #[.int .i64 (m.words a), .int .i64 (m.loadW c l), .int .i64 0]) ∧ RmAt w' y (m.loadS c l) ∧ Upd (rmS y m.cores) w w' := by
  have HH : Hid (RmAt w y m) := H
  have HR : Hid (refE m.cores c a = 0) := by show _ = _; unfold refE; rw [if_neg (by omega), if_neg (by omega)]
  have HM0 : Hid (RmAt (w.setCell ⟨y.blk 0, 841, none⟩ (.int .i64 (m.tally 0 + 1))) y (m.bump 0)) := H.setTally 0 (by omega) (m.tally 0 + 1)
  have HU0 : Hid (Upd (rmS y m.cores) w (w.setCell ⟨y.blk 0, 841, none⟩ (.int .i64 (m.tally 0 + 1)))) := (Upd.refl _ _).setCell (fun _ => rmS_0 _) _
  have h0 := H.tally.c 0 (by omega)
  have h0f := H.tally.f 0 (by omega)
  have HOK : Hid (RmOk (m.bump 0) 4611686018427387904) := ok
  have HP : Hid ((m.bump 0).nearB c l = false → FetchPre (m.bump 0) l ∧ TakePre (((m.bump 0).fetchedS l).shareK l m.cores) c l) := P
  have hdiv : ((a : Int)).tdiv 4 = (l : Int) := by rw [Int.tdiv_eq_ediv_of_nonneg (by omega)]; omega
  have hl : l < 64 := by omega
  have HLS : Hid (m.loadS c l = if (m.bump 0).nearB c l then (m.bump 0).nearS c l else (m.bump 0).loadFar c l) := rfl
  have HLW : Hid (m.loadW c l = if (m.bump 0).nearB c l then 0 else (m.bump 0).fetchedV l) := rfl
  have HW0 : Hid ((m.bump 0).words = m.words) := rfl
  have HC0 : Hid ((m.bump 0).cores = m.cores) := rfl
  clear H ok P el
  go_enter Try.func77, Try.ntmps77
  go_wp2_with fail
  refine (refRefuses_any y m c a _ HH.out).mono ?_
  rintro e w1 ⟨rfl, rfl⟩
  rw [HR.out]
  go_wp2_with fail
  refine (refNear_any y (m.bump 0) c l _ hc (by omega) (by omega) HOK.out HM0.out).mono ?_
  rintro e w2 ⟨rfl, hs2, hu2⟩
  have HS2 : Hid (RmAt w2 y ((m.bump 0).nearS c l)) := hs2
  have HU2 : Hid (Upd (rmS y m.cores) w1 w2) := HU0.out.trans hu2
  clear hs2 hu2 h0 h0f
  cases hn : (m.bump 0).nearB c l with
  | true =>
    have HLS2 : Hid (m.loadS c l = (m.bump 0).nearS c l) := by show _ = _; rw [HLS.out, if_pos hn]
    have HLW2 : Hid (m.loadW c l = 0) := by show _ = _; rw [HLW.out, if_pos hn]
    have g1 := HS2.out.words.c a ha
    rw [RM.nearS_words, HW0.out] at g1
    clear hn
    go_wp2
    go_ret3
    exact ⟨by rw [HLW2.out]; rfl, by rw [HLS2.out]; exact HS2.out, HU2.out⟩
  | false =>
    have HLS2 : Hid (m.loadS c l = (((m.bump 0).fetchedS l).shareK l m.cores).takenS c l (((m.bump 0).fetchedS l).shareV l m.cores)) := by show _ = _; rw [HLS.out, if_neg (by rw [hn]; exact Bool.false_ne_true)]; rfl
    have HLW2 : Hid (m.loadW c l = (m.bump 0).fetchedV l) := by show _ = _; rw [HLW.out, if_neg (by rw [hn]; exact Bool.false_ne_true)]
    have PF : Hid (FetchPre (m.bump 0) l) := (HP.out hn).1
    have PT : Hid (TakePre (((m.bump 0).fetchedS l).shareK l m.cores) c l) := (HP.out hn).2
    have ens : (m.bump 0).nearS c l = m.bump 0 := by
      unfold RM.nearB at hn
      unfold RM.nearS
      cases hfd : ((m.bump 0).firsts c).find l with
      | none => rfl
      | some j => rw [hfd] at hn; exact absurd hn (fun h => Bool.noConfusion h)
    have HS3 : Hid (RmAt w2 y (m.bump 0)) := by show RmAt _ _ _; rw [← ens]; exact HS2.out
    clear hn HP HLS HLW ens HS2
    go_wp2_with fail
    refine (refFetched_any y (m.bump 0) l _ PF.out.hc hl PF.out.ok PF.out.okf PF.out.hcl PF.out.hfl PF.out.ho PF.out.hf PF.out.ht HS3.out).mono ?_
    rintro e w3 ⟨rfl, hs3, hu3⟩
    have HS4 : Hid (RmAt w3 y ((m.bump 0).fetchedS l)) := hs3
    have HU4 : Hid (Upd (rmS y m.cores) w1 w3) := HU2.out.trans hu3
    have HK4 : Hid (((m.bump 0).fetchedS l).cores = m.cores ∧ ((m.bump 0).fetchedS l).words = m.words) := ⟨(RM.fetchedS_keep (m.bump 0) l).1, (RM.fetchedS_keep (m.bump 0) l).2.2⟩
    clear hs3 hu3 HS3 HU2 PF
    generalize (m.bump 0).fetchedV l = fv at *
    generalize (m.bump 0).fetchedS l = m4 at *
    go_wp2_with fail
    go_loopw [13, 14] (fun h i wr => ∃ k : Nat, k ≤ m.cores ∧ i = .int .i64 k ∧ h = .int .i64 (m4.shareV l k) ∧ RmAt wr y (m4.shareK l k) ∧ Upd (rmS y m.cores) w1 wr) (fun _ i _ => m.cores - (intOf i).toNat)
    case atStart => exact ⟨0, by omega, rfl, rfl, HS4.out, HU4.out⟩
    case round =>
      obtain ⟨k, hk, rfl, rfl, hs, hu⟩ := hrel
      have HS : Hid (RmAt wr y (m4.shareK l k)) := hs
      have HU : Hid (Upd (rmS y m.cores) w1 wr) := hu
      obtain ⟨e1, e2, e3, e4, e5, e6, e7, e8⟩ := RM.shareK_keep m4 l k
      have hcf := hs.conf.c 0 (by omega)
      rw [hs.c0, e1, HK4.out.1] at hcf
      by_cases hlt : k < m.cores
      · have hh := hs.has k l (by omega) hl
        have hhf := hs.bf (9 + k * 64 + l)
        rw [e8 k (Nat.le_refl _) l] at hh
        have g2 := hs.lasts.c l hl
        have g2f := hs.lasts.f l hl
        by_cases z : m4.has k l = 0
        · have HD : Hid (m4.shareK l (k + 1) = m4.shareK l k) := by show (if m4.has k l = 0 then _ else _) = _; rw [if_pos z]
          have HDV : Hid (m4.shareV l (k + 1) = m4.shareV l k) := by show (if m4.has k l = 0 then _ else _) = _; rw [if_pos z]
          rw [z] at hh
          clear hs hu z e1 e2 e3 e4 e5 e6 e7 e8
          generalize m4.shareV l k = sv at *
          go_wp2
          go_roundw
          case rel => exact ⟨k + 1, by omega, by go_num, by rw [HDV.out], by rw [HD.out]; exact HS.out, HU.out⟩
          case measure => simp [intOf]; omega
        · have HDV : Hid (m4.shareV l (k + 1) = 1) := by show (if m4.has k l = 0 then _ else _) = _; rw [if_neg z]
          have hb : (m4.has k l == 0) = false := by simpa using z
          by_cases z3 : m4.has k l = 3
          · have HD : Hid (m4.shareK l (k + 1) = { (m4.shareK l k).late l with has := updH (m4.shareK l k).has k l 1 }) := by show (if m4.has k l = 0 then _ else _) = _; rw [if_neg z, if_pos z3]
            have HM5 : Hid (RmAt (wr.setCell ⟨y.blk 0, 265 + l, none⟩ (.int .i64 2)) y ((m4.shareK l k).late l)) := hs.setLasts l hl 2
            have g5 := HM5.out.has k l (by omega) hl
            rw [z3] at hh hb
            clear hs hu z z3 e1 e2 e3 e4 e5 e6 e7 e8
            go_wp2
            go_roundw
            case rel => exact ⟨k + 1, by omega, by go_num, by rw [HDV.out], by rw [HD.out]; exact HM5.out.setHas k l (by omega) hl 1, (HU.out.setCell (fun _ => rmS_0 _) _).setCell (fun _ => rmS_0 _) _⟩
            case measure => simp [intOf]; omega
          · have HD : Hid (m4.shareK l (k + 1) = { m4.shareK l k with has := updH (m4.shareK l k).has k l 1 }) := by show (if m4.has k l = 0 then _ else _) = _; rw [if_neg z, if_neg z3]
            have hb3 : (m4.has k l == 3) = false := by simpa using z3
            clear hs hu z z3 e1 e2 e3 e4 e5 e6 e7 e8
            go_wp2
            go_roundw
            case rel => exact ⟨k + 1, by omega, by go_num, by rw [HDV.out], by rw [HD.out]; exact HS.out.setHas k l (by omega) hl 1, HU.out.setCell (fun _ => rmS_0 _) _⟩
            case measure => simp [intOf]; omega
      · have hkc : k = m.cores := by omega
        subst hkc
        have HC5 : Hid ((m4.shareK l m.cores).cores = m.cores) := e1.trans HK4.out.1
        have HW5 : Hid ((m4.shareK l m.cores).words = m.words) := e5.trans HK4.out.2
        clear hs hu e1 e2 e3 e4 e5 e6 e7 e8
        generalize m4.shareV l m.cores = sv at *
        generalize m4.shareK l m.cores = m5 at *
        have hc5 : c < m5.cores := by rw [HC5.out]; exact hc
        have hc54 : m5.cores ≤ 4 := by rw [HC5.out]; exact hc4
        go_wp2_with fail
        refine (refTaken_any y m5 c l sv _ hc5 hc54 hl PT.out.ok PT.out.hcl PT.out.hfl PT.out.ho PT.out.hv HS.out).mono ?_
        rintro e w6 ⟨rfl, hs6, hu6⟩
        rw [HC5.out] at hu6
        have HS6 : Hid _ := hs6
        have HU6 : Hid _ := HU.out.trans hu6
        have g6 := hs6.words.c a ha
        rw [RM.takenS_words, HW5.out] at g6
        clear hs6 hu6
        go_wp2
        go_ret3
        exact ⟨by rw [HLW2.out]; rfl, by rw [HLS2.out]; exact HS6.out, HU6.out⟩

end Go.Proofs.Ytobniidkkmlilaa

/- The walks over the reference: Check. -/
namespace Go.Proofs.Ytobniidkkmlilaa
open Go.RowKit Go.Coh

def powB (n : Int) : Bool := n == 1 || n == 2 || n == 4 || n == 8

set_option maxHeartbeats 1000000 in
theorem refPower_all (n : Int) (w : World) : Calls Try.prog 42 #[.int .i64 n] w fun e w' => e = .returned (.bool (powB n)) ∧ w' = w := by
  by_cases h1 : n = 1
  · subst h1
    go_enter Try.func42, Try.ntmps42
    go_wp2
    go_ret
    exact ⟨rfl, rfl⟩
  · by_cases h2 : n = 2
    · subst h2
      go_enter Try.func42, Try.ntmps42
      go_wp2
      go_ret
      exact ⟨rfl, rfl⟩
    · by_cases h4 : n = 4
      · subst h4
        go_enter Try.func42, Try.ntmps42
        go_wp2
        go_ret
        exact ⟨rfl, rfl⟩
      · by_cases h8 : n = 8
        · subst h8
          go_enter Try.func42, Try.ntmps42
          go_wp2
          go_ret
          exact ⟨rfl, rfl⟩
        · go_enter Try.func42, Try.ntmps42
          go_wp2
          go_ret
          exact ⟨rfl, rfl⟩

/-- a machine's numbers, as a value -/
def celC (c : Nat → Int) : Array Value := #[.int .i64 (c 0), .int .i64 (c 1), .int .i64 (c 2), .int .i64 (c 3), .int .i64 (c 4), .int .i64 (c 5), .int .i64 (c 6)]
def checkB (c : Nat → Int) (a b d e : Bool) : Int :=
  if c 0 < 1 ∨ c 0 > 4 then 2 else if a = false ∨ b = false then 3 else if d = false ∨ e = false then 4 else if c 3 ≠ 0 ∧ c 3 ≠ 1 then 5 else if c 6 < 0 ∨ c 6 > 4 then 5 else 0
def checkE (c : Nat → Int) : Int := checkB c (powB (c 1)) (powB (c 4)) (powB (c 2)) (powB (c 5))

set_option maxRecDepth 100000 in
set_option maxHeartbeats 2000000 in
theorem refCheck_any (c : Nat → Int) (w : World) : Calls Try.prog 50 #[.agg (celC c)] w fun e w' => e = .returned (.int .i64 (checkE c)) ∧ Upd no w w' := by
  unfold celC
  have HE : Hid (checkE c = checkB c (powB (c 1)) (powB (c 4)) (powB (c 2)) (powB (c 5))) := rfl
  go_enter Try.func50, Try.ntmps50
  go_wp2_with fail
  refine (refPower_all (c 1) _).mono ?_
  rintro e w1 ⟨rfl, rfl⟩
  go_wp2_with fail
  refine (refPower_all (c 4) _).mono ?_
  rintro e w1 ⟨rfl, rfl⟩
  go_wp2_with fail
  refine (refPower_all (c 2) _).mono ?_
  rintro e w1 ⟨rfl, rfl⟩
  go_wp2_with fail
  refine (refPower_all (c 5) _).mono ?_
  rintro e w1 ⟨rfl, rfl⟩
  generalize powB (c 1) = a at *
  generalize powB (c 4) = b at *
  generalize powB (c 2) = d at *
  generalize powB (c 5) = f at *
  go_wp2
  all_goals
    go_ret
    refine ⟨ret_int ?_, (Upd.refl _ _).alloc _⟩
    rw [HE.out]
    clear HE
    unfold checkB
    repeat' split
    all_goals first
      | rfl
      | (exfalso; omega)
      | (exfalso; simp_all; done)
      | (exfalso; simp_all; omega)

end Go.Proofs.Ytobniidkkmlilaa
