import Derived.Test.YtobniidkkmlilaaPl14
import Derived.Test.YtobniidkkmlilaaPl17

/- The walks over the reference's machine: taken. -/
namespace Go.Proofs.Ytobniidkkmlilaa
open Go.RowKit Go.Coh

theorem RcOk.clear {s : RC} (h : RcOk s) (k : Nat) : RcOk (RC.clear s k) :=
  ⟨h.sz, h.wz, h.clock, h.fills, h.psel, h.rr, fun i => by show -1 ≤ upd s.L k (-1) i; unfold upd; split; omega; exact h.ll i⟩
theorem RcOk.miss {s : RC} (h : RcOk s) (x : Int) : RcOk (missS s x) :=
  ⟨h.sz, h.wz, h.clock, h.fills, by
    have := h.psel
    show 0 ≤ pselN s.P (x % s.S).toNat s.psel ∧ pselN s.P (x % s.S).toNat s.psel ≤ 15
    unfold pselN
    repeat' split
    all_goals omega, h.rr, h.ll⟩

/-- the room that is made for a line in a first cache -/
def RM.roomed (m : RM) (c l : Nat) : RM := { m with firsts := updC m.firsts c ((m.firsts c).roomS l) }
def RM.cleared (m : RM) (c l : Nat) : RM := if 0 ≤ (m.firsts c).roomOut l then (m.roomed c l).loseAt c ((m.firsts c).roomOut l).toNat else m.roomed c l
def RM.putF (m : RM) (c k l : Nat) : RM := { m with firsts := updC m.firsts c ((m.firsts c).put k l) }
def RM.takenS (m : RM) (c l : Nat) (h : Int) : RM :=
  let m2 := (m.cleared c l).putF c ((m.firsts c).roomW l) l
  { m2 with has := updH m2.has c l h }

/-- the last part of taken -/
theorem refTaken_end (y : Lay) (m : RM) (c l k : Nat) (h : Int) (w w' w'' : World) (n : Nat) (hn : m.cores = n) (hc : c < n) (hc4 : n ≤ 4) (hl : l < 64) (H : RmAt w y m) (hr : RefAt w' (y.blk (4 + 2 * c)) (y.blk (5 + 2 * c)) (y.cc c) ((m.firsts c).put k l))
    (hu : Upd (refS (y.blk (4 + 2 * c)) (y.blk (5 + 2 * c))) w w') (e : w'' = w'.setCell ⟨y.blk 0, 9 + c * 64 + l, none⟩ (.int .i64 h)) :
    RmAt w'' y { m.putF c k l with has := updH (m.putF c k l).has c l h } ∧ Upd (rmS y n) w w'' := by
  subst hn
  subst e
  have h1 := H.setFirst hc hr hu
  exact ⟨h1.setHas c l (by omega) hl h, (hu.mono (fun a b h => rmS_ref (by omega) (by omega) a b h)).setCell (fun _ => rmS_0 _) _⟩

set_option maxRecDepth 100000 in
set_option maxHeartbeats 1000000 in
theorem refTaken_any (y : Lay) (m : RM) (c l : Nat) (h : Int) (w : World) (hc : c < m.cores) (hc4 : m.cores ≤ 4) (hl : l < 64) (ok : RcOk (m.firsts c)) (hcl : (m.firsts c).clock ≤ 4611686018427387904) (hfl : (m.firsts c).fills ≤ 4611686018427387904)
    (ho : (m.firsts c).roomOut l < 64) (hv : 0 ≤ (m.firsts c).roomOut l → ∃ j, ((m.firsts c).roomS l).find ((m.firsts c).roomOut l) = some j) (H : RmAt w y m) :
    Calls Try.prog 100 #[.pointer (some ⟨y.blk 0, 0, none⟩), .int .i64 c, .int .i64 l, .int .i64 h] w fun e w' => e = .returned (.tuple #[]) ∧ RmAt w' y (m.takenS c l h) ∧ Upd (rmS y m.cores) w w' := by
  have h1 := H.fs
  have h2 := H.row c hc
  have HH : Hid (RmAt w y m) := H
  have HF : Hid (RefAt w (y.blk (4 + 2 * c)) (y.blk (5 + 2 * c)) (y.cc c) (m.firsts c)) := H.first c hc
  have HOK : Hid (RcOk (m.firsts c)) := ok
  have HV : Hid (0 ≤ (m.firsts c).roomOut l → ∃ j, ((m.firsts c).roomS l).find ((m.firsts c).roomOut l) = some j) := hv
  have HK : Hid ((m.firsts c).roomW l < (m.firsts c).n) := roomW_lt ok l
  have er : (m.roomed c l).firsts c = (m.firsts c).roomS l := by show updC m.firsts c _ c = _; unfold updC; rw [if_pos rfl]
  have HER : Hid ((m.roomed c l).firsts c = (m.firsts c).roomS l) := er
  have HT : Hid (m.takenS c l h = { (m.cleared c l).putF c ((m.firsts c).roomW l) l with has := updH ((m.cleared c l).putF c ((m.firsts c).roomW l) l).has c l h }) := rfl
  have HCD : Hid (m.cleared c l = if 0 ≤ (m.firsts c).roomOut l then (m.roomed c l).loseAt c ((m.firsts c).roomOut l).toNat else m.roomed c l) := rfl
  have HCF : Hid (((m.firsts c).roomS l).clock = (m.firsts c).clock ∧ ((m.firsts c).roomS l).fills = (m.firsts c).fills ∧ ((m.firsts c).roomS l).n = (m.firsts c).n ∧ ((m.firsts c).roomS l).S = (m.firsts c).S ∧ ((m.firsts c).roomS l).W = (m.firsts c).W) := roomS_cf _ _
  clear H ok hv er
  go_enter Try.func100, Try.ntmps100
  go_wp2_with fail
  refine (refRoom_any _ _ _ l (m.firsts c) _ HOK.out (by omega) (by omega) HF.out).mono ?_
  rintro e w1 ⟨rfl, hr, hu⟩
  have HM : Hid (RmAt w1 y (m.roomed c l)) := HH.out.setFirst hc hr hu
  have HU : Hid (Upd (rmS y m.cores) w w1) := hu.mono (fun a b h => rmS_ref (by omega) (by omega) a b h)
  clear hr hu h1 h2
  by_cases e0 : 0 ≤ (m.firsts c).roomOut l
  · obtain ⟨j, hj⟩ := HV.out e0
    obtain ⟨o, eo⟩ : ∃ o : Nat, (m.firsts c).roomOut l = o := ⟨((m.firsts c).roomOut l).toNat, by omega⟩
    rw [eo] at hj ho e0 ⊢
    have HC2 : Hid (m.cleared c l = (m.roomed c l).losesS c o (((m.firsts c).roomS l).lo o + j)) := by
      show _ = _
      rw [HCD.out, eo, if_pos e0, Int.toNat_natCast]
      unfold RM.loseAt
      rw [HER.out, hj]
    have hj' : ((m.roomed c l).firsts c).find o = some j := by rw [HER.out]; exact hj
    have HOK2 : Hid (RcOk ((m.roomed c l).firsts c)) := by show RcOk _; rw [HER.out]; exact HOK.out.roomS l
    have HJ : Hid (((m.roomed c l).firsts c).find o = some j) := hj'
    have HKK : Hid (((m.firsts c).roomS l).lo o + j = ((m.roomed c l).firsts c).lo o + j) := by show _ = _; rw [HER.out]
    clear hj hj' HV eo
    go_wp2_with fail
    refine (refLoses_any y (m.roomed c l) c o j w1 hc hc4 (by omega) HOK2.out HJ.out _ HKK.out HM.out).mono ?_
    rintro e w2 ⟨rfl, hs2, hu2⟩
    rw [← HC2.out] at hs2
    have HM2 : Hid (RmAt w2 y (m.cleared c l)) := hs2
    have HU2 : Hid (Upd (rmS y m.cores) w w2) := HU.out.trans hu2
    have hn2 : (m.cleared c l).cores = m.cores := by rw [HC2.out]; exact (RM.losesS_keep (m.roomed c l) c o _).1
    have HN2 : Hid ((m.cleared c l).cores = m.cores) := hn2
    have efc : (m.cleared c l).firsts c = RC.clear ((m.firsts c).roomS l) (((m.firsts c).roomS l).lo o + j) := by
      rw [HC2.out, ← HER.out]
      show updC (m.roomed c l).firsts c _ c = _
      unfold updC; rw [if_pos rfl]
    have HEF : Hid ((m.cleared c l).firsts c = RC.clear ((m.firsts c).roomS l) (((m.firsts c).roomS l).lo o + j)) := efc
    have g1 := hs2.fs
    rw [hn2] at g1
    have g2 := hs2.row c (by omega)
    have hF2 : RefAt w2 (y.blk (4 + 2 * c)) (y.blk (5 + 2 * c)) (y.cc c) ((m.cleared c l).firsts c) := hs2.first c (by omega)
    have HF2 : Hid (RefAt w2 (y.blk (4 + 2 * c)) (y.blk (5 + 2 * c)) (y.cc c) ((m.cleared c l).firsts c)) := hF2
    clear hs2 hu2 efc hF2
    go_wp2_with fail
    refine (refPut_any _ _ _ _ l ((m.cleared c l).firsts c) w2 (by rw [HEF.out]; exact (HOK.out.roomS l).clear _) (by rw [HEF.out]; show _ < ((m.firsts c).roomS l).n; rw [HCF.out.2.2.1]; exact HK.out) (by rw [HEF.out]; show ((m.firsts c).roomS l).clock ≤ _; rw [HCF.out.1]; exact hcl) (by rw [HEF.out]; show ((m.firsts c).roomS l).fills ≤ _; rw [HCF.out.2.1]; exact hfl) (by omega) (by omega) HF2.out).mono ?_
    rintro e w3 ⟨rfl, hr3, hu3⟩
    have hs3 := HM2.out.setFirst (by rw [HN2.out]; exact hc) hr3 hu3
    have g3 := hs3.has c l (by omega) hl
    have g3f := hs3.bf (9 + c * 64 + l)
    have HR3 : Hid _ := hr3
    have HU3 : Hid _ := hu3
    clear hs3 hr3 hu3
    go_wp2
    go_end0
    have R := refTaken_end y (m.cleared c l) c l _ h w2 w3 _ m.cores HN2.out hc hc4 hl HM2.out HR3.out HU3.out rfl
    exact ⟨rfl, by rw [HT.out]; exact R.1, HU2.out.trans R.2⟩
  · have HC2 : Hid (m.cleared c l = m.roomed c l) := by show _ = _; rw [HCD.out, if_neg e0]
    have g1 := HM.out.fs
    have g2 := HM.out.row c hc
    have HF2 : Hid (RefAt w1 (y.blk (4 + 2 * c)) (y.blk (5 + 2 * c)) (y.cc c) ((m.roomed c l).firsts c)) := HM.out.first c hc
    clear HV
    generalize (m.firsts c).roomOut l = oo at *
    go_wp2_with fail
    refine (refPut_any _ _ _ _ l ((m.roomed c l).firsts c) w1 (by rw [HER.out]; exact (HOK.out.roomS l)) (by rw [HER.out, HCF.out.2.2.1]; exact HK.out) (by rw [HER.out, HCF.out.1]; exact hcl) (by rw [HER.out, HCF.out.2.1]; exact hfl) (by omega) (by omega) HF2.out).mono ?_
    rintro e w3 ⟨rfl, hr3, hu3⟩
    have hs3 := HM.out.setFirst hc hr3 hu3
    have g3 := hs3.has c l (by omega) hl
    have g3f := hs3.bf (9 + c * 64 + l)
    have HR3 : Hid _ := hr3
    have HU3 : Hid _ := hu3
    clear hs3 hr3 hu3
    go_wp2
    go_end0
    have R := refTaken_end y (m.roomed c l) c l _ h w1 w3 _ m.cores rfl hc hc4 hl HM.out HR3.out HU3.out rfl
    exact ⟨rfl, by rw [HT.out, HC2.out]; exact R.1, HU.out.trans R.2⟩

end Go.Proofs.Ytobniidkkmlilaa

/- The walks over the reference's machine: fetched. -/
namespace Go.Proofs.Ytobniidkkmlilaa
open Go.RowKit Go.Coh

theorem RM.droppedS_keep (m : RM) (l : Nat) : (m.droppedS l).cores = m.cores ∧ (m.droppedS l).conf = m.conf ∧ (m.droppedS l).far = m.far ∧ (m.droppedS l).words = m.words ∧
    (∀ k, m.tally k ≤ (m.droppedS l).tally k ∧ (m.droppedS l).tally k ≤ m.tally k + m.cores + 1) := by
  obtain ⟨h1, h2, h3, h4, h5, h6, h7, h8⟩ := RM.dropK_keep m l m.cores
  have tk : ∀ k, m.tally k ≤ (m.dropK l m.cores).tally k ∧ (m.dropK l m.cores).tally k ≤ m.tally k + m.cores := fun k => by
    by_cases e : k = 7
    · subst e; exact h6
    · rw [h7 k e]; omega
  unfold RM.droppedS
  simp only
  split
  · refine ⟨h1, h2, h3, h4, fun k => ?_⟩
    have := tk k
    show m.tally k ≤ upd (m.dropK l m.cores).tally 8 ((m.dropK l m.cores).tally 8 + 1) k ∧ upd (m.dropK l m.cores).tally 8 ((m.dropK l m.cores).tally 8 + 1) k ≤ _
    unfold upd
    split
    · rename_i e; subst e; omega
    · omega
  · refine ⟨h1, h2, h3, h4, fun k => ?_⟩
    have := tk k
    show m.tally k ≤ (m.dropK l m.cores).tally k ∧ (m.dropK l m.cores).tally k ≤ _
    omega

/-- the last cache makes room for a line -/
def RM.roomedF (m : RM) (l : Nat) : RM := { m with far := (missS m.far l).roomS l }
def RM.clearedF (m : RM) (l : Nat) : RM := if 0 ≤ (missS m.far l).roomOut l then (m.roomedF l).droppedS ((missS m.far l).roomOut l).toNat else m.roomedF l
def RM.fetchedM (m : RM) (l : Nat) : RM :=
  let m2 := m.clearedF l
  RM.bump { m2 with far := m2.far.put ((missS m.far l).roomW l) l, lasts := upd m2.lasts l 1 } 4
def RM.fetchedS (m : RM) (l : Nat) : RM := match m.far.find l with
  | some j => RM.bump { m with far := m.far.found (m.far.lo l + j) } 3
  | none => m.fetchedM l
def RM.fetchedV (m : RM) (l : Nat) : Int := if (m.far.find l).isSome then 1 else 2

theorem RM.clearedF_keep (m : RM) (l : Nat) : (m.clearedF l).cores = m.cores ∧ (m.clearedF l).conf = m.conf ∧ (m.clearedF l).far = (missS m.far l).roomS l ∧ (m.clearedF l).words = m.words ∧
    (∀ k, m.tally k ≤ (m.clearedF l).tally k ∧ (m.clearedF l).tally k ≤ m.tally k + m.cores + 1) := by
  unfold RM.clearedF
  split
  · exact RM.droppedS_keep (m.roomedF l) _
  · exact ⟨rfl, rfl, rfl, rfl, fun k => by show m.tally k ≤ m.tally k ∧ m.tally k ≤ _; omega⟩

set_option maxRecDepth 100000 in
set_option maxHeartbeats 1000000 in
theorem refFetched_any (y : Lay) (m : RM) (l : Nat) (w : World) (hc : 0 < m.cores ∧ m.cores ≤ 4) (hl : l < 64) (ok : ∀ i, RcOk (m.firsts i)) (okf : RcOk m.far) (hcl : m.far.clock ≤ 4611686018427387904) (hfl : m.far.fills ≤ 4611686018427387904)
    (ho : (missS m.far l).roomOut l < 64)
    (hf : 0 ≤ (missS m.far l).roomOut l → ∀ i, i < m.cores → m.has i ((missS m.far l).roomOut l).toNat ≠ 0 → ∃ j, (m.firsts i).find ((missS m.far l).roomOut l) = some j)
    (ht : ∀ k, 0 ≤ m.tally k ∧ m.tally k ≤ 2305843009213693952) (H : RmAt w y m) :
    Calls Try.prog 99 #[.pointer (some ⟨y.blk 0, 0, none⟩), .int .i64 l] w fun e w' => e = .returned (.int .i64 (m.fetchedV l)) ∧ RmAt w' y (m.fetchedS l) ∧ Upd (rmS y m.cores) w w' := by
  have h1 := H.fr
  have HH : Hid (RmAt w y m) := H
  have HF : Hid (RefAt w (y.blk 2) (y.blk 3) y.farcap m.far) := H.far
  have HOK : Hid (∀ i, RcOk (m.firsts i)) := ok
  have HOKF : Hid (RcOk m.far) := okf
  have HT : Hid (∀ k, 0 ≤ m.tally k ∧ m.tally k ≤ 2305843009213693952) := ht
  have HFD : Hid (0 ≤ (missS m.far l).roomOut l → ∀ i, i < m.cores → m.has i ((missS m.far l).roomOut l).toNat ≠ 0 → ∃ j, (m.firsts i).find ((missS m.far l).roomOut l) = some j) := hf
  have HV : Hid (m.fetchedV l = if (m.far.find l).isSome then 1 else 2) := rfl
  clear H ok okf ht hf
  go_enter Try.func99, Try.ntmps99
  go_wp2_with fail
  refine (refFind_any _ _ _ l m.far _ HOKF.out (by omega) (by omega) HF.out).mono ?_
  rintro e w1 ⟨rfl, q, rfl⟩
  cases hfd : m.far.find l with
  | some j =>
    have hj : m.far.lo l + j < m.far.n := by
      have := (findN_some.1 hfd).1
      have := HOKF.out.lo l
      omega
    have HS : Hid (m.fetchedS l = RM.bump { m with far := m.far.found (m.far.lo l + j) } 3) := by show _ = _; unfold RM.fetchedS; rw [hfd]
    have HB2 : Hid (m.fetchedV l = 1) := by show _ = _; rw [HV.out, hfd]; rfl
    clear hfd
    have hcl0 := HOKF.out.clock
    have t3 := HT.out 3
    simp only [ofs]
    generalize hm : m.far.lo l + j = k at *
    clear hm
    go_wp2_with fail
    refine (refFound_any _ _ _ k m.far _ hcl0 hcl hj (HF.out.drewN q)).mono ?_
    rintro e w2 ⟨rfl, hr, hu⟩
    have HM := (HH.out.drewN q).setFar hr hu
    have h841 := HM.tally.c 3 (by omega)
    have h841f := HM.tally.f 3 (by omega)
    have HM2 : Hid (RmAt w2 y { m with far := m.far.found k }) := HM
    have HU : Hid (Upd (rmS y m.cores) w w2) := (hu.ofDrewN).mono (fun a b h => rmS_ref (by omega) (by omega) a b h)
    clear hr hu HM
    simp only at h841 h841f
    go_wp2
    go_ret
    refine ⟨ret_int HB2.out.symm, ?_, HU.out.setCell (fun _ => rmS_0 _) _⟩
    rw [HS.out]
    exact HM2.out.setTally 3 (by omega) _
  | none =>
    have HS : Hid (m.fetchedS l = RM.bump { m.clearedF l with far := (m.clearedF l).far.put ((missS m.far l).roomW l) l, lasts := upd (m.clearedF l).lasts l 1 } 4) := by show _ = _; unfold RM.fetchedS; rw [hfd]; rfl
    have HB2 : Hid (m.fetchedV l = 2) := by show _ = _; rw [HV.out, hfd]; rfl
    have HCD : Hid (m.clearedF l = if 0 ≤ (missS m.far l).roomOut l then (m.roomedF l).droppedS ((missS m.far l).roomOut l).toNat else m.roomedF l) := rfl
    have HKP := RM.clearedF_keep m l
    have HKEEP : Hid _ := HKP
    have HOKM : Hid (RcOk (missS m.far l)) := HOKF.out.miss l
    have HK : Hid ((missS m.far l).roomW l < (missS m.far l).n) := roomW_lt (HOKF.out.miss l) l
    have HCF : Hid _ := roomS_cf (missS m.far l) l
    clear hfd HKP
    simp only [ofs]
    go_wp2_with fail
    refine (refMissed_any _ _ _ l m.far _ HOKF.out (by omega) (by omega) (HF.out.drewN q)).mono ?_
    rintro e w2 ⟨rfl, hr, hu⟩
    have HM2 : Hid (RmAt w2 y { m with far := missS m.far l }) := (HH.out.drewN q).setFar hr hu
    have HU2 : Hid (Upd (rmS y m.cores) w w2) := (hu.ofDrewN).mono (fun a b h => rmS_ref (by omega) (by omega) a b h)
    have HR2 : Hid (RefAt w2 (y.blk 2) (y.blk 3) y.farcap (missS m.far l)) := hr
    have g1 := HM2.out.fr
    clear hr hu h1
    go_wp2_with fail
    refine (refRoom_any _ _ _ l (missS m.far l) _ HOKM.out (by omega) (by omega) HR2.out).mono ?_
    rintro e w3 ⟨rfl, hr, hu⟩
    have HM3 : Hid (RmAt w3 y (m.roomedF l)) := HM2.out.setFar hr hu
    have HU3 : Hid (Upd (rmS y m.cores) w w3) := HU2.out.trans (hu.mono (fun a b h => rmS_ref (by omega) (by omega) a b h))
    clear hr hu g1
    have t4 := HT.out 4
    have t4' := HKEEP.out.2.2.2.2 4
    by_cases e0 : 0 ≤ (missS m.far l).roomOut l
    · have hf' := HFD.out e0
      obtain ⟨o, eo⟩ : ∃ o : Nat, (missS m.far l).roomOut l = o := ⟨((missS m.far l).roomOut l).toNat, by omega⟩
      rw [eo] at hf' ho e0 ⊢
      rw [Int.toNat_natCast] at hf'
      have HFD2 : Hid (∀ i, i < m.cores → m.has i o ≠ 0 → ∃ j, (m.firsts i).find o = some j) := hf'
      have HC2 : Hid (m.clearedF l = (m.roomedF l).droppedS o) := by show _ = _; rw [HCD.out, eo, if_pos e0, Int.toNat_natCast]
      clear hf' HFD eo
      go_wp2_with fail
      refine (refDropped_any y (m.roomedF l) o w3 hc (by omega) HOK.out HFD2.out HT.out HM3.out).mono ?_
      rintro e w4 ⟨rfl, hs4, hu4⟩
      rw [← HC2.out] at hs4
      have HM4 : Hid (RmAt w4 y (m.clearedF l)) := hs4
      have HU4 : Hid (Upd (rmS y m.cores) w w4) := HU3.out.trans hu4
      have g1 := hs4.fr
      have HF4 : Hid (RefAt w4 (y.blk 2) (y.blk 3) y.farcap (m.clearedF l).far) := hs4.far
      clear hs4 hu4
      go_wp2_with fail
      refine (refPut_any _ _ _ _ l (m.clearedF l).far w4 (by rw [HKEEP.out.2.2.1]; exact (HOKM.out.roomS l)) (by rw [HKEEP.out.2.2.1, HCF.out.2.2.1]; exact HK.out) (by rw [HKEEP.out.2.2.1, HCF.out.1]; exact hcl) (by rw [HKEEP.out.2.2.1, HCF.out.2.1]; exact hfl) (by omega) (by omega) HF4.out).mono ?_
      rintro e w5 ⟨rfl, hr5, hu5⟩
      have hs5 := HM4.out.setFar hr5 hu5
      have g3 := hs5.lasts.c l hl
      have g3f := hs5.lasts.f l hl
      have g4 := hs5.tally.c 4 (by omega)
      have g4f := hs5.tally.f 4 (by omega)
      have HU5 : Hid (Upd (rmS y m.cores) w w5) := HU4.out.trans (hu5.mono (fun a b h => rmS_ref (by omega) (by omega) a b h))
      have HS5 : Hid _ := hs5
      clear hs5 hr5 hu5
      simp only at g3 g4
      go_wp2
      go_ret
      refine ⟨ret_int HB2.out.symm, ?_, (HU5.out.setCell (fun _ => rmS_0 _) _).setCell (fun _ => rmS_0 _) _⟩
      rw [HS.out]
      exact (HS5.out.setLasts l hl 1).setTally 4 (by omega) _
    · have HC2 : Hid (m.clearedF l = m.roomedF l) := by show _ = _; rw [HCD.out, if_neg e0]
      have g1 := HM3.out.fr
      have HF4 : Hid (RefAt w3 (y.blk 2) (y.blk 3) y.farcap (m.clearedF l).far) := by rw [HC2.out]; exact HM3.out.far
      have HM4 : Hid (RmAt w3 y (m.clearedF l)) := by rw [HC2.out]; exact HM3.out
      clear HFD
      generalize (missS m.far l).roomOut l = oo at *
      go_wp2_with fail
      refine (refPut_any _ _ _ _ l (m.clearedF l).far w3 (by rw [HKEEP.out.2.2.1]; exact (HOKM.out.roomS l)) (by rw [HKEEP.out.2.2.1, HCF.out.2.2.1]; exact HK.out) (by rw [HKEEP.out.2.2.1, HCF.out.1]; exact hcl) (by rw [HKEEP.out.2.2.1, HCF.out.2.1]; exact hfl) (by omega) (by omega) HF4.out).mono ?_
      rintro e w5 ⟨rfl, hr5, hu5⟩
      have hs5 := HM4.out.setFar hr5 hu5
      have g3 := hs5.lasts.c l hl
      have g3f := hs5.lasts.f l hl
      have g4 := hs5.tally.c 4 (by omega)
      have g4f := hs5.tally.f 4 (by omega)
      have HU5 : Hid (Upd (rmS y m.cores) w w5) := HU3.out.trans (hu5.mono (fun a b h => rmS_ref (by omega) (by omega) a b h))
      have HS5 : Hid _ := hs5
      clear hs5 hr5 hu5
      simp only at g3 g4
      go_wp2
      go_ret
      refine ⟨ret_int HB2.out.symm, ?_, (HU5.out.setCell (fun _ => rmS_0 _) _).setCell (fun _ => rmS_0 _) _⟩
      rw [HS.out]
      exact (HS5.out.setLasts l hl 1).setTally 4 (by omega) _

end Go.Proofs.Ytobniidkkmlilaa
