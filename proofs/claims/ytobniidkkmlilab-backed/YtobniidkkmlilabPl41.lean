import Derived.Test.YtobniidkkmlilabPl40

/- The program's Store (take, storeLine). -/
namespace Go.Proofs.Ytobniidkkmlilab
open Go.RowKit Go.Coh

theorem takeK_same (m : RM) (c l k : Nat) (h : ¬ (k ≠ c ∧ m.has k l ≠ 0)) : m.takeK c l (k + 1) = m.takeK c l k := by
  show (if k ≠ c ∧ m.has k l ≠ 0 then _ else _) = _
  rw [if_neg h]
theorem takeK_one (m : RM) (c l k : Nat) (h : k ≠ c ∧ m.has k l ≠ 0) : m.takeK c l (k + 1) = ((m.takeK c l k).loseAt k l).bump 6 := by
  show (if k ≠ c ∧ m.has k l ≠ 0 then _ else _) = _
  rw [if_pos h]
theorem takeK_bump (m : RM) (q c l : Nat) : ∀ k, (m.bump q).takeK c l k = (m.takeK c l k).bump q
  | 0 => rfl
  | k + 1 => by
    unfold RM.takeK
    rw [takeK_bump m q c l k]
    show (if k ≠ c ∧ m.has k l ≠ 0 then _ else _) = _
    split
    · rw [loseAt_bump, bump_bump]
    · rfl

set_option maxRecDepth 100000 in
set_option maxHeartbeats 1000000 in
theorem take_any (b : Nat) (m : RM) (c l : Nat) (w : World) (hc4 : m.cores ≤ 4) (hl : l < 64) (hf : ∀ i, i < m.cores → m.has i l ≠ 0 → ∃ j, (m.firsts i).find l = some j) (h0 : ∀ i, m.cores ≤ i → m.has i l = 0)
    (ht : ∀ k, 0 ≤ m.tally k ∧ m.tally k ≤ 2305843009213693952) (H : PmAt w b m) :
    Calls Try.prog 60 #[.pointer (some ⟨b, 0, none⟩), .int .i64 c, .int .i64 l] w fun e w' => e = .returned (.tuple #[]) ∧ PmAt w' b (m.takeK c l m.cores) ∧ Upd (blkS b) w w' := by
  have HH : Hid (PmAt w b m) := H
  have HFD : Hid (∀ i, i < m.cores → m.has i l ≠ 0 → ∃ j, (m.firsts i).find l = some j) := hf
  have H00 : Hid (∀ i, m.cores ≤ i → m.has i l = 0) := h0
  have HT : Hid (∀ k, 0 ≤ m.tally k ∧ m.tally k ≤ 2305843009213693952) := ht
  clear H hf h0 ht
  go_enter Try.func60, Try.ntmps60
  go_wp2
  go_loopw [6] (fun i wr => ∃ k : Nat, k ≤ 4 ∧ i = .int .i64 k ∧ PmAt wr b (m.takeK c l (min k m.cores)) ∧ Upd (blkS b) w wr) (fun i _ => 4 - (intOf i).toNat)
  case atStart => exact ⟨0, by omega, rfl, by rw [Nat.zero_min]; exact HH.out, Upd.refl _ _⟩
  case round =>
    obtain ⟨k, hk, rfl, hs, hu⟩ := hrel
    have HU : Hid (Upd (blkS b) w wr) := hu
    by_cases hlt : k < 4
    · by_cases hkc : k < m.cores
      · rw [Nat.min_eq_left (by omega)] at hs
        have kp := RM.takeK_keep m c l k
        have HS : Hid (PmAt wr b (m.takeK c l k)) := hs
        have h1 := hs.has k l hlt hl
        rw [(kp.2.2.2.2.2.2.2 k (.inl (Nat.le_refl _))).2 l] at h1
        by_cases hkk : k = c
        · have HN : Hid (PmAt wr b (m.takeK c l (min (k + 1) m.cores))) := by
            show PmAt _ _ _
            rw [Nat.min_eq_left (by omega), takeK_same m c l k (fun q => q.1 hkk)]; exact hs
          subst hkk
          clear hs hu kp
          go_wp2
          go_roundw
          case rel => exact ⟨k + 1, by omega, by go_num, HN.out, HU.out⟩
          case measure => simp [intOf]; omega
        · have hkb : ((k : Int) != (c : Int)) = true := by simp; omega
          by_cases hz : m.has k l = 0
          · have HN : Hid (PmAt wr b (m.takeK c l (min (k + 1) m.cores))) := by
              show PmAt _ _ _
              rw [Nat.min_eq_left (by omega), takeK_same m c l k (fun q => q.2 hz)]; exact hs
            rw [hz] at h1
            clear hs hu kp
            go_wp2
            go_roundw
            case rel => exact ⟨k + 1, by omega, by go_num, HN.out, HU.out⟩
            case measure => simp [intOf]; omega
          · have hb : (m.has k l != 0) = true := by simpa using hz
            obtain ⟨j, hj⟩ := HFD.out k hkc hz
            have HLE : Hid ((m.takeK c l k).pLose k l = (m.takeK c l k).loseAt k l) := RM.pLose_eq _ k l j (by rw [(kp.2.2.2.2.2.2.2 k (.inl (Nat.le_refl _))).1]; exact hj)
            have HKC : Hid ((m.takeK c l k).cores = m.cores) := kp.1
            have HKT : Hid ((m.takeK c l k).tally 6 ≤ m.tally 6 + k ∧ m.tally 6 ≤ (m.takeK c l k).tally 6) := ⟨kp.2.2.2.2.2.1.2, kp.2.2.2.2.2.1.1⟩
            have HDO : Hid (m.takeK c l (k + 1) = ((m.takeK c l k).loseAt k l).bump 6) := takeK_one m c l k ⟨hkk, hz⟩
            clear hs hu kp hz hj
            generalize m.has k l = h at *
            go_wp2_with fail
            refine (lose_any b (m.takeK c l k) k l _ (by rw [HKC.out]; exact hkc) hl (by rw [HKC.out]; exact hc4) HS.out).mono ?_
            rintro e w2 ⟨rfl, h2, hu2⟩
            rw [HLE.out] at h2
            have lk := RM.loseAt_keep (m.takeK c l k) k l
            have t7 := h2.tally.c 6 (by omega)
            have t7f := h2.tally.f 6 (by omega)
            have htb := HKT.out
            have htt := HT.out 6
            have HT7 : Hid (((m.takeK c l k).loseAt k l).tally 6 = (m.takeK c l k).tally 6) := by show _ = _; rw [lk.2.2.2.1]
            have HF : Hid (PmAt (w2.setCell ⟨b, 1859 + 6, none⟩ (.int .i64 ((m.takeK c l k).tally 6 + 1))) b (m.takeK c l (min (k + 1) m.cores))) := by
              have := h2.setTally (by rw [lk.1, HKC.out]; exact hc4) 6 (by omega) ((m.takeK c l k).tally 6 + 1)
              show PmAt _ _ _
              rw [Nat.min_eq_left (by omega), HDO.out]
              rw [← HT7.out] at this ⊢
              exact this
            rw [HT7.out] at t7
            have HU2 : Hid (Upd (blkS b) w w2) := HU.out.trans hu2
            generalize (m.takeK c l k).tally 6 = t at *
            clear h2 hu2 lk HKT
            go_wp2
            go_roundw
            case rel => exact ⟨k + 1, by omega, by go_num, HF.out, HU2.out.setCell (fun _ => blk_self b _) _⟩
            case measure => simp [intOf]; omega
      · rw [Nat.min_eq_right (by omega)] at hs
        have kp := RM.takeK_keep m c l m.cores
        have h1 := hs.has k l hlt hl
        rw [(kp.2.2.2.2.2.2.2 k (.inl (by omega))).2 l, H00.out k (by omega)] at h1
        have HN : Hid (PmAt wr b (m.takeK c l (min (k + 1) m.cores))) := by
          show PmAt _ _ _
          rw [Nat.min_eq_right (by omega)]; exact hs
        clear hs hu kp
        by_cases hkk : k = c
        · subst hkk
          go_wp2
          go_roundw
          case rel => exact ⟨k + 1, by omega, by go_num, HN.out, HU.out⟩
          case measure => simp [intOf]; omega
        · have hkb : ((k : Int) != (c : Int)) = true := by simp; omega
          go_wp2
          go_roundw
          case rel => exact ⟨k + 1, by omega, by go_num, HN.out, HU.out⟩
          case measure => simp [intOf]; omega
    · have hk4 : k = 4 := by omega
      subst hk4
      rw [Nat.min_eq_right hc4] at hs
      have HS : Hid (PmAt wr b (m.takeK c l m.cores)) := hs
      clear hs hu
      go_wp2
      go_end0
      exact ⟨rfl, HS.out, HU.out⟩

theorem takeK_none {m : RM} {c l : Nat} (h : ∀ i, i < m.cores → i ≠ c → m.has i l = 0) : ∀ k, k ≤ m.cores → m.takeK c l k = m
  | 0, _ => rfl
  | k + 1, hk => by rw [takeK_same m c l k (fun q => q.2 (h k (by omega) q.1)), takeK_none h k (by omega)]

/-- 'storeLine' -/
def RM.pHere (m : RM) (c l : Nat) : RM := ({ (if m.has c l = 1 then m.bump 5 else m) with firsts := updC m.firsts c (cTouch (m.firsts c) l) } : RM)
def RM.pSLine (m : RM) (c l : Nat) : RM := if m.has c l = 0 then ((m.pFetch l).takeK c l m.cores).takenS c l 3 else { (m.pHere c l).takeK c l m.cores with has := updH ((m.pHere c l).takeK c l m.cores).has c l 3 }
def RM.pStore (m : RM) (c l a : Nat) (v : Int) : RM := (({ m.pSLine c l with words := upd m.words a v } : RM).bump 1).bump (2 + (m.pPlace c l).toNat)

theorem pHere_words (m : RM) (c l : Nat) : (m.pHere c l).words = m.words ∧ (m.pHere c l).cores = m.cores ∧ (m.pHere c l).has = m.has := by
  unfold RM.pHere; split <;> exact ⟨rfl, rfl, rfl⟩
theorem pSLine_keep (m : RM) (c l : Nat) : (m.pSLine c l).words = m.words ∧ (m.pSLine c l).cores = m.cores := by
  unfold RM.pSLine
  split
  · have pk := RM.pFetch_keep m l
    have tk := RM.takeK_keep (m.pFetch l) c l m.cores
    refine ⟨by rw [RM.takenS_words, tk.2.2.2.1, pk.2.2], ?_⟩
    show (RM.cleared _ c l).cores = _
    unfold RM.cleared
    split
    · rw [(RM.loseAt_keep _ c _).1]; show (RM.takeK _ c l m.cores).cores = _; rw [tk.1, pk.1]
    · show (RM.takeK _ c l m.cores).cores = _; rw [tk.1, pk.1]
  · have hk := pHere_words m c l
    have tk := RM.takeK_keep (m.pHere c l) c l m.cores
    exact ⟨by show (RM.takeK _ c l m.cores).words = _; rw [tk.2.2.2.1, hk.1], by show (RM.takeK _ c l m.cores).cores = _; rw [tk.1, hk.2.1]⟩

theorem MInv.pStore_eq {m : RM} {B : Int} {c l : Nat} (h : MInv m B) (hc : c < m.cores) (hl : l < 64) (a : Nat) (v : Int) : m.pStore c l a v = m.storeS c l a v ∧ m.pPlace c l = m.storeW c l := by
  have hn := (h.bump 1).near_eq (c := c) (l := l) hc hl
  have hh : (m.bump 1).has c l = m.has c l := rfl
  rw [hh] at hn
  by_cases h0 : m.has c l = 0
  · have hn' : ¬ (m.bump 1).nearB c l = true := fun q => hn.1 q h0
    have eM : m.storeM c l = ((m.pSLine c l).bump 1).bump (2 + (m.pPlace c l).toNat) := by
      unfold RM.storeM RM.pSLine RM.pPlace
      rw [if_neg hn', if_pos h0, if_neg (by omega)]
      unfold RM.storeFar
      rw [RM.pFetch_eq, takeK_bump, takeK_bump, takenS_bump, takenS_bump]
      have : 2 + (m.fetchedV l).toNat = if (m.far.find l).isSome then 3 else 4 := by
        unfold RM.fetchedV
        split <;> rfl
      rw [this]; rfl
    refine ⟨?_, ?_⟩
    · show _ = ({ m.storeM c l with words := upd (m.storeM c l).words a v } : RM)
      rw [eM]
      have kw : (((m.pSLine c l).bump 1).bump (2 + (m.pPlace c l).toNat)).words = m.words := (pSLine_keep m c l).1
      rw [kw]; rfl
    · unfold RM.pPlace RM.storeW
      rw [if_neg (by omega), if_neg hn']; rfl
  · have hn' : (m.bump 1).nearB c l = true := hn.2 h0
    obtain ⟨j, e⟩ := (h.find hc hl).2 h0
    have eP : m.pPlace c l = 0 := by unfold RM.pPlace; rw [if_pos h0]
    have eM : m.storeM c l = ((m.pSLine c l).bump 1).bump 2 := by
      unfold RM.storeM RM.pSLine
      rw [if_pos hn', if_neg h0]
      have en : (m.bump 1).nearS c l = (({ m with firsts := updC m.firsts c (cTouch (m.firsts c) l) } : RM).bump 1).bump 2 := by
        unfold RM.nearS cTouch
        show (match (m.firsts c).find l with | some j => RM.bump { m.bump 1 with firsts := updC m.firsts c ((m.firsts c).found ((m.firsts c).lo l + j)) } 2 | none => m.bump 1) = _
        rw [e]; rfl
      have eu : ((m.bump 1).nearS c l).upgr c l = ((m.pHere c l).bump 1).bump 2 := by
        rw [en]
        unfold RM.upgr RM.pHere
        show (if m.has c l = 1 then _ else _) = _
        split
        · rw [bump_bump _ 2 5, bump_bump _ 1 5]; rfl
        · rfl
      unfold RM.storeNear
      rw [eu]
      show (let m3 := (((m.pHere c l).bump 1).bump 2).takeK c l m.cores; ({ m3 with has := updH m3.has c l 3 } : RM)) = _
      rw [takeK_bump, takeK_bump]; rfl
    refine ⟨?_, ?_⟩
    · show _ = ({ m.storeM c l with words := upd (m.storeM c l).words a v } : RM)
      unfold RM.pStore
      rw [eM, eP]
      have kw : (((m.pSLine c l).bump 1).bump 2).words = m.words := (pSLine_keep m c l).1
      rw [kw]; rfl
    · rw [eP]; unfold RM.storeW; rw [if_pos hn']

end Go.Proofs.Ytobniidkkmlilab
