import Derived.Test.YtobniidkkmlilaaPl30

/- The walks over the program's machine: drop, share. -/
namespace Go.Proofs.Ytobniidkkmlilaa
open Go.RowKit Go.Coh

theorem dropK_same (m : RM) (l k : Nat) (h : m.has k l = 0) : m.dropK l (k + 1) = m.dropK l k := by
  show (if m.has k l ≠ 0 then _ else _) = _
  rw [if_neg (by omega)]
theorem dropK_one (m : RM) (l k : Nat) (h : m.has k l ≠ 0) : m.dropK l (k + 1) = ((m.dropK l k).loseAt k l).bump 7 := by
  show (if m.has k l ≠ 0 then _ else _) = _
  rw [if_pos h]

set_option maxRecDepth 100000 in
set_option maxHeartbeats 1000000 in
theorem drop_any (b : Nat) (m : RM) (l : Nat) (w : World) (hc4 : m.cores ≤ 4) (hl : l < 64) (hf : ∀ i, i < m.cores → m.has i l ≠ 0 → ∃ j, (m.firsts i).find l = some j) (h0 : ∀ i, m.cores ≤ i → m.has i l = 0)
    (ht : ∀ k, 0 ≤ m.tally k ∧ m.tally k ≤ 2305843009213693952) (H : PmAt w b m) :
    Calls Try.prog 113 #[.pointer (some ⟨b, 0, none⟩), .int .i64 l] w fun e w' => e = .returned (.tuple #[]) ∧ PmAt w' b (m.droppedS l) ∧ Upd (blkS b) w w' := by
  have HH : Hid (PmAt w b m) := H
  have HFD : Hid (∀ i, i < m.cores → m.has i l ≠ 0 → ∃ j, (m.firsts i).find l = some j) := hf
  have H00 : Hid (∀ i, m.cores ≤ i → m.has i l = 0) := h0
  have HT : Hid (∀ k, 0 ≤ m.tally k ∧ m.tally k ≤ 2305843009213693952) := ht
  clear H hf h0 ht
  go_enter Try.func113, Try.ntmps113
  go_wp2
  go_loopw [4] (fun i wr => ∃ k : Nat, k ≤ 4 ∧ i = .int .i64 k ∧ PmAt wr b (m.dropK l (min k m.cores)) ∧ Upd (blkS b) w wr) (fun i _ => 4 - (intOf i).toNat)
  case atStart => exact ⟨0, by omega, rfl, by rw [Nat.zero_min]; exact HH.out, Upd.refl _ _⟩
  case round =>
    obtain ⟨k, hk, rfl, hs, hu⟩ := hrel
    have HU : Hid (Upd (blkS b) w wr) := hu
    by_cases hlt : k < 4
    · by_cases hkc : k < m.cores
      · rw [Nat.min_eq_left (by omega)] at hs
        have kp := RM.dropK_keep m l k
        have HS : Hid (PmAt wr b (m.dropK l k)) := hs
        have h1 := hs.has k l hlt hl
        rw [(kp.2.2.2.2.2.2.2 k (Nat.le_refl _)).2 l] at h1
        by_cases hz : m.has k l = 0
        · have HN : Hid (PmAt wr b (m.dropK l (min (k + 1) m.cores))) := by
            show PmAt _ _ _
            rw [Nat.min_eq_left (by omega), dropK_same m l k hz]; exact hs
          rw [hz] at h1
          clear hs hu kp
          go_wp2
          go_roundw
          case rel => exact ⟨k + 1, by omega, by go_num, HN.out, HU.out⟩
          case measure => simp [intOf]; omega
        · have hb : (m.has k l != 0) = true := by simpa using hz
          obtain ⟨j, hj⟩ := HFD.out k hkc hz
          have HLE : Hid ((m.dropK l k).pLose k l = (m.dropK l k).loseAt k l) := RM.pLose_eq _ k l j (by rw [(kp.2.2.2.2.2.2.2 k (Nat.le_refl _)).1]; exact hj)
          have HKC : Hid ((m.dropK l k).cores = m.cores) := kp.1
          have HKT : Hid ((m.dropK l k).tally 7 ≤ m.tally 7 + k ∧ m.tally 7 ≤ (m.dropK l k).tally 7) := ⟨kp.2.2.2.2.2.1.2, kp.2.2.2.2.2.1.1⟩
          have HDO : Hid (m.dropK l (k + 1) = ((m.dropK l k).loseAt k l).bump 7) := dropK_one m l k hz
          clear hs hu kp hz hj
          generalize m.has k l = h at *
          go_wp2_with fail
          refine (lose_any b (m.dropK l k) k l _ (by rw [HKC.out]; exact hkc) hl (by rw [HKC.out]; exact hc4) HS.out).mono ?_
          rintro e w2 ⟨rfl, h2, hu2⟩
          rw [HLE.out] at h2
          have lk := RM.loseAt_keep (m.dropK l k) k l
          have t7 := h2.tally.c 7 (by omega)
          have t7f := h2.tally.f 7 (by omega)
          have htb := HKT.out
          have htt := HT.out 7
          have HT7 : Hid (((m.dropK l k).loseAt k l).tally 7 = (m.dropK l k).tally 7) := by show _ = _; rw [lk.2.2.2.1]
          have HF : Hid (PmAt (w2.setCell ⟨b, 1859 + 7, none⟩ (.int .i64 ((m.dropK l k).tally 7 + 1))) b (m.dropK l (min (k + 1) m.cores))) := by
            have := h2.setTally (by rw [lk.1, HKC.out]; exact hc4) 7 (by omega) ((m.dropK l k).tally 7 + 1)
            show PmAt _ _ _
            rw [Nat.min_eq_left (by omega), HDO.out]
            rw [← HT7.out] at this ⊢
            exact this
          rw [HT7.out] at t7
          have HU2 : Hid (Upd (blkS b) w w2) := HU.out.trans hu2
          generalize (m.dropK l k).tally 7 = t at *
          clear h2 hu2 lk HKT
          go_wp2
          go_roundw
          case rel => exact ⟨k + 1, by omega, by go_num, HF.out, HU2.out.setCell (fun _ => blk_self b _) _⟩
          case measure => simp [intOf]; omega
      · rw [Nat.min_eq_right (by omega)] at hs
        have kp := RM.dropK_keep m l m.cores
        have h1 := hs.has k l hlt hl
        rw [(kp.2.2.2.2.2.2.2 k (by omega)).2 l, H00.out k (by omega)] at h1
        have HN : Hid (PmAt wr b (m.dropK l (min (k + 1) m.cores))) := by
          show PmAt _ _ _
          rw [Nat.min_eq_right (by omega)]; exact hs
        clear hs hu kp
        go_wp2
        go_roundw
        case rel => exact ⟨k + 1, by omega, by go_num, HN.out, HU.out⟩
        case measure => simp [intOf]; omega
    · have hk4 : k = 4 := by omega
      subst hk4
      rw [Nat.min_eq_right hc4] at hs
      have kp := RM.dropK_keep m l m.cores
      have HS : Hid (PmAt wr b (m.dropK l m.cores)) := hs
      have HKC : Hid ((m.dropK l m.cores).cores = m.cores) := kp.1
      have HT8 : Hid ((m.dropK l m.cores).tally 8 = m.tally 8) := kp.2.2.2.2.2.2.1 8 (by omega)
      have htt := HT.out 8
      clear hs hu kp
      go_wp2_with fail
      refine (writeBack_any b (m.dropK l m.cores) l _ hl (by rw [HKC.out]; exact hc4) (by rw [HT8.out]; omega) HS.out).mono ?_
      rintro e w2 ⟨rfl, h2, hu2⟩
      have l1 := h2.lasts.c l hl
      have l1f := h2.lasts.f l hl
      have hbc : ((m.dropK l m.cores).backS l).cores = m.cores := by
        unfold RM.backS; split
        · exact HKC.out
        · exact HKC.out
      have HF : Hid (PmAt (w2.setCell ⟨b, 1283 + l, none⟩ (.int .i64 0)) b (m.droppedS l)) := h2.setLasts (by rw [hbc]; exact hc4) l hl 0
      have HU2 : Hid (Upd (blkS b) w w2) := HU.out.trans hu2
      generalize ((m.dropK l m.cores).backS l).lasts l = x at *
      clear h2 hu2 hbc
      go_wp2
      go_end0
      exact ⟨rfl, HF.out, HU2.out.setCell (fun _ => blk_self b _) _⟩

theorem shareK_same (m : RM) (l k : Nat) (h : m.has k l = 0) : m.shareK l (k + 1) = m.shareK l k ∧ m.shareV l (k + 1) = m.shareV l k := by
  refine ⟨?_, ?_⟩
  · show (if m.has k l = 0 then _ else _) = _
    rw [if_pos h]
  · show (if m.has k l = 0 then _ else _) = _
    rw [if_pos h]
theorem shareK_one (m : RM) (l k : Nat) (h : m.has k l ≠ 0) : m.shareK l (k + 1) = { (m.shareK l k).handS k l with has := updH (m.shareK l k).has k l 1 } ∧ m.shareV l (k + 1) = 1 := by
  have kp := (RM.shareK_keep m l k).2.2.2.2.2.2.2 k (Nat.le_refl _) l
  refine ⟨?_, ?_⟩
  · show (if m.has k l = 0 then _ else if m.has k l = 3 then _ else _) = _
    rw [if_neg h]
    unfold RM.handS
    rw [kp]
    split <;> rfl
  · show (if m.has k l = 0 then _ else _) = _
    rw [if_neg h]
theorem shareV_two (m : RM) (l : Nat) : ∀ k, m.shareV l k = 2 ∨ m.shareV l k = 1
  | 0 => .inl rfl
  | k + 1 => by
    unfold RM.shareV
    split
    · exact shareV_two m l k
    · exact .inr rfl

set_option maxRecDepth 100000 in
set_option maxHeartbeats 1000000 in
theorem share_any (b : Nat) (m : RM) (l : Nat) (w : World) (hc4 : m.cores ≤ 4) (hl : l < 64) (h0 : ∀ i, m.cores ≤ i → m.has i l = 0) (H : PmAt w b m) :
    Calls Try.prog 87 #[.pointer (some ⟨b, 0, none⟩), .int .i64 l] w fun e w' => e = .returned (.bool (m.shareV l m.cores == 1)) ∧ PmAt w' b (m.shareK l m.cores) ∧ Upd (blkS b) w w' := by
  have HH : Hid (PmAt w b m) := H
  have H00 : Hid (∀ i, m.cores ≤ i → m.has i l = 0) := h0
  clear H h0
  go_enter Try.func87, Try.ntmps87
  go_wp2
  go_loopw [5, 6] (fun hd i wr => ∃ k : Nat, k ≤ 4 ∧ i = .int .i64 k ∧ hd = .bool (m.shareV l (min k m.cores) == 1) ∧ PmAt wr b (m.shareK l (min k m.cores)) ∧ Upd (blkS b) w wr) (fun _ i _ => 4 - (intOf i).toNat)
  case atStart => exact ⟨0, by omega, rfl, by rw [Nat.zero_min]; rfl, by rw [Nat.zero_min]; exact HH.out, Upd.refl _ _⟩
  case round =>
    obtain ⟨k, hk, rfl, rfl, hs, hu⟩ := hrel
    have HU : Hid (Upd (blkS b) w wr) := hu
    by_cases hlt : k < 4
    · by_cases hkc : k < m.cores
      · rw [Nat.min_eq_left (by omega)] at hs ⊢
        have kp := RM.shareK_keep m l k
        have HS : Hid (PmAt wr b (m.shareK l k)) := hs
        have h1 := hs.has k l hlt hl
        rw [kp.2.2.2.2.2.2.2 k (Nat.le_refl _) l] at h1
        by_cases hz : m.has k l = 0
        · have HN : Hid (PmAt wr b (m.shareK l (min (k + 1) m.cores)) ∧ m.shareV l (min (k + 1) m.cores) = m.shareV l k) := by
            rw [Nat.min_eq_left (by omega), (shareK_same m l k hz).1, (shareK_same m l k hz).2]; exact ⟨hs, rfl⟩
          rw [hz] at h1
          generalize hsv : m.shareV l k = sv at *
          clear hs hu kp
          go_wp2
          go_roundw
          case rel => exact ⟨k + 1, by omega, by go_num, by rw [HN.out.2], HN.out.1, HU.out⟩
          case measure => simp [intOf]; omega
        · have hb : (m.has k l != 0) = true := by simpa using hz
          have HKC : Hid ((m.shareK l k).cores = m.cores) := kp.1
          have HSO := (show Hid _ from shareK_one m l k hz)
          clear hs hu kp hz
          generalize m.has k l = h at *
          generalize m.shareV l k = sv at *
          go_wp2_with fail
          refine (handOn_any b (m.shareK l k) k l _ hlt hl (by rw [HKC.out]; exact hc4) HS.out).mono ?_
          rintro e w2 ⟨rfl, h2, hu2⟩
          have hk8 := handS_keep (m.shareK l k) k l
          have c1 := h2.has k l hlt hl
          have c1f := h2.bf (1027 + k * 64 + l)
          have HF : Hid (PmAt (w2.setCell ⟨b, 1027 + k * 64 + l, none⟩ (.int .i64 1)) b (m.shareK l (min (k + 1) m.cores)) ∧ m.shareV l (min (k + 1) m.cores) = 1) := by
            rw [Nat.min_eq_left (by omega), HSO.out.1, HSO.out.2]
            have := h2.setHas (by rw [hk8.1, HKC.out]; exact hc4) k l hlt hl 1
            rw [hk8.2.2.2.2.1] at this
            exact ⟨this, rfl⟩
          have HU2 : Hid (Upd (blkS b) w w2) := HU.out.trans hu2
          generalize ((m.shareK l k).handS k l).has k l = x at *
          clear h2 hu2 hk8
          go_wp2
          go_roundw
          case rel => exact ⟨k + 1, by omega, by go_num, by rw [HF.out.2]; rfl, HF.out.1, HU2.out.setCell (fun _ => blk_self b _) _⟩
          case measure => simp [intOf]; omega
      · rw [Nat.min_eq_right (by omega)] at hs ⊢
        have kp := RM.shareK_keep m l m.cores
        have h1 := hs.has k l hlt hl
        rw [kp.2.2.2.2.2.2.2 k (by omega) l, H00.out k (by omega)] at h1
        have HN : Hid (PmAt wr b (m.shareK l (min (k + 1) m.cores)) ∧ m.shareV l (min (k + 1) m.cores) = m.shareV l m.cores) := by
          rw [Nat.min_eq_right (by omega)]; exact ⟨hs, rfl⟩
        generalize hsv : m.shareV l m.cores = sv at *
        clear hs hu kp
        go_wp2
        go_roundw
        case rel => exact ⟨k + 1, by omega, by go_num, by rw [HN.out.2], HN.out.1, HU.out⟩
        case measure => simp [intOf]; omega
    · have hk4 : k = 4 := by omega
      subst hk4
      rw [Nat.min_eq_right hc4] at hs ⊢
      have HS : Hid (PmAt wr b (m.shareK l m.cores)) := hs
      clear hs hu
      go_wp2
      go_ret
      exact ⟨rfl, HS.out, HU.out⟩

end Go.Proofs.Ytobniidkkmlilaa

/- The walks over the program's machine: keep, fetch. -/
namespace Go.Proofs.Ytobniidkkmlilaa
open Go.RowKit Go.Coh

theorem miss_id {s : RC} (h : s.P ≤ 1) (x : Int) : missS s x = s := by
  unfold missS pselN
  rw [if_pos (by omega)]
theorem firPut_eq {s : RC} (h : s.P ≤ 1) (l : Nat) : farPut s l = firPut s l := by
  unfold farPut firPut; rw [miss_id h]
theorem roomOut_low {s : RC} (ok : RcOk s) (x : Int) : -1 ≤ s.roomOut x := by
  obtain ⟨j, _, _, e⟩ := room_in ok x
  rw [e]; exact ok.ll _

/-- the machine behind 'keep', as the program goes about it -/
theorem keep_eq (m : RM) (c l : Nat) (v : Int) (ok : RcOk (m.firsts c)) (ln : LnOk (m.firsts c)) (o : Nat) (ho : (m.firsts c).roomOut l = o) :
    ({ ({ m with firsts := updC m.firsts c (firPut (m.firsts c) l) } : RM).leaveS c o with has := updH (updH m.has c o 0) c l v } : RM) = m.takenS c l v := by
  rw [RM.takenS_eq m c l v ok ln, ho]
  unfold RM.leaveS RM.handS outH outL
  rw [if_pos (show (0 : Int) ≤ (o : Int) by omega)]
  by_cases h3 : m.has c o = 3
  · rw [if_pos (by exact h3), if_pos ⟨by omega, by exact h3⟩]; rfl
  · rw [if_neg (by exact h3), if_neg (fun h => h3 h.2)]; rfl
theorem keep_eq0 (m : RM) (c l : Nat) (v : Int) (ok : RcOk (m.firsts c)) (ln : LnOk (m.firsts c)) (ho : (m.firsts c).roomOut l = -1) :
    ({ m with firsts := updC m.firsts c (firPut (m.firsts c) l), has := updH m.has c l v } : RM) = m.takenS c l v := by
  rw [RM.takenS_eq m c l v ok ln, ho]
  unfold outH outL
  rw [if_neg (by omega), if_neg (fun h => absurd h.1 (by omega))]

set_option maxRecDepth 100000 in
set_option maxHeartbeats 1000000 in
theorem keep_any (b : Nat) (m : RM) (c l : Nat) (v : Int) (w : World) (hc : c < m.cores) (hl : l < 64) (hc4 : m.cores ≤ 4) (ok : RcOk (m.firsts c)) (ln : LnOk (m.firsts c)) (hp : (m.firsts c).P ≤ 1) (hn : (m.firsts c).find l = none) (H : PmAt w b m) :
    Calls Try.prog 88 #[.pointer (some ⟨b, 0, none⟩), .int .i64 c, .int .i64 l, .int .i64 v] w fun e w' => e = .returned (.tuple #[]) ∧ PmAt w' b (m.takenS c l v) ∧ Upd (blkS b) w w' := by
  have HH : Hid (PmAt w b m) := H
  have hcc : c < 4 := by omega
  have HPS : Hid (0 ≤ (m.firsts c).psel ∧ (m.firsts c).psel ≤ 15) := ok.psel
  have HCT : Hid (cTouch (m.firsts c) l = firPut (m.firsts c) l) := by show _ = _; unfold cTouch; rw [hn]; exact firPut_eq hp l
  have HCO : Hid (cOut (m.firsts c) l = (m.firsts c).roomOut l) := by show _ = _; unfold cOut; rw [hn, miss_id hp]
  have hlow := roomOut_low ok l
  have hhi := (out_in ok ln l).1
  have HK : Hid (∀ o : Nat, (m.firsts c).roomOut l = o → ({ ({ m with firsts := updC m.firsts c (firPut (m.firsts c) l) } : RM).leaveS c o with has := updH (updH m.has c o 0) c l v } : RM) = m.takenS c l v) := fun o ho => keep_eq m c l v ok ln o ho
  have HK0 : Hid ((m.firsts c).roomOut l = -1 → ({ m with firsts := updC m.firsts c (firPut (m.firsts c) l), has := updH m.has c l v } : RM) = m.takenS c l v) := fun ho => keep_eq0 m c l v ok ln ho
  clear H ok ln hp hn
  go_enter Try.func88, Try.ntmps88
  go_wp2_with fail
  refine (cTouch_any b (7 + c * 204) l (m.firsts c) _ hl HPS.out HH.out.bf (HH.out.first c hc)).mono ?_
  rintro e w1 ⟨⟨⟨th, tw, t⟩, rfl, hhit, hout⟩, h1, hu⟩
  clear hhit
  change t = _ at hout
  rw [HCT.out] at h1
  rw [HCO.out] at hout
  have h2 := HH.out.setFirst hc4 hc h1 hu
  have hu1 : Upd (blkS b) w w1 := hu.mono (fun _ _ h => blk_row h)
  have hb1 := h2.blt
  have h3 : PmAt (w1.alloc (.cells #[.bool th, .int .i64 tw, .int .i64 t] 41)) b { m with firsts := updC m.firsts c (firPut (m.firsts c) l) } := h2.of_upd ((Upd.refl no w1).alloc _) (fun _ h => h)
  have HM : Hid (PmAt (w1.alloc (.cells #[.bool th, .int .i64 tw, .int .i64 t] 41)) b { m with firsts := updC m.firsts c (firPut (m.firsts c) l) }) := h3
  have HU : Hid (Upd (blkS b) w (w1.alloc (.cells #[.bool th, .int .i64 tw, .int .i64 t] 41))) := hu1.alloc _
  have HBK : Hid ((w1.alloc (.cells #[.bool th, .int .i64 tw, .int .i64 t] 41)).heap[w1.heap.size]? = some (.cells #[.bool th, .int .i64 tw, .int .i64 t] 41)) := heap_alloc_new _ _
  have HLT : Hid (b < w1.heap.size) := hb1
  have HOU : Hid (t = (m.firsts c).roomOut l) := hout
  clear h1 h2 h3 hu hu1 hb1
  by_cases ho : t = -1
  · have hq := HK0.out (by rw [← hout]; exact ho)
    have d1 := HM.out.has c l hcc hl
    have d1f := HM.out.bf (1027 + c * 64 + l)
    have HF : Hid (PmAt ((w1.alloc (.cells #[.bool th, .int .i64 tw, .int .i64 t] 41)).setCell ⟨b, 1027 + c * 64 + l, none⟩ (.int .i64 v)) b (m.takenS c l v)) := by
      have := HM.out.setHas hc4 c l hcc hl v
      rw [← hq]; exact this
    have hob : (t != -1) = false := by simpa using ho
    clear hq hout ho
    generalize m.has c l = x at *
    simp only [tv]
    go_wp2
    go_end0
    exact ⟨rfl, HF.out, HU.out.setCell (fun _ => blk_self b _) _⟩
  · obtain ⟨o, hoo⟩ : ∃ o : Nat, t = o := ⟨t.toNat, by omega⟩
    have ho64 : o < 64 := by omega
    have HQ := (show Hid _ from HK.out o (by rw [← hout]; exact hoo))
    have hob : ((o : Int) != -1) = true := by simp
    simp only [tv]
    subst hoo
    clear hout ho
    go_wp2_with fail
    refine (leave_any b _ c o _ hcc ho64 (by exact hc4) HM.out).mono ?_
    rintro e w2 ⟨rfl, h2, hu2⟩
    have hk8 := handS_keep ({ m with firsts := updC m.firsts c (firPut (m.firsts c) l) } : RM) c o
    have d1 := h2.has c l hcc hl
    have d1f := h2.bf (1027 + c * 64 + l)
    have HF : Hid (PmAt (w2.setCell ⟨b, 1027 + c * 64 + l, none⟩ (.int .i64 v)) b (m.takenS c l v)) := by
      have := h2.setHas (by show (RM.handS _ c o).cores ≤ 4; rw [hk8.1]; exact hc4) c l hcc hl v
      rw [← HQ.out]; exact this
    have HU2 : Hid (Upd (blkS b) w w2) := HU.out.trans hu2
    generalize (RM.leaveS _ c o).has c l = x at *
    clear h2 hu2 hk8
    go_wp2
    go_end0
    exact ⟨rfl, HF.out, HU2.out.setCell (fun _ => blk_self b _) _⟩

end Go.Proofs.Ytobniidkkmlilaa
