import Derived.Test.YtobniidkkmlilaaPk41

/- The walks over the program's Store (P7). -/
namespace Go.Proofs.Ytobniidkkmlilaa
open Go.RowKit Go.Coh

theorem MInv.pHere {m : RM} {B : Int} {c l : Nat} (h : MInv m B) (hc : c < m.cores) (hl : l < 64) (h0 : m.has c l ≠ 0) : MInv (m.pHere c l) (B + 2) := by
  obtain ⟨j, e⟩ := (h.find hc hl).2 h0
  have e2 : cTouch (m.firsts c) l = (m.firsts c).found ((m.firsts c).lo l + j) := by unfold cTouch; rw [e]
  have h1 : MInv (if m.has c l = 1 then m.bump 5 else m) (B + 1) := by
    split
    · exact h.bump 5
    · exact h.mono (by omega)
  have hF : (if m.has c l = 1 then m.bump 5 else m).firsts = m.firsts ∧ (if m.has c l = 1 then m.bump 5 else m).cores = m.cores ∧ (if m.has c l = 1 then m.bump 5 else m).has = m.has := by split <;> exact ⟨rfl, rfl, rfl⟩
  have h2 := h1.mono (B' := B + 2) (by omega)
  unfold RM.pHere
  rw [e2]
  refine ⟨h2.c, ?_, h2.okf, h2.lnf, h2.clf, h2.flf, h2.pf, h2.ht, h2.c0, h2.ck⟩
  show FI (if m.has c l = 1 then m.bump 5 else m).cores (updC m.firsts c _) (if m.has c l = 1 then m.bump 5 else m).has (B + 2)
  rw [hF.2.1, hF.2.2]
  exact (h.fi.found hc _).mono (by omega)

theorem MInv.pSLine {m : RM} {B : Int} {c l : Nat} (h : MInv m B) (hc : c < m.cores) (hl : l < 64) : MInv (m.pSLine c l) (B + 12) := by
  have hc4 := h.c
  unfold RM.pSLine
  split
  · rename_i h0
    obtain ⟨i1, i2⟩ := h.pFetch hl
    have pk := RM.pFetch_keep m l
    have i3 := i1.takeK c hl m.cores (by rw [pk.1]; exact Nat.le_refl _)
    have sk := RM.takeK_keep (m.pFetch l) c l m.cores
    exact (i3.taken (c := c) (l := l) (by rw [sk.1, pk.1]; exact hc) hl (by rw [(sk.2.2.2.2.2.2.2 c (.inr rfl)).2 l, i2]; exact h0) (by omega)).mono (by omega)
  · rename_i h0
    have hk := pHere_words m c l
    have i2 := (h.pHere hc hl h0).takeK c hl m.cores (by rw [hk.2.1]; exact Nat.le_refl _)
    have sk := RM.takeK_keep (m.pHere c l) c l m.cores
    refine (i2.has (updH_zero (H := ((m.pHere c l).takeK c l m.cores).has) ?_ (by omega))).mono (by omega)
    rw [(sk.2.2.2.2.2.2.2 c (.inr rfl)).2 l, hk.2.2]; exact h0

set_option maxRecDepth 100000 in
set_option maxHeartbeats 1000000 in
theorem storeLine_any (b : Nat) (m : RM) (c l : Nat) (B : Int) (w : World) (hc : c < m.cores) (hl : l < 64) (I : MInv m B) (CI : CInv m) (hB : B ≤ 1152921504606846976) (H : PmAt w b m) :
    Calls Try.prog 63 #[.pointer (some ⟨b, 0, none⟩), .int .i64 c, .int .i64 l] w fun e w' => e = .returned (.int .i64 (m.pPlace c l)) ∧ PmAt w' b (m.pSLine c l) ∧ Upd (blkS b) w w' := by
  have HH : Hid (PmAt w b m) := H
  have hc4 := I.c.2
  have hcc : c < 4 := by omega
  have HI : Hid (MInv m B) := I
  have h1 := H.has c l hcc hl
  by_cases h0 : m.has c l = 0
  · have HPL : Hid (m.pPlace c l = m.fetchedV l) := by show _ = _; unfold RM.pPlace; rw [if_neg (by omega)]
    have HPM : Hid (m.pSLine c l = ((m.pFetch l).takeK c l m.cores).takenS c l 3) := by show _ = _; unfold RM.pSLine; rw [if_pos h0]
    rw [HPL.out, HPM.out]
    rw [h0] at h1
    obtain ⟨i1, i2⟩ := I.pFetch hl
    have pk := RM.pFetch_keep m l
    have i3 := i1.takeK c hl m.cores (by rw [pk.1]; exact Nat.le_refl _)
    have sk := RM.takeK_keep (m.pFetch l) c l m.cores
    have hz : ((m.pFetch l).takeK c l m.cores).has c l = 0 := by rw [(sk.2.2.2.2.2.2.2 c (.inr rfl)).2 l, i2]; exact h0
    have hn : (((m.pFetch l).takeK c l m.cores).firsts c).find l = none := by
      cases e : (((m.pFetch l).takeK c l m.cores).firsts c).find l with
      | none => rfl
      | some j => exact absurd hz ((i3.find (c := c) (by rw [sk.1, pk.1]; exact hc) hl).1 ⟨j, e⟩)
    have HC1 : Hid ((m.pFetch l).cores = m.cores) := pk.1
    have HC2 : Hid (((m.pFetch l).takeK c l m.cores).cores = m.cores) := by show _ = _; rw [sk.1, pk.1]
    have HI1 : Hid (MInv (m.pFetch l) (B + 6)) := i1
    have HI3 : Hid (MInv ((m.pFetch l).takeK c l m.cores) (B + 6 + m.cores)) := i3
    have HN : Hid ((((m.pFetch l).takeK c l m.cores).firsts c).find l = none) := hn
    clear H I CI h0 HPL HPM i1 i2 i3 pk sk hz hn
    go_enter Try.func63, Try.ntmps63
    go_wp2_with fail
    refine (fetch_any b m l B _ hl HI.out (by omega) HH.out).mono ?_
    rintro e w1 ⟨rfl, g1, u1⟩
    have HG1 : Hid (PmAt w1 b (m.pFetch l)) := g1
    have HU1 : Hid (Upd (blkS b) w w1) := u1
    clear g1 u1 h1
    go_wp2_with fail
    refine (take_any b (m.pFetch l) c l _ (by rw [HC1.out]; exact hc4) hl (fun i hi hh => (HI1.out.find hi hl).2 hh) (fun i hi => HI1.out.fi.h0 i l hi) (fun k => ⟨(HI1.out.ht k).1, by have := (HI1.out.ht k).2; omega⟩) HG1.out).mono ?_
    rintro e w2 ⟨rfl, g2, u2⟩
    rw [HC1.out] at g2
    have HG2 : Hid (PmAt w2 b ((m.pFetch l).takeK c l m.cores)) := g2
    have HU2 : Hid (Upd (blkS b) w w2) := HU1.out.trans u2
    clear g2 u2
    go_wp2_with fail
    refine (keep_any b _ c l 3 _ (by rw [HC2.out]; exact hc) hl (by rw [HC2.out]; exact hc4) (HI3.out.fi.ok c) (HI3.out.fi.ln c (by rw [HC2.out]; exact hc)) (HI3.out.fi.pp c (by rw [HC2.out]; exact hc)) HN.out HG2.out).mono ?_
    rintro e w3 ⟨rfl, g3, u3⟩
    have HG3 := (show Hid _ from g3)
    have HU3 : Hid (Upd (blkS b) w w3) := HU2.out.trans u3
    clear g3 u3
    go_wp2
    go_ret
    exact ⟨rfl, HG3.out, HU3.out⟩
  · have HPL : Hid (m.pPlace c l = 0) := by show _ = _; unfold RM.pPlace; rw [if_pos h0]
    have hpw := pHere_words m c l
    have HIH : Hid (MInv (m.pHere c l) (B + 2)) := I.pHere hc hl h0
    have HC1 : Hid ((m.pHere c l).cores = m.cores) := hpw.2.1
    have hb0 : (m.has c l == 0) = false := by simpa using h0
    have HOK : Hid (0 ≤ (m.firsts c).psel ∧ (m.firsts c).psel ≤ 15) := (I.fi.ok c).psel
    have ht5 := I.ht 5
    have HEND : Hid (∀ w1, CacheAt w1 b (7 + c * 204) (cTouch (m.firsts c) l) → Upd (rowS b (7 + c * 204) 204) w w1 → PmAt w1 b { m with firsts := updC m.firsts c (cTouch (m.firsts c) l) }) := fun w1 q2 q3 => H.setFirst hc4 hc q2 q3
    by_cases h11 : m.has c l = 1
    · have HPM : Hid (m.pSLine c l = { (m.pHere c l).takeK c l m.cores with has := updH ((m.pHere c l).takeK c l m.cores).has c l 3 }) := by show _ = _; unfold RM.pSLine; rw [if_neg h0]
      rw [HPL.out, HPM.out]
      have HPH : Hid (m.pHere c l = ({ m with firsts := updC m.firsts c (cTouch (m.firsts c) l) } : RM).bump 5) := by show _ = _; unfold RM.pHere; rw [if_pos h11]; rfl
      rw [h11] at h1 hb0
      clear H I h0 HPL HPM hpw h11 CI
      go_enter Try.func63, Try.ntmps63
      go_wp2_with fail
      refine (cTouch_any b (7 + c * 204) l (m.firsts c) _ hl HOK.out HH.out.bf (HH.out.first c hc)).mono ?_
      rintro e w1 ⟨⟨t, rfl, hhit, hout⟩, g1, u1⟩
      have hT := HEND.out _ g1 u1
      have t5 := hT.tally.c 5 (by omega)
      have t5f := hT.tally.f 5 (by omega)
      change World.cell? _ _ = some (.int .i64 (m.tally 5)) at t5
      have HM1 : Hid (PmAt (w1.setCell ⟨b, 1859 + 5, none⟩ (.int .i64 (m.tally 5 + 1))) b (m.pHere c l)) := by
        show PmAt _ _ _
        rw [HPH.out]; exact hT.setTally hc4 5 (by omega) _
      have HU1 : Hid (Upd (blkS b) w (w1.setCell ⟨b, 1859 + 5, none⟩ (.int .i64 (m.tally 5 + 1)))) := (u1.mono (fun _ _ h => blk_row h)).setCell (fun _ => blk_self b _) _
      clear g1 u1 hhit hout hT h1
      generalize m.tally 5 = t5v at *
      go_wp2_with fail
      refine (take_any b (m.pHere c l) c l _ (by rw [HC1.out]; exact hc4) hl (fun i hi hh => (HIH.out.find hi hl).2 hh) (fun i hi => HIH.out.fi.h0 i l hi) (fun k => ⟨(HIH.out.ht k).1, by have := (HIH.out.ht k).2; omega⟩) HM1.out).mono ?_
      rintro e w2 ⟨rfl, g2, u2⟩
      rw [HC1.out] at g2
      have sk := RM.takeK_keep (m.pHere c l) c l m.cores
      have d1 := g2.has c l hcc hl
      have d1f := g2.bf (1027 + c * 64 + l)
      have HF := (show Hid _ from g2.setHas (by rw [sk.1, HC1.out]; exact hc4) c l hcc hl 3)
      have HU2 : Hid (Upd (blkS b) w w2) := HU1.out.trans u2
      generalize ((m.pHere c l).takeK c l m.cores).has c l = x at *
      clear g2 u2 sk
      go_wp2
      go_ret
      exact ⟨rfl, HF.out, HU2.out.setCell (fun _ => blk_self b _) _⟩
    · have HPH : m.pHere c l = { m with firsts := updC m.firsts c (cTouch (m.firsts c) l) } := by unfold RM.pHere; rw [if_neg h11]
      have h2 : 2 ≤ m.has c l := by have := CI.rg c l; omega
      have hnone : (m.pHere c l).takeK c l m.cores = m.pHere c l := takeK_none (fun i hi hne => by rw [hpw.2.2]; exact CI.ow c i l hc (by rw [hpw.2.1] at hi; exact hi) (fun e => hne e.symm) hl h2) m.cores (by rw [hpw.2.1]; exact Nat.le_refl _)
      have HPM : Hid (m.pSLine c l = { m with firsts := updC m.firsts c (cTouch (m.firsts c) l), has := updH m.has c l 3 }) := by show _ = _; unfold RM.pSLine; rw [if_neg h0, hnone, HPH]
      rw [HPL.out, HPM.out]
      have hb1 : (m.has c l == 1) = false := by simpa using h11
      clear H I h0 HPL HPM hpw h11 CI HPH hnone h2 HIH HC1
      generalize hx : m.has c l = x at *
      have HX : Hid (m.has c l = x) := hx
      clear hx
      go_enter Try.func63, Try.ntmps63
      go_wp2_with fail
      refine (cTouch_any b (7 + c * 204) l (m.firsts c) _ hl HOK.out HH.out.bf (HH.out.first c hc)).mono ?_
      rintro e w1 ⟨⟨t, rfl, hhit, hout⟩, g1, u1⟩
      have hT := HEND.out _ g1 u1
      have d1 := hT.has c l hcc hl
      have d1f := hT.bf (1027 + c * 64 + l)
      have HF := (show Hid _ from hT.setHas hc4 c l hcc hl 3)
      have HU1 : Hid (Upd (blkS b) w w1) := u1.mono (fun _ _ h => blk_row h)
      clear g1 u1 hhit hout hT h1
      change World.cell? _ _ = some (.int .i64 (m.has c l)) at d1
      rw [HX.out] at d1
      go_wp2
      go_ret
      exact ⟨rfl, HF.out, HU1.out.setCell (fun _ => blk_self b _) _⟩

set_option maxHeartbeats 1000000 in
theorem pStoreR_nil (c a v : Int) (w : World) :
    Calls Try.prog 35 #[.pointer none, .int .i64 c, .int .i64 a, .int .i64 v] w fun e w' => e = .returned (.tuple #[.int .i64 0, .int .i64 1]) ∧ w' = w := by
  go_enter Try.func35, Try.ntmps35
  go_wp2_with fail
  refine (checkCoreAddr_nil c a _).mono ?_
  rintro e w1 ⟨rfl, rfl⟩
  go_wp2
  go_ret2
  exact ⟨rfl, rfl⟩

set_option maxHeartbeats 1000000 in
theorem pStoreR_bad (b : Nat) (m : RM) (c a v : Int) (w : World) (he : refE m.cores c a ≠ 0) (H : PmAt w b m) :
    Calls Try.prog 35 #[.pointer (some ⟨b, 0, none⟩), .int .i64 c, .int .i64 a, .int .i64 v] w fun e w' => e = .returned (.tuple #[.int .i64 0, .int .i64 (refE m.cores c a)]) ∧ w' = w := by
  have HH : Hid (PmAt w b m) := H
  have hb : (refE m.cores c a != 0) = true := by simpa using he
  obtain ⟨E, hE⟩ : ∃ E, refE m.cores c a = E := ⟨_, rfl⟩
  have HEE : Hid (refE m.cores c a = E) := hE
  rw [hE] at hb ⊢
  clear H he hE
  go_enter Try.func35, Try.ntmps35
  go_wp2_with fail
  refine (checkCoreAddr_any b m c a _ HH.out).mono ?_
  rintro e w1 ⟨rfl, rfl⟩
  rw [HEE.out]
  go_wp2
  go_ret2
  exact ⟨rfl, rfl⟩

set_option maxRecDepth 100000 in
set_option maxHeartbeats 1000000 in
theorem pStoreR_good (b : Nat) (m : RM) (c a l : Nat) (v B : Int) (w : World) (el : l = a / 4) (hc : c < m.cores) (ha : a < 256) (I : MInv m B) (CI : CInv m) (hB : B ≤ 576460752303423488) (H : PmAt w b m) :
    Calls Try.prog 35 #[.pointer (some ⟨b, 0, none⟩), .int .i64 c, .int .i64 a, .int .i64 v] w fun e w' => e = .returned (.tuple #[.int .i64 (m.storeW c l), .int .i64 0]) ∧ PmAt w' b (m.storeS c l a v) ∧ Upd (blkS b) w w' := by
  have HH : Hid (PmAt w b m) := H
  have HI : Hid (MInv m B) := I
  have HCI : Hid (CInv m) := CI
  have hc4 := I.c.2
  have hl : l < 64 := by omega
  have HR : Hid (refE m.cores c a = 0) := by show _ = _; unfold refE; rw [if_neg (by omega), if_neg (by omega)]
  obtain ⟨pe1, pe2⟩ := I.pStore_eq hc hl a v
  obtain ⟨p, hp, hp3⟩ := pPlace_lt m c l
  have kp := pSLine_keep m c l
  have HIN : Hid (MInv (m.pSLine c l) (B + 12)) := I.pSLine hc hl
  have HLW : Hid (m.storeW c l = p) := by show _ = _; rw [← pe2, hp]
  have HLS : Hid (m.storeS c l a v = (({ m.pSLine c l with words := upd m.words a v } : RM).bump 1).bump (2 + p)) := by show _ = _; rw [← pe1]; unfold RM.pStore; rw [hp]; rfl
  have HPP : Hid (m.pPlace c l = p) := hp
  have HKC : Hid ((m.pSLine c l).cores = m.cores) := kp.2
  have HKW : Hid ((m.pSLine c l).words = m.words) := kp.1
  rw [HLW.out, HLS.out]
  have HEL : Hid ((a : Int) / 4 = l) := by show _ = _; omega
  clear H I CI pe1 pe2 hp kp HLW HLS
  go_enter Try.func35, Try.ntmps35
  go_wp2_with fail
  refine (checkCoreAddr_any b m c a _ HH.out).mono ?_
  rintro e w1 ⟨rfl, rfl⟩
  rw [HR.out]
  go_wp2_with fail
  rw [HEL.out]
  refine (storeLine_any b m c l B _ hc hl HI.out HCI.out (by omega) HH.out).mono ?_
  rintro e w2 ⟨rfl, g2, u2⟩
  rw [HPP.out]
  have d1 := g2.words.c a ha
  have d1f := g2.words.f a ha
  have g3 : PmAt (w2.setCell ⟨b, 1347 + a, none⟩ (.int .i64 v)) b { m.pSLine c l with words := upd m.words a v } := by
    have := g2.setWord (by rw [HKC.out]; exact hc4) a ha v
    rw [HKW.out] at this; exact this
  have t0 := g3.tally.c 1 (by omega)
  have t0f := g3.tally.f 1 (by omega)
  change World.cell? _ _ = some (.int .i64 ((m.pSLine c l).tally 1)) at t0
  have hht := HIN.out.ht 1
  have HG : Hid (PmAt ((w2.setCell ⟨b, 1347 + a, none⟩ (.int .i64 v)).setCell ⟨b, 1860, none⟩ (.int .i64 ((m.pSLine c l).tally 1 + 1))) b (({ m.pSLine c l with words := upd m.words a v } : RM).bump 1)) := g3.setTally (by show (m.pSLine c l).cores ≤ 4; rw [HKC.out]; exact hc4) 1 (by omega) _
  have HU2 := (show Hid _ from u2)
  have HIB : Hid (MInv (({ m.pSLine c l with words := upd m.words a v } : RM).bump 1) (B + 13)) := ((HIN.out.words _).bump 1).mono (by omega)
  clear g2 u2 g3
  generalize (m.pSLine c l).tally 1 = x at *
  generalize (m.pSLine c l).words a = x0 at *
  go_wp2_with fail
  refine (countPlace_any b (({ m.pSLine c l with words := upd m.words a v } : RM).bump 1) p _ hp3 (by show (m.pSLine c l).cores ≤ 4; rw [HKC.out]; exact hc4) (fun k => ⟨(HIB.out.ht k).1, Int.le_trans (HIB.out.ht k).2 (by omega)⟩) HG.out).mono ?_
  rintro e w3 ⟨rfl, g3, u3⟩
  have HG3 := (show Hid _ from g3)
  have HU3 := (show Hid _ from ((HU2.out.setCell (a := ⟨b, 1347 + a, none⟩) (fun _ => blk_self b _) (.int .i64 v)).setCell (a := ⟨b, 1860, none⟩) (fun _ => blk_self b _) (.int .i64 (x + 1))).trans u3)
  clear g3 u3
  go_wp2
  go_ret2
  exact ⟨rfl, HG3.out, HU3.out⟩

theorem pStore_all (b : Nat) (m : RM) (c a v B : Int) (w : World) (I : MInv m B) (CI : CInv m) (hB : B ≤ 576460752303423488) (H : PmAt w b m) :
    Calls Try.prog 35 #[.pointer (some ⟨b, 0, none⟩), .int .i64 c, .int .i64 a, .int .i64 v] w fun e w' => e = .returned (.tuple #[.int .i64 (m.sW c a), .int .i64 (refE m.cores c a)]) ∧ PmAt w' b (m.sS c a v) ∧ Upd (blkS b) w w' := by
  unfold RM.sW RM.sS
  by_cases he : refE m.cores c a = 0
  · rw [if_pos he, if_pos he, he]
    obtain ⟨i, j, rfl, rfl, hi, hj⟩ := refE_nat he
    exact pStoreR_good b m i j (j / 4) v B w rfl hi hj I CI hB H
  · rw [if_neg he, if_neg he]
    refine (pStoreR_bad b m c a v w he H).mono ?_
    rintro e w' ⟨rfl, rfl⟩
    exact ⟨rfl, H, Upd.refl _ _⟩

end Go.Proofs.Ytobniidkkmlilaa
