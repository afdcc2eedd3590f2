import Derived.Test.YtobniidkkmlilabPk31

/- The walks over the program's machine: fetch, loadLine, Load. -/
namespace Go.Proofs.Ytobniidkkmlilab
open Go.RowKit Go.Coh

theorem MInv.pFetch {m : RM} {B : Int} {l : Nat} (h : MInv m B) (hl : l < 64) : MInv (m.pFetch l) (B + 6) ∧ ∀ i, (m.pFetch l).has i l = m.has i l := by
  unfold RM.pFetch
  split
  · refine ⟨?_, fun _ => rfl⟩
    have h1 := h.mono (B' := B + 6) (by omega)
    exact h1.farTo (h.okf.found _) (h.lnf.congr rfl rfl rfl) (by show m.far.clock + 1 ≤ B + 6; have := h.clf; omega) h1.flf h.pf
  · rename_i hn
    have hne := h.outF_ne hn
    refine ⟨?_, fun i => RM.gone_has m _ i l hne⟩
    have h1 := h.gone (h.outF l)
    obtain ⟨f1, f2, f3, f4, f5, f6, j, hj, f7, f8⟩ := farPut_L h.okf l
    obtain ⟨l1, _⟩ := put_ln h.lnf h.okf f2 f3 hj f7 (by omega) (by omega) (find_none.1 hn)
    have h2 := h1.farTo (r := farPut m.far l) f1 l1 (by have := h.clf; omega) (by have := h.flf; omega) (by rw [f4]; exact h.pf)
    exact (h2.lasts _).mono (by omega)

set_option maxRecDepth 100000 in
set_option maxHeartbeats 1000000 in
theorem fetch_any (b : Nat) (m : RM) (l : Nat) (B : Int) (w : World) (hl : l < 64) (I : MInv m B) (hB : B ≤ 2305843009213693952) (H : PmAt w b m) :
    Calls Try.prog 45 #[.pointer (some ⟨b, 0, none⟩), .int .i64 l] w fun e w' => e = .returned (.int .i64 (m.fetchedV l)) ∧ PmAt w' b (m.pFetch l) ∧ Upd (blkS b) w w' := by
  have HH : Hid (PmAt w b m) := H
  have hc4 := I.c.2
  have HPS : Hid (0 ≤ m.far.psel ∧ m.far.psel ≤ 15) := I.okf.psel
  have hlow := roomOut_low (I.okf.miss (x := l)) l
  have hhi := I.outF l
  have HI : Hid (MInv m B) := I
  clear H I
  go_enter Try.func45, Try.ntmps45
  go_wp2_with fail
  refine (cTouch_any b 823 l m.far _ hl HPS.out HH.out.bf HH.out.far).mono ?_
  rintro e w1 ⟨⟨⟨th, tw, t⟩, rfl, hhit, hout⟩, h1, hu⟩
  change th = _ at hhit
  change t = _ at hout
  have h2 := HH.out.setFar hc4 h1 hu
  have hu1 : Upd (blkS b) w w1 := hu.mono (fun _ _ h => blk_row h)
  have hb1 := h2.blt
  have h3 : PmAt (w1.alloc (.cells #[.bool th, .int .i64 tw, .int .i64 t] 90)) b { m with far := cTouch m.far l } := h2.of_upd ((Upd.refl no w1).alloc _) (fun _ h => h)
  have HU : Hid (Upd (blkS b) w (w1.alloc (.cells #[.bool th, .int .i64 tw, .int .i64 t] 90))) := hu1.alloc _
  have HBK : Hid ((w1.alloc (.cells #[.bool th, .int .i64 tw, .int .i64 t] 90)).heap[w1.heap.size]? = some (.cells #[.bool th, .int .i64 tw, .int .i64 t] 90)) := heap_alloc_new _ _
  have HLT : Hid (b < w1.heap.size) := hb1
  simp only [tv]
  cases hf : m.far.find l with
  | some j =>
    have HV : Hid (m.fetchedV l = 1) := by show _ = _; unfold RM.fetchedV; rw [hf]; rfl
    have HP : Hid (PmAt (w1.alloc (.cells #[.bool th, .int .i64 tw, .int .i64 t] 90)) b (m.pFetch l)) := by
      show PmAt _ _ _
      have : m.pFetch l = { m with far := cTouch m.far l } := by unfold RM.pFetch cTouch; rw [hf]
      rw [this]; exact h3
    have hth : th = true := by rw [hhit, hf]; rfl
    subst hth
    clear hf hhit hout h1 h2 h3 hu hu1 hb1
    go_wp2
    go_ret
    exact ⟨ret_int HV.out.symm, HP.out, HU.out⟩
  | none =>
    have HV : Hid (m.fetchedV l = 2) := by show _ = _; unfold RM.fetchedV; rw [hf]; rfl
    have hth : th = false := by rw [hhit, hf]; rfl
    have hto : t = (missS m.far l).roomOut l := by rw [hout]; unfold cOut; rw [hf]
    have hct : cTouch m.far l = farPut m.far l := by unfold cTouch; rw [hf]
    have hpf : m.pFetch l = { ({ m with far := farPut m.far l } : RM).gone t with lasts := upd (({ m with far := farPut m.far l } : RM).gone t).lasts l 1 } := by
      unfold RM.pFetch; rw [hf, ← hto, gone_far m (farPut m.far l) t]
    rw [← hto] at hlow hhi
    subst hth
    rw [hct] at h3
    have HM : Hid (PmAt (w1.alloc (.cells #[.bool false, .int .i64 tw, .int .i64 t] 90)) b { m with far := farPut m.far l }) := h3
    by_cases ho : t = -1
    · have HF : Hid (PmAt ((w1.alloc (.cells #[.bool false, .int .i64 tw, .int .i64 t] 90)).setCell ⟨b, 1283 + l, none⟩ (.int .i64 1)) b (m.pFetch l)) := by
        have := h3.setLasts hc4 l hl 1
        have eg : ({ m with far := farPut m.far l } : RM).gone t = { m with far := farPut m.far l } := by unfold RM.gone; rw [if_neg (by omega)]
        rw [hpf, eg]; exact this
      have d1 := h3.lasts.c l hl
      have d1f := h3.lasts.f l hl
      have hob : (t != -1) = false := by simpa using ho
      clear hf hhit hout h1 h2 h3 hu hu1 hb1 hto hct hpf ho
      change World.cell? _ _ = some (.int .i64 (m.lasts l)) at d1
      generalize m.lasts l = x at *
      go_wp2
      go_ret
      exact ⟨ret_int HV.out.symm, HF.out, HU.out.setCell (fun _ => blk_self b _) _⟩
    · obtain ⟨o, rfl⟩ : ∃ o : Nat, t = o := ⟨t.toNat, by omega⟩
      have ho64 : o < 64 := by omega
      have hob : ((o : Int) != -1) = true := by simp
      have eg : ({ m with far := farPut m.far l } : RM).gone (o : Int) = ({ m with far := farPut m.far l } : RM).droppedS o := by unfold RM.gone; rw [if_pos (by omega)]; rfl
      rw [eg] at hpf
      have HPF := (show Hid _ from hpf)
      clear hf hhit hout h1 h2 h3 hu hu1 hb1 hto hct hpf ho eg
      go_wp2_with fail
      refine (drop_any b { m with far := farPut m.far l } o _ hc4 ho64 (fun i hi hh => (HI.out.find hi ho64).2 hh) (fun i hi => HI.out.fi.h0 i o hi) (fun k => ⟨(HI.out.ht k).1, by have := (HI.out.ht k).2; show m.tally k ≤ _; omega⟩) HM.out).mono ?_
      rintro e w2 ⟨rfl, h2, hu2⟩
      have dk := RM.droppedS_keep ({ m with far := farPut m.far l } : RM) o
      have d1 := h2.lasts.c l hl
      have d1f := h2.lasts.f l hl
      have HF : Hid (PmAt (w2.setCell ⟨b, 1283 + l, none⟩ (.int .i64 1)) b (m.pFetch l)) := by
        have := h2.setLasts (by rw [dk.1]; exact hc4) l hl 1
        rw [HPF.out]; exact this
      have HU2 : Hid (Upd (blkS b) w w2) := HU.out.trans hu2
      generalize (RM.droppedS _ o).lasts l = x at *
      clear h2 hu2 dk
      go_wp2
      go_ret
      exact ⟨ret_int HV.out.symm, HF.out, HU2.out.setCell (fun _ => blk_self b _) _⟩

set_option maxRecDepth 100000 in
set_option maxHeartbeats 1000000 in
theorem countPlace_any (b : Nat) (m : RM) (p : Nat) (w : World) (hp : p < 3) (hc4 : m.cores ≤ 4) (ht : ∀ k, 0 ≤ m.tally k ∧ m.tally k ≤ 4611686018427387904) (H : PmAt w b m) :
    Calls Try.prog 27 #[.pointer (some ⟨b, 0, none⟩), .int .i64 p] w fun e w' => e = .returned (.tuple #[]) ∧ PmAt w' b (m.bump (2 + p)) ∧ Upd (blkS b) w w' := by
  have HH : Hid (PmAt w b m) := H
  have t2 := H.tally.c (2 + p) (by omega)
  have t2f := H.tally.f (2 + p) (by omega)
  have ht2 := ht (2 + p)
  have HF : Hid (PmAt (w.setCell ⟨b, 1859 + (2 + p), none⟩ (.int .i64 (m.tally (2 + p) + 1))) b (m.bump (2 + p))) := H.setTally hc4 (2 + p) (by omega) _
  clear H ht
  generalize m.tally (2 + p) = x at *
  match p, hp with
  | 0, _ =>
    go_enter Try.func27, Try.ntmps27
    go_wp2
    go_end0
    exact ⟨rfl, HF.out, (Upd.refl _ _).setCell (fun _ => blk_self b _) _⟩
  | 1, _ =>
    go_enter Try.func27, Try.ntmps27
    go_wp2
    go_end0
    exact ⟨rfl, HF.out, (Upd.refl _ _).setCell (fun _ => blk_self b _) _⟩
  | 2, _ =>
    go_enter Try.func27, Try.ntmps27
    go_wp2
    go_end0
    exact ⟨rfl, HF.out, (Upd.refl _ _).setCell (fun _ => blk_self b _) _⟩

set_option maxRecDepth 100000 in
set_option maxHeartbeats 1000000 in
theorem loadLine_any (b : Nat) (m : RM) (c l : Nat) (B : Int) (w : World) (hc : c < m.cores) (hl : l < 64) (I : MInv m B) (hB : B ≤ 2305843009213693952) (H : PmAt w b m) :
    Calls Try.prog 26 #[.pointer (some ⟨b, 0, none⟩), .int .i64 c, .int .i64 l] w fun e w' => e = .returned (.int .i64 (m.pPlace c l)) ∧ PmAt w' b (m.pLine c l) ∧ Upd (blkS b) w w' := by
  have HH : Hid (PmAt w b m) := H
  have hc4 := I.c.2
  have hcc : c < 4 := by omega
  have HI : Hid (MInv m B) := I
  have h1 := H.has c l hcc hl
  by_cases h0 : m.has c l = 0
  · have HPL : Hid (m.pPlace c l = m.fetchedV l) := by show _ = _; unfold RM.pPlace; rw [if_neg (by omega)]
    have HPM : Hid (m.pLine c l = ((m.pFetch l).shareK l m.cores).takenS c l ((m.pFetch l).shareV l m.cores)) := by show _ = _; unfold RM.pLine; rw [if_neg (by omega)]
    rw [HPL.out, HPM.out]
    rw [h0] at h1
    obtain ⟨i1, i2⟩ := I.pFetch hl
    have pk := RM.pFetch_keep m l
    have i3 := i1.share l m.cores
    have sk := RM.shareK_keep (m.pFetch l) l m.cores
    have hz : ((m.pFetch l).shareK l m.cores).has c l = 0 := (RM.shareK_zero _ _ _ _ _).2 (by rw [i2]; exact h0)
    have hn : (((m.pFetch l).shareK l m.cores).firsts c).find l = none := by
      cases e : (((m.pFetch l).shareK l m.cores).firsts c).find l with
      | none => rfl
      | some j => exact absurd hz ((i3.find (c := c) (by rw [sk.1, pk.1]; exact hc) hl).1 ⟨j, e⟩)
    have HC1 : Hid ((m.pFetch l).cores = m.cores) := pk.1
    have HC2 : Hid (((m.pFetch l).shareK l m.cores).cores = m.cores) := by show _ = _; rw [sk.1, pk.1]
    have HI1 : Hid (MInv (m.pFetch l) (B + 6)) := i1
    have HI3 : Hid (MInv ((m.pFetch l).shareK l m.cores) (B + 6)) := i3
    have HN : Hid ((((m.pFetch l).shareK l m.cores).firsts c).find l = none) := hn
    have hv2 := shareV_two (m.pFetch l) l m.cores
    clear H I h0 HPL HPM i1 i2 i3 pk sk hz hn
    go_enter Try.func26, Try.ntmps26
    go_wp2_with fail
    refine (fetch_any b m l B _ hl HI.out hB HH.out).mono ?_
    rintro e w1 ⟨rfl, g1, u1⟩
    have HG1 : Hid (PmAt w1 b (m.pFetch l)) := g1
    have HU1 : Hid (Upd (blkS b) w w1) := u1
    clear g1 u1 h1
    go_wp2_with fail
    refine (share_any b (m.pFetch l) l _ (by rw [HC1.out]; exact hc4) hl (fun i hi => HI1.out.fi.h0 i l hi) HG1.out).mono ?_
    rintro e w2 ⟨rfl, g2, u2⟩
    rw [HC1.out] at g2 ⊢
    have HG2 : Hid (PmAt w2 b ((m.pFetch l).shareK l m.cores)) := g2
    have HU2 : Hid (Upd (blkS b) w w2) := HU1.out.trans u2
    clear g2 u2
    rcases hv2 with hv | hv
    · have HSV : Hid ((m.pFetch l).shareV l m.cores = 2) := hv
      rw [hv]
      clear hv
      go_wp2_with fail
      refine (keep_any b _ c l 2 _ (by rw [HC2.out]; exact hc) hl (by rw [HC2.out]; exact hc4) (HI3.out.fi.ok c) (HI3.out.fi.ln c (by rw [HC2.out]; exact hc)) (HI3.out.fi.pp c (by rw [HC2.out]; exact hc)) HN.out HG2.out).mono ?_
      rintro e w3 ⟨rfl, g3, u3⟩
      have HG3 := (show Hid _ from g3)
      have HU3 : Hid (Upd (blkS b) w w3) := HU2.out.trans u3
      clear g3 u3
      go_wp2
      go_ret
      exact ⟨rfl, by rw [HSV.out]; exact HG3.out, HU3.out⟩
    · have HSV : Hid ((m.pFetch l).shareV l m.cores = 1) := hv
      rw [hv]
      clear hv
      go_wp2_with fail
      refine (keep_any b _ c l 1 _ (by rw [HC2.out]; exact hc) hl (by rw [HC2.out]; exact hc4) (HI3.out.fi.ok c) (HI3.out.fi.ln c (by rw [HC2.out]; exact hc)) (HI3.out.fi.pp c (by rw [HC2.out]; exact hc)) HN.out HG2.out).mono ?_
      rintro e w3 ⟨rfl, g3, u3⟩
      have HG3 := (show Hid _ from g3)
      have HU3 : Hid (Upd (blkS b) w w3) := HU2.out.trans u3
      clear g3 u3
      go_wp2
      go_ret
      exact ⟨rfl, by rw [HSV.out]; exact HG3.out, HU3.out⟩
  · have HPL : Hid (m.pPlace c l = 0) := by show _ = _; unfold RM.pPlace; rw [if_pos h0]
    have HPM : Hid (m.pLine c l = { m with firsts := updC m.firsts c (cTouch (m.firsts c) l) }) := by show _ = _; unfold RM.pLine; rw [if_pos h0]
    rw [HPL.out, HPM.out]
    have hb : (m.has c l != 0) = true := by simpa using h0
    clear H I h0 HPL HPM
    generalize m.has c l = x at *
    go_enter Try.func26, Try.ntmps26
    go_wp2_with fail
    refine (cTouch_any b (7 + c * 204) l (m.firsts c) _ hl (HI.out.fi.ok c).psel HH.out.bf (HH.out.first c hc)).mono ?_
    rintro e w1 ⟨⟨t, rfl, hhit, hout⟩, g1, u1⟩
    have HG : Hid (PmAt w1 b { m with firsts := updC m.firsts c (cTouch (m.firsts c) l) }) := HH.out.setFirst hc4 hc g1 u1
    have HU : Hid (Upd (blkS b) w w1) := u1.mono (fun _ _ h => blk_row h)
    clear g1 u1 hhit hout
    go_wp2
    go_ret
    exact ⟨rfl, HG.out, HU.out⟩

set_option maxHeartbeats 1000000 in
theorem pLoad_nil (c a : Int) (w : World) :
    Calls Try.prog 11 #[.pointer none, .int .i64 c, .int .i64 a] w fun e w' => e = .returned (.tuple #[.int .i64 0, .int .i64 0, .int .i64 1]) ∧ w' = w := by
  go_enter Try.func11, Try.ntmps11
  go_wp2_with fail
  refine (checkCoreAddr_nil c a _).mono ?_
  rintro e w1 ⟨rfl, rfl⟩
  go_wp2
  go_ret3
  exact ⟨rfl, rfl⟩

set_option maxHeartbeats 1000000 in
theorem pLoad_bad (b : Nat) (m : RM) (c a : Int) (w : World) (he : refE m.cores c a ≠ 0) (H : PmAt w b m) :
    Calls Try.prog 11 #[.pointer (some ⟨b, 0, none⟩), .int .i64 c, .int .i64 a] w fun e w' => e = .returned (.tuple #[.int .i64 0, .int .i64 0, .int .i64 (refE m.cores c a)]) ∧ w' = w := by
  have HH : Hid (PmAt w b m) := H
  have hb : (refE m.cores c a != 0) = true := by simpa using he
  obtain ⟨E, hE⟩ : ∃ E, refE m.cores c a = E := ⟨_, rfl⟩
  have HEE : Hid (refE m.cores c a = E) := hE
  rw [hE] at hb ⊢
  clear H he hE
  go_enter Try.func11, Try.ntmps11
  go_wp2_with fail
  refine (checkCoreAddr_any b m c a _ HH.out).mono ?_
  rintro e w1 ⟨rfl, rfl⟩
  rw [HEE.out]
  go_wp2
  go_ret3
  exact ⟨rfl, rfl⟩

theorem RM.pLine_keep (m : RM) (c l : Nat) : (m.pLine c l).cores = m.cores ∧ (m.pLine c l).words = m.words := by
  unfold RM.pLine
  split
  · exact ⟨rfl, rfl⟩
  · have pk := RM.pFetch_keep m l
    have sk := RM.shareK_keep (m.pFetch l) l m.cores
    have tk := RM.takenS_words ((m.pFetch l).shareK l m.cores) c l ((m.pFetch l).shareV l m.cores)
    refine ⟨?_, by rw [tk, sk.2.2.2.2.1, pk.2.2]⟩
    have : (((m.pFetch l).shareK l m.cores).takenS c l ((m.pFetch l).shareV l m.cores)).cores = ((m.pFetch l).shareK l m.cores).cores := by
      show (RM.cleared _ c l).cores = _
      unfold RM.cleared
      split
      · exact (RM.loseAt_keep _ c _).1
      · rfl
    rw [this, sk.1, pk.1]

theorem MInv.pLine {m : RM} {B : Int} {c l : Nat} (h : MInv m B) (hc : c < m.cores) (hl : l < 64) : MInv (m.pLine c l) (B + 7) := by
  unfold RM.pLine
  split
  · rename_i h0
    obtain ⟨j, e⟩ := (h.find hc hl).2 h0
    have h1 := (h.fi.found hc ((m.firsts c).lo l + j)).mono (B' := B + 7) (by omega)
    have h2 := h.mono (B' := B + 7) (by omega)
    have e2 : cTouch (m.firsts c) l = (m.firsts c).found ((m.firsts c).lo l + j) := by unfold cTouch; rw [e]
    exact ⟨h.c, by rw [e2]; exact h1, h2.okf, h2.lnf, h2.clf, h2.flf, h2.pf, h2.ht, h2.c0, h2.ck⟩
  · rename_i h0
    obtain ⟨i1, i2⟩ := h.pFetch hl
    have pk := RM.pFetch_keep m l
    have i3 := i1.share l m.cores
    have sk := RM.shareK_keep (m.pFetch l) l m.cores
    exact (i3.taken (c := c) (l := l) (by rw [sk.1, pk.1]; exact hc) hl ((RM.shareK_zero _ _ _ _ _).2 (by rw [i2]; exact Decidable.not_not.1 h0)) (shareV_ne _ _ _)).mono (by omega)

theorem pPlace_lt (m : RM) (c l : Nat) : ∃ p : Nat, m.pPlace c l = p ∧ p < 3 := by
  unfold RM.pPlace RM.fetchedV
  split
  · exact ⟨0, rfl, by omega⟩
  · split
    · exact ⟨1, rfl, by omega⟩
    · exact ⟨2, rfl, by omega⟩

set_option maxRecDepth 100000 in
set_option maxHeartbeats 1000000 in
theorem pLoad_good (b : Nat) (m : RM) (c a l : Nat) (B : Int) (w : World) (el : l = a / 4) (hc : c < m.cores) (ha : a < 256) (I : MInv m B) (hB : B ≤ 1152921504606846976) (H : PmAt w b m) :
    Calls Try.prog 11 #[.pointer (some ⟨b, 0, none⟩), .int .i64 c, .int .i64 a] w fun e w' => e = .returned (.tuple #[.int .i64 (m.words a), .int .i64 (m.loadW c l), .int .i64 0]) ∧ PmAt w' b (m.loadS c l) ∧ Upd (blkS b) w w' := by
  have HH : Hid (PmAt w b m) := H
  have HI : Hid (MInv m B) := I
  have hc4 := I.c.2
  have hl : l < 64 := by omega
  have HR : Hid (refE m.cores c a = 0) := by show _ = _; unfold refE; rw [if_neg (by omega), if_neg (by omega)]
  obtain ⟨pe1, pe2⟩ := I.pLoad_eq hc hl
  obtain ⟨p, hp, hp3⟩ := pPlace_lt m c l
  have kp := RM.pLine_keep m c l
  have hin := I.pLine hc hl
  have HLW : Hid (m.loadW c l = p) := by show _ = _; rw [← pe2, hp]
  have HLS : Hid (m.loadS c l = ((m.pLine c l).bump 0).bump (2 + p)) := by show _ = _; rw [← pe1]; unfold RM.pLoad; rw [hp]; rfl
  have HPP : Hid (m.pPlace c l = p) := hp
  have HKC : Hid ((m.pLine c l).cores = m.cores) := kp.1
  have HKW : Hid ((m.pLine c l).words = m.words) := kp.2
  have HIN : Hid (MInv (m.pLine c l) (B + 7)) := hin
  rw [HLW.out, HLS.out]
  have HEL : Hid ((a : Int) / 4 = l) := by show _ = _; omega
  clear H I pe1 pe2 hp kp hin HLW HLS
  go_enter Try.func11, Try.ntmps11
  go_wp2_with fail
  refine (checkCoreAddr_any b m c a _ HH.out).mono ?_
  rintro e w1 ⟨rfl, rfl⟩
  rw [HR.out]
  go_wp2_with fail
  rw [HEL.out]
  refine (loadLine_any b m c l B _ hc hl HI.out (by omega) HH.out).mono ?_
  rintro e w2 ⟨rfl, g2, u2⟩
  rw [HPP.out]
  have t0 := g2.tally.c 0 (by omega)
  have t0f := g2.tally.f 0 (by omega)
  have hht := HIN.out.ht 0
  have HG : Hid (PmAt (w2.setCell ⟨b, 1859, none⟩ (.int .i64 ((m.pLine c l).tally 0 + 1))) b ((m.pLine c l).bump 0)) := g2.setTally (by rw [HKC.out]; exact hc4) 0 (by omega) _
  have HU2 := (show Hid _ from u2)
  have HIB : Hid (MInv ((m.pLine c l).bump 0) (B + 8)) := (HIN.out.bump 0).mono (by omega)
  clear g2 u2
  generalize (m.pLine c l).tally 0 = x at *
  go_wp2_with fail
  refine (countPlace_any b ((m.pLine c l).bump 0) p _ hp3 (by show (m.pLine c l).cores ≤ 4; rw [HKC.out]; exact hc4) (fun k => ⟨(HIB.out.ht k).1, by have := (HIB.out.ht k).2; omega⟩) HG.out).mono ?_
  rintro e w3 ⟨rfl, g3, u3⟩
  have d1 := g3.words.c a ha
  have HWE : Hid ((((m.pLine c l).bump 0).bump (2 + p)).words a = m.words a) := by show (m.pLine c l).words a = _; rw [HKW.out]
  rw [HWE.out] at d1
  have HG3 := (show Hid _ from g3)
  have HU3 := (show Hid _ from (HU2.out.setCell (a := ⟨b, 1859, none⟩) (fun _ => blk_self b _) (.int .i64 (x + 1))).trans u3)
  clear g3 u3 HWE
  go_wp2
  go_ret3
  exact ⟨rfl, HG3.out, HU3.out⟩

end Go.Proofs.Ytobniidkkmlilab
