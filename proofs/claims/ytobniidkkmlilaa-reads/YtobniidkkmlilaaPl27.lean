import Derived.Test.YtobniidkkmlilaaPl26
import Derived.Deep.CutRange
import Derived.Deep.RegionWith

/- The walks over package cache: a line is touched. -/
namespace Go.Proofs.Ytobniidkkmlilaa
open Go.RowKit Go.Coh

theorem as_miss (P k : Nat) (q : Int) : asP P k (pselN P k q) = asP P k q := by
  by_cases h4 : P = 4
  · subst h4
    by_cases k0 : k % 4 = 0
    · simp [asP, k0]
    · by_cases k1 : k % 4 = 1
      · simp [asP, k1]
      · simp [asP, pselN, k0, k1]
  · simp [asP, h4]

theorem missS_as (s : RC) (x : Int) : (missS s x).as x = s.as x := as_miss _ _ _
theorem missS_hole (s : RC) (x : Int) : (missS s x).hole x = s.hole x := rfl
theorem missS_roomW (s : RC) (x : Int) : (missS s x).roomW x = s.roomW x := by
  unfold RC.roomW
  rw [missS_hole, missS_as]
  rfl
theorem missS_roomOut (s : RC) (x : Int) : (missS s x).roomOut x = s.roomOut x := by
  unfold RC.roomOut
  rw [missS_hole, missS_roomW]
  rfl
theorem missS_lifted (s : RC) (q : Int) (p lo : Nat) : ({ s with psel := q } : RC).lifted p lo = { s.lifted p lo with psel := q } := by
  unfold RC.lifted
  split <;> rfl
theorem missS_roomS (s : RC) (x : Int) : (missS s x).roomS x = { s.roomS x with psel := pselN s.P (s.num x) s.psel } := by
  unfold RC.roomS
  rw [missS_hole, missS_as]
  split
  · rfl
  · exact missS_lifted _ _ _ _
theorem put_psel (s : RC) (q : Int) (k : Nat) (x : Int) (h : ({ s with psel := q } : RC).as x = s.as x) : ({ s with psel := q } : RC).put k x = { s.put k x with psel := q } := by
  unfold RC.put
  rw [h]
  dsimp only
  split <;> rfl
theorem tch_miss (s : RC) (x : Int) (h : s.find x = none) : ({ s.tchS x with psel := pselN s.P (s.num x) s.psel } : RC) = ((missS s x).roomS x).put ((missS s x).roomW x) x := by
  have hr := roomS_L s x
  have e : s.tchS x = (s.roomS x).put (s.roomW x) x := by unfold RC.tchS; rw [h]
  rw [e, missS_roomS, missS_roomW]
  refine (put_psel _ _ _ _ ?_).symm
  show asP (s.roomS x).P (x % (s.roomS x).S).toNat _ = asP (s.roomS x).P (x % (s.roomS x).S).toNat (s.roomS x).psel
  rw [hr.2.2.2.1, hr.2.1, hr.2.2.2.2.2.2.2]
  exact as_miss _ _ _

/-- 'Touch' of a cache -/
def cTouch (s : RC) (l : Nat) : RC := match s.find l with
  | some j => s.found (s.lo l + j)
  | none => farPut s l
def cOut (s : RC) (l : Nat) : Int := match s.find l with
  | some _ => -1
  | none => (missS s l).roomOut l

theorem set3_heap {W : World} {B : Nat} {x y z a b c : Value} {T : TypeId} (h : W.heap[B]? = some (.cells #[x, y, z] T (0, 0))) : (((W.setCell ⟨B, 0, none⟩ a).setCell ⟨B, 1, none⟩ b).setCell ⟨B, 2, none⟩ c).heap[B]? = some (.cells #[a, b, c] T (0, 0)) := by
  simp [World.setCell, Array.getElem?_modify, h]

theorem tchS_keep {lo n : Nat} {r r' : RC} (h : Within lo n r r') : r'.S = r.S ∧ r'.W = r.W ∧ r'.P = r.P ∧ r'.psel = r.psel := ⟨h.S, h.W, h.P, h.q⟩

set_option maxHeartbeats 1000000 in
theorem cTouch_any (b off l : Nat) (s : RC) (w : World) (hl : l < 64) (hps : 0 ≤ s.psel ∧ s.psel ≤ 15) (hfr : ∀ o, w.frozen? ⟨b, o, none⟩ = false) (H : CacheAt w b off s) :
    Calls Try.prog 85 #[.pointer (some ⟨b, off, none⟩), .int .i64 l] w fun e w' => (∃ t : Tch, e = .returned (.agg (tv t)) ∧ t.hit = (s.find l).isSome ∧ t.out = cOut s l) ∧ CacheAt w' b off (cTouch s l) ∧ Upd (rowS b off 204) w w' := by
  obtain ⟨D, hD, hS⟩ := H.sets
  have hz := hD.sz.pos
  have hi := RC.num_lt s l hz.1
  have hW := hD.wz.pos
  have hbl := H.blt
  have HH0 : Hid (CacheAt (w.alloc (.cells blankT 41)) b off s) := H.of_upd ((Upd.refl no w).alloc _) (fun _ _ h => h)
  have HS0 : Hid (∀ i, i < s.S → SetAt (w.alloc (.cells blankT 41)) b (off + 2 + i * 25) s.W (D i).L (D i).A (D i).R) := fun i hi => (hS i hi).of_upd ((Upd.refl no w).alloc _) (fun _ _ h => h)
  have HD : Hid (CRel D s) := hD
  have HHW : Hid (CacheAt w b off s) := H
  have HSW : Hid (∀ i, i < s.S → SetAt w b (off + 2 + i * 25) s.W (D i).L (D i).A (D i).R) := hS
  have HFR : Hid (∀ o, w.frozen? ⟨b, o, none⟩ = false) := hfr
  clear H hS hfr
  generalize hi0 : s.num l = i0 at *
  have HI0 : Hid (s.num l = i0) := hi0
  have hl0 := hD.at hi
  have elo : s.lo l = i0 * s.W := by rw [← hi0]; rfl
  obtain ⟨st1, st2, st3, st4⟩ := hl0.step (x := l) (p := s.as l) elo rfl hD.wz
  have HFD : Hid (s.find l = findN (D i0).L l s.W) := hl0.find elo
  have HT1 : Hid ((s.tchT l).hit = (tchT (s.as l) s.W l (D i0)).hit ∧ (s.tchT l).out = (tchT (s.as l) s.W l (D i0)).out) := ⟨st1, st2⟩
  have HL : Hid (LoRel (i0 * s.W) s.W (tchS (s.as l) s.W l (D i0)) (s.tchS l)) := st3
  have HWI : Hid (Within (i0 * s.W) s.W s (s.tchS l)) := st4
  have HB : Hid (Bd (D i0)) := hD.bd i0
  have HAS : Hid (asP s.P i0 s.psel = s.as l) := by show _ = _; rw [← hi0]; rfl
  have HST : Hid (StAt (w.alloc (.cells blankT 41)) b (off + 2 + i0 * 25) b (off + 202) s.W (D i0)) := ⟨HS0.out i0 hi, by rw [hD.c i0]; exact HH0.out.rk⟩
  clear st1 st2 st3 st4 hl0 hD hi0 elo
  go_enter Try.func85, Try.ntmps85
  go_wp2_with fail
  refine (setOf_any b off l s _ (by omega) (by omega) HH0.out).mono ?_
  rintro e w1 ⟨rfl, rfl⟩
  rw [HI0.out]
  go_wp2_with fail
  refine (policyOf_any b off i0 s _ (by omega) HH0.out).mono ?_
  rintro e w1 ⟨rfl, rfl⟩
  rw [HAS.out]
  go_wp2_with fail
  generalize s.as l = p at *
  have HAP : Hid (Apart b (off + 2 + i0 * 25) 25 b (off + 202) 1) := .inr (.inl (by omega))
  have HPRE : Hid (∀ W, Upd no (w.alloc (.cells blankT 41)) W → StAt W b (off + 2 + i0 * 25) b (off + 202) s.W (D i0)) := fun W u => HST.out.of_upd u (fun _ _ h => h) (fun h => h)
  have HWZ : Hid (Size s.W) := HD.out.wz
  have HBLK := heap_alloc_new w (.cells blankT 41)
  generalize ht : tchT p s.W l (D i0) = t at *
  generalize hs' : tchS p s.W l (D i0) = st' at *
  have HTV : Hid (tchT p s.W l (D i0) = t) := ht
  have HSV : Hid (tchS p s.W l (D i0) = st') := hs'
  clear ht hs'
  have HFIN : Hid (∀ W W1, Upd no (w.alloc (.cells blankT 41)) W → Upd (twoS b (off + 2 + i0 * 25) b (off + 202)) W W1 → Upd (twoS b (off + 2 + i0 * 25) b (off + 202)) w W1 ∧ W1.heap[w.heap.size]? = some (.cells blankT 41) ∧ w.heap.size < W1.heap.size ∧ W.heap.size ≤ W1.heap.size ∧ ∀ B x, W.heap[B]? = some x → w.heap.size < B → W1.heap[B]? = some x) := by
    intro W W1 u1 u2
    have hsz := u1.size
    have hsz2 := u2.size
    simp at hsz
    have hn : ∀ B o, w.heap.size ≤ B → ¬ twoS b (off + 2 + i0 * 25) b (off + 202) B o := fun B o hB h => by
      rcases h with h | h <;> (have := h.1; omega)
    refine ⟨((((Upd.refl no w).alloc _).trans u1).mono (fun _ _ h => h.elim)).trans u2, ?_, by omega, hsz2, fun B x hx hB => ?_⟩
    · rw [u2.block (by omega) (fun o => hn _ o (Nat.le_refl _)), u1.block (by simp) (fun _ h => h)]; exact HBLK
    · have hlt : B < W.heap.size := (Array.getElem?_eq_some_iff.1 hx).1
      rw [u2.block hlt (fun o => hn _ o (by omega))]; exact hx
  go_cut [7] from 14 to 24 (fun s7 wx => ∃ B, s7 = .pointer (some ⟨B, 0, none⟩) ∧ wx.heap[B]? = some (.cells (tv t) 41 (0, 0)) ∧ w.heap.size < B ∧ StAt wx b (off + 2 + i0 * 25) b (off + 202) s.W st' ∧ Upd (twoS b (off + 2 + i0 * 25) b (off + 202)) w wx ∧ wx.heap[w.heap.size]? = some (.cells blankT 41))
  case first =>
    go_region_with (go_at_call 70; refine (touch29 b (off + 2 + i0 * 25) b (off + 202) s.W p l (D i0) _ HWZ.out HB.out HAP.out (HPRE.out _ ?_)).mono ?_; (repeat (first | exact Upd.refl _ _ | apply Upd.drew | apply Upd.alloc)); rw [HTV.out, HSV.out]; rintro e1 w3 ⟨rfl, hst3, hu3⟩; have HST3 := (show Hid _ from hst3); have HU3 := (show Hid _ from HFIN.out _ w3 (by (repeat (first | exact Upd.refl _ _ | apply Upd.drew | apply Upd.alloc))) hu3); clear hst3 hu3; (try (have hB := HU3.out.2.2.2.2 (w.heap.size + 1) _ (heap_alloc2_new w _ _) (Nat.lt_succ_self _); have cB0 : w3.cell? ⟨w.heap.size + 1, 0, none⟩ = some (.bool false) := by simp [World.cell?, hB]); (try have cB1 : w3.cell? ⟨w.heap.size + 1, 1, none⟩ = some (.int .i64 0) := by simp [World.cell?, hB]); (try have cB2 : w3.cell? ⟨w.heap.size + 1, 2, none⟩ = some (.int .i64 0) := by simp [World.cell?, hB]); (try have cF0 : w3.frozen? ⟨w.heap.size + 1, 0, none⟩ = false := by simp [World.frozen?, hB]); (try have cF1 : w3.frozen? ⟨w.heap.size + 1, 1, none⟩ = false := by simp [World.frozen?, hB]); (try have cF2 : w3.frozen? ⟨w.heap.size + 1, 2, none⟩ = false := by simp [World.frozen?, hB])); simp only [tv])
    · go_wp2
      go_meet
      case rel =>
        have hn := HU3.out.2.2.1
        have ha : Upd no w3 (w3.alloc (.cells (tv t) 41)) := (Upd.refl no w3).alloc _
        exact ⟨w3.heap.size, rfl, heap_alloc_new _ _, hn, HST3.out.of_upd ha (fun _ _ h => h) (fun h => h), HU3.out.1.alloc _, by rw [Below.heap_alloc _ _ _ hn]; exact HU3.out.2.1⟩
    all_goals
      go_wp2
      go_meet
      case rel =>
        have hn := HU3.out.2.2.1
        have hub : Upd (fun k _ => k = w.heap.size + 1) w3 (((w3.setCell ⟨w.heap.size + 1, 0, none⟩ (.bool t.hit)).setCell ⟨w.heap.size + 1, 1, none⟩ (.int .i64 t.way)).setCell ⟨w.heap.size + 1, 2, none⟩ (.int .i64 t.out)) :=
          (((Upd.refl _ w3).setCell (fun _ => rfl) _).setCell (fun _ => rfl) _).setCell (fun _ => rfl) _
        refine ⟨w.heap.size + 1, rfl, set3_heap hB, Nat.lt_succ_self _, HST3.out.of_upd hub (fun j hj h => by omega) (fun h => by omega), ?_, ?_⟩
        · exact ((HU3.out.1.mono (S' := fun k o => twoS b (off + 2 + i0 * 25) b (off + 202) k o ∨ k = w.heap.size + 1) (fun _ _ h => .inl h)).trans (hub.mono (fun _ _ h => .inr h))).shrink (fun k o hk h => by
            rcases h with h | h
            · exact h
            · omega)
        · rw [hub.block hn (fun o h => by omega)]; exact HU3.out.2.1
  case rest =>
    obtain ⟨B, rfl, hB, hBn, hst, hu, hN0⟩ := hcut
    have c0 : wc.cell? ⟨B, 0, none⟩ = some (.bool t.hit) := by simp [World.cell?, hB, tv]
    have HBB : Hid (wc.heap[B]? = some (.cells (tv t) 41 (0, 0))) := hB
    have HNB : Hid (wc.heap[w.heap.size]? = some (.cells blankT 41)) := hN0
    have HUC : Hid (Upd (twoS b (off + 2 + i0 * 25) b (off + 202)) w wc) := hu
    have HCC : Hid (CacheAt wc b off (s.tchS l)) := by
      have k4 := tchS_keep HWI.out
      have hc := HL.out.c
      refine CacheAt.turn HHW.out HSW.out hi hu (st := st') hst.set ?_ (HD.out.turn HL.out HWI.out ?_) k4.1 k4.2.1 k4.2.2.1 k4.2.2.2
      · rw [← hc]; exact hst.cnt
      · rw [← HSV.out]; exact HB.out.step
    have HFC : Hid (∀ o, wc.frozen? ⟨b, o, none⟩ = false) := fun o => by rw [hu.frozen hbl]; exact HFR.out o
    have HU0 : Hid (Upd (rowS b off 204) w wc) := hu.mono (twoS_row hi hz.2)
    have HQ : Hid ((s.tchS l).P = s.P ∧ (s.tchS l).psel = s.psel) := ⟨HWI.out.P, HWI.out.q⟩
    clear hB hst hu hN0 HBLK
    cases hf : s.find l with
    | some j =>
      have hit : t.hit = true := by
        rw [← HT1.out.1]; show (s.tchT l).hit = true; unfold RC.tchT; rw [hf]
      have HOUT : Hid (t.out = -1) := by
        show _ = _
        rw [← HT1.out.2]; unfold RC.tchT; rw [hf]
      have HIS : Hid ((s.find l).isSome = true) := by show _ = _; rw [hf]; rfl
      have HCT : Hid (cTouch s l = s.tchS l) := by show _ = _; unfold cTouch RC.tchS; rw [hf]
      have HCO : Hid (cOut s l = -1) := by show _ = _; unfold cOut; rw [hf]
      rw [hit] at c0
      clear hf
      go_wp2_with (first
        | (refine wpList_load_row rfl 41 _ rfl B (by rfl) 41 (tv t) (0, 0) _ HBB.out Try.underlying41 rfl (by kernel_rfl) ?_)
        | (refine wpList_store_row rfl 41 _ _ rfl w.heap.size (tv t) (by rfl) (by rfl) 41 blankT HNB.out (by kernel_rfl) (by rfl) (tv_one _) ?_))
      have hs1 : Upd (fun k _ => k = w.heap.size) wc (wc.setRow w.heap.size (tv t)) := (Upd.refl _ _).setRowAll HNB.out rfl (fun _ _ => rfl)
      refine bodyPost_ret (v := .agg (tv t)) (results_cell_row Try.results85 _ _ w.heap.size 41 (tv t) (0, 0) _ rfl (setRow_heap _ _ _ _ _ _ HNB.out) Try.underlying41 rfl (by kernel_rfl)) rfl ⟨⟨t, rfl, by rw [hit, HIS.out], by rw [HOUT.out, HCO.out]⟩, ?_, ?_⟩
      · rw [HCT.out]; exact HCC.out.of_upd hs1 (fun j _ h => by omega)
      · exact ((HU0.out.mono (S' := fun k o => rowS b off 204 k o ∨ k = w.heap.size) (fun _ _ h => .inl h)).trans (hs1.mono (fun _ _ h => .inr h))).shrink (fun k o hk h => by
          rcases h with h | h
          · exact h
          · omega)
    | none =>
      have hit : t.hit = false := by
        rw [← HT1.out.1]; show (s.tchT l).hit = false; unfold RC.tchT; rw [hf]
      have HOUT : Hid (t.out = s.roomOut l) := by
        show _ = _
        rw [← HT1.out.2]; unfold RC.tchT; rw [hf]
      have HIS : Hid ((s.find l).isSome = false) := by show _ = _; rw [hf]; rfl
      have HCT : Hid (cTouch s l = { s.tchS l with psel := pselN s.P i0 s.psel }) := by show _ = _; unfold cTouch; rw [hf, ← HI0.out, tch_miss s l hf]; rfl
      have HCO : Hid (cOut s l = s.roomOut l) := by show _ = _; unfold cOut; rw [hf, missS_roomOut]
      rw [hit] at c0
      clear hf
      go_wp2_with fail
      refine (cMissed_any b off i0 (s.tchS l) _ (by omega) (by rw [HQ.out.2]; exact hps) HFC.out HCC.out).mono ?_
      rintro e2 w4 ⟨rfl, hc4, hu4⟩
      rw [show pselN (s.tchS l).P i0 (s.tchS l).psel = pselN s.P i0 s.psel by rw [HQ.out.1, HQ.out.2], ← HCT.out] at hc4
      have hzz := HU0.out.size
      have hB4 : w4.heap[B]? = some (.cells (tv t) 41 (0, 0)) := by
        rw [hu4.block (Array.getElem?_eq_some_iff.1 HBB.out).1 (fun o h => by have := h.1; omega)]; exact HBB.out
      have hN4 : w4.heap[w.heap.size]? = some (.cells blankT 41) := by
        rw [hu4.block (Array.getElem?_eq_some_iff.1 HNB.out).1 (fun o h => by have := h.1; omega)]; exact HNB.out
      have HB4 : Hid (w4.heap[B]? = some (.cells (tv t) 41 (0, 0))) := hB4
      have HN4 : Hid (w4.heap[w.heap.size]? = some (.cells blankT 41)) := hN4
      have HC4 : Hid (CacheAt w4 b off (cTouch s l)) := hc4
      have HU4 : Hid (Upd (rowS b off 204) w w4) := HU0.out.trans hu4
      clear hc4 hu4 hB4 hN4 c0
      go_wp2_with (first
        | (refine wpList_load_row rfl 41 _ rfl B (by rfl) 41 (tv t) (0, 0) _ HB4.out Try.underlying41 rfl (by kernel_rfl) ?_)
        | (refine wpList_store_row rfl 41 _ _ rfl w.heap.size (tv t) (by rfl) (by rfl) 41 blankT HN4.out (by kernel_rfl) (by rfl) (tv_one _) ?_))
      have hs1 : Upd (fun k _ => k = w.heap.size) w4 (w4.setRow w.heap.size (tv t)) := (Upd.refl _ _).setRowAll HN4.out rfl (fun _ _ => rfl)
      refine bodyPost_ret (v := .agg (tv t)) (results_cell_row Try.results85 _ _ w.heap.size 41 (tv t) (0, 0) _ rfl (setRow_heap _ _ _ _ _ _ HN4.out) Try.underlying41 rfl (by kernel_rfl)) rfl ⟨⟨t, rfl, by rw [hit, HIS.out], by rw [HOUT.out, HCO.out]⟩, ?_, ?_⟩
      · exact HC4.out.of_upd hs1 (fun j _ h => by omega)
      · exact ((HU4.out.mono (S' := fun k o => rowS b off 204 k o ∨ k = w.heap.size) (fun _ _ h => .inl h)).trans (hs1.mono (fun _ _ h => .inr h))).shrink (fun k o hk h => by
          rcases h with h | h
          · exact h
          · omega)

end Go.Proofs.Ytobniidkkmlilaa
