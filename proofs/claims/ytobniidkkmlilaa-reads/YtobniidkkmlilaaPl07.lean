import Derived.Test.YtobniidkkmlilaaPl06

/- The walks over package coherentref: room, put. -/
namespace Go.Proofs.Ytobniidkkmlilaa
open Go.RowKit Go.Coh

theorem refOldest_int (b g cap lo hi : Nat) (h : Int) (s : RC) (w : World) (eh : h = hi) (hh : hi ≤ s.n) (hl : lo < hi) (hn : s.n ≤ 64) (H : RefAt w b g cap s) :
    Calls Try.prog 73 #[.pointer (some ⟨b, 0, none⟩), .int .i64 lo, .int .i64 h] w fun e w' => e = .returned (.int .i64 (argm (fun i j => decide (s.T i < s.T j)) lo (hi - lo) : Nat)) ∧ ∃ q, w' = w.drewN q := by
  subst eh; exact refOldest_any b g cap lo hi s w hh hl hn H

theorem wrap64_mid (n : Int) (h : 0 ≤ n ∧ n ≤ 1000000) : wrap64 n = n := by unfold wrap64; omega

theorem argm_in (c : Nat → Nat → Bool) (lo k : Nat) (hk : 0 < k) : lo ≤ argm c lo k ∧ argm c lo k < lo + k := by
  have := argm_bd c lo k
  omega

theorem victim_in {s : RC} (ok : RcOk s) (p lo : Nat) : lo ≤ s.victim p lo ∧ s.victim p lo < lo + s.W := by
  have hw := ok.wb
  unfold RC.victim
  split
  · exact argm_in _ _ _ hw.1
  · split
    · have := leaf_bd (fun i => - s.T i) (lg s.W) lo
      have e : 2 ^ lg s.W = s.W := by rcases ok.wz with e | e | e | e <;> rw [e] <;> rfl
      omega
    · exact argm_in _ _ _ hw.1

set_option maxRecDepth 100000 in
set_option maxHeartbeats 2000000 in
theorem refRoom_any (b g cap : Nat) (x : Int) (s : RC) (w : World) (ok : RcOk s) (hx : 0 ≤ x) (hx2 : x ≤ 9223372036854775807) (H : RefAt w b g cap s) :
    Calls Try.prog 46 #[.pointer (some ⟨b, 0, none⟩), .int .i64 x] w fun e w' => e = .returned (.tuple #[.int .i64 (s.roomW x : Nat), .int .i64 (s.roomOut x)]) ∧ RefAt w' b g cap (s.roomS x) ∧ Upd (refS b g) w w' := by
  have h0 := H.c0
  have h1 := H.c1
  have h3 := H.c3
  have hln := H.ln
  have hsb := ok.sb
  have hwb := ok.wb
  have hn := ok.n
  have hlo := ok.lo x
  have HLI : Hid ((x % (s.S : Int)) * (s.W : Int) = (s.lo x : Int)) := lo_int ok x
  have HH : Hid (RefAt w b g cap s) := H
  have HOK : Hid (RcOk s) := ok
  have hset : ∃ st : Nat, x % (s.S : Int) = st ∧ st < 8 ∧ (x % (s.S : Int)).toNat = st := by
    have h3 := Int.emod_lt_of_pos x (show (0 : Int) < s.S by omega)
    have h4 := Int.emod_nonneg x (show (s.S : Int) ≠ 0 by omega)
    exact ⟨(x % (s.S : Int)).toNat, by omega, by omega, rfl⟩
  obtain ⟨st, hst, hst8, hstn⟩ := hset
  have HST : Hid (x % (s.S : Int) = st) := hst
  have HSTN : Hid ((x % (s.S : Int)).toNat = st) := hstn
  clear H ok hst hstn
  have HHOLE : Hid (s.hole x = findN (fun j => s.L (s.lo x + j)) (-1) s.W) := rfl
  have HRW : Hid (s.roomW x = match s.hole x with | some j => s.lo x + j | none => s.victim (s.as x) (s.lo x)) := rfl
  have HRO : Hid (s.roomOut x = match s.hole x with | some _ => -1 | none => s.L (s.roomW x)) := rfl
  have HRS : Hid (s.roomS x = match s.hole x with | some _ => s | none => s.lifted (s.as x) (s.lo x)) := rfl
  have HAS : Hid (s.as x = asP s.P st s.psel) := by show asP s.P _ s.psel = _; rw [HSTN.out]
  generalize hlo' : s.lo x = lo at *
  clear hlo'
  go_enter Try.func46, Try.ntmps46
  go_wp2_with fail
  rw [HLI.out, wrap64_small lo (by omega), HST.out, wrap64_mid ((lo : Int) + (s.W : Int)) (by omega)]
  obtain ⟨hi, ehi⟩ : ∃ hi : Nat, hi = lo + s.W := ⟨_, rfl⟩
  rw [show (lo : Int) + (s.W : Int) = (hi : Int) by omega]
  have HHI : Hid (hi = lo + s.W) := ehi
  have hhn : hi ≤ s.n := by omega
  have hlh : lo < hi := by omega
  clear hlo
  have hhW : hi - lo = s.W := by omega
  clear ehi
  go_loop [9] (fun i => ∃ k : Nat, k ≤ s.W ∧ i = .int .i64 (lo + k : Nat) ∧ (∀ j, j < k → s.L (lo + j) ≠ -1)) (fun i => hi - (intOf i).toNat)
  case atStart => exact ⟨0, Nat.zero_le _, rfl, fun j hj => absurd hj (Nat.not_lt_zero _)⟩
  case round =>
    obtain ⟨k, hk, rfl, hno⟩ := hrel
    have HNO : Hid (∀ j, j < k → s.L (lo + j) ≠ -1) := hno
    have HWW : Hid (hi - lo = s.W) := hhW
    clear hno hhW
    by_cases hlt : k < s.W
    · have hlk := hln (lo + k) (by have := HHI.out; omega)
      have hml : lo + k < hi := by have := HHI.out; omega
      have hlb := HOK.out.ll (lo + k)
      by_cases e : s.L (lo + k) < 0
      · have HF : Hid (s.hole x = some k) := by show _ = _; rw [HHOLE.out]; exact findN_some.2 ⟨hlt, by omega, HNO.out⟩
        generalize hm : lo + k = m at *
        have HM : Hid (lo + k = m) := hm
        clear hm
        go_wp2
        go_ret2
        refine ⟨?_, ?_, Upd.refl _ _⟩
        · rw [HRW.out, HRO.out, HF.out]
          show Ending.returned (.tuple #[.int .i64 (m : Int), .int .i64 (-1)]) = Ending.returned (.tuple #[.int .i64 ((lo + k : Nat) : Int), .int .i64 (-1)])
          rw [HM.out]
        · rw [HRS.out, HF.out]; exact HH.out
      · have HE : Hid (s.L (lo + k) ≠ -1) := by show _ ≠ _; omega
        generalize hm : lo + k = m at *
        have HM : Hid (lo + k = m) := hm
        clear hm
        go_wp2
        go_round
        case rel =>
          refine ⟨k + 1, by omega, by have := HM.out; subst this; go_num, fun j hj => ?_⟩
          by_cases hjk : j = k
          · subst hjk; rw [HM.out]; exact HE.out
          · exact HNO.out j (by omega)
        case measure => simp [intOf]; omega
    · have HF : Hid (s.hole x = none) := by show _ = _; rw [HHOLE.out]; exact findN_none.2 fun j hj => HNO.out j (by omega)
      have hkh : lo + k = hi := by have := HHI.out; omega
      rw [hkh]
      clear hkh hlt HHOLE HNO
      have EW : Hid (s.roomW x = s.victim (s.as x) lo) := by show _ = _; rw [HRW.out, HF.out]
      have EO : Hid (s.roomOut x = s.L (s.roomW x)) := by show _ = _; rw [HRO.out, HF.out]
      have ES : Hid (s.roomS x = s.lifted (s.as x) lo) := by show _ = _; rw [HRS.out, HF.out]
      clear HRW HRO HRS HF
      have hvi := victim_in HOK.out (s.as x) lo
      have hlv := hln (s.victim (s.as x) lo) (by have := HHI.out; omega)
      go_wp2_with fail
      refine (refAs_any b g cap st s _ hst8 HH.out).mono ?_
      rintro e w1 ⟨rfl, rfl⟩
      rw [← HAS.out]
      by_cases p0 : s.as x = 0
      · have EV : Hid (s.victim (s.as x) lo = argm (fun i j => decide (s.T i < s.T j)) lo (hi - lo)) := by show _ = _; unfold RC.victim; rw [if_pos p0, HWW.out]
        have EL : Hid (s.lifted (s.as x) lo = s) := by show _ = _; unfold RC.lifted; rw [if_pos (.inl p0)]
        have hb0 : ((s.as x : Int) == 0) = true := by simp; exact p0
        clear p0
        generalize s.as x = pp at *
        go_wp2_with fail
        refine (refOldest_int b g cap lo hi _ s _ rfl hhn hlh hn HH.out).mono ?_
        rintro e w2 ⟨rfl, q, rfl⟩
        rw [← EV.out]
        generalize hvv : s.victim pp lo = vv at *
        have HVV : Hid (s.victim pp lo = vv) := hvv
        clear hvv
        have hvn : vv < s.n := by have := HHI.out; omega
        go_wp2
        go_quiet (fail)
        go_wp2
        go_ret2
        refine ⟨?_, by rw [ES.out, EL.out]; exact (HH.out.drewN q).drewN _, ((Upd.refl _ _).drewN q).drewN _⟩
        rw [EO.out, EW.out]
        first | rfl | rw [HVV.out]
      · have hb0 : ((s.as x : Int) == 0) = false := by simp; exact p0
        by_cases p1 : s.as x = 1
        · have EV : Hid (s.victim (s.as x) lo = leaf (fun i => - s.T i) (lg s.W) lo) := by show _ = _; unfold RC.victim; rw [if_neg p0, if_pos p1]
          have EL : Hid (s.lifted (s.as x) lo = s) := by show _ = _; unfold RC.lifted; rw [if_pos (.inr p1)]
          have hb1 : ((s.as x : Int) == 1) = true := by simp; omega
          clear p0 p1
          generalize s.as x = pp at *
          go_wp2_with fail
          refine (refHalved_any b g cap lo hi _ s _ rfl HHI.out HOK.out hhn HH.out).mono ?_
          rintro e w2 ⟨rfl, q, rfl⟩
          rw [← EV.out]
          generalize hvv : s.victim pp lo = vv at *
          have HVV : Hid (s.victim pp lo = vv) := hvv
          clear hvv
          have hvn : vv < s.n := by have := HHI.out; omega
          go_wp2
          go_quiet (fail)
          go_wp2
          go_ret2
          refine ⟨?_, by rw [ES.out, EL.out]; exact (HH.out.drewN q).drewN _, ((Upd.refl _ _).drewN q).drewN _⟩
          rw [EO.out, EW.out]
          first | rfl | rw [HVV.out]
        · have EV : Hid (s.victim (s.as x) lo = s.ranked lo) := by show _ = _; unfold RC.victim; rw [if_neg p0, if_neg p1]
          have EL : Hid (s.lifted (s.as x) lo = { s with R := liftFrom lo (lo + s.W) (3 - s.R (s.ranked lo)) s.R }) := by show _ = _; unfold RC.lifted; rw [if_neg (fun h => h.elim p0 p1)]
          have hb1 : ((s.as x : Int) == 1) = false := by simp; omega
          clear p0 p1
          generalize s.as x = pp at *
          go_wp2_with fail
          refine (refRanked_any b g cap lo hi _ s _ rfl HHI.out HOK.out hhn HH.out).mono ?_
          rintro e w2 ⟨rfl, hs2, hu2⟩
          rw [← EL.out] at hs2
          rw [← EV.out]
          have g3 := hs2.c3
          have eL : (s.lifted pp lo).L = s.L := by rw [EL.out]
          have en : (s.lifted pp lo).n = s.n := by rw [EL.out]; rfl
          have gln := hs2.ln (s.victim pp lo) (by rw [en]; have := HHI.out; omega)
          rw [eL] at gln
          rw [en] at g3
          have HS2 : Hid (RefAt w2 b g cap (s.lifted pp lo)) := hs2
          have HU2 : Hid (Upd (refS b g) w1 w2) := hu2
          generalize hvv : s.victim pp lo = vv at *
          have HVV : Hid (s.victim pp lo = vv) := hvv
          clear hvv hs2 hu2 eL en hlv h0 h1 h3 hln
          have hvn : vv < s.n := by have := HHI.out; omega
          go_wp2
          go_quiet (fail)
          go_wp2
          go_ret2
          refine ⟨?_, by rw [ES.out]; exact HS2.out.drewN _, HU2.out.drewN _⟩
          rw [EO.out, EW.out]
          first | rfl | rw [HVV.out]

set_option maxRecDepth 100000 in
set_option maxHeartbeats 2000000 in
theorem refPut_any (b g cap k : Nat) (x : Int) (s : RC) (w : World) (ok : RcOk s) (hk : k < s.n) (hc : s.clock ≤ 4611686018427387904) (hfl : s.fills ≤ 4611686018427387904) (hx : 0 ≤ x) (hx2 : x ≤ 9223372036854775807) (H : RefAt w b g cap s) :
    Calls Try.prog 47 #[.pointer (some ⟨b, 0, none⟩), .int .i64 k, .int .i64 x] w fun e w' => e = .returned (.tuple #[]) ∧ RefAt w' b g cap (s.put k x) ∧ Upd (refS b g) w w' := by
  have h0 := H.c0
  have hsb := ok.sb
  have hf0 := ok.fills
  have HH : Hid (RefAt w b g cap s) := H
  have HOK : Hid (RcOk s) := ok
  have hset : ∃ st : Nat, x % (s.S : Int) = st ∧ st < 8 ∧ (x % (s.S : Int)).toNat = st := by
    have h3 := Int.emod_lt_of_pos x (show (0 : Int) < s.S by omega)
    have h4 := Int.emod_nonneg x (show (s.S : Int) ≠ 0 by omega)
    exact ⟨(x % (s.S : Int)).toNat, by omega, by omega, rfl⟩
  obtain ⟨st, hst, hst8, hstn⟩ := hset
  have HST : Hid (x % (s.S : Int) = st) := hst
  have HAS : Hid (s.as x = asP s.P st s.psel) := by show asP s.P _ s.psel = _; rw [hstn]
  have HPUT : Hid (s.put k x = if s.as x = 3 then { s.stamp k with L := upd s.L k x, fills := s.fills + 1, R := upd s.R k (if (s.fills + 1) % 8 ≠ 0 then 3 else 2) } else { s.stamp k with L := upd s.L k x, R := upd s.R k 2 }) := rfl
  clear H ok hst hstn
  go_enter Try.func47, Try.ntmps47
  go_wp2_with fail
  refine (refStamp_any b g cap k s _ HOK.out.clock hc hk HH.out).mono ?_
  rintro e w1 ⟨rfl, hs1, hu1⟩
  rw [HST.out]
  have g3 := hs1.c3
  have en : (s.stamp k).n = s.n := rfl
  have gl := hs1.ln k hk
  have gr := hs1.rk k hk
  have gf0 := hs1.gf (k * 3)
  have gf2 := hs1.gf (k * 3 + 2)
  have hne := hs1.ne
  rw [en] at g3
  have hs2 := (hs1.setL k x).setR k 2
  have HS2 : Hid (RefAt ((w1.setCell ⟨g, k * 3, none⟩ (.int .i64 x)).setCell ⟨g, k * 3 + 2, none⟩ (.int .i64 2)) b g cap { s.stamp k with L := upd s.L k x, R := upd s.R k 2 }) := hs2
  have HU2 : Hid (Upd (refS b g) w ((w1.setCell ⟨g, k * 3, none⟩ (.int .i64 x)).setCell ⟨g, k * 3 + 2, none⟩ (.int .i64 2))) := (hu1.setCell (fun _ => .inr rfl) _).setCell (fun _ => .inr rfl) _
  clear hs1 hu1 en hs2 h0
  go_wp2_with fail
  refine (refAs_any b g cap st _ _ hst8 HS2.out).mono ?_
  rintro e w2 ⟨rfl, rfl⟩
  rw [show asP ({ s.stamp k with L := upd s.L k x, R := upd s.R k 2 } : RC).P st ({ s.stamp k with L := upd s.L k x, R := upd s.R k 2 } : RC).psel = s.as x from HAS.out.symm]
  have HW2 : Hid (RefAt ((w1.setCell ⟨g, k * 3, none⟩ (.int .i64 x)).setCell ⟨g, k * 3 + 2, none⟩ (.int .i64 2)) b g cap { s.stamp k with L := upd s.L k x, R := upd s.R k 2 }) := HS2.out
  generalize ((w1.setCell ⟨g, k * 3, none⟩ (.int .i64 x)).setCell ⟨g, k * 3 + 2, none⟩ (.int .i64 2)) = w3 at *
  clear g3 gl gr gf0 gf2 HW2
  by_cases p3 : s.as x = 3
  · have hb3 : ((s.as x : Int) == 3) = true := by simp; omega
    have EP : Hid (s.put k x = { s.stamp k with L := upd s.L k x, fills := s.fills + 1, R := upd s.R k (if (s.fills + 1) % 8 ≠ 0 then 3 else 2) }) := by show _ = _; rw [HPUT.out, if_pos p3]
    clear p3 HPUT HAS
    generalize s.as x = pp at *
    have f5 := HS2.out.c5
    have ff5 := HS2.out.bf 5
    change w3.cell? _ = some (.int .i64 s.fills) at f5
    have f3 := HS2.out.c3
    change w3.cell? _ = some (.slice _ s.n cap) at f3
    have fr := HS2.out.rk k hk
    have ffr := HS2.out.gf (k * 3 + 2)
    by_cases h8 : (s.fills + 1) % 8 = 0
    · have hb8 : ((s.fills + 1) % 8 != 0) = false := by simp; exact h8
      have ER : Hid ((if (s.fills + 1) % 8 ≠ 0 then (3 : Int) else 2) = 2) := by show _ = _; rw [if_neg (by omega)]
      clear h8
      go_wp2
      go_end0
      refine ⟨rfl, ?_, HU2.out.setCell (fun _ => .inl rfl) _⟩
      rw [EP.out, ER.out]
      exact HS2.out.setFills _
    · have hb8 : ((s.fills + 1) % 8 != 0) = true := by simp; exact h8
      have ER : Hid ((if (s.fills + 1) % 8 ≠ 0 then (3 : Int) else 2) = 3) := by show _ = _; rw [if_pos h8]
      clear h8
      go_wp2
      go_end0
      refine ⟨rfl, ?_, (HU2.out.setCell (fun _ => .inl rfl) _).setCell (fun _ => .inr rfl) _⟩
      rw [EP.out, ER.out]
      refine ((HS2.out.setFills (s.fills + 1)).setR k 3).congrR _ (fun j _ => ?_)
      show upd (upd s.R k 2) k 3 j = upd s.R k 3 j
      unfold upd
      by_cases e : j = k
      · rw [if_pos e, if_pos e]
      · rw [if_neg e, if_neg e, if_neg e]
  · have hb3 : ((s.as x : Int) == 3) = false := by simp; omega
    have EP : Hid (s.put k x = { s.stamp k with L := upd s.L k x, R := upd s.R k 2 }) := by show _ = _; rw [HPUT.out, if_neg p3]
    clear p3 HPUT HAS
    generalize s.as x = pp at *
    go_wp2
    go_end0
    exact ⟨rfl, by rw [EP.out]; exact HS2.out, HU2.out⟩

end Go.Proofs.Ytobniidkkmlilaa
