import Derived.Test.YtobniidkkmlilaaPl04

/- The walks over package coherentref: find, as, stamp, found. -/
namespace Go.Proofs.Ytobniidkkmlilaa
open Go.RowKit Go.Coh

/-- the numbers of a cache are such as may be -/
structure RcOk (s : RC) : Prop where
  sz : Size s.S
  wz : Size s.W
  clock : 0 ≤ s.clock
  fills : 0 ≤ s.fills
  psel : 0 ≤ s.psel ∧ s.psel ≤ 15
  rr : ∀ i, 0 ≤ s.R i ∧ s.R i ≤ 3
  ll : ∀ i, -1 ≤ s.L i

theorem RcOk.sb {s : RC} (h : RcOk s) : 0 < s.S ∧ s.S ≤ 8 := by rcases h.sz with h | h | h | h <;> omega
theorem RcOk.wb {s : RC} (h : RcOk s) : 0 < s.W ∧ s.W ≤ 8 := by rcases h.wz with h | h | h | h <;> omega
theorem RcOk.n {s : RC} (h : RcOk s) : s.n ≤ 64 := by
  have h1 := h.sb
  have h2 := h.wb
  exact Nat.le_trans (Nat.mul_le_mul h1.2 h2.2) (by decide)
theorem RcOk.lo {s : RC} (h : RcOk s) (x : Int) : s.lo x + s.W ≤ s.n := by
  have h1 := h.sb
  have h3 := Int.emod_lt_of_pos x (show (0 : Int) < s.S by omega)
  have h4 := Int.emod_nonneg x (show (s.S : Int) ≠ 0 by omega)
  unfold RC.lo RC.n
  have h5 : (x % s.S).toNat + 1 ≤ s.S := by omega
  have := Nat.mul_le_mul_right s.W h5
  rw [Nat.add_mul, Nat.one_mul] at this
  exact this

theorem lo_int {s : RC} (h : RcOk s) (x : Int) : (x % (s.S : Int)) * (s.W : Int) = (s.lo x : Int) := by
  have h1 := h.sb
  have h4 := Int.emod_nonneg x (show (s.S : Int) ≠ 0 by omega)
  unfold RC.lo
  rw [Int.natCast_mul, Int.toNat_of_nonneg h4]

theorem wrap64_small (n : Nat) (h : n ≤ 1000000) : wrap64 (n : Int) = n := by
  unfold wrap64; omega

set_option maxRecDepth 100000 in
set_option maxHeartbeats 1000000 in
theorem refFind_any (b g cap : Nat) (x : Int) (s : RC) (w : World) (ok : RcOk s) (hx : 0 ≤ x) (hx2 : x ≤ 9223372036854775807) (H : RefAt w b g cap s) :
    Calls Try.prog 44 #[.pointer (some ⟨b, 0, none⟩), .int .i64 x] w fun e w' => e = .returned (.int .i64 (ofs (s.lo x) (s.find x))) ∧ ∃ q, w' = w.drewN q := by
  have h0 := H.c0
  have h1 := H.c1
  have h3 := H.c3
  have hln := H.ln
  have hsb := ok.sb
  have hwb := ok.wb
  have hn := ok.n
  have hlo := ok.lo x
  have HLI : Hid ((x % (s.S : Int)) * (s.W : Int) = (s.lo x : Int)) := lo_int ok x
  unfold RC.find
  clear H ok
  generalize s.lo x = lo at *
  generalize s.n = n at *
  generalize s.L = L at *
  generalize s.S = S at *
  generalize s.W = W at *
  go_enter Try.func44, Try.ntmps44
  go_wp2
  go_quiet (fail)
  rw [HLI.out, wrap64_small lo (by omega)]
  go_wp2
  go_loopw [6] (fun i wr => ∃ k : Nat, k ≤ W ∧ i = .int .i64 (lo + k : Nat) ∧ (∀ j, j < k → L (lo + j) ≠ x) ∧ wr = w.drewN nq) (fun i _ => lo + W - (intOf i).toNat)
  case atStart => exact ⟨0, Nat.zero_le _, rfl, fun j hj => absurd hj (Nat.not_lt_zero _), rfl⟩
  case round =>
    obtain ⟨k, hk, rfl, hno, rfl⟩ := hrel
    have HN : Hid (∀ j, j < k → L (lo + j) ≠ x) := hno
    clear hno
    by_cases hlt : k < W
    · have hlk := hln (lo + k) (by omega)
      have hml : lo + k < lo + W := by omega
      have hmn : lo + k < n := by omega
      by_cases e : L (lo + k) = x
      · have HF : Hid (findN (fun j => L (lo + j)) x W = some k) := findN_some.2 ⟨hlt, e, HN.out⟩
        have he : (L (lo + k) == x) = true := by simpa using e
        clear e
        generalize hm : lo + k = m at *
        have HM : Hid (lo + k = m) := hm
        clear hm
        go_wp2
        go_ret
        exact ⟨ret_int (by rw [HF.out]; show _ = ((lo + k : Nat) : Int); rw [HM.out]), _, rfl⟩
      · have he : (L (lo + k) == x) = false := by simpa using e
        have HE : Hid (L (lo + k) ≠ x) := e
        clear e
        generalize hm : lo + k = m at *
        have HM : Hid (lo + k = m) := hm
        clear hm
        go_wp2
        go_roundw
        case rel =>
          refine ⟨k + 1, by omega, by have := HM.out; subst this; go_num, fun j hj => ?_, by first | rfl | trivial⟩
          by_cases hjk : j = k
          · subst hjk; rw [HM.out]; exact HE.out
          · exact HN.out j (by omega)
        case measure => simp [intOf]; have := HM.out; omega
    · have HF : Hid (findN (fun j => L (lo + j)) x W = none) := findN_none.2 fun j hj => HN.out j (by omega)
      have hkW : k = W := by omega
      subst hkW
      go_wp2
      go_ret
      exact ⟨ret_int (by rw [HF.out]; rfl), _, rfl⟩

set_option maxHeartbeats 1000000 in
theorem refStamp_any (b g cap i : Nat) (s : RC) (w : World) (hc0 : 0 ≤ s.clock) (hc : s.clock ≤ 4611686018427387904) (hi : i < s.n) (H : RefAt w b g cap s) :
    Calls Try.prog 71 #[.pointer (some ⟨b, 0, none⟩), .int .i64 i] w fun e w' => e = .returned (.tuple #[]) ∧ RefAt w' b g cap (s.stamp i) ∧ Upd (refS b g) w w' := by
  have h3 := H.c3
  have h4 := H.c4
  have hbf := H.bf 4
  have hgf := H.gf (i * 3 + 1)
  have hst := H.st i hi
  have hne := H.ne
  have HH : Hid (RefAt w b g cap s) := H
  clear H
  go_enter Try.func71, Try.ntmps71
  go_wp2
  go_region
  all_goals
    go_end0
    refine ⟨rfl, ((HH.out.setClock (s.clock + 1)).setG (i * 3 + 1) (s.clock + 1) (s.stamp i) ⟨rfl, rfl, rfl, rfl, rfl, rfl⟩ (fun j hj => ?_) (fun j hj => ?_) (fun j hj => ?_)).drew, (((Upd.refl _ _).setCell (fun _ => .inl rfl) _).setCell (fun _ => .inr rfl) _).drew⟩
    · rw [if_neg (by omega)]; rfl
    · show upd s.T i (s.clock + 1) j = _
      unfold upd
      by_cases e : j = i
      · rw [if_pos e, if_pos (by omega)]
      · rw [if_neg e, if_neg (by omega)]
    · rw [if_neg (by omega)]; rfl

theorem RefAt.setR {w : World} {b g cap : Nat} {s : RC} (h : RefAt w b g cap s) (i : Nat) (v : Int) : RefAt (w.setCell ⟨g, i * 3 + 2, none⟩ (.int .i64 v)) b g cap { s with R := upd s.R i v } := by
  refine h.setG (i * 3 + 2) v _ ⟨rfl, rfl, rfl, rfl, rfl, rfl⟩ (fun j hj => ?_) (fun j hj => ?_) (fun j hj => ?_)
  · rw [if_neg (by omega)]
  · rw [if_neg (by omega)]
  · show upd s.R i v j = _
    unfold upd
    by_cases e : j = i
    · rw [if_pos e, if_pos (by omega)]
    · rw [if_neg e, if_neg (by omega)]
theorem RefAt.setL {w : World} {b g cap : Nat} {s : RC} (h : RefAt w b g cap s) (i : Nat) (v : Int) : RefAt (w.setCell ⟨g, i * 3, none⟩ (.int .i64 v)) b g cap { s with L := upd s.L i v } := by
  refine h.setG (i * 3) v _ ⟨rfl, rfl, rfl, rfl, rfl, rfl⟩ (fun j hj => ?_) (fun j hj => ?_) (fun j hj => ?_)
  · show upd s.L i v j = _
    unfold upd
    by_cases e : j = i
    · rw [if_pos e, if_pos (by omega)]
    · rw [if_neg e, if_neg (by omega)]
  · rw [if_neg (by omega)]
  · rw [if_neg (by omega)]

set_option maxHeartbeats 1000000 in
theorem refFound_any (b g cap i : Nat) (s : RC) (w : World) (hc0 : 0 ≤ s.clock) (hc : s.clock ≤ 4611686018427387904) (hi : i < s.n) (H : RefAt w b g cap s) :
    Calls Try.prog 45 #[.pointer (some ⟨b, 0, none⟩), .int .i64 i] w fun e w' => e = .returned (.tuple #[]) ∧ RefAt w' b g cap (s.found i) ∧ Upd (refS b g) w w' := by
  have HH : Hid (RefAt w b g cap s) := H
  clear H
  go_enter Try.func45, Try.ntmps45
  go_wp2_with fail
  refine (refStamp_any b g cap i s _ hc0 hc hi HH.out).mono ?_
  rintro e w1 ⟨rfl, hs, hu⟩
  have h3 := hs.c3
  have hrk := hs.rk i hi
  have hgf := hs.gf (i * 3 + 2)
  have en : (s.stamp i).n = s.n := rfl
  rw [en] at h3
  have HS : Hid (RefAt w1 b g cap (s.stamp i)) := hs
  have HU : Hid (Upd (refS b g) w w1) := hu
  clear hs hu en
  go_wp2
  go_end0
  exact ⟨rfl, HS.out.setR i 0, HU.out.setCell (fun _ => .inr rfl) _⟩

set_option maxHeartbeats 1000000 in
theorem refAs_any (b g cap set : Nat) (s : RC) (w : World) (hs8 : set < 8) (H : RefAt w b g cap s) :
    Calls Try.prog 72 #[.pointer (some ⟨b, 0, none⟩), .int .i64 set] w fun e w' => e = .returned (.int .i64 (asP s.P set s.psel : Nat)) ∧ w' = w := by
  have h2 := H.c2
  have h6 := H.c6
  clear H
  by_cases hp : s.P = 4
  · have hpb : ((s.P : Int) != 4) = false := by simp; omega
    by_cases h0 : set % 4 = 0
    · have HF : Hid (asP s.P set s.psel = 2) := by unfold asP; rw [if_neg (by omega), if_pos h0]; rfl
      have hb : ((set : Int) % 4 == 0) = true := by simp; omega
      clear h0 hp
      generalize s.P = P at *
      generalize s.psel = ps at *
      go_enter Try.func72, Try.ntmps72
      go_wp2
      go_ret
      exact ⟨ret_int (by rw [HF.out]; rfl), rfl⟩
    · have hb : ((set : Int) % 4 == 0) = false := by simp; omega
      by_cases h1 : set % 4 = 1
      · have HF : Hid (asP s.P set s.psel = 3) := by unfold asP; rw [if_neg (by omega), if_neg h0, if_pos h1]; rfl
        have hb1 : ((set : Int) % 4 == 1) = true := by simp; omega
        clear h0 h1 hp
        generalize s.P = P at *
        generalize s.psel = ps at *
        go_enter Try.func72, Try.ntmps72
        go_wp2
        go_ret
        exact ⟨ret_int (by rw [HF.out]; rfl), rfl⟩
      · have hb1 : ((set : Int) % 4 == 1) = false := by simp; omega
        by_cases h7 : s.psel ≤ 7
        · have HF : Hid (asP s.P set s.psel = 2) := by unfold asP; rw [if_neg (by omega), if_neg h0, if_neg h1, if_pos h7]; rfl
          clear h0 h1 hp
          generalize s.P = P at *
          generalize s.psel = ps at *
          go_enter Try.func72, Try.ntmps72
          go_wp2
          go_ret
          exact ⟨ret_int (by rw [HF.out]; rfl), rfl⟩
        · have HF : Hid (asP s.P set s.psel = 3) := by unfold asP; rw [if_neg (by omega), if_neg h0, if_neg h1, if_neg h7]; rfl
          clear h0 h1 hp
          generalize s.P = P at *
          generalize s.psel = ps at *
          go_enter Try.func72, Try.ntmps72
          go_wp2
          go_ret
          exact ⟨ret_int (by rw [HF.out]; rfl), rfl⟩
  · have hpb : ((s.P : Int) != 4) = true := by simp; omega
    have HF : Hid (asP s.P set s.psel = s.P) := by unfold asP; rw [if_pos hp]; rfl
    clear hp
    generalize s.P = P at *
    generalize s.psel = ps at *
    go_enter Try.func72, Try.ntmps72
    go_wp2
    go_ret
    exact ⟨ret_int (by rw [HF.out]), rfl⟩

theorem refAs_int (b g cap set : Nat) (i : Int) (s : RC) (w : World) (ei : i = set) (hs8 : set < 8) (H : RefAt w b g cap s) :
    Calls Try.prog 72 #[.pointer (some ⟨b, 0, none⟩), .int .i64 i] w fun e w' => e = .returned (.int .i64 (asP s.P set s.psel : Nat)) ∧ w' = w := by
  subst ei; exact refAs_any b g cap set s w hs8 H

end Go.Proofs.Ytobniidkkmlilaa

/- The walks over package coherentref: the victims. -/
namespace Go.Proofs.Ytobniidkkmlilaa
open Go.RowKit Go.Coh

theorem argm_neg (T : Nat → Int) (lo k : Nat) : argm (fun i j => decide (T j < T i)) lo k = argm (fun i j => decide ((fun i => - T i) i < (fun i => - T i) j)) lo k := by
  congr 1
  funext i j
  rw [Bool.eq_iff_iff]
  simp only [decide_eq_true_eq]
  omega

set_option maxHeartbeats 1000000 in
theorem refHalved_any (b g cap lo hi : Nat) (h : Int) (s : RC) (w : World) (eh : h = hi) (ehi : hi = lo + s.W) (ok : RcOk s) (hh : hi ≤ s.n) (H : RefAt w b g cap s) :
    Calls Try.prog 74 #[.pointer (some ⟨b, 0, none⟩), .int .i64 lo, .int .i64 h] w fun e w' => e = .returned (.int .i64 (leaf (fun i => - s.T i) (lg s.W) lo : Nat)) ∧ ∃ q, w' = w.drewN q := by
  subst eh
  have HH : Hid (RefAt w b g cap s) := H
  have hn := ok.n
  have HST : Hid (∃ m : Nat, lg s.W = m ∧ (hi = lo + 1 ∧ m = 0 ∨ hi = lo + 2 ∧ m = 1 ∨ hi = lo + 4 ∧ m = 2 ∨ hi = lo + 8 ∧ m = 3)) := by
    rcases ok.wz with e | e | e | e <;> rw [e] at ehi ⊢ <;> exact ⟨_, rfl, by simp [lg]; omega⟩
  clear H ok ehi
  go_enter Try.func74, Try.ntmps74
  go_wp2
  go_loopw [1, 2] (fun l h wr => ∃ (m a z q : Nat), z ≤ hi ∧ l = .int .i64 a ∧ h = .int .i64 z ∧ wr = w.drewN q ∧ leaf (fun i => - s.T i) m a = leaf (fun i => - s.T i) (lg s.W) lo ∧ (z = a + 1 ∧ m = 0 ∨ z = a + 2 ∧ m = 1 ∨ z = a + 4 ∧ m = 2 ∨ z = a + 8 ∧ m = 3)) (fun l h _ => (intOf h - intOf l).toNat)
  case atStart =>
    obtain ⟨m, hm, hst⟩ := HST.out
    exact ⟨m, lo, hi, 0, Nat.le_refl _, rfl, rfl, rfl, by rw [hm], hst⟩
  case round =>
    obtain ⟨m, a, z, q, hz, rfl, rfl, rfl, hlf, hcase⟩ := hrel
    have HLF : Hid (leaf (fun i => - s.T i) m a = leaf (fun i => - s.T i) (lg s.W) lo) := hlf
    clear hlf HST
    rcases hcase with ⟨rfl, rfl⟩ | ⟨rfl, rfl⟩ | ⟨rfl, rfl⟩ | ⟨rfl, rfl⟩
    · go_wp2
      go_ret
      exact ⟨ret_int (by rw [← HLF.out]; rfl), q, rfl⟩
    · have HA : Hid (leaf (fun i => - s.T i) 1 a = leaf (fun i => - s.T i) 0 (if argm (fun i j => decide (s.T j < s.T i)) a (a + 2 - a) < a + 1 then a + 1 else a)) := by
        rw [argm_neg, show a + 2 - a = 2 by omega]; rfl
      have hy := argm_bd (fun i j => decide (s.T j < s.T i)) a (a + 2 - a)
      have hmid : ((a : Int) + ((a : Int) + 2)) / 2 = ((a + 1 : Nat) : Int) := by omega
      have HMID := (show Hid _ from hmid)
      have htw : (a : Int) + 2 - a = 2 := by omega
      clear hmid
      go_wp2_with fail
      refine (refNewest_any b g cap a (a + 2) _ _ s _ rfl (by simp) (by omega) (by omega) hn (HH.out.drewN q)).mono ?_
      rintro e w' ⟨rfl, q1, rfl⟩
      rw [HMID.out]
      generalize argm (fun i j => decide (s.T j < s.T i)) a (a + 2 - a) = y at *
      by_cases hyl : y < a + 1
      · go_wp2
        go_roundw
        case rel =>
          refine ⟨0, a + 1, a + 2, _, by omega, by first | rfl | go_num, by first | rfl | go_num, rfl, ?_, by omega⟩
          rw [← HLF.out, HA.out]; rw [if_pos hyl]
        case measure => simp [intOf]; omega
      · go_wp2
        go_roundw
        case rel =>
          refine ⟨0, a, a + 1, _, by omega, by first | rfl | go_num, by first | rfl | go_num, rfl, ?_, by omega⟩
          rw [← HLF.out, HA.out]; rw [if_neg hyl]
        case measure => simp [intOf]; omega
    · have HA : Hid (leaf (fun i => - s.T i) 2 a = leaf (fun i => - s.T i) 1 (if argm (fun i j => decide (s.T j < s.T i)) a (a + 4 - a) < a + 2 then a + 2 else a)) := by
        rw [argm_neg, show a + 4 - a = 4 by omega]; rfl
      have hy := argm_bd (fun i j => decide (s.T j < s.T i)) a (a + 4 - a)
      have hmid : ((a : Int) + ((a : Int) + 4)) / 2 = ((a + 2 : Nat) : Int) := by omega
      have HMID := (show Hid _ from hmid)
      have htw : (a : Int) + 4 - a = 4 := by omega
      clear hmid
      go_wp2_with fail
      refine (refNewest_any b g cap a (a + 4) _ _ s _ rfl (by simp) (by omega) (by omega) hn (HH.out.drewN q)).mono ?_
      rintro e w' ⟨rfl, q1, rfl⟩
      rw [HMID.out]
      generalize argm (fun i j => decide (s.T j < s.T i)) a (a + 4 - a) = y at *
      by_cases hyl : y < a + 2
      · go_wp2
        go_roundw
        case rel =>
          refine ⟨1, a + 2, a + 4, _, by omega, by first | rfl | go_num, by first | rfl | go_num, rfl, ?_, by omega⟩
          rw [← HLF.out, HA.out]; rw [if_pos hyl]
        case measure => simp [intOf]; omega
      · go_wp2
        go_roundw
        case rel =>
          refine ⟨1, a, a + 2, _, by omega, by first | rfl | go_num, by first | rfl | go_num, rfl, ?_, by omega⟩
          rw [← HLF.out, HA.out]; rw [if_neg hyl]
        case measure => simp [intOf]; omega
    · have HA : Hid (leaf (fun i => - s.T i) 3 a = leaf (fun i => - s.T i) 2 (if argm (fun i j => decide (s.T j < s.T i)) a (a + 8 - a) < a + 4 then a + 4 else a)) := by
        rw [argm_neg, show a + 8 - a = 8 by omega]; rfl
      have hy := argm_bd (fun i j => decide (s.T j < s.T i)) a (a + 8 - a)
      have hmid : ((a : Int) + ((a : Int) + 8)) / 2 = ((a + 4 : Nat) : Int) := by omega
      have HMID := (show Hid _ from hmid)
      have htw : (a : Int) + 8 - a = 8 := by omega
      clear hmid
      go_wp2_with fail
      refine (refNewest_any b g cap a (a + 8) _ _ s _ rfl (by simp) (by omega) (by omega) hn (HH.out.drewN q)).mono ?_
      rintro e w' ⟨rfl, q1, rfl⟩
      rw [HMID.out]
      generalize argm (fun i j => decide (s.T j < s.T i)) a (a + 8 - a) = y at *
      by_cases hyl : y < a + 4
      · go_wp2
        go_roundw
        case rel =>
          refine ⟨2, a + 4, a + 8, _, by omega, by first | rfl | go_num, by first | rfl | go_num, rfl, ?_, by omega⟩
          rw [← HLF.out, HA.out]; rw [if_pos hyl]
        case measure => simp [intOf]; omega
      · go_wp2
        go_roundw
        case rel =>
          refine ⟨2, a, a + 4, _, by omega, by first | rfl | go_num, by first | rfl | go_num, rfl, ?_, by omega⟩
          rw [← HLF.out, HA.out]; rw [if_neg hyl]
        case measure => simp [intOf]; omega

end Go.Proofs.Ytobniidkkmlilaa
