import Derived.Test.YtobniidkkmlilabPk05

/- The walks over package coherentref: ranks, room, put. -/
namespace Go.Proofs.Ytobniidkkmlilab
open Go.RowKit Go.Coh

theorem RefAt.congrR {w : World} {b g cap : Nat} {s : RC} (h : RefAt w b g cap s) (R : Nat → Int) (e : ∀ i, i < s.n → s.R i = R i) : RefAt w b g cap { s with R := R } :=
  ⟨h.ne, h.c0, h.c1, h.c2, h.c3, h.c4, h.c5, h.c6, h.bf, h.gf, h.ln, h.st, fun i hi => by rw [h.rk i hi, e i hi]⟩

set_option maxHeartbeats 1000000 in
theorem refRanked_any (b g cap lo hi : Nat) (h : Int) (s : RC) (w : World) (eh : h = hi) (ehi : hi = lo + s.W) (ok : RcOk s) (hh : hi ≤ s.n) (H : RefAt w b g cap s) :
    Calls Try.prog 95 #[.pointer (some ⟨b, 0, none⟩), .int .i64 lo, .int .i64 h] w fun e w' => e = .returned (.int .i64 (s.ranked lo : Nat)) ∧
      RefAt w' b g cap { s with R := liftFrom lo (lo + s.W) (3 - s.R (s.ranked lo)) s.R } ∧ Upd (refS b g) w w' := by
  subst eh
  have HH : Hid (RefAt w b g cap s) := H
  have HR : Hid (∀ i, 0 ≤ s.R i ∧ s.R i ≤ 3) := ok.rr
  have hn := ok.n
  have hwb := ok.wb
  have hc3 := H.c3
  have hrk := H.rk
  have HW : Hid (s.ranked lo = argm (fun i j => decide (s.R j < s.R i)) lo (hi - lo)) := by show _ = _; rw [ehi, show lo + s.W - lo = s.W by omega]; rfl
  have HHI : Hid (hi = lo + s.W) := ehi
  have hlh : lo < hi := by omega
  rw [← HHI.out]
  clear H ok ehi
  go_enter Try.func95, Try.ntmps95
  go_wp2
  go_loopw [7, 8] (fun r i wr => ∃ k q : Nat, lo + k ≤ hi ∧ r = .int .i64 (argm (fun i j => decide (s.R j < s.R i)) lo k : Nat) ∧ i = .int .i64 (lo + k : Nat) ∧ wr = w.drewN q) (fun _ i _ => hi - (intOf i).toNat)
  case atStart => exact ⟨0, 0, by omega, rfl, rfl, rfl⟩
  case round =>
    obtain ⟨k, q, hk, rfl, rfl, rfl⟩ := hrel
    have hlr := argm_lt (fun i j => decide (s.R j < s.R i)) lo k hi (by omega) hlh
    have HS : Hid (argm (fun i j => decide (s.R j < s.R i)) lo (k + 1) = if decide (s.R (argm (fun i j => decide (s.R j < s.R i)) lo k) < s.R (lo + k)) then lo + k else argm (fun i j => decide (s.R j < s.R i)) lo k) := rfl
    by_cases hlt : lo + k < hi
    · have hlk := hrk (lo + k) (by omega)
      have hla := hrk (argm (fun i j => decide (s.R j < s.R i)) lo k) (by omega)
      clear HW
      generalize argm (fun i j => decide (s.R j < s.R i)) lo k = r at *
      generalize hm : lo + k = m at *
      have HM : Hid (lo + k = m) := hm
      clear hm
      go_wp2
      go_quiet (fail)
      go_wp2
      all_goals
        go_roundw
        case rel => exact ⟨k + 1, _, by have := HM.out; omega, by rw [HS.out]; first | rw [if_pos (decide_eq_true ‹_›)] | rw [if_neg (by simp only [decide_eq_true_eq]; omega)], by have := HM.out; subst this; go_num, rfl⟩
        case measure => simp [intOf]; omega
    · have hk' : k = hi - lo := by omega
      subst hk'
      have hlk := hrk (argm (fun i j => decide (s.R j < s.R i)) lo (hi - lo)) (by omega)
      have hb := HR.out (argm (fun i j => decide (s.R j < s.R i)) lo (hi - lo))
      clear HS
      generalize argm (fun i j => decide (s.R j < s.R i)) lo (hi - lo) = r at *
      clear hrk
      go_wp2
      go_loopw [10] (fun i wr => ∃ k : Nat, lo ≤ k ∧ k ≤ hi ∧ i = .int .i64 k ∧ RefAt wr b g cap { s with R := liftFrom lo k (3 - s.R r) s.R } ∧ Upd (refS b g) w wr) (fun i _ => hi - (intOf i).toNat)
      case atStart => exact ⟨lo, Nat.le_refl _, by omega, rfl, (HH.out.drewN q).congrR _ (fun i _ => by unfold liftFrom; rw [if_neg (by omega)]), (Upd.refl _ _).drewN q⟩
      case round =>
        obtain ⟨i, hi1, hi2, rfl, hs, hu⟩ := hrel
        have HS : Hid (RefAt wr b g cap { s with R := liftFrom lo i (3 - s.R r) s.R }) := hs
        have HU : Hid (Upd (refS b g) w wr) := hu
        by_cases hlt : i < hi
        · have hc := hs.c3
          have hin : i < s.n := by omega
          have hri := hs.rk i hin
          have hgf := hs.gf (i * 3 + 2)
          have hbi := HR.out i
          have ei : (liftFrom lo i (3 - s.R r) s.R) i = s.R i := by unfold liftFrom; rw [if_neg (by omega)]
          change wr.cell? _ = some (.int .i64 ((liftFrom lo i (3 - s.R r) s.R) i)) at hri
          rw [ei] at hri
          change wr.cell? _ = some (.slice _ s.n cap) at hc
          clear hs hu ei hc3
          generalize hsr : s.R r = sr at *
          generalize hsi : s.R i = si at *
          have HSR : Hid (s.R r = sr) := hsr
          have HSI : Hid (s.R i = si) := hsi
          clear hsr hsi
          go_wp2
          go_region
          all_goals go_wp2
          all_goals
            go_roundw
            case rel =>
              refine ⟨i + 1, by omega, by omega, by go_num, ?_, (HU.out.setCell (fun _ => .inr rfl) _).drew⟩
              refine (((HS.out.setR i (si + (3 - sr))).congrR _ (fun j hj => ?_))).drew
              show upd (liftFrom lo i (3 - sr) s.R) i _ j = liftFrom lo (i + 1) (3 - sr) s.R j
              unfold upd liftFrom
              by_cases e : j = i
              · subst e; rw [if_pos rfl, if_pos (by omega), HSI.out]
              · rw [if_neg e]
                by_cases e2 : lo ≤ j ∧ j < i
                · rw [if_pos e2, if_pos (by omega)]
                · rw [if_neg e2, if_neg (by omega)]
            case measure => simp [intOf]; omega
        · have hih : i = hi := by omega
          subst hih
          clear hs hu
          go_wp2
          go_ret
          exact ⟨ret_int (by rw [HW.out]), by rw [HW.out]; exact HS.out, HU.out⟩

end Go.Proofs.Ytobniidkkmlilab
