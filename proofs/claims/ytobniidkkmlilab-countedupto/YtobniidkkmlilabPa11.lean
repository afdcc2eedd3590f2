import Derived.Test.YtobniidkkmlilabPa10

/- The walks over the reference's machine: loses, written. -/
namespace Go.Proofs.Ytobniidkkmlilab
open Go.RowKit Go.Coh

/-- way k is emptied -/
def RC.clear (s : RC) (k : Nat) : RC := { s with L := upd s.L k (-1) }
def RM.late (m : RM) (l : Nat) : RM := { m with lasts := upd m.lasts l 2 }
/-- core c, whose way k has the line l, loses it -/
def RM.losesS (m : RM) (c l k : Nat) : RM :=
  let m1 := if m.has c l = 3 then m.late l else m
  { m1 with firsts := updC m.firsts c (RC.clear (m.firsts c) k), has := updH m.has c l 0 }

/-- the rest of loses, behind what it does to a dirty line -/
theorem losesRest (y : Lay) (m : RM) (c l k : Nat) (w w' : World) (hc : c < m.cores) (hc4 : m.cores ≤ 4) (hl : l < 64) (H : RmAt w y m) (q : Nat)
    (e : w' = ((w.drewN q).setCell ⟨y.blk (5 + 2 * c), k * 3, none⟩ (.int .i64 (-1))).setCell ⟨y.blk 0, 9 + c * 64 + l, none⟩ (.int .i64 0)) :
    RmAt w' y { m with firsts := updC m.firsts c (RC.clear (m.firsts c) k), has := updH m.has c l 0 } ∧ Upd (rmS y m.cores) w w' := by
  subst e
  have h1 := (H.drewN q).first c hc
  have h2 := h1.setL k (-1)
  have u : Upd (refS (y.blk (4 + 2 * c)) (y.blk (5 + 2 * c))) (w.drewN q) ((w.drewN q).setCell ⟨y.blk (5 + 2 * c), k * 3, none⟩ (.int .i64 (-1))) := (Upd.refl _ _).setCell (fun _ => .inr rfl) _
  have h3 := (H.drewN q).setFirst hc h2 u
  exact ⟨h3.setHas c l (by omega) hl 0, ((u.ofDrewN).mono (fun a b h => rmS_ref (by omega) (by omega) a b h)).setCell (fun _ => rmS_0 _) _⟩

set_option maxRecDepth 100000 in
set_option maxHeartbeats 1000000 in
theorem refLoses_any (y : Lay) (m : RM) (c l j : Nat) (w : World) (hc : c < m.cores) (hc4 : m.cores ≤ 4) (hl : l < 64) (ok : RcOk (m.firsts c)) (hj : (m.firsts c).find l = some j) (k : Nat) (hk : k = (m.firsts c).lo l + j) (H : RmAt w y m) :
    Calls Try.prog 71 #[.pointer (some ⟨y.blk 0, 0, none⟩), .int .i64 c, .int .i64 l] w fun e w' => e = .returned (.tuple #[]) ∧ RmAt w' y (m.losesS c l k) ∧ Upd (rmS y m.cores) w w' := by
  have hjn : k < (m.firsts c).n := by
    have := (findN_some.1 hj).1
    have := ok.lo l
    omega
  have hn := ok.n
  have hh := H.has c l (by omega) hl
  have hhf := H.bf (9 + c * 64 + l)
  have h265 := H.lasts.c l hl
  have h265f := H.lasts.f l hl
  have HJ : Hid (ofs ((m.firsts c).lo l) ((m.firsts c).find l) = (k : Int)) := by show _ = _; rw [hj, hk]; rfl
  have HOK : Hid (RcOk (m.firsts c)) := ok
  have HH : Hid (RmAt w y m) := H
  clear hk
  by_cases e3 : m.has c l = 3
  · have HS : Hid (m.losesS c l k = { m.late l with firsts := updC (m.late l).firsts c (RC.clear ((m.late l).firsts c) k), has := updH (m.late l).has c l 0 }) := by
      show _ = _; unfold RM.losesS; simp only [if_pos e3]; rfl
    have HL : Hid (RmAt (w.setCell ⟨y.blk 0, 265 + l, none⟩ (.int .i64 2)) y (m.late l)) := H.setLasts l hl 2
    have g1 := HL.out.fs
    have g2 := HL.out.row c hc
    have g3 := (HL.out.first c hc).c3
    have g4 := (HL.out.first c hc).ln _ hjn
    have g4f := (HL.out.first c hc).gf (k * 3)
    have g5 := HL.out.has c l (by omega) hl
    have g5f := HL.out.bf (9 + c * 64 + l)
    have gne : y.blk 0 ≠ y.blk (5 + 2 * c) := HL.out.bne (p := 5 + 2 * c) (by show _ < 4 + 2 * m.cores; omega) (by omega)
    have HF : Hid (RefAt (w.setCell ⟨y.blk 0, 265 + l, none⟩ (.int .i64 2)) (y.blk (4 + 2 * c)) (y.blk (5 + 2 * c)) (y.cc c) (m.firsts c)) := HL.out.first c hc
    have HU : Hid (Upd (rmS y m.cores) w (w.setCell ⟨y.blk 0, 265 + l, none⟩ (.int .i64 2))) := (Upd.refl _ _).setCell (fun _ => rmS_0 _) _
    clear H ok hj
    rw [e3] at hh
    clear e3
    go_enter Try.func71, Try.ntmps71
    go_wp2_with fail
    refine (refFind_any _ _ _ l (m.firsts c) _ HOK.out (by omega) (by omega) (HF.out)).mono ?_
    rintro e w1 ⟨rfl, q, rfl⟩
    rw [HJ.out]
    generalize hwL : w.setCell ⟨y.blk 0, 265 + l, none⟩ (.int .i64 2) = wL at *
    clear hwL
    go_wp2
    go_end0
    rw [HS.out]
    have R := losesRest y (m.late l) c l k wL _ hc hc4 hl HL.out q rfl
    exact ⟨rfl, R.1, HU.out.trans R.2⟩
  · have HS : Hid (m.losesS c l k = { m with firsts := updC m.firsts c (RC.clear (m.firsts c) k), has := updH m.has c l 0 }) := by
      show _ = _; unfold RM.losesS; simp only [if_neg e3]
    have g1 := H.fs
    have g2 := H.row c hc
    have g3 := (H.first c hc).c3
    have g4 := (H.first c hc).ln _ hjn
    have g4f := (H.first c hc).gf (k * 3)
    have gne : y.blk 0 ≠ y.blk (5 + 2 * c) := H.bne (p := 5 + 2 * c) (by omega) (by omega)
    have HF : Hid (RefAt w (y.blk (4 + 2 * c)) (y.blk (5 + 2 * c)) (y.cc c) (m.firsts c)) := H.first c hc
    have hb : (m.has c l == 3) = false := by simpa using e3
    clear H ok hj e3
    go_enter Try.func71, Try.ntmps71
    go_wp2_with fail
    refine (refFind_any _ _ _ l (m.firsts c) _ HOK.out (by omega) (by omega) (HF.out)).mono ?_
    rintro e w1 ⟨rfl, q, rfl⟩
    rw [HJ.out]
    go_wp2
    go_end0
    rw [HS.out]
    have R := losesRest y m c l k w _ hc hc4 hl HH.out q rfl
    exact ⟨rfl, R.1, R.2⟩

end Go.Proofs.Ytobniidkkmlilab

/- The walks over the reference's machine: written, missed. -/
namespace Go.Proofs.Ytobniidkkmlilab
open Go.RowKit Go.Coh

/-- the first k words of line l are in the memory -/
def memK (m : RM) (l k : Nat) : RM := { m with mem := fun a => if 4 * l ≤ a ∧ a < 4 * l + k then m.words a else m.mem a }
def RM.writtenS (m : RM) (l : Nat) : RM := (memK m l 4).bump 8

theorem memK_zero (m : RM) (l : Nat) : memK m l 0 = m := by
  unfold memK
  have : (fun a => if 4 * l ≤ a ∧ a < 4 * l + 0 then m.words a else m.mem a) = m.mem := by
    funext a; rw [if_neg (by omega)]
  rw [this]

set_option maxRecDepth 100000 in
set_option maxHeartbeats 1000000 in
theorem refWritten_any (y : Lay) (m : RM) (l : Nat) (w : World) (hl : l < 64) (ht : 0 ≤ m.tally 8 ∧ m.tally 8 ≤ 4611686018427387904) (H : RmAt w y m) :
    Calls Try.prog 73 #[.pointer (some ⟨y.blk 0, 0, none⟩), .int .i64 l] w fun e w' => e = .returned (.tuple #[]) ∧ RmAt w' y (m.writtenS l) ∧ Upd (rmS y m.cores) w w' := by
  have HH : Hid (RmAt w y m) := H
  clear H
  go_enter Try.func73, Try.ntmps73
  go_wp2
  go_loopw [4] (fun i wr => ∃ k : Nat, k ≤ 4 ∧ i = .int .i64 k ∧ RmAt wr y (memK m l k) ∧ Upd (rmS y m.cores) w wr) (fun i _ => 4 - (intOf i).toNat)
  case atStart => exact ⟨0, by omega, rfl, by rw [memK_zero]; exact HH.out, Upd.refl _ _⟩
  case round =>
    obtain ⟨k, hk, rfl, hs, hu⟩ := hrel
    have HS : Hid (RmAt wr y (memK m l k)) := hs
    have HU : Hid (Upd (rmS y m.cores) w wr) := hu
    by_cases hlt : k < 4
    · have h1 := hs.words.c (4 * l + k) (by omega)
      have h2 := hs.mem.c (4 * l + k) (by omega)
      have h2f := hs.mem.f (4 * l + k) (by omega)
      change wr.cell? _ = some (.int .i64 (m.words (4 * l + k))) at h1
      have HM : Hid (RmAt (wr.setCell ⟨y.blk 0, 585 + (4 * l + k), none⟩ (.int .i64 (m.words (4 * l + k)))) y (memK m l (k + 1))) := by
        have := hs.setMem (4 * l + k) (by omega) (m.words (4 * l + k))
        have e : ({ memK m l k with mem := upd (memK m l k).mem (4 * l + k) (m.words (4 * l + k)) } : RM) = memK m l (k + 1) := by
          unfold memK
          have : (upd (fun a => if 4 * l ≤ a ∧ a < 4 * l + k then m.words a else m.mem a) (4 * l + k) (m.words (4 * l + k))) = (fun a => if 4 * l ≤ a ∧ a < 4 * l + (k + 1) then m.words a else m.mem a) := by
            funext a
            unfold upd
            by_cases e : a = 4 * l + k
            · rw [if_pos e, if_pos (by omega), e]
            · rw [if_neg e]
              show (if 4 * l ≤ a ∧ a < 4 * l + k then m.words a else m.mem a) = _
              by_cases e2 : 4 * l ≤ a ∧ a < 4 * l + k
              · rw [if_pos e2, if_pos (by omega)]
              · rw [if_neg e2, if_neg (by omega)]
          simp only [this]
        rw [e] at this
        exact this
      clear hs hu
      go_wp2
      go_region
      all_goals go_wp2
      all_goals
        go_roundw
        case rel => exact ⟨k + 1, by omega, by go_num, HM.out.drew, (HU.out.setCell (fun _ => rmS_0 _) _).drew⟩
        case measure => simp [intOf]; omega
    · have hk4 : k = 4 := by omega
      subst hk4
      have h1 := hs.tally.c 8 (by omega)
      have h1f := hs.tally.f 8 (by omega)
      change wr.cell? _ = some (.int .i64 (m.tally 8)) at h1
      clear hs hu
      go_wp2
      go_end0
      exact ⟨rfl, HS.out.setTally 8 (by omega) _, HU.out.setCell (fun _ => rmS_0 _) _⟩

end Go.Proofs.Ytobniidkkmlilab

/- The walks over the reference's machine: missed. -/
namespace Go.Proofs.Ytobniidkkmlilab
open Go.RowKit Go.Coh

/-- how the duel stands behind a miss in a set -/
def pselN (P set : Nat) (p : Int) : Int := if P ≠ 4 then p else if set % 4 = 0 then (if p < 15 then p + 1 else p) else if set % 4 = 1 then (if p > 0 then p - 1 else p) else p
def missS (s : RC) (x : Int) : RC := { s with psel := pselN s.P (x % s.S).toNat s.psel }

theorem RefAt.setPsel {w : World} {b g cap : Nat} {s : RC} (h : RefAt w b g cap s) (v : Int) : RefAt (w.setCell ⟨b, 6, none⟩ (.int .i64 v)) b g cap { s with psel := v } := by
  have kg : ∀ o', (w.setCell ⟨b, 6, none⟩ (.int .i64 v)).cell? ⟨g, o', none⟩ = w.cell? ⟨g, o', none⟩ := fun o' => cell_set_ne (.inl h.ne)
  have kb : ∀ o', 6 ≠ o' → (w.setCell ⟨b, 6, none⟩ (.int .i64 v)).cell? ⟨b, o', none⟩ = w.cell? ⟨b, o', none⟩ := fun o' ho => cell_set_ne (.inr ho)
  exact ⟨h.ne, by rw [kb _ (by omega)]; exact h.c0, by rw [kb _ (by omega)]; exact h.c1, by rw [kb _ (by omega)]; exact h.c2, by rw [kb _ (by omega)]; exact h.c3, by rw [kb _ (by omega)]; exact h.c4, by rw [kb _ (by omega)]; exact h.c5, World.cell?_setCell_same _ _ _ h.c6,
    fun o => by rw [World.frozen?_setCell]; exact h.bf o, fun o => by rw [World.frozen?_setCell]; exact h.gf o, fun i hi => by rw [kg]; exact h.ln i hi, fun i hi => by rw [kg]; exact h.st i hi, fun i hi => by rw [kg]; exact h.rk i hi⟩

set_option maxRecDepth 100000 in
set_option maxHeartbeats 1000000 in
theorem refMissed_any (b g cap : Nat) (x : Int) (s : RC) (w : World) (ok : RcOk s) (hx : 0 ≤ x) (hx2 : x < 64) (H : RefAt w b g cap s) :
    Calls Try.prog 85 #[.pointer (some ⟨b, 0, none⟩), .int .i64 x] w fun e w' => e = .returned (.tuple #[]) ∧ RefAt w' b g cap (missS s x) ∧ Upd (refS b g) w w' := by
  have h0 := H.c0
  have h2 := H.c2
  have h6 := H.c6
  have h6f := H.bf 6
  have hsb := ok.sb
  have hps := ok.psel
  have HH : Hid (RefAt w b g cap s) := H
  have hset : ∃ st : Nat, x % (s.S : Int) = st ∧ st < 8 ∧ (x % (s.S : Int)).toNat = st := by
    have h3 := Int.emod_lt_of_pos x (show (0 : Int) < s.S by omega)
    have h4 := Int.emod_nonneg x (show (s.S : Int) ≠ 0 by omega)
    exact ⟨(x % (s.S : Int)).toNat, by omega, by omega, rfl⟩
  obtain ⟨st, hst, hst8, hstn⟩ := hset
  have HST : Hid (x % (s.S : Int) = st) := hst
  have HMS : Hid (missS s x = { s with psel := pselN s.P st s.psel }) := by show _ = _; unfold missS; rw [hstn]
  clear H ok hst hstn
  have HT : Hid ((x % (s.S : Int)).tmod 4 = ((st % 4 : Nat) : Int)) := by
    show _ = _
    rw [HST.out, Int.tmod_eq_emod_of_nonneg (by omega)]
    omega
  go_enter Try.func85, Try.ntmps85
  go_wp2
  · rename_i hp
    have hp' : s.P ≠ 4 := by simp at hp; omega
    have HF : pselN s.P st s.psel = s.psel := by unfold pselN; rw [if_pos hp']
    (try simp only [Exit.inBlock, Exit.then]); refine bodyPost_ret (results_none rfl _ _ _) rfl ?_
    exact ⟨rfl, by rw [HMS.out, HF]; exact HH.out, Upd.refl _ _⟩
  · rename_i hp hm h15
    have hp' : s.P = 4 := by simp at hp; omega
    have T := HT.out
    have HF : pselN s.P st s.psel = s.psel + 1 := by unfold pselN; rw [if_neg (by omega), if_pos (by omega), if_pos h15]
    go_end0
    exact ⟨rfl, by rw [HMS.out, HF]; exact HH.out.setPsel _, (Upd.refl _ _).setCell (fun _ => .inl rfl) _⟩
  · rename_i hp hm h15
    have hp' : s.P = 4 := by simp at hp; omega
    have T := HT.out
    have HF : pselN s.P st s.psel = s.psel := by unfold pselN; rw [if_neg (by omega), if_pos (by omega), if_neg (by omega)]
    go_end0
    exact ⟨rfl, by rw [HMS.out, HF]; exact HH.out, Upd.refl _ _⟩
  · rename_i hp hm hm1 h0
    have hp' : s.P = 4 := by simp at hp; omega
    have T := HT.out
    have HF : pselN s.P st s.psel = s.psel - 1 := by unfold pselN; rw [if_neg (by omega), if_neg (by omega), if_pos (by omega), if_pos (by omega)]
    go_end0
    exact ⟨rfl, by rw [HMS.out, HF]; exact HH.out.setPsel _, (Upd.refl _ _).setCell (fun _ => .inl rfl) _⟩
  · rename_i hp hm hm1 h0
    have hp' : s.P = 4 := by simp at hp; omega
    have T := HT.out
    have HF : pselN s.P st s.psel = s.psel := by unfold pselN; rw [if_neg (by omega), if_neg (by omega), if_pos (by omega), if_neg (by omega)]
    go_end0
    exact ⟨rfl, by rw [HMS.out, HF]; exact HH.out, Upd.refl _ _⟩
  · rename_i hp hm hm1
    have hp' : s.P = 4 := by simp at hp; omega
    have T := HT.out
    have HF : pselN s.P st s.psel = s.psel := by unfold pselN; rw [if_neg (by omega), if_neg (by omega), if_neg (by omega)]
    go_end0
    exact ⟨rfl, by rw [HMS.out, HF]; exact HH.out, Upd.refl _ _⟩

end Go.Proofs.Ytobniidkkmlilab
