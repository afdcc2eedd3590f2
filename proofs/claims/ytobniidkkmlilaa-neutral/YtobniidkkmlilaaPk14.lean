import Derived.Test.YtobniidkkmlilaaPk13
import Derived.Test.YtobniidkkmlilaaPk01

/- The walks over the reference's machine: missed. -/
namespace Go.Proofs.Ytobniidkkmlilaa
open Go.RowKit Go.Coh

/-- how the duel stands behind a miss in a set -/
def pselN (P set : Nat) (p : Int) : Int := if P ≠ 4 then p else if set % 4 = 0 then (if p < 15 then p + 1 else p) else if set % 4 = 1 then (if p > 0 then p - 1 else p) else p
def missS (s : RC) (x : Int) : RC := { s with psel := pselN s.P (x % s.S).toNat s.psel }

theorem RefAt.setPsel {w : World} {b g cap : Nat} {s : RC} (h : RefAt w b g cap s) (v : Int) : RefAt (w.setCell ⟨b, 6, none⟩ (.int .i64 v)) b g cap { s with psel := v } := by
  have kg : ∀ o', (w.setCell ⟨b, 6, none⟩ (.int .i64 v)).cell? ⟨g, o', none⟩ = w.cell? ⟨g, o', none⟩ := fun o' => cell_set_ne (.inl h.ne)
  have kb : ∀ o', 6 ≠ o' → (w.setCell ⟨b, 6, none⟩ (.int .i64 v)).cell? ⟨b, o', none⟩ = w.cell? ⟨b, o', none⟩ := fun o' ho => cell_set_ne (.inr ho)
  exact ⟨h.ne, by rw [kb _ (by omega)]; exact h.c0, by rw [kb _ (by omega)]; exact h.c1, by rw [kb _ (by omega)]; exact h.c2, by rw [kb _ (by omega)]; exact h.c3, by rw [kb _ (by omega)]; exact h.c4, by rw [kb _ (by omega)]; exact h.c5, World.cell?_setCell_same _ _ _ h.c6,
    fun o => by rw [World.frozen?_setCell]; exact h.bf o, fun o => by rw [World.frozen?_setCell]; exact h.gf o, fun i hi => by rw [kg]; exact h.ln i hi, fun i hi => by rw [kg]; exact h.st i hi, fun i hi => by rw [kg]; exact h.rk i hi⟩

set_option maxRecDepth 100000 in
set_option maxHeartbeats 1000000 in
theorem refMissed_any (b g cap : Nat) (x : Int) (s : RC) (w : World) (ok : RcOk s) (hx : 0 ≤ x) (hx2 : x < 64) (H : RefAt w b g cap s) :
    Calls Try.prog 116 #[.pointer (some ⟨b, 0, none⟩), .int .i64 x] w fun e w' => e = .returned (.tuple #[]) ∧ RefAt w' b g cap (missS s x) ∧ Upd (refS b g) w w' := by
  have h0 := H.c0
  have h2 := H.c2
  have h6 := H.c6
  have h6f := H.bf 6
  have hsb := ok.sb
  have hps := ok.psel
  have HH : Hid (RefAt w b g cap s) := H
  have hset : ∃ st : Nat, x % (s.S : Int) = st ∧ st < 8 ∧ (x % (s.S : Int)).toNat = st := by
    have h3 := Int.emod_lt_of_pos x (show (0 : Int) < s.S by omega)
    have h4 := Int.emod_nonneg x (show (s.S : Int) ≠ 0 by omega)
    exact ⟨(x % (s.S : Int)).toNat, by omega, by omega, rfl⟩
  obtain ⟨st, hst, hst8, hstn⟩ := hset
  have HST : Hid (x % (s.S : Int) = st) := hst
  have HMS : Hid (missS s x = { s with psel := pselN s.P st s.psel }) := by show _ = _; unfold missS; rw [hstn]
  clear H ok hst hstn
  have HT : Hid ((x % (s.S : Int)).tmod 4 = ((st % 4 : Nat) : Int)) := by
    show _ = _
    rw [HST.out, Int.tmod_eq_emod_of_nonneg (by omega)]
    omega
  go_enter Try.func116, Try.ntmps116
  go_wp2
  · rename_i hp
    have hp' : s.P ≠ 4 := by simp at hp; omega
    have HF : pselN s.P st s.psel = s.psel := by unfold pselN; rw [if_pos hp']
    (try simp only [Exit.inBlock, Exit.then]); refine bodyPost_ret (results_none rfl _ _ _) rfl ?_
    exact ⟨rfl, by rw [HMS.out, HF]; exact HH.out, Upd.refl _ _⟩
  · rename_i hp hm h15
    have hp' : s.P = 4 := by simp at hp; omega
    have T := HT.out
    have HF : pselN s.P st s.psel = s.psel + 1 := by unfold pselN; rw [if_neg (by omega), if_pos (by omega), if_pos h15]
    go_end0
    exact ⟨rfl, by rw [HMS.out, HF]; exact HH.out.setPsel _, (Upd.refl _ _).setCell (fun _ => .inl rfl) _⟩
  · rename_i hp hm h15
    have hp' : s.P = 4 := by simp at hp; omega
    have T := HT.out
    have HF : pselN s.P st s.psel = s.psel := by unfold pselN; rw [if_neg (by omega), if_pos (by omega), if_neg (by omega)]
    go_end0
    exact ⟨rfl, by rw [HMS.out, HF]; exact HH.out, Upd.refl _ _⟩
  · rename_i hp hm hm1 h0
    have hp' : s.P = 4 := by simp at hp; omega
    have T := HT.out
    have HF : pselN s.P st s.psel = s.psel - 1 := by unfold pselN; rw [if_neg (by omega), if_neg (by omega), if_pos (by omega), if_pos (by omega)]
    go_end0
    exact ⟨rfl, by rw [HMS.out, HF]; exact HH.out.setPsel _, (Upd.refl _ _).setCell (fun _ => .inl rfl) _⟩
  · rename_i hp hm hm1 h0
    have hp' : s.P = 4 := by simp at hp; omega
    have T := HT.out
    have HF : pselN s.P st s.psel = s.psel := by unfold pselN; rw [if_neg (by omega), if_neg (by omega), if_pos (by omega), if_neg (by omega)]
    go_end0
    exact ⟨rfl, by rw [HMS.out, HF]; exact HH.out, Upd.refl _ _⟩
  · rename_i hp hm hm1
    have hp' : s.P = 4 := by simp at hp; omega
    have T := HT.out
    have HF : pselN s.P st s.psel = s.psel := by unfold pselN; rw [if_neg (by omega), if_neg (by omega), if_neg (by omega)]
    go_end0
    exact ⟨rfl, by rw [HMS.out, HF]; exact HH.out, Upd.refl _ _⟩

end Go.Proofs.Ytobniidkkmlilaa

/- The walks over the reference's machine: dropped. -/
namespace Go.Proofs.Ytobniidkkmlilaa
open Go.RowKit Go.Coh

/-- core i loses the line, wherever it is -/
def RM.loseAt (m : RM) (i l : Nat) : RM := match (m.firsts i).find l with
  | some j => m.losesS i l ((m.firsts i).lo l + j)
  | none => m
/-- the first k cores have lost it -/
def RM.dropK (m : RM) (l : Nat) : Nat → RM
  | 0 => m
  | k + 1 => if m.has k l ≠ 0 then ((m.dropK l k).loseAt k l).bump 7 else m.dropK l k
def RM.droppedS (m : RM) (l : Nat) : RM :=
  let m1 := m.dropK l m.cores
  let m2 := if m1.lasts l = 2 then m1.writtenS l else m1
  { m2 with lasts := upd m2.lasts l 0 }

theorem RM.losesS_keep (m : RM) (c l k : Nat) : (m.losesS c l k).cores = m.cores ∧ (m.losesS c l k).conf = m.conf ∧ (m.losesS c l k).far = m.far ∧ (m.losesS c l k).tally = m.tally ∧ (m.losesS c l k).words = m.words ∧ (m.losesS c l k).mem = m.mem ∧
    (∀ i, i ≠ c → (m.losesS c l k).firsts i = m.firsts i ∧ ∀ x, (m.losesS c l k).has i x = m.has i x) := by
  unfold RM.losesS
  refine ⟨by split <;> rfl, by split <;> rfl, by split <;> rfl, by split <;> rfl, by split <;> rfl, by split <;> rfl, fun i hi => ⟨?_, fun x => ?_⟩⟩
  · show updC m.firsts c _ i = _
    unfold updC; rw [if_neg hi]
  · show updH m.has c l 0 i x = _
    unfold updH; rw [if_neg (fun h => hi h.1)]

theorem RM.loseAt_keep (m : RM) (c l : Nat) : (m.loseAt c l).cores = m.cores ∧ (m.loseAt c l).conf = m.conf ∧ (m.loseAt c l).far = m.far ∧ (m.loseAt c l).tally = m.tally ∧ (m.loseAt c l).words = m.words ∧ (m.loseAt c l).mem = m.mem ∧
    (∀ i, i ≠ c → (m.loseAt c l).firsts i = m.firsts i ∧ ∀ x, (m.loseAt c l).has i x = m.has i x) := by
  unfold RM.loseAt
  split
  · exact RM.losesS_keep m c l _
  · exact ⟨rfl, rfl, rfl, rfl, rfl, rfl, fun i _ => ⟨rfl, fun x => rfl⟩⟩

theorem RM.dropK_keep (m : RM) (l : Nat) : ∀ k, (m.dropK l k).cores = m.cores ∧ (m.dropK l k).conf = m.conf ∧ (m.dropK l k).far = m.far ∧ (m.dropK l k).words = m.words ∧ (m.dropK l k).mem = m.mem ∧
    (m.tally 7 ≤ (m.dropK l k).tally 7 ∧ (m.dropK l k).tally 7 ≤ m.tally 7 + k) ∧ (∀ j, j ≠ 7 → (m.dropK l k).tally j = m.tally j) ∧ (∀ i, k ≤ i → (m.dropK l k).firsts i = m.firsts i ∧ ∀ x, (m.dropK l k).has i x = m.has i x)
  | 0 => ⟨rfl, rfl, rfl, rfl, rfl, ⟨by show m.tally 7 ≤ m.tally 7; omega, by show m.tally 7 ≤ m.tally 7 + ((0 : Nat) : Int); omega⟩, fun _ _ => rfl, fun i _ => ⟨rfl, fun _ => rfl⟩⟩
  | k + 1 => by
    obtain ⟨h1, h2, h3, h4, h5, h6, h7, h8⟩ := RM.dropK_keep m l k
    unfold RM.dropK
    split
    · obtain ⟨g1, g2, g3, g4, g5, g6, g7⟩ := RM.loseAt_keep (m.dropK l k) k l
      have t7 : ((((m.dropK l k).loseAt k l).bump 7).tally 7) = (m.dropK l k).tally 7 + 1 := by
        show upd ((m.dropK l k).loseAt k l).tally 7 (((m.dropK l k).loseAt k l).tally 7 + 1) 7 = _
        unfold upd; rw [if_pos rfl, g4]
      refine ⟨g1.trans h1, g2.trans h2, g3.trans h3, g5.trans h4, g6.trans h5, ⟨by rw [t7]; omega, by rw [t7]; omega⟩, fun j hj => ?_, fun i hi => ⟨?_, fun x => ?_⟩⟩
      · show upd ((m.dropK l k).loseAt k l).tally 7 (((m.dropK l k).loseAt k l).tally 7 + 1) j = _
        unfold upd; rw [if_neg hj, g4]; exact h7 j hj
      · exact ((g7 i (by omega)).1).trans (h8 i (by omega)).1
      · exact ((g7 i (by omega)).2 x).trans ((h8 i (by omega)).2 x)
    · exact ⟨h1, h2, h3, h4, h5, by omega, h7, fun i hi => h8 i (by omega)⟩

set_option maxRecDepth 100000 in
set_option maxHeartbeats 1000000 in
theorem refDropped_any (y : Lay) (m : RM) (l : Nat) (w : World) (hc : 0 < m.cores ∧ m.cores ≤ 4) (hl : l < 64) (ok : ∀ i, RcOk (m.firsts i)) (hf : ∀ i, i < m.cores → m.has i l ≠ 0 → ∃ j, (m.firsts i).find l = some j)
    (ht : ∀ k, 0 ≤ m.tally k ∧ m.tally k ≤ 2305843009213693952) (H : RmAt w y m) :
    Calls Try.prog 117 #[.pointer (some ⟨y.blk 0, 0, none⟩), .int .i64 l] w fun e w' => e = .returned (.tuple #[]) ∧ RmAt w' y (m.droppedS l) ∧ Upd (rmS y m.cores) w w' := by
  have HH : Hid (RmAt w y m) := H
  have HOK : Hid (∀ i, RcOk (m.firsts i)) := ok
  have HFD : Hid (∀ i, i < m.cores → m.has i l ≠ 0 → ∃ j, (m.firsts i).find l = some j) := hf
  have HT : Hid (∀ k, 0 ≤ m.tally k ∧ m.tally k ≤ 2305843009213693952) := ht
  clear H ok hf ht
  go_enter Try.func117, Try.ntmps117
  go_wp2
  go_loopw [4] (fun i wr => ∃ k : Nat, k ≤ m.cores ∧ i = .int .i64 k ∧ RmAt wr y (m.dropK l k) ∧ Upd (rmS y m.cores) w wr) (fun i _ => m.cores - (intOf i).toNat)
  case atStart => exact ⟨0, by omega, rfl, HH.out, Upd.refl _ _⟩
  case round =>
    obtain ⟨k, hk, rfl, hs, hu⟩ := hrel
    have HS : Hid (RmAt wr y (m.dropK l k)) := hs
    have HU : Hid (Upd (rmS y m.cores) w wr) := hu
    obtain ⟨e1, e2, e3, e4, e5, e6, e7, e8⟩ := RM.dropK_keep m l k
    have h0 := hs.conf.c 0 (by omega)
    rw [hs.c0, e1] at h0
    have t7 := HT.out 7
    by_cases hlt : k < m.cores
    · have hh := hs.has k l (by omega) hl
      rw [(e8 k (Nat.le_refl _)).2 l] at hh
      by_cases e : m.has k l = 0
      · have HD : Hid (m.dropK l (k + 1) = m.dropK l k) := by show (if m.has k l ≠ 0 then _ else _) = _; rw [if_neg (by simp [e])]
        rw [e] at hh
        clear hs hu e e1 e2 e3 e4 e5 e6 e7 e8
        go_wp2
        go_roundw
        case rel => exact ⟨k + 1, by omega, by go_num, by rw [HD.out]; exact HS.out, HU.out⟩
        case measure => simp [intOf]; omega
      · obtain ⟨j, hj⟩ := HFD.out k hlt e
        have HD : Hid (m.dropK l (k + 1) = ((m.dropK l k).losesS k l (((m.dropK l k).firsts k).lo l + j)).bump 7) := by
          show (if m.has k l ≠ 0 then _ else _) = _
          rw [if_pos e]
          unfold RM.loseAt
          rw [(e8 k (Nat.le_refl _)).1, hj]
        have hj' : ((m.dropK l k).firsts k).find l = some j := by rw [(e8 k (Nat.le_refl _)).1]; exact hj
        have hok' : RcOk ((m.dropK l k).firsts k) := by rw [(e8 k (Nat.le_refl _)).1]; exact HOK.out k
        have hb : (m.has k l != 0) = true := by simpa using e
        have HJ : Hid (((m.dropK l k).firsts k).find l = some j) := hj'
        have HOK' : Hid (RcOk ((m.dropK l k).firsts k)) := hok'
        have HE1 : Hid ((m.dropK l k).cores = m.cores) := e1
        have hcc : k < (m.dropK l k).cores := by omega
        have hcc4 : (m.dropK l k).cores ≤ 4 := by omega
        clear hs hu e e1 e2 e3 e4 e5 e8 hj hj' hok' e7
        go_wp2_with fail
        refine (refLoses_any y (m.dropK l k) k l j wr hcc hcc4 hl HOK'.out HJ.out _ rfl HS.out).mono ?_
        rintro e w1 ⟨rfl, hs1, hu1⟩
        rw [HE1.out] at hu1
        have h1 := hs1.tally.c 7 (by omega)
        have h1f := hs1.tally.f 7 (by omega)
        have HS1 : Hid _ := hs1
        have HU1 : Hid _ := HU.out.trans hu1
        rw [(RM.losesS_keep (m.dropK l k) k l _).2.2.2.1] at h1
        clear hs1 hu1
        go_wp2
        go_roundw
        case rel =>
          refine ⟨k + 1, by omega, by go_num, ?_, HU1.out.setCell (fun _ => rmS_0 _) _⟩
          rw [HD.out]
          have R := HS1.out.setTally 7 (by omega) ((m.dropK l k).tally 7 + 1)
          unfold RM.bump
          rw [(RM.losesS_keep (m.dropK l k) k l _).2.2.2.1]
          rw [(RM.losesS_keep (m.dropK l k) k l _).2.2.2.1] at R
          exact R
        case measure => simp [intOf]; omega
    · have hkc : k = m.cores := by omega
      subst hkc
      have h2 := hs.lasts.c l hl
      have h2f := hs.lasts.f l hl
      have t8 := HT.out 8
      rw [← e7 8 (by omega)] at t8
      have HE1 : Hid ((m.dropK l m.cores).cores = m.cores) := e1
      have HDS : Hid (m.droppedS l = (let m2 := if (m.dropK l m.cores).lasts l = 2 then (m.dropK l m.cores).writtenS l else m.dropK l m.cores; { m2 with lasts := upd m2.lasts l 0 })) := rfl
      clear hs hu e1 e2 e3 e4 e5 e6 e7 e8
      generalize m.dropK l m.cores = mm at *
      by_cases e : mm.lasts l = 2
      · have HD2 : Hid (m.droppedS l = { mm.writtenS l with lasts := upd (mm.writtenS l).lasts l 0 }) := by show _ = _; rw [HDS.out]; simp only [if_pos e]
        rw [e] at h2
        go_wp2_with fail
        refine (refWritten_any y mm l wr hl (by omega) HS.out).mono ?_
        rintro e w1 ⟨rfl, hs1, hu1⟩
        have h3 := hs1.lasts.c l hl
        have h3f := hs1.lasts.f l hl
        have HS1 : Hid _ := hs1
        rw [HE1.out] at hu1
        have HU1 : Hid _ := HU.out.trans hu1
        clear hs1 hu1
        go_wp2
        go_end0
        exact ⟨rfl, by rw [HD2.out]; exact HS1.out.setLasts l hl 0, HU1.out.setCell (fun _ => rmS_0 _) _⟩
      · have HD2 : Hid (m.droppedS l = { mm with lasts := upd mm.lasts l 0 }) := by show _ = _; rw [HDS.out]; simp only [if_neg e]
        have hb : (mm.lasts l == 2) = false := by simpa using e
        clear e
        go_wp2
        go_end0
        exact ⟨rfl, by rw [HD2.out]; exact HS.out.setLasts l hl 0, HU.out.setCell (fun _ => rmS_0 _) _⟩

end Go.Proofs.Ytobniidkkmlilaa

/- What 'since' counts, as plain functions. No program is named here. -/
namespace Go.Coh

/-- behind k, ahead of j: the line of k does not stand there -/
def fresh (xs : Nat → Int) (k : Nat) : Nat → Bool
  | 0 => true
  | j + 1 => fresh xs k j && !(decide (k < j) && decide (xs j = xs k))

theorem fresh_iff {xs : Nat → Int} {k : Nat} : ∀ {i : Nat}, fresh xs k i = true ↔ ∀ j, k < j → j < i → xs j ≠ xs k
  | 0 => by simp [fresh]
  | i + 1 => by
    have ih := @fresh_iff xs k i
    unfold fresh
    rw [Bool.and_eq_true, ih]
    constructor
    · rintro ⟨h1, h2⟩ j hj1 hj2
      by_cases e : j = i
      · subst e
        intro he
        simp [hj1, he] at h2
      · exact h1 j hj1 (by omega)
    · intro h
      refine ⟨fun j h1 h2 => h j h1 (by omega), ?_⟩
      by_cases hk : k < i
      · have := h i hk (by omega)
        simp [this]
      · simp [hk]

theorem fresh_start (xs : Nat → Int) (k : Nat) : fresh xs k (k + 1) = true := fresh_iff.2 fun j h1 h2 => by omega

/-- how many different lines stand from t on, ahead of i -/
def cnt (xs : Nat → Int) (i t : Nat) : Nat := (List.range i).countP fun k => decide (t ≤ k) && fresh xs k i

theorem cnt_top (xs : Nat → Int) (i : Nat) : cnt xs i i = 0 := by
  unfold cnt
  rw [List.countP_eq_zero]
  intro k hk
  simp at hk
  simp; omega

theorem countP_add (p q r : Nat → Bool) (l : List Nat) (h : ∀ x ∈ l, (p x).toNat = (q x).toNat + (r x).toNat) : l.countP p = l.countP q + l.countP r := by
  induction l with
  | nil => rfl
  | cons a t ih =>
    have ha := h a (by simp)
    have ht := ih (fun x hx => h x (by simp [hx]))
    rw [List.countP_cons, List.countP_cons, List.countP_cons, ht]
    have e : ∀ b : Bool, (if b = true then 1 else 0) = b.toNat := fun b => by cases b <;> rfl
    rw [e, e, e]
    omega

theorem countP_one (i k : Nat) (hk : k < i) : (List.range i).countP (fun x => decide (x = k)) = 1 := by
  induction i with
  | zero => omega
  | succ i ih =>
    rw [List.range_succ, List.countP_append]
    by_cases e : k = i
    · subst e
      have : (List.range k).countP (fun x => decide (x = k)) = 0 := by
        rw [List.countP_eq_zero]; intro x hx; simp at hx; simp; omega
      rw [this]; simp
    · rw [ih (by omega)]
      simp; omega

theorem cnt_succ (xs : Nat → Int) (i k : Nat) (hk : k < i) : cnt xs i k = cnt xs i (k + 1) + if fresh xs k i then 1 else 0 := by
  unfold cnt
  have h := countP_add (fun x => decide (k ≤ x) && fresh xs x i) (fun x => decide (k + 1 ≤ x) && fresh xs x i) (fun x => decide (x = k) && fresh xs k i) (List.range i) (by
    intro x _
    by_cases e : x = k
    · subst e
      simp
      intro h; omega
    · have : decide (k ≤ x) = decide (k + 1 ≤ x) := by rw [Bool.eq_iff_iff]; simp; omega
      simp [e, this])
  rw [h]
  congr 1
  cases fresh xs k i with
  | true => simp; exact countP_one i k hk
  | false => simp

/-- what 'since' answers -/
def SinceR (xs : Nat → Int) (i : Nat) (r : Int) : Prop :=
  (r = -1 ∧ ∀ k, k < i → xs k ≠ xs i) ∨ ∃ k, k < i ∧ xs k = xs i ∧ (∀ j, k < j → j < i → xs j ≠ xs i) ∧ r = cnt xs i (k + 1)

theorem cnt_le (xs : Nat → Int) (i t : Nat) : cnt xs i t ≤ i := by
  unfold cnt
  have := List.countP_le_length (p := fun k => decide (t ≤ k) && fresh xs k i) (l := List.range i)
  simpa using this

end Go.Coh
