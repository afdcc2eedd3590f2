import Derived.Test.YtobniidkkmlilabPk10
import Derived.Test.YtobniidkkmlilabPk15
import Derived.Test.YtobniidkkmlilabPk13

/- The walks over package coherentref: Touches, where nothing is wrong. -/
namespace Go.Proofs.Ytobniidkkmlilab
open Go.RowKit Go.Coh

theorem RcOk.found {s : RC} (h : RcOk s) (i : Nat) : RcOk (s.found i) :=
  ⟨h.sz, h.wz, by show 0 ≤ s.clock + 1; have := h.clock; omega, h.fills, h.psel, upd_bd h.rr (by omega), h.ll⟩

theorem RcOk.roomS {s : RC} (h : RcOk s) (x : Int) : RcOk (s.roomS x) := by
  unfold RC.roomS
  split
  · exact h
  · unfold RC.lifted
    split
    · exact h
    · refine ⟨h.sz, h.wz, h.clock, h.fills, h.psel, fun i => ?_, h.ll⟩
      show 0 ≤ liftFrom _ _ _ s.R i ∧ liftFrom _ _ _ s.R i ≤ 3
      unfold liftFrom
      have h1 := h.rr i
      have h2 := h.rr (s.ranked (s.lo x))
      by_cases e : s.lo x ≤ i ∧ i < s.lo x + s.W
      · rw [if_pos e]
        have h3 : s.R i ≤ s.R (s.ranked (s.lo x)) := argm_max s.R (s.lo x) s.W i e.1 e.2
        omega
      · rw [if_neg e]; exact h1

theorem RcOk.put {s : RC} (h : RcOk s) (k : Nat) {x : Int} (hx : 0 ≤ x) : RcOk (s.put k x) := by
  have hl : ∀ i, -1 ≤ upd s.L k x i := fun i => by
    unfold upd; split
    · omega
    · exact h.ll i
  have hc := h.clock
  have hf := h.fills
  unfold RC.put
  split
  · exact ⟨h.sz, h.wz, by show 0 ≤ s.clock + 1; omega, by show 0 ≤ s.fills + 1; omega, h.psel, upd_bd h.rr (by split <;> omega), hl⟩
  · exact ⟨h.sz, h.wz, by show 0 ≤ s.clock + 1; omega, h.fills, h.psel, upd_bd h.rr (by omega), hl⟩

theorem RcOk.step {s : RC} (h : RcOk s) {x : Int} (hx : 0 ≤ x) : RcOk (s.tchS x) := by
  unfold RC.tchS
  split
  · exact h.found _
  · exact (h.roomS x).put _ hx

theorem put_cf (s : RC) (k : Nat) (x : Int) : (s.put k x).clock = s.clock + 1 ∧ (s.put k x).fills ≤ s.fills + 1 := by
  unfold RC.put
  split
  · exact ⟨rfl, Int.le_refl _⟩
  · exact ⟨rfl, by show s.fills ≤ s.fills + 1; omega⟩
theorem roomS_cf (s : RC) (x : Int) : (s.roomS x).clock = s.clock ∧ (s.roomS x).fills = s.fills ∧ (s.roomS x).n = s.n ∧ (s.roomS x).S = s.S ∧ (s.roomS x).W = s.W := by
  unfold RC.roomS
  split
  · exact ⟨rfl, rfl, rfl, rfl, rfl⟩
  · unfold RC.lifted
    split
    · exact ⟨rfl, rfl, rfl, rfl, rfl⟩
    · exact ⟨rfl, rfl, rfl, rfl, rfl⟩
theorem step_cf (s : RC) (x : Int) : (s.tchS x).clock = s.clock + 1 ∧ (s.tchS x).fills ≤ s.fills + 1 := by
  unfold RC.tchS
  split
  · exact ⟨rfl, by show s.fills ≤ s.fills + 1; omega⟩
  · have h1 := put_cf (s.roomS x) (s.roomW x) x
    have h2 := roomS_cf s x
    omega

theorem rcRun_ok {p n : Nat} {xs : Nat → Int} (hn : Size n) (hx : ∀ i, 0 ≤ xs i) : ∀ k, RcOk (rcRun p n xs k) ∧ (rcRun p n xs k).clock = k ∧ (rcRun p n xs k).fills ≤ k
  | 0 => ⟨⟨.inl rfl, hn, by show (0 : Int) ≤ 0; omega, by show (0 : Int) ≤ 0; omega, by show (0 : Int) ≤ 7 ∧ (7 : Int) ≤ 15; omega, fun _ => by show (0 : Int) ≤ 0 ∧ (0 : Int) ≤ 3; omega, fun _ => by show (-1 : Int) ≤ -1; omega⟩, rfl, by show (0 : Int) ≤ 0; omega⟩
  | k + 1 => by
    obtain ⟨h1, h2, h3⟩ := rcRun_ok hn hx k
    have h4 := step_cf (rcRun p n xs k) (xs k)
    refine ⟨h1.step (hx k), ?_, ?_⟩
    · show ((rcRun p n xs k).tchS (xs k)).clock = _
      rw [h4.1, h2]; omega
    · show ((rcRun p n xs k).tchS (xs k)).fills ≤ _
      omega

/-- the cells of the first k touches -/
def tcs (T : Nat → Tch) : Nat → List Value
  | 0 => []
  | k + 1 => tcs T k ++ [.bool (T k).hit, .int .i64 (T k).way, .int .i64 (T k).out]

theorem tcs_len (T : Nat → Tch) : ∀ k, (tcs T k).length = k * 3
  | 0 => rfl
  | k + 1 => by simp [tcs, tcs_len T k]; omega

set_option maxHeartbeats 1000000 in
theorem refPower_yes (n : Nat) (w : World) (hn : Size n) : Calls Try.prog 50 #[.int .i64 n] w fun e w' => e = .returned (.bool true) ∧ w' = w := by
  rcases hn with rfl | rfl | rfl | rfl
  all_goals
    go_enter Try.func50, Try.ntmps50
    go_wp2
    go_ret
    exact ⟨rfl, rfl⟩

theorem find_lt {s : RC} (ok : RcOk s) {x : Int} {j : Nat} (h : s.find x = some j) : s.lo x + j < s.n := by
  have := (findN_some.1 h).1
  have := ok.lo x
  omega
theorem roomW_lt {s : RC} (ok : RcOk s) (x : Int) : s.roomW x < s.n := by
  have hlo := ok.lo x
  unfold RC.roomW
  split
  · rename_i j hj
    have := (findN_some.1 hj).1
    omega
  · have := victim_in ok (s.as x) (s.lo x)
    omega

theorem own_keep {S : Nat → Nat → Prop} {w w' : World} {base e size n : Nat} {v : Value} {xs : List Value} (h : w.ownsRow base e size v n xs) (u : Upd S w w') (hS : ∀ g o, base ≤ g → ¬ S g o) : w'.ownsRow base e size v n xs := by
  refine ⟨h.1, ?_⟩
  rcases h.2 with h2 | ⟨g, cap, cur, hv, hg, hh, r⟩
  · exact .inl h2
  · refine .inr ⟨g, cap, cur, hv, hg, ?_, r⟩
    rw [u.block (Array.getElem?_eq_some_iff.1 hh).1 (fun o => hS g o hg)]
    exact hh

theorem own_mono {w : World} {base base' e size n : Nat} {v : Value} {xs : List Value} (h : w.ownsRow base e size v n xs) (hb : base' ≤ base) : w.ownsRow base' e size v n xs := by
  refine ⟨h.1, ?_⟩
  rcases h.2 with h2 | ⟨g, cap, cur, hv, hg, r⟩
  · exact .inl h2
  · exact .inr ⟨g, cap, cur, hv, Nat.le_trans hb hg, r⟩

theorem RefAt.of_block {w w' : World} {b g cap : Nat} {s : RC} (h : RefAt w b g cap s) (hb : w'.heap[b]? = w.heap[b]?) (hg : w'.heap[g]? = w.heap[g]?) : RefAt w' b g cap s := by
  have kb : ∀ o, w'.cell? ⟨b, o, none⟩ = w.cell? ⟨b, o, none⟩ := fun o => World.cell?_of_block (w := w) (a := ⟨b, o, none⟩) hb
  have kg : ∀ o, w'.cell? ⟨g, o, none⟩ = w.cell? ⟨g, o, none⟩ := fun o => World.cell?_of_block (w := w) (a := ⟨g, o, none⟩) hg
  exact ⟨h.ne, by rw [kb]; exact h.c0, by rw [kb]; exact h.c1, by rw [kb]; exact h.c2, by rw [kb]; exact h.c3, by rw [kb]; exact h.c4, by rw [kb]; exact h.c5, by rw [kb]; exact h.c6,
    fun o => (World.frozen?_of_block (w := w) (a := ⟨b, o, none⟩) hb).trans (h.bf o), fun o => (World.frozen?_of_block (w := w) (a := ⟨g, o, none⟩) hg).trans (h.gf o), fun i hi => by rw [kg]; exact h.ln i hi, fun i hi => by rw [kg]; exact h.st i hi, fun i hi => by rw [kg]; exact h.rk i hi⟩

theorem RefAt.grown {w w'' : World} {o : Obj} {row : Option Nat} {b g cap : Nat} {s : RC} (h : RefAt w b g cap s) (hg : (w.alloc o).grownBy w'' row) (hb1 : b < w.heap.size) (hg1 : g < w.heap.size) (hr : ∀ r, row = some r → r ≠ b ∧ r ≠ g) : RefAt w'' b g cap s := by
  refine h.of_block ?_ ?_
  · rw [hg.block b (by simp; omega) (fun e => (hr b e.symm).1 rfl), Below.heap_alloc _ _ _ hb1]
  · rw [hg.block g (by simp; omega) (fun e => (hr g e.symm).2 rfl), Below.heap_alloc _ _ _ hg1]

theorem one3 (a : Bool) (b c : Int) : ∀ u ∈ [Value.bool a, .int .i64 b, .int .i64 c], u.oneCell' = true := by
  intro u hu
  simp at hu
  rcases hu with rfl | rfl | rfl <;> rfl

end Go.Proofs.Ytobniidkkmlilab

/- The walks over the reference's machine: taken. -/
namespace Go.Proofs.Ytobniidkkmlilab
open Go.RowKit Go.Coh

theorem RcOk.clear {s : RC} (h : RcOk s) (k : Nat) : RcOk (RC.clear s k) :=
  ⟨h.sz, h.wz, h.clock, h.fills, h.psel, h.rr, fun i => by show -1 ≤ upd s.L k (-1) i; unfold upd; split; omega; exact h.ll i⟩
theorem RcOk.miss {s : RC} (h : RcOk s) (x : Int) : RcOk (missS s x) :=
  ⟨h.sz, h.wz, h.clock, h.fills, by
    have := h.psel
    show 0 ≤ pselN s.P (x % s.S).toNat s.psel ∧ pselN s.P (x % s.S).toNat s.psel ≤ 15
    unfold pselN
    repeat' split
    all_goals omega, h.rr, h.ll⟩

/-- the room that is made for a line in a first cache -/
def RM.roomed (m : RM) (c l : Nat) : RM := { m with firsts := updC m.firsts c ((m.firsts c).roomS l) }
def RM.cleared (m : RM) (c l : Nat) : RM := if 0 ≤ (m.firsts c).roomOut l then (m.roomed c l).loseAt c ((m.firsts c).roomOut l).toNat else m.roomed c l
def RM.putF (m : RM) (c k l : Nat) : RM := { m with firsts := updC m.firsts c ((m.firsts c).put k l) }
def RM.takenS (m : RM) (c l : Nat) (h : Int) : RM :=
  let m2 := (m.cleared c l).putF c ((m.firsts c).roomW l) l
  { m2 with has := updH m2.has c l h }

/-- the last part of taken -/
theorem refTaken_end (y : Lay) (m : RM) (c l k : Nat) (h : Int) (w w' w'' : World) (n : Nat) (hn : m.cores = n) (hc : c < n) (hc4 : n ≤ 4) (hl : l < 64) (H : RmAt w y m) (hr : RefAt w' (y.blk (4 + 2 * c)) (y.blk (5 + 2 * c)) (y.cc c) ((m.firsts c).put k l))
    (hu : Upd (refS (y.blk (4 + 2 * c)) (y.blk (5 + 2 * c))) w w') (e : w'' = w'.setCell ⟨y.blk 0, 9 + c * 64 + l, none⟩ (.int .i64 h)) :
    RmAt w'' y { m.putF c k l with has := updH (m.putF c k l).has c l h } ∧ Upd (rmS y n) w w'' := by
  subst hn
  subst e
  have h1 := H.setFirst hc hr hu
  exact ⟨h1.setHas c l (by omega) hl h, (hu.mono (fun a b h => rmS_ref (by omega) (by omega) a b h)).setCell (fun _ => rmS_0 _) _⟩

set_option maxRecDepth 100000 in
set_option maxHeartbeats 1000000 in
theorem refTaken_any (y : Lay) (m : RM) (c l : Nat) (h : Int) (w : World) (hc : c < m.cores) (hc4 : m.cores ≤ 4) (hl : l < 64) (ok : RcOk (m.firsts c)) (hcl : (m.firsts c).clock ≤ 4611686018427387904) (hfl : (m.firsts c).fills ≤ 4611686018427387904)
    (ho : (m.firsts c).roomOut l < 64) (hv : 0 ≤ (m.firsts c).roomOut l → ∃ j, ((m.firsts c).roomS l).find ((m.firsts c).roomOut l) = some j) (H : RmAt w y m) :
    Calls Try.prog 70 #[.pointer (some ⟨y.blk 0, 0, none⟩), .int .i64 c, .int .i64 l, .int .i64 h] w fun e w' => e = .returned (.tuple #[]) ∧ RmAt w' y (m.takenS c l h) ∧ Upd (rmS y m.cores) w w' := by
  have h1 := H.fs
  have h2 := H.row c hc
  have HH : Hid (RmAt w y m) := H
  have HF : Hid (RefAt w (y.blk (4 + 2 * c)) (y.blk (5 + 2 * c)) (y.cc c) (m.firsts c)) := H.first c hc
  have HOK : Hid (RcOk (m.firsts c)) := ok
  have HV : Hid (0 ≤ (m.firsts c).roomOut l → ∃ j, ((m.firsts c).roomS l).find ((m.firsts c).roomOut l) = some j) := hv
  have HK : Hid ((m.firsts c).roomW l < (m.firsts c).n) := roomW_lt ok l
  have er : (m.roomed c l).firsts c = (m.firsts c).roomS l := by show updC m.firsts c _ c = _; unfold updC; rw [if_pos rfl]
  have HER : Hid ((m.roomed c l).firsts c = (m.firsts c).roomS l) := er
  have HT : Hid (m.takenS c l h = { (m.cleared c l).putF c ((m.firsts c).roomW l) l with has := updH ((m.cleared c l).putF c ((m.firsts c).roomW l) l).has c l h }) := rfl
  have HCD : Hid (m.cleared c l = if 0 ≤ (m.firsts c).roomOut l then (m.roomed c l).loseAt c ((m.firsts c).roomOut l).toNat else m.roomed c l) := rfl
  have HCF : Hid (((m.firsts c).roomS l).clock = (m.firsts c).clock ∧ ((m.firsts c).roomS l).fills = (m.firsts c).fills ∧ ((m.firsts c).roomS l).n = (m.firsts c).n ∧ ((m.firsts c).roomS l).S = (m.firsts c).S ∧ ((m.firsts c).roomS l).W = (m.firsts c).W) := roomS_cf _ _
  clear H ok hv er
  go_enter Try.func70, Try.ntmps70
  go_wp2_with fail
  refine (refRoom_any _ _ _ l (m.firsts c) _ HOK.out (by omega) (by omega) HF.out).mono ?_
  rintro e w1 ⟨rfl, hr, hu⟩
  have HM : Hid (RmAt w1 y (m.roomed c l)) := HH.out.setFirst hc hr hu
  have HU : Hid (Upd (rmS y m.cores) w w1) := hu.mono (fun a b h => rmS_ref (by omega) (by omega) a b h)
  clear hr hu h1 h2
  by_cases e0 : 0 ≤ (m.firsts c).roomOut l
  · obtain ⟨j, hj⟩ := HV.out e0
    obtain ⟨o, eo⟩ : ∃ o : Nat, (m.firsts c).roomOut l = o := ⟨((m.firsts c).roomOut l).toNat, by omega⟩
    rw [eo] at hj ho e0 ⊢
    have HC2 : Hid (m.cleared c l = (m.roomed c l).losesS c o (((m.firsts c).roomS l).lo o + j)) := by
      show _ = _
      rw [HCD.out, eo, if_pos e0, Int.toNat_natCast]
      unfold RM.loseAt
      rw [HER.out, hj]
    have hj' : ((m.roomed c l).firsts c).find o = some j := by rw [HER.out]; exact hj
    have HOK2 : Hid (RcOk ((m.roomed c l).firsts c)) := by show RcOk _; rw [HER.out]; exact HOK.out.roomS l
    have HJ : Hid (((m.roomed c l).firsts c).find o = some j) := hj'
    have HKK : Hid (((m.firsts c).roomS l).lo o + j = ((m.roomed c l).firsts c).lo o + j) := by show _ = _; rw [HER.out]
    clear hj hj' HV eo
    go_wp2_with fail
    refine (refLoses_any y (m.roomed c l) c o j w1 hc hc4 (by omega) HOK2.out HJ.out _ HKK.out HM.out).mono ?_
    rintro e w2 ⟨rfl, hs2, hu2⟩
    rw [← HC2.out] at hs2
    have HM2 : Hid (RmAt w2 y (m.cleared c l)) := hs2
    have HU2 : Hid (Upd (rmS y m.cores) w w2) := HU.out.trans hu2
    have hn2 : (m.cleared c l).cores = m.cores := by rw [HC2.out]; exact (RM.losesS_keep (m.roomed c l) c o _).1
    have HN2 : Hid ((m.cleared c l).cores = m.cores) := hn2
    have efc : (m.cleared c l).firsts c = RC.clear ((m.firsts c).roomS l) (((m.firsts c).roomS l).lo o + j) := by
      rw [HC2.out, ← HER.out]
      show updC (m.roomed c l).firsts c _ c = _
      unfold updC; rw [if_pos rfl]
    have HEF : Hid ((m.cleared c l).firsts c = RC.clear ((m.firsts c).roomS l) (((m.firsts c).roomS l).lo o + j)) := efc
    have g1 := hs2.fs
    rw [hn2] at g1
    have g2 := hs2.row c (by omega)
    have hF2 : RefAt w2 (y.blk (4 + 2 * c)) (y.blk (5 + 2 * c)) (y.cc c) ((m.cleared c l).firsts c) := hs2.first c (by omega)
    have HF2 : Hid (RefAt w2 (y.blk (4 + 2 * c)) (y.blk (5 + 2 * c)) (y.cc c) ((m.cleared c l).firsts c)) := hF2
    clear hs2 hu2 efc hF2
    go_wp2_with fail
    refine (refPut_any _ _ _ _ l ((m.cleared c l).firsts c) w2 (by rw [HEF.out]; exact (HOK.out.roomS l).clear _) (by rw [HEF.out]; show _ < ((m.firsts c).roomS l).n; rw [HCF.out.2.2.1]; exact HK.out) (by rw [HEF.out]; show ((m.firsts c).roomS l).clock ≤ _; rw [HCF.out.1]; exact hcl) (by rw [HEF.out]; show ((m.firsts c).roomS l).fills ≤ _; rw [HCF.out.2.1]; exact hfl) (by omega) (by omega) HF2.out).mono ?_
    rintro e w3 ⟨rfl, hr3, hu3⟩
    have hs3 := HM2.out.setFirst (by rw [HN2.out]; exact hc) hr3 hu3
    have g3 := hs3.has c l (by omega) hl
    have g3f := hs3.bf (9 + c * 64 + l)
    have HR3 : Hid _ := hr3
    have HU3 : Hid _ := hu3
    clear hs3 hr3 hu3
    go_wp2
    go_end0
    have R := refTaken_end y (m.cleared c l) c l _ h w2 w3 _ m.cores HN2.out hc hc4 hl HM2.out HR3.out HU3.out rfl
    exact ⟨rfl, by rw [HT.out]; exact R.1, HU2.out.trans R.2⟩
  · have HC2 : Hid (m.cleared c l = m.roomed c l) := by show _ = _; rw [HCD.out, if_neg e0]
    have g1 := HM.out.fs
    have g2 := HM.out.row c hc
    have HF2 : Hid (RefAt w1 (y.blk (4 + 2 * c)) (y.blk (5 + 2 * c)) (y.cc c) ((m.roomed c l).firsts c)) := HM.out.first c hc
    clear HV
    generalize (m.firsts c).roomOut l = oo at *
    go_wp2_with fail
    refine (refPut_any _ _ _ _ l ((m.roomed c l).firsts c) w1 (by rw [HER.out]; exact (HOK.out.roomS l)) (by rw [HER.out, HCF.out.2.2.1]; exact HK.out) (by rw [HER.out, HCF.out.1]; exact hcl) (by rw [HER.out, HCF.out.2.1]; exact hfl) (by omega) (by omega) HF2.out).mono ?_
    rintro e w3 ⟨rfl, hr3, hu3⟩
    have hs3 := HM.out.setFirst hc hr3 hu3
    have g3 := hs3.has c l (by omega) hl
    have g3f := hs3.bf (9 + c * 64 + l)
    have HR3 : Hid _ := hr3
    have HU3 : Hid _ := hu3
    clear hs3 hr3 hu3
    go_wp2
    go_end0
    have R := refTaken_end y (m.roomed c l) c l _ h w1 w3 _ m.cores rfl hc hc4 hl HM.out HR3.out HU3.out rfl
    exact ⟨rfl, by rw [HT.out, HC2.out]; exact R.1, HU.out.trans R.2⟩

end Go.Proofs.Ytobniidkkmlilab
