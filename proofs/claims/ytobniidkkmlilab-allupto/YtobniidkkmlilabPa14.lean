import Derived.Test.YtobniidkkmlilabPa13
import Derived.Test.YtobniidkkmlilabPa09

/- One set by itself: the reference's touches are the program's. Plain functions alone. -/
namespace Go.Coh

structure OneRel (p n : Nat) (s : St) (r : RC) : Prop where
  S : r.S = 1
  W : r.W = n
  P : r.P = p
  set : SetRel 0 n s.L s.A s.R r.L r.T r.R r.clock
  c : s.c = r.fills % 8
  f : 0 ≤ r.fills
  k : 0 ≤ r.clock
  q : r.psel = 7

variable {p n : Nat} {s : St} {r : RC} {x : Int}

theorem OneRel.lo (h : OneRel p n s r) (x : Int) : r.lo x = 0 := by unfold RC.lo; rw [h.S]; simp
theorem OneRel.as (h : OneRel p n s r) (hp : p ≤ 3) (x : Int) : r.as x = p := by unfold RC.as asP; rw [h.P, if_pos (by omega)]
theorem OneRel.find (h : OneRel p n s r) (x : Int) : r.find x = findN s.L x n := by
  unfold RC.find
  rw [h.lo, h.W]
  exact h.set.find x
theorem OneRel.hole (h : OneRel p n s r) (x : Int) : r.hole x = findN s.L (-1) n := by
  unfold RC.hole
  rw [h.lo, h.W]
  exact h.set.find (-1)

theorem upd0 (f g : Nat → Int) (n k : Nat) (v : Int) (h : ∀ j, j < n → f (0 + j) = g j) : ∀ j, j < n → upd f (0 + k) v (0 + j) = upd g k v j := fun j hj => by
  unfold upd
  by_cases e : j = k
  · rw [if_pos (by omega), if_pos e]
  · rw [if_neg (by omega), if_neg e]; exact h j hj

theorem OneRel.hit (h : OneRel p n s r) {k : Nat} (hk : k < n) : OneRel p n ⟨s.L, touchA n k s.A, upd s.R k 0, s.c⟩ (r.found (0 + k)) :=
  ⟨h.S, h.W, h.P, h.set.touch hk h.k h.set.l (upd0 _ _ _ _ _ h.set.r) (fun _ _ _ e => e), h.c, h.f, by show 0 ≤ r.clock + 1; have := h.k; omega, h.q⟩

theorem next_rel (p : Nat) (c f : Int) (hc : c = f % 8) :
    nextRank p c = (if p = 3 then (if (f + 1) % 8 ≠ 0 then 3 else 2) else 2) ∧ nextCount p c = (if p = 3 then (f + 1) % 8 else c) := by
  by_cases p3 : p = 3
  · subst p3
    by_cases h : c + 1 < 8
    · have e : (f + 1) % 8 ≠ 0 := by omega
      have e2 : c + 1 = (f + 1) % 8 := by omega
      simp [nextRank, nextCount, e, e2]
      omega
    · have e : (f + 1) % 8 = 0 := by omega
      simp [nextRank, nextCount, h, e]
  · simp [nextRank, nextCount, p3]

/-- a line is put into way k -/
theorem OneRel.put (h : OneRel p n s r) (hp : p ≤ 3) {k : Nat} (hk : k < n) (x : Int) :
    OneRel p n ⟨upd s.L k x, touchA n k s.A, upd s.R k (nextRank p s.c), nextCount p s.c⟩ (r.put (0 + k) x) := by
  obtain ⟨e1, e2⟩ := next_rel p s.c r.fills h.c
  have has := h.as hp x
  have hst : ∀ v, SetRel 0 n (upd s.L k x) (touchA n k s.A) (upd s.R k v) (upd r.L (0 + k) x) (upd r.T (0 + k) (r.clock + 1)) (upd r.R (0 + k) v) (r.clock + 1) := fun v =>
    h.set.touch hk h.k (upd0 _ _ _ _ _ h.set.l) (upd0 _ _ _ _ _ h.set.r) (fun j _ hj hne => by unfold upd at hne; rw [if_neg hj] at hne; exact hne)
  have hf := h.f
  have hck := h.k
  unfold RC.put
  rw [has]
  by_cases p3 : p = 3
  · rw [if_pos p3]
    rw [if_pos p3] at e1 e2
    refine ⟨h.S, h.W, h.P, ?_, ?_, by show 0 ≤ r.fills + 1; omega, by show 0 ≤ r.clock + 1; omega, h.q⟩
    · rw [e1]; exact hst _
    · rw [e2]
  · rw [if_neg p3]
    rw [if_neg p3] at e1 e2
    refine ⟨h.S, h.W, h.P, ?_, ?_, h.f, by show 0 ≤ r.clock + 1; omega, h.q⟩
    · rw [e1]; exact hst _
    · rw [e2]; exact h.c

theorem OneRel.lift (h : OneRel p n s r) : OneRel p n ⟨s.L, s.A, victimR p n s.R, s.c⟩ (r.lifted p 0) := by
  unfold RC.lifted victimR
  by_cases hp : p = 0 ∨ p = 1
  · rw [if_pos hp, if_pos hp]; exact h
  · rw [if_neg hp, if_neg hp]
    have hr : r.ranked 0 = 0 + oldestW n s.R := by unfold RC.ranked; rw [h.W]; exact h.set.ranked
    refine ⟨h.S, h.W, h.P, ⟨h.set.l, fun j hj => ?_, h.set.perm, h.set.ord, h.set.dist, h.set.tb, h.set.pos⟩, h.c, h.f, h.k, h.q⟩
    show liftFrom 0 (0 + r.W) (3 - r.R (r.ranked 0)) r.R (0 + j) = liftR n (3 - s.R (oldestW n s.R)) s.R j
    have ho : oldestW n s.R < n := argm_lt _ _ _ _ (by omega) (by omega)
    rw [hr, h.set.r _ ho, h.W]
    unfold liftFrom liftR
    rw [if_pos (by omega), if_pos hj, h.set.r j hj]

theorem OneRel.step (h : OneRel p n s r) (hp : p ≤ 3) (hn : Size n) : r.tchT x = tchT p n x s ∧ OneRel p n (tchS p n x s) (r.tchS x) := by
  have hF := h.find x
  have hH := h.hole x
  have hlo := h.lo x
  have has := h.as hp x
  unfold RC.tchT RC.tchS tchT tchS
  rw [hF]
  cases hf : findN s.L x n with
  | some k =>
    rw [hlo]
    refine ⟨?_, h.hit (findN_some.1 hf).1⟩
    show (⟨true, 0 + k, -1⟩ : Tch) = ⟨true, k, -1⟩
    rw [Nat.zero_add]
  | none =>
    show (⟨false, r.roomW x, r.roomOut x⟩ : Tch) = ⟨false, putW p n s.L s.A s.R, s.L (putW p n s.L s.A s.R)⟩ ∧ OneRel p n ⟨upd s.L (putW p n s.L s.A s.R) x, touchA n (putW p n s.L s.A s.R) s.A, upd (putR p n s.L s.R) (putW p n s.L s.A s.R) (nextRank p s.c), nextCount p s.c⟩ ((r.roomS x).put (r.roomW x) x)
    cases he : findN s.L (-1) n with
    | some e =>
      obtain ⟨h1, h2, _⟩ := findN_some.1 he
      have ew : r.roomW x = 0 + e := by unfold RC.roomW; rw [hH, he, hlo]
      have eo : r.roomOut x = -1 := by unfold RC.roomOut; rw [hH, he]
      have es : r.roomS x = r := by unfold RC.roomS; rw [hH, he]
      have pw : putW p n s.L s.A s.R = e := by unfold putW; rw [he]
      have pr : putR p n s.L s.R = s.R := by unfold putR; rw [he]
      rw [ew, eo, es, pw, pr, h2]
      exact ⟨by rw [Nat.zero_add], h.put hp h1 x⟩
    | none =>
      have hfull := findN_none.1 he
      have ev : r.victim p 0 = 0 + victimW p n s.A s.R := by
        have := h.set.victim hn hfull p
        unfold RC.victim RC.ranked
        rw [h.W]
        exact this
      have ew : r.roomW x = 0 + victimW p n s.A s.R := by unfold RC.roomW; rw [hH, he, hlo, has]; exact ev
      have eo : r.roomOut x = r.L (r.roomW x) := by unfold RC.roomOut; rw [hH, he]
      have es : r.roomS x = r.lifted p 0 := by unfold RC.roomS; rw [hH, he, hlo, has]
      have pw : putW p n s.L s.A s.R = victimW p n s.A s.R := by unfold putW; rw [he]
      have pr : putR p n s.L s.R = victimR p n s.R := by unfold putR; rw [he]
      have hv := victimW_lt (p := p) s.A s.R hn
      rw [eo, ew, es, pw, pr, h.set.l _ hv]
      exact ⟨by rw [Nat.zero_add], (h.lift).put hp hv x⟩

theorem OneRel.new (p n : Nat) : OneRel p n (newS n) ⟨1, n, p, fun _ => -1, fun _ => 0, fun _ => 0, 0, 0, 7⟩ :=
  ⟨rfl, rfl, rfl, SetRel.new 0 n, rfl, by show (0 : Int) ≤ 0; omega, by show (0 : Int) ≤ 0; omega, rfl⟩

/-- the reference's state behind the first k lines -/
def rcRun (p n : Nat) (xs : Nat → Int) : Nat → RC
  | 0 => ⟨1, n, p, fun _ => -1, fun _ => 0, fun _ => 0, 0, 0, 7⟩
  | k + 1 => (rcRun p n xs k).tchS (xs k)

theorem OneRel.run (hp : p ≤ 3) (hn : Size n) (xs : Nat → Int) : ∀ k, OneRel p n (tchRun p n xs k) (rcRun p n xs k)
  | 0 => OneRel.new p n
  | k + 1 => ((OneRel.run hp hn xs k).step hp hn).2

theorem rcT_eq (hp : p ≤ 3) (hn : Size n) (xs : Nat → Int) (k : Nat) : (rcRun p n xs k).tchT (xs k) = tchRunT p n xs k :=
  ((OneRel.run hp hn xs k).step hp hn).1

end Go.Coh

/- The walks over package coherentref: Touches, where nothing is wrong. -/
namespace Go.Proofs.Ytobniidkkmlilab
open Go.RowKit Go.Coh

theorem RcOk.found {s : RC} (h : RcOk s) (i : Nat) : RcOk (s.found i) :=
  ⟨h.sz, h.wz, by show 0 ≤ s.clock + 1; have := h.clock; omega, h.fills, h.psel, upd_bd h.rr (by omega), h.ll⟩

theorem RcOk.roomS {s : RC} (h : RcOk s) (x : Int) : RcOk (s.roomS x) := by
  unfold RC.roomS
  split
  · exact h
  · unfold RC.lifted
    split
    · exact h
    · refine ⟨h.sz, h.wz, h.clock, h.fills, h.psel, fun i => ?_, h.ll⟩
      show 0 ≤ liftFrom _ _ _ s.R i ∧ liftFrom _ _ _ s.R i ≤ 3
      unfold liftFrom
      have h1 := h.rr i
      have h2 := h.rr (s.ranked (s.lo x))
      by_cases e : s.lo x ≤ i ∧ i < s.lo x + s.W
      · rw [if_pos e]
        have h3 : s.R i ≤ s.R (s.ranked (s.lo x)) := argm_max s.R (s.lo x) s.W i e.1 e.2
        omega
      · rw [if_neg e]; exact h1

theorem RcOk.put {s : RC} (h : RcOk s) (k : Nat) {x : Int} (hx : 0 ≤ x) : RcOk (s.put k x) := by
  have hl : ∀ i, -1 ≤ upd s.L k x i := fun i => by
    unfold upd; split
    · omega
    · exact h.ll i
  have hc := h.clock
  have hf := h.fills
  unfold RC.put
  split
  · exact ⟨h.sz, h.wz, by show 0 ≤ s.clock + 1; omega, by show 0 ≤ s.fills + 1; omega, h.psel, upd_bd h.rr (by split <;> omega), hl⟩
  · exact ⟨h.sz, h.wz, by show 0 ≤ s.clock + 1; omega, h.fills, h.psel, upd_bd h.rr (by omega), hl⟩

theorem RcOk.step {s : RC} (h : RcOk s) {x : Int} (hx : 0 ≤ x) : RcOk (s.tchS x) := by
  unfold RC.tchS
  split
  · exact h.found _
  · exact (h.roomS x).put _ hx

theorem put_cf (s : RC) (k : Nat) (x : Int) : (s.put k x).clock = s.clock + 1 ∧ (s.put k x).fills ≤ s.fills + 1 := by
  unfold RC.put
  split
  · exact ⟨rfl, Int.le_refl _⟩
  · exact ⟨rfl, by show s.fills ≤ s.fills + 1; omega⟩
theorem roomS_cf (s : RC) (x : Int) : (s.roomS x).clock = s.clock ∧ (s.roomS x).fills = s.fills ∧ (s.roomS x).n = s.n ∧ (s.roomS x).S = s.S ∧ (s.roomS x).W = s.W := by
  unfold RC.roomS
  split
  · exact ⟨rfl, rfl, rfl, rfl, rfl⟩
  · unfold RC.lifted
    split
    · exact ⟨rfl, rfl, rfl, rfl, rfl⟩
    · exact ⟨rfl, rfl, rfl, rfl, rfl⟩
theorem step_cf (s : RC) (x : Int) : (s.tchS x).clock = s.clock + 1 ∧ (s.tchS x).fills ≤ s.fills + 1 := by
  unfold RC.tchS
  split
  · exact ⟨rfl, by show s.fills ≤ s.fills + 1; omega⟩
  · have h1 := put_cf (s.roomS x) (s.roomW x) x
    have h2 := roomS_cf s x
    omega

theorem rcRun_ok {p n : Nat} {xs : Nat → Int} (hn : Size n) (hx : ∀ i, 0 ≤ xs i) : ∀ k, RcOk (rcRun p n xs k) ∧ (rcRun p n xs k).clock = k ∧ (rcRun p n xs k).fills ≤ k
  | 0 => ⟨⟨.inl rfl, hn, by show (0 : Int) ≤ 0; omega, by show (0 : Int) ≤ 0; omega, by show (0 : Int) ≤ 7 ∧ (7 : Int) ≤ 15; omega, fun _ => by show (0 : Int) ≤ 0 ∧ (0 : Int) ≤ 3; omega, fun _ => by show (-1 : Int) ≤ -1; omega⟩, rfl, by show (0 : Int) ≤ 0; omega⟩
  | k + 1 => by
    obtain ⟨h1, h2, h3⟩ := rcRun_ok hn hx k
    have h4 := step_cf (rcRun p n xs k) (xs k)
    refine ⟨h1.step (hx k), ?_, ?_⟩
    · show ((rcRun p n xs k).tchS (xs k)).clock = _
      rw [h4.1, h2]; omega
    · show ((rcRun p n xs k).tchS (xs k)).fills ≤ _
      omega

/-- the cells of the first k touches -/
def tcs (T : Nat → Tch) : Nat → List Value
  | 0 => []
  | k + 1 => tcs T k ++ [.bool (T k).hit, .int .i64 (T k).way, .int .i64 (T k).out]

theorem tcs_len (T : Nat → Tch) : ∀ k, (tcs T k).length = k * 3
  | 0 => rfl
  | k + 1 => by simp [tcs, tcs_len T k]; omega

set_option maxHeartbeats 1000000 in
theorem refPower_yes (n : Nat) (w : World) (hn : Size n) : Calls Try.prog 50 #[.int .i64 n] w fun e w' => e = .returned (.bool true) ∧ w' = w := by
  rcases hn with rfl | rfl | rfl | rfl
  all_goals
    go_enter Try.func50, Try.ntmps50
    go_wp2
    go_ret
    exact ⟨rfl, rfl⟩

theorem find_lt {s : RC} (ok : RcOk s) {x : Int} {j : Nat} (h : s.find x = some j) : s.lo x + j < s.n := by
  have := (findN_some.1 h).1
  have := ok.lo x
  omega
theorem roomW_lt {s : RC} (ok : RcOk s) (x : Int) : s.roomW x < s.n := by
  have hlo := ok.lo x
  unfold RC.roomW
  split
  · rename_i j hj
    have := (findN_some.1 hj).1
    omega
  · have := victim_in ok (s.as x) (s.lo x)
    omega

theorem own_keep {S : Nat → Nat → Prop} {w w' : World} {base e size n : Nat} {v : Value} {xs : List Value} (h : w.ownsRow base e size v n xs) (u : Upd S w w') (hS : ∀ g o, base ≤ g → ¬ S g o) : w'.ownsRow base e size v n xs := by
  refine ⟨h.1, ?_⟩
  rcases h.2 with h2 | ⟨g, cap, cur, hv, hg, hh, r⟩
  · exact .inl h2
  · refine .inr ⟨g, cap, cur, hv, hg, ?_, r⟩
    rw [u.block (Array.getElem?_eq_some_iff.1 hh).1 (fun o => hS g o hg)]
    exact hh

theorem own_mono {w : World} {base base' e size n : Nat} {v : Value} {xs : List Value} (h : w.ownsRow base e size v n xs) (hb : base' ≤ base) : w.ownsRow base' e size v n xs := by
  refine ⟨h.1, ?_⟩
  rcases h.2 with h2 | ⟨g, cap, cur, hv, hg, r⟩
  · exact .inl h2
  · exact .inr ⟨g, cap, cur, hv, Nat.le_trans hb hg, r⟩

theorem RefAt.of_block {w w' : World} {b g cap : Nat} {s : RC} (h : RefAt w b g cap s) (hb : w'.heap[b]? = w.heap[b]?) (hg : w'.heap[g]? = w.heap[g]?) : RefAt w' b g cap s := by
  have kb : ∀ o, w'.cell? ⟨b, o, none⟩ = w.cell? ⟨b, o, none⟩ := fun o => World.cell?_of_block (w := w) (a := ⟨b, o, none⟩) hb
  have kg : ∀ o, w'.cell? ⟨g, o, none⟩ = w.cell? ⟨g, o, none⟩ := fun o => World.cell?_of_block (w := w) (a := ⟨g, o, none⟩) hg
  exact ⟨h.ne, by rw [kb]; exact h.c0, by rw [kb]; exact h.c1, by rw [kb]; exact h.c2, by rw [kb]; exact h.c3, by rw [kb]; exact h.c4, by rw [kb]; exact h.c5, by rw [kb]; exact h.c6,
    fun o => (World.frozen?_of_block (w := w) (a := ⟨b, o, none⟩) hb).trans (h.bf o), fun o => (World.frozen?_of_block (w := w) (a := ⟨g, o, none⟩) hg).trans (h.gf o), fun i hi => by rw [kg]; exact h.ln i hi, fun i hi => by rw [kg]; exact h.st i hi, fun i hi => by rw [kg]; exact h.rk i hi⟩

theorem RefAt.grown {w w'' : World} {o : Obj} {row : Option Nat} {b g cap : Nat} {s : RC} (h : RefAt w b g cap s) (hg : (w.alloc o).grownBy w'' row) (hb1 : b < w.heap.size) (hg1 : g < w.heap.size) (hr : ∀ r, row = some r → r ≠ b ∧ r ≠ g) : RefAt w'' b g cap s := by
  refine h.of_block ?_ ?_
  · rw [hg.block b (by simp; omega) (fun e => (hr b e.symm).1 rfl), Below.heap_alloc _ _ _ hb1]
  · rw [hg.block g (by simp; omega) (fun e => (hr g e.symm).2 rfl), Below.heap_alloc _ _ _ hg1]

theorem one3 (a : Bool) (b c : Int) : ∀ u ∈ [Value.bool a, .int .i64 b, .int .i64 c], u.oneCell' = true := by
  intro u hu
  simp at hu
  rcases hu with rfl | rfl | rfl <;> rfl

end Go.Proofs.Ytobniidkkmlilab
