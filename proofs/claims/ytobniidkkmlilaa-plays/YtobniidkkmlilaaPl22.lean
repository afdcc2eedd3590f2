import Derived.Test.YtobniidkkmlilaaPl16

/- One cache of several sets: the reference's data against the program's. Plain functions alone. -/
namespace Go.Coh

structure LoRel (lo n : Nat) (s : St) (r : RC) : Prop where
  W : r.W = n
  set : SetRel lo n s.L s.A s.R r.L r.T r.R r.clock
  c : s.c = r.fills % 8
  f : 0 ≤ r.fills
  k : 0 ≤ r.clock

/-- outside of these ways nothing has turned -/
structure Within (lo n : Nat) (r r' : RC) : Prop where
  S : r'.S = r.S
  W : r'.W = r.W
  P : r'.P = r.P
  q : r'.psel = r.psel
  L : ∀ i, ¬ (lo ≤ i ∧ i < lo + n) → r'.L i = r.L i
  T : ∀ i, ¬ (lo ≤ i ∧ i < lo + n) → r'.T i = r.T i
  R : ∀ i, ¬ (lo ≤ i ∧ i < lo + n) → r'.R i = r.R i
  k : r.clock ≤ r'.clock
  k1 : r'.clock ≤ r.clock + 1
  f : r.fills ≤ r'.fills
  f1 : r'.fills ≤ r.fills + 1

section
variable {lo p n : Nat} {s : St} {r r' r'' : RC} {x : Int}

theorem Within.refl (lo n : Nat) (r : RC) : Within lo n r r := ⟨rfl, rfl, rfl, rfl, fun _ _ => rfl, fun _ _ => rfl, fun _ _ => rfl, Int.le_refl _, by omega, Int.le_refl _, by omega⟩

theorem LoRel.find (h : LoRel lo n s r) (hlo : r.lo x = lo) : r.find x = findN s.L x n := by
  unfold RC.find
  rw [hlo, h.W]
  exact h.set.find x
theorem LoRel.hole (h : LoRel lo n s r) (hlo : r.lo x = lo) : r.hole x = findN s.L (-1) n := by
  unfold RC.hole
  rw [hlo, h.W]
  exact h.set.find (-1)

theorem updLo (f g : Nat → Int) (lo n k : Nat) (v : Int) (h : ∀ j, j < n → f (lo + j) = g j) : ∀ j, j < n → upd f (lo + k) v (lo + j) = upd g k v j := fun j hj => by
  unfold upd
  by_cases e : j = k
  · rw [if_pos (by omega), if_pos e]
  · rw [if_neg (by omega), if_neg e]; exact h j hj

theorem upd_out (f : Nat → Int) (lo n k i : Nat) (v : Int) (hk : k < n) (hi : ¬ (lo ≤ i ∧ i < lo + n)) : upd f (lo + k) v i = f i := by
  unfold upd; rw [if_neg (by omega)]

theorem LoRel.hit (h : LoRel lo n s r) {k : Nat} (hk : k < n) : LoRel lo n ⟨s.L, touchA n k s.A, upd s.R k 0, s.c⟩ (r.found (lo + k)) ∧ Within lo n r (r.found (lo + k)) :=
  ⟨⟨h.W, h.set.touch hk h.k h.set.l (updLo _ _ _ _ _ _ h.set.r) (fun _ _ _ e => e), h.c, h.f, by show 0 ≤ r.clock + 1; have := h.k; omega⟩,
   ⟨rfl, rfl, rfl, rfl, fun _ _ => rfl, fun i hi => upd_out _ _ _ _ _ _ hk hi, fun i hi => upd_out _ _ _ _ _ _ hk hi, by show r.clock ≤ r.clock + 1; omega, by show r.clock + 1 ≤ r.clock + 1; omega, by show r.fills ≤ r.fills; omega, by show r.fills ≤ r.fills + 1; omega⟩⟩

/-- a line is put into way k -/
theorem LoRel.put (h : LoRel lo n s r) (hp : r.as x = p) {k : Nat} (hk : k < n) :
    LoRel lo n ⟨upd s.L k x, touchA n k s.A, upd s.R k (nextRank p s.c), nextCount p s.c⟩ (r.put (lo + k) x) ∧ Within lo n r (r.put (lo + k) x) := by
  obtain ⟨e1, e2⟩ := next_rel p s.c r.fills h.c
  have hst : ∀ v, SetRel lo n (upd s.L k x) (touchA n k s.A) (upd s.R k v) (upd r.L (lo + k) x) (upd r.T (lo + k) (r.clock + 1)) (upd r.R (lo + k) v) (r.clock + 1) := fun v =>
    h.set.touch hk h.k (updLo _ _ _ _ _ _ h.set.l) (updLo _ _ _ _ _ _ h.set.r) (fun j _ hj hne => by unfold upd at hne; rw [if_neg hj] at hne; exact hne)
  have hf := h.f
  have hck := h.k
  unfold RC.put
  rw [hp]
  by_cases p3 : p = 3
  · rw [if_pos p3]
    rw [if_pos p3] at e1 e2
    refine ⟨⟨h.W, ?_, ?_, by show 0 ≤ r.fills + 1; omega, by show 0 ≤ r.clock + 1; omega⟩, ⟨rfl, rfl, rfl, rfl, fun i hi => upd_out _ _ _ _ _ _ hk hi, fun i hi => upd_out _ _ _ _ _ _ hk hi, fun i hi => upd_out _ _ _ _ _ _ hk hi, by show r.clock ≤ r.clock + 1; omega, by show r.clock + 1 ≤ r.clock + 1; omega, by show r.fills ≤ r.fills + 1; omega, by show r.fills + 1 ≤ r.fills + 1; omega⟩⟩
    · rw [e1]; exact hst _
    · rw [e2]
  · rw [if_neg p3]
    rw [if_neg p3] at e1 e2
    refine ⟨⟨h.W, ?_, ?_, h.f, by show 0 ≤ r.clock + 1; omega⟩, ⟨rfl, rfl, rfl, rfl, fun i hi => upd_out _ _ _ _ _ _ hk hi, fun i hi => upd_out _ _ _ _ _ _ hk hi, fun i hi => upd_out _ _ _ _ _ _ hk hi, by show r.clock ≤ r.clock + 1; omega, by show r.clock + 1 ≤ r.clock + 1; omega, by show r.fills ≤ r.fills; omega, by show r.fills ≤ r.fills + 1; omega⟩⟩
    · rw [e1]; exact hst _
    · rw [e2]; exact h.c

theorem LoRel.lift (h : LoRel lo n s r) (p : Nat) : LoRel lo n ⟨s.L, s.A, victimR p n s.R, s.c⟩ (r.lifted p lo) ∧ Within lo n r (r.lifted p lo) := by
  unfold RC.lifted victimR
  by_cases hp : p = 0 ∨ p = 1
  · rw [if_pos hp, if_pos hp]; exact ⟨h, Within.refl _ _ _⟩
  · rw [if_neg hp, if_neg hp]
    have hr : r.ranked lo = lo + oldestW n s.R := by unfold RC.ranked; rw [h.W]; exact h.set.ranked
    refine ⟨⟨h.W, ⟨h.set.l, fun j hj => ?_, h.set.perm, h.set.ord, h.set.dist, h.set.tb, h.set.pos⟩, h.c, h.f, h.k⟩, ⟨rfl, rfl, rfl, rfl, fun _ _ => rfl, fun _ _ => rfl, fun i hi => ?_, Int.le_refl _, by show r.clock ≤ r.clock + 1; omega, Int.le_refl _, by show r.fills ≤ r.fills + 1; omega⟩⟩
    · show liftFrom lo (lo + r.W) (3 - r.R (r.ranked lo)) r.R (lo + j) = liftR n (3 - s.R (oldestW n s.R)) s.R j
      have ho : oldestW n s.R < n := argm_lt _ _ _ _ (by omega) (by omega)
      rw [hr, h.set.r _ ho, h.W]
      unfold liftFrom liftR
      rw [if_pos (by omega), if_pos hj, h.set.r j hj]
    · show liftFrom lo (lo + r.W) (3 - r.R (r.ranked lo)) r.R i = r.R i
      unfold liftFrom
      rw [h.W, if_neg hi]

theorem RC.lifted_as (r : RC) (p lo : Nat) (x : Int) : (r.lifted p lo).as x = r.as x := by
  unfold RC.lifted
  split <;> rfl
theorem RC.lifted_clock (r : RC) (p lo : Nat) : (r.lifted p lo).clock = r.clock ∧ (r.lifted p lo).fills = r.fills := by
  unfold RC.lifted
  split <;> exact ⟨rfl, rfl⟩

theorem LoRel.step (h : LoRel lo n s r) (hlo : r.lo x = lo) (hp : r.as x = p) (hn : Size n) :
    (r.tchT x).hit = (tchT p n x s).hit ∧ (r.tchT x).out = (tchT p n x s).out ∧ LoRel lo n (tchS p n x s) (r.tchS x) ∧ Within lo n r (r.tchS x) := by
  have hF := h.find (x := x) hlo
  have hH := h.hole (x := x) hlo
  unfold RC.tchT RC.tchS tchT tchS
  rw [hF]
  cases hf : findN s.L x n with
  | some k =>
    rw [hlo]
    exact ⟨rfl, rfl, h.hit (findN_some.1 hf).1⟩
  | none =>
    show false = false ∧ r.roomOut x = s.L (putW p n s.L s.A s.R) ∧ LoRel lo n ⟨upd s.L (putW p n s.L s.A s.R) x, touchA n (putW p n s.L s.A s.R) s.A, upd (putR p n s.L s.R) (putW p n s.L s.A s.R) (nextRank p s.c), nextCount p s.c⟩ ((r.roomS x).put (r.roomW x) x) ∧ Within lo n r ((r.roomS x).put (r.roomW x) x)
    cases he : findN s.L (-1) n with
    | some e =>
      obtain ⟨h1, h2, _⟩ := findN_some.1 he
      have ew : r.roomW x = lo + e := by unfold RC.roomW; rw [hH, he, hlo]
      have eo : r.roomOut x = -1 := by unfold RC.roomOut; rw [hH, he]
      have es : r.roomS x = r := by unfold RC.roomS; rw [hH, he]
      have pw : putW p n s.L s.A s.R = e := by unfold putW; rw [he]
      have pr : putR p n s.L s.R = s.R := by unfold putR; rw [he]
      rw [ew, eo, es, pw, pr, h2]
      exact ⟨rfl, rfl, h.put hp h1⟩
    | none =>
      have hfull := findN_none.1 he
      have ev : r.victim p lo = lo + victimW p n s.A s.R := by
        have := h.set.victim hn hfull p
        unfold RC.victim RC.ranked
        rw [h.W]
        exact this
      have ew : r.roomW x = lo + victimW p n s.A s.R := by unfold RC.roomW; rw [hH, he, hlo, hp]; exact ev
      have eo : r.roomOut x = r.L (r.roomW x) := by unfold RC.roomOut; rw [hH, he]
      have es : r.roomS x = r.lifted p lo := by unfold RC.roomS; rw [hH, he, hlo, hp]
      have pw : putW p n s.L s.A s.R = victimW p n s.A s.R := by unfold putW; rw [he]
      have pr : putR p n s.L s.R = victimR p n s.R := by unfold putR; rw [he]
      have hv := victimW_lt (p := p) s.A s.R hn
      rw [eo, ew, es, pw, pr, h.set.l _ hv]
      obtain ⟨l1, w1⟩ := h.lift p
      obtain ⟨l2, w2⟩ := l1.put (x := x) (p := p) (by rw [RC.lifted_as]; exact hp) hv
      obtain ⟨c1, c2⟩ := RC.lifted_clock r p lo
      exact ⟨rfl, rfl, l2, ⟨w2.S.trans w1.S, w2.W.trans w1.W, w2.P.trans w1.P, w2.q.trans w1.q, fun i hi => (w2.L i hi).trans (w1.L i hi), fun i hi => (w2.T i hi).trans (w1.T i hi), fun i hi => (w2.R i hi).trans (w1.R i hi), by have := w2.k; rw [c1] at this; exact this, by have := w2.k1; rw [c1] at this; exact this, by have := w2.f; rw [c2] at this; exact this, by have := w2.f1; rw [c2] at this; exact this⟩⟩

/-- a set that isn't touched -/
theorem SetRel.other {lo n : Nat} {L A R rL rT rR rL' rT' rR' : Nat → Int} {c c' : Int} (h : SetRel lo n L A R rL rT rR c) (hl : ∀ j, j < n → rL' (lo + j) = rL (lo + j)) (ht : ∀ j, j < n → rT' (lo + j) = rT (lo + j)) (hr : ∀ j, j < n → rR' (lo + j) = rR (lo + j)) (hc : c ≤ c') :
    SetRel lo n L A R rL' rT' rR' c' :=
  ⟨fun j hj => (hl j hj).trans (h.l j hj), fun j hj => (hr j hj).trans (h.r j hj), h.perm, fun j j' hj hj' e => h.ord j j' hj hj' (by rw [ht j hj, ht j' hj'] at e; exact e), fun j j' hj hj' e => by rw [ht j hj, ht j' hj'] at e; rw [ht j hj]; exact h.dist j j' hj hj' e,
   fun j hj => by have := h.tb j hj; rw [ht j hj]; omega, fun j hj e => by rw [ht j hj]; exact h.pos j hj e⟩

/-- all sets of a cache: D i is what the program has of set i -/
structure CRel (D : Nat → St) (r : RC) : Prop where
  set : ∀ i, i < r.S → SetRel (i * r.W) r.W (D i).L (D i).A (D i).R r.L r.T r.R r.clock
  c : ∀ i, (D i).c = r.fills % 8
  bd : ∀ i, Bd (D i)
  f : 0 ≤ r.fills
  k : 0 ≤ r.clock
  sz : Size r.S
  wz : Size r.W

theorem Size.pos {n : Nat} (h : Size n) : 0 < n ∧ n ≤ 8 := by rcases h with h | h | h | h <;> omega

def RC.num (r : RC) (x : Int) : Nat := (x % r.S).toNat
theorem RC.num_lt (r : RC) (x : Int) (h : 0 < r.S) : r.num x < r.S := by
  unfold RC.num
  have h1 := Int.emod_nonneg x (show (r.S : Int) ≠ 0 by omega)
  have h2 := Int.emod_lt_of_pos x (show (0 : Int) < r.S by omega)
  omega

/-- what is behind a touch of a line in set i0 -/
def tchD (D : Nat → St) (i0 : Nat) (s' : St) : Nat → St := fun i => if i = i0 then s' else { D i with c := s'.c }

theorem apart_sets {i i0 W j : Nat} (hne : i ≠ i0) (hj : j < W) : ¬ (i0 * W ≤ i * W + j ∧ i * W + j < i0 * W + W) := by
  intro ⟨h1, h2⟩
  rcases Nat.lt_or_gt_of_ne hne with h | h
  · have := Nat.mul_le_mul_right W (show i + 1 ≤ i0 by omega)
    rw [Nat.succ_mul] at this; omega
  · have := Nat.mul_le_mul_right W (show i0 + 1 ≤ i by omega)
    rw [Nat.succ_mul] at this; omega

theorem CRel.at {D : Nat → St} {r : RC} (h : CRel D r) {i : Nat} (hi : i < r.S) : LoRel (i * r.W) r.W (D i) r := ⟨rfl, h.set i hi, h.c i, h.f, h.k⟩

/-- set i0 has done something -/
theorem CRel.turn {D : Nat → St} {r r' : RC} (h : CRel D r) {i0 : Nat} {s' : St} (hl : LoRel (i0 * r.W) r.W s' r') (hw : Within (i0 * r.W) r.W r r') (hb : Bd s') : CRel (tchD D i0 s') r' := by
  refine ⟨fun i hi => ?_, fun i => ?_, fun i => ?_, hl.f, hl.k, by rw [hw.S]; exact h.sz, by rw [hw.W]; exact h.wz⟩
  · rw [hw.S] at hi
    rw [hw.W]
    unfold tchD
    by_cases e : i = i0
    · subst e; rw [if_pos rfl]; exact hl.set
    · rw [if_neg e]
      have hs := h.set i hi
      exact hs.other (fun j hj => hw.L _ (apart_sets e hj)) (fun j hj => hw.T _ (apart_sets e hj)) (fun j hj => hw.R _ (apart_sets e hj)) hw.k
  · unfold tchD
    split <;> exact hl.c
  · unfold tchD
    split
    · exact hb
    · exact ⟨(h.bd i).a, (h.bd i).r, hb.c⟩

def RC.missed (s : RC) (q : Int) : RC := { s with psel := q }

end
end Go.Coh
