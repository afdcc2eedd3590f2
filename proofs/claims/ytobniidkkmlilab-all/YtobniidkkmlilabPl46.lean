import Derived.Test.YtobniidkkmlilabPl45

/- The list of pairs, in memory. -/
namespace Go.Proofs.Ytobniidkkmlilab
open Go.RowKit Go.Coh

theorem PmAt.of_block {w w' : World} {b : Nat} {m : RM} (h : PmAt w b m) (e : w'.heap[b]? = w.heap[b]?) : PmAt w' b m := by
  have kb : ∀ o, w'.cell? ⟨b, o, none⟩ = w.cell? ⟨b, o, none⟩ := fun o => World.cell?_of_block (a := ⟨b, o, none⟩) e
  have fb : ∀ o, w'.frozen? ⟨b, o, none⟩ = false := fun o => (World.frozen?_of_block (a := ⟨b, o, none⟩) e).trans (h.bf o)
  have mv : ∀ {o n : Nat} {g : Nat → Int}, HoldsF w b o n g → HoldsF w' b o n g := fun hh => HoldsF.move hh (fun j _ => ⟨kb _, fb _⟩)
  refine ⟨h.c0, mv h.conf, fun i hi => (h.first i hi).move (fun j _ => ⟨kb _, fb _⟩), h.far.move (fun j _ => ⟨kb _, fb _⟩), fun i l hi hl => by rw [kb]; exact h.has i l hi hl, mv h.lasts, mv h.words, mv h.mem, mv h.tally, fb, ?_⟩
  obtain ⟨cs, o1, o2⟩ := h.obj
  exact ⟨cs, by rw [e]; exact o1, o2⟩
theorem RmAt.of_blocks {w w' : World} {y : Lay} {m : RM} (h : RmAt w y m) (e : ∀ p, p < 4 + 2 * m.cores → w'.heap[y.blk p]? = w.heap[y.blk p]?) (hz : w.heap.size ≤ w'.heap.size) : RmAt w' y m := by
  have e0 := e 0 (by omega)
  have kb : ∀ o, w'.cell? ⟨y.blk 0, o, none⟩ = w.cell? ⟨y.blk 0, o, none⟩ := fun o => World.cell?_of_block (a := ⟨y.blk 0, o, none⟩) e0
  have fb : ∀ o, w'.frozen? ⟨y.blk 0, o, none⟩ = false := fun o => (World.frozen?_of_block (a := ⟨y.blk 0, o, none⟩) e0).trans (h.bf o)
  have mv : ∀ {o n : Nat} {g : Nat → Int}, HoldsF w (y.blk 0) o n g → HoldsF w' (y.blk 0) o n g := fun hh => HoldsF.move hh (fun j _ => ⟨kb _, fb _⟩)
  refine ⟨h.c0, mv h.conf, by rw [kb]; exact h.fs, by rw [kb]; exact h.fr, fun i l hi hl => by rw [kb]; exact h.has i l hi hl, mv h.lasts, mv h.words, mv h.mem, mv h.tally, fb, fun i hi => ?_, fun i hi => ?_, ?_, h.inj, fun p hp => Nat.lt_of_lt_of_le (h.lt p hp) hz⟩
  · rw [World.cell?_of_block (w := w) (a := ⟨y.blk 1, i, none⟩) (e 1 (by omega))]; exact h.row i hi
  · exact RefAt.of_blocks (h.first i hi) (e _ (by omega)) (e _ (by omega))
  · exact RefAt.of_blocks h.far (e _ (by omega)) (e _ (by omega))
theorem PairAt.of_blocks {w w' : World} {x : PD} {B : Int} (h : PairAt w x B) (e : ∀ k, ownP x k → w'.heap[k]? = w.heap[k]?) (hz : w.heap.size ≤ w'.heap.size) : PairAt w' x B :=
  ⟨PmAt.of_block h.p (e _ (.inl rfl)), RmAt.of_blocks h.r (fun p hp => e _ (.inr ⟨p, hp, rfl⟩)) hz, h.i1, h.i2, h.c1, h.c, h.ne⟩

/-- the pairs' cells -/
def prs (d : Nat → Option PD) : Nat → List Value
  | 0 => []
  | k + 1 => prs d k ++ (prC (d k)).toList
theorem prC_len (x : Option PD) : (prC x).toList.length = 2 := by cases x <;> rfl
theorem prs_len (d : Nat → Option PD) : ∀ k, (prs d k).length = k * 2
  | 0 => rfl
  | k + 1 => by
    have := prC_len (d k)
    simp only [prs, List.length_append, prs_len d k, this]; omega
theorem prs_get (d : Nat → Option PD) : ∀ k i j, i < k → j < 2 → (prs d k)[i * 2 + j]? = (prC (d i)).toList[j]?
  | 0, i, j, h, _ => by omega
  | k + 1, i, j, h, hj => by
    have hl := prs_len d k
    unfold prs
    by_cases e : i = k
    · subst e
      rw [List.getElem?_append_right (by omega), hl, show i * 2 + j - i * 2 = j by omega]
    · rw [List.getElem?_append_left (by omega)]; exact prs_get d k i j (by omega) hj
theorem prs_congr {d d' : Nat → Option PD} : ∀ k, (∀ i, i < k → prC (d i) = prC (d' i)) → prs d k = prs d' k
  | 0, _ => rfl
  | k + 1, h => by
    unfold prs
    rw [prs_congr k (fun i hi => h i (by omega)), h k (by omega)]

structure Pairs (w : World) (N q : Nat) (d : Nat → Option PD) (B : Int) : Prop where
  at_ : ∀ p x, p < q → d p = some x → PairAt w x B
  lo : ∀ p x k, p < q → d p = some x → ownP x k → N ≤ k
  ap : ∀ p p' x x' k, p < q → p' < q → p ≠ p' → d p = some x → d p' = some x' → ownP x k → ¬ ownP x' k

theorem Pairs.mono {w : World} {N q : Nat} {d : Nat → Option PD} {B B' : Int} (h : Pairs w N q d B) (hb : B ≤ B') : Pairs w N q d B' := ⟨fun p x hp hx => (h.at_ p x hp hx).mono hb, h.lo, h.ap⟩
theorem Pairs.of_upd {w w' : World} {N q : Nat} {d : Nat → Option PD} {B : Int} (h : Pairs w N q d B) (u : Upd no w w') : Pairs w' N q d B := ⟨fun p x hp hx => (h.at_ p x hp hx).of_upd u (fun _ _ _ e => e), h.lo, h.ap⟩
theorem Pairs.of_blocks {w w' : World} {N q : Nat} {d : Nat → Option PD} {B : Int} (h : Pairs w N q d B) (e : ∀ p x k, p < q → d p = some x → ownP x k → w'.heap[k]? = w.heap[k]?) (hz : w.heap.size ≤ w'.heap.size) : Pairs w' N q d B :=
  ⟨fun p x hp hx => (h.at_ p x hp hx).of_blocks (fun k hk => e p x k hp hx hk) hz, h.lo, h.ap⟩

def updD (d : Nat → Option PD) (p : Nat) (x : Option PD) : Nat → Option PD := fun i => if i = p then x else d i
theorem updD_at (d : Nat → Option PD) (p : Nat) (x : Option PD) : updD d p x p = x := by unfold updD; rw [if_pos rfl]
theorem updD_ne (d : Nat → Option PD) (p i : Nat) (x : Option PD) (h : i ≠ p) : updD d p x i = d i := by unfold updD; rw [if_neg h]

/-- pair p has gone on -/
theorem Pairs.step {w w' : World} {N q p : Nat} {d : Nat → Option PD} {B B' : Int} {x x' : PD} (h : Pairs w N q d B) (hp : p < q) (hx : d p = some x) (hB : B ≤ B') (hN : N ≤ w.heap.size) (g : Goes w w' x x') (ha : PairAt w' x' B') : Pairs w' N q (updD d p (some x')) B' := by
  have old : ∀ i z k, i < q → d i = some z → ownP z k → k < w.heap.size := fun i z k hi hz hk => (h.at_ i z hi hz).lt hk
  refine ⟨fun i z hi hz => ?_, fun i z k hi hz hk => ?_, fun i j z z' k hi hj hij hz hz' hk hk' => ?_⟩
  · by_cases e : i = p
    · subst e; rw [updD_at] at hz; injection hz with hz; subst hz; exact ha
    · rw [updD_ne _ _ _ _ e] at hz
      exact ((h.at_ i z hi hz).of_upd g.u (fun k o hk hs => h.ap i p z x k hi hp e hz hx hk hs)).mono hB
  · by_cases e : i = p
    · subst e; rw [updD_at] at hz; injection hz with hz; subst hz
      rcases g.own k hk with h1 | h1
      · exact h.lo i x k hi hx h1
      · omega
    · rw [updD_ne _ _ _ _ e] at hz; exact h.lo i z k hi hz hk
  · by_cases e : i = p
    · subst e
      rw [updD_at] at hz; injection hz with hz; subst hz
      rw [updD_ne _ _ _ _ (fun e => hij e.symm)] at hz'
      rcases g.own k hk with h1 | h1
      · exact h.ap i j x z' k hi hj hij hx hz' h1 hk'
      · have := old j z' k hj hz' hk'; omega
    · rw [updD_ne _ _ _ _ e] at hz
      by_cases e2 : j = p
      · subst e2
        rw [updD_at] at hz'; injection hz' with hz'; subst hz'
        rcases g.own k hk' with h1 | h1
        · exact h.ap i j z x k hi hj hij hz hx hk h1
        · have := old i z k hi hz hk; omega
      · rw [updD_ne _ _ _ _ e2] at hz'
        exact h.ap i j z z' k hi hj hij hz hz' hk hk'

/-- one pair more -/
theorem Pairs.more {w w' : World} {N q : Nat} {d : Nat → Option PD} {B : Int} (h : Pairs w N q d B) (u : Upd no w w') (o : Option PD) (ho : ∀ x, o = some x → PairAt w' x B ∧ ∀ k, ownP x k → w.heap.size ≤ k) (hN : N ≤ w.heap.size) : Pairs w' N (q + 1) (updD d q o) B := by
  have old : ∀ i z k, i < q → d i = some z → ownP z k → k < w.heap.size := fun i z k hi hz hk => (h.at_ i z hi hz).lt hk
  have h1 := h.of_upd u
  refine ⟨fun i z hi hz => ?_, fun i z k hi hz hk => ?_, fun i j z z' k hi hj hij hz hz' hk hk' => ?_⟩
  · by_cases e : i = q
    · subst e; rw [updD_at] at hz; exact (ho z hz).1
    · rw [updD_ne _ _ _ _ e] at hz; exact h1.at_ i z (by omega) hz
  · by_cases e : i = q
    · subst e; rw [updD_at] at hz; have := (ho z hz).2 k hk; omega
    · rw [updD_ne _ _ _ _ e] at hz; exact h.lo i z k (by omega) hz hk
  · by_cases e : i = q
    · subst e
      rw [updD_at] at hz
      rw [updD_ne _ _ _ _ (fun e => hij e.symm)] at hz'
      have := (ho z hz).2 k hk
      have := old j z' k (by omega) hz' hk'
      omega
    · rw [updD_ne _ _ _ _ e] at hz
      by_cases e2 : j = q
      · subst e2
        rw [updD_at] at hz'
        have := (ho z' hz').2 k hk'
        have := old i z k (by omega) hz hk
        omega
      · rw [updD_ne _ _ _ _ e2] at hz'
        exact h.ap i j z z' k (by omega) (by omega) hij hz hz' hk hk'

/-- the list of pairs -/
structure LAt (w : World) (N : Nat) (v : Value) (q : Nat) (d : Nat → Option PD) (B : Int) (eqs : Prop) : Prop where
  row : w.ownsRow N 82 2 v q (prs d q)
  pairs : Pairs w N q d B
  apart : ∀ g p x, v.ownBlock = some g → p < q → d p = some x → ¬ ownP x g
  eq : eqs → ∀ p x, p < q → d p = some x → x.r1 = x.r2
  N : N ≤ w.heap.size

theorem LAt.mono {w : World} {N q : Nat} {v : Value} {d : Nat → Option PD} {B B' : Int} {eqs : Prop} (h : LAt w N v q d B eqs) (hb : B ≤ B') : LAt w N v q d B' eqs := ⟨h.row, h.pairs.mono hb, h.apart, h.eq, h.N⟩
theorem LAt.of_upd {w w' : World} {N q : Nat} {v : Value} {d : Nat → Option PD} {B : Int} {eqs : Prop} (h : LAt w N v q d B eqs) (u : Upd no w w') : LAt w' N v q d B eqs :=
  ⟨own_keep h.row u (fun _ _ _ e => e), h.pairs.of_upd u, h.apart, h.eq, Nat.le_trans h.N u.size⟩

/-- where the pairs lie -/
theorem LAt.cells {w : World} {N q : Nat} {v : Value} {d : Nat → Option PD} {B : Int} {eqs : Prop} (h : LAt w N v q d B eqs) (hq : 0 < q) : ∃ g cap, v = .slice (some ⟨g, 0, none⟩) q cap ∧ N ≤ g ∧ g < w.heap.size ∧ ∀ p j, p < q → j < 2 → w.cell? ⟨g, p * 2 + j, none⟩ = (prC (d p)).toList[j]? := by
  rcases h.row.2 with ⟨_, rfl⟩ | ⟨g, cap, cur, rfl, hb, hg, _, _, _, ht⟩
  · omega
  · refine ⟨g, cap, rfl, hb, (Array.getElem?_eq_some_iff.1 hg).1, fun p j hp hj => ?_⟩
    rw [cell_of_row w g (p * 2 + j) cur 82 (0, 0) hg, ← prs_get d q p j hp hj, ← ht, List.getElem?_take, if_pos (by omega)]
    simp

theorem LAt.step {w w' : World} {N q p : Nat} {v : Value} {d : Nat → Option PD} {B B' : Int} {eqs : Prop} {x x' : PD} (h : LAt w N v q d B eqs) (hp : p < q) (hx : d p = some x) (hB : B ≤ B') (g : Goes w w' x x') (ha : PairAt w' x' B') (he : eqs → x.r1 = x.r2 → x'.r1 = x'.r2) : LAt w' N v q (updD d p (some x')) B' eqs := by
  have hpr : prs (updD d p (some x')) q = prs d q := prs_congr q (fun i hi => by
    by_cases e : i = p
    · subst e; rw [updD_at, hx]; unfold prC; dsimp only; rw [g.b, g.y0]
    · rw [updD_ne _ _ _ _ e])
  have hz := g.u.size
  refine ⟨?_, h.pairs.step hp hx hB h.N g ha, fun gg i z hg hi hz' => ?_, fun e i z hi hz' => ?_, by have := h.N; omega⟩
  · rw [hpr]
    refine ⟨h.row.1, ?_⟩
    rcases h.row.2 with h1 | ⟨gg, cap, cur, rfl, hb, hg, h1, h2, h3, ht⟩
    · exact .inl h1
    · refine .inr ⟨gg, cap, cur, rfl, hb, ?_, h1, h2, h3, ht⟩
      rw [g.u.block (Array.getElem?_eq_some_iff.1 hg).1 (fun o hs => h.apart gg p x rfl hp hx hs)]; exact hg
  · by_cases e : i = p
    · subst e
      rw [updD_at] at hz'; injection hz' with hz'; subst hz'
      intro hk
      rcases g.own gg hk with h1 | h1
      · exact h.apart gg i x hg hi hx h1
      · have := (h.row.lt gg hg).2; omega
    · rw [updD_ne _ _ _ _ e] at hz'; exact h.apart gg i z hg hi hz'
  · by_cases e2 : i = p
    · subst e2
      rw [updD_at] at hz'; injection hz' with hz'; subst hz'
      exact he e (h.eq e i x hi hx)
    · rw [updD_ne _ _ _ _ e2] at hz'; exact h.eq e i z hi hz'

/-- a pair is put to the list: w3: the pair is made; w5: behind append -/
theorem LAt.more {w w3 w5 : World} {N q : Nat} {v v' : Value} {d : Nat → Option PD} {B : Int} {eqs : Prop} (h : LAt w N v q d B eqs) (u : Upd no w w3) (o : Option PD) (ho : ∀ x, o = some x → PairAt w3 x B ∧ (∀ k, ownP x k → w.heap.size ≤ k) ∧ x.r1 = x.r2) {ob : Obj} (hg : (w3.alloc ob).grownBy w5 v.ownBlock)
    (hown : w5.ownsRow N 82 2 v' (q + 1) (prs d q ++ (prC o).toList)) (hv : v'.ownBlock = v.ownBlock ∨ v'.ownBlock = some (w3.alloc ob).heap.size) : LAt w5 N v' (q + 1) (updD d q o) B eqs := by
  have hz3 := u.size
  have hz5 := hg.size
  simp at hz5
  have h3 : Pairs w3 N (q + 1) (updD d q o) B := h.pairs.more u o (fun x hx => ⟨(ho x hx).1, (ho x hx).2.1⟩) h.N
  have rowlt : ∀ g, v.ownBlock = some g → g < w.heap.size := fun g hg => (h.row.lt g hg).2
  have nrow : ∀ p x k, p < q + 1 → updD d q o p = some x → ownP x k → v.ownBlock ≠ some k := fun p x k hp hx hk e => by
    by_cases ep : p = q
    · subst ep; rw [updD_at] at hx
      have := (ho x hx).2.1 k hk; have := rowlt k e; omega
    · rw [updD_ne _ _ _ _ ep] at hx
      exact h.apart k p x e (by omega) hx hk
  have hk3 : ∀ p x k, p < q + 1 → updD d q o p = some x → ownP x k → k < w3.heap.size := fun p x k hp hx hk => (h3.at_ p x hp hx).lt hk
  refine ⟨?_, h3.of_blocks (fun p x k hp hx hk => ?_) (by omega), fun g p x hg' hp hx hk => ?_, fun e p x hp hx => ?_, by have := h.N; omega⟩
  · have e : prs (updD d q o) (q + 1) = prs d q ++ (prC o).toList := by
      show prs (updD d q o) q ++ (prC (updD d q o q)).toList = _
      rw [updD_at, prs_congr (d' := d) q (fun i hi => by rw [updD_ne _ _ _ _ (by omega)])]
    rw [e]; exact hown
  · have hlt := hk3 p x k hp hx hk
    rw [hg.block k (by simp; omega) (fun e => nrow p x k hp hx hk e.symm), Below.heap_alloc _ _ _ hlt]
  · rcases hv with hv | hv
    · rw [hv] at hg'; exact nrow p x g hp hx hk hg'
    · rw [hv] at hg'
      injection hg' with hg'
      have := hk3 p x g hp hx hk
      simp at hg'; omega
  · by_cases ep : p = q
    · subst ep; rw [updD_at] at hx; exact (ho x hx).2.2
    · rw [updD_ne _ _ _ _ ep] at hx; exact h.eq e p x (by omega) hx

end Go.Proofs.Ytobniidkkmlilab
