import Derived.Test.YtobniidkkmlilaaPa49
import Derived.Maps.AppendAt

/- What Nested keeps: the machine, its numbers, two rows that grow. -/
namespace Go.Proofs.Ytobniidkkmlilaa
open Go.RowKit Go.Coh

theorem PmAt.of_blockN {w w' : World} {b : Nat} {m : RM} (h : PmAt w b m) (e : w'.heap[b]? = w.heap[b]?) : PmAt w' b m := by
  have kb : ∀ o, w'.cell? ⟨b, o, none⟩ = w.cell? ⟨b, o, none⟩ := fun o => World.cell?_of_block (a := ⟨b, o, none⟩) e
  have fb : ∀ o, w'.frozen? ⟨b, o, none⟩ = false := fun o => (World.frozen?_of_block (a := ⟨b, o, none⟩) e).trans (h.bf o)
  have mv : ∀ {o n : Nat} {g : Nat → Int}, HoldsF w b o n g → HoldsF w' b o n g := fun hh => HoldsF.move hh (fun j _ => ⟨kb _, fb _⟩)
  refine ⟨h.c0, mv h.conf, fun i hi => (h.first i hi).move (fun j _ => ⟨kb _, fb _⟩), h.far.move (fun j _ => ⟨kb _, fb _⟩), fun i l hi hl => by rw [kb]; exact h.has i l hi hl, mv h.lasts, mv h.words, mv h.mem, mv h.tally, fb, ?_⟩
  obtain ⟨cs, o1, o2⟩ := h.obj
  exact ⟨cs, by rw [e]; exact o1, o2⟩

theorem own_block {w w' : World} {base e size n : Nat} {v : Value} {xs : List Value} (h : w.ownsRow base e size v n xs) (hb : ∀ g, v.ownBlock = some g → w'.heap[g]? = w.heap[g]?) : w'.ownsRow base e size v n xs := by
  refine ⟨h.1, ?_⟩
  rcases h.2 with h2 | ⟨g, cap, cur, rfl, hg, hh, r⟩
  · exact .inl h2
  · exact .inr ⟨g, cap, cur, rfl, hg, by rw [hb g rfl]; exact hh, r⟩

structure LN (w0 wr : World) (cb xb : Nat) (cf : Nat → Int) (m : RM) (vl vp : Value) (kl kp : Nat) (ls ps : Nat → Int) : Prop where
  n1 : w0.heap.size ≤ cb ∧ w0.heap.size ≤ xb
  n2 : cb ≠ xb
  lt : cb < wr.heap.size
  c : ∀ j, j < 7 → wr.cell? ⟨cb, j, none⟩ = some (.int .i64 (cf j))
  p : PmAt wr xb m
  ol : wr.ownsRow w0.heap.size 3 1 vl kl (iv ls kl)
  op : wr.ownsRow w0.heap.size 3 1 vp kp (iv ps kp)
  ap : ∀ g, vl.ownBlock = some g → vp.ownBlock ≠ some g
  al : ∀ g, vl.ownBlock = some g → g ≠ cb ∧ g ≠ xb
  aq : ∀ g, vp.ownBlock = some g → g ≠ cb ∧ g ≠ xb
  u : Upd no w0 wr

section
variable {w0 wr W w2 : World} {cb xb kl kp : Nat} {cf ls ps : Nat → Int} {m m' : RM} {vl vp v' : Value}

theorem LN.of_no (h : LN w0 wr cb xb cf m vl vp kl kp ls ps) (u : Upd no wr W) : LN w0 W cb xb cf m vl vp kl kp ls ps :=
  ⟨h.n1, h.n2, Nat.lt_of_lt_of_le h.lt u.size, fun j hj => by rw [u.cell h.lt (fun q => q)]; exact h.c j hj, h.p.of_upd u (fun _ e => e), own_keep h.ol u (fun _ _ _ e => e), own_keep h.op u (fun _ _ _ e => e), h.ap, h.al, h.aq, h.u.trans u⟩

theorem LN.mach (h : LN w0 wr cb xb cf m vl vp kl kp ls ps) (hp : PmAt W xb m') (u : Upd (blkS xb) wr W) : LN w0 W cb xb cf m' vl vp kl kp ls ps := by
  have n1 := h.n1
  refine ⟨h.n1, h.n2, Nat.lt_of_lt_of_le h.lt u.size, fun j hj => by rw [u.cell h.lt (fun q => h.n2 q)]; exact h.c j hj, hp, own_block h.ol (fun g hg => ?_), own_block h.op (fun g hg => ?_), h.ap, h.al, h.aq, upd_above h.u u (fun k o e => ?_)⟩
  · exact u.block (h.ol.lt g hg).2 (fun o e => (h.al g hg).2 e)
  · exact u.block (h.op.lt g hg).2 (fun o e => (h.aq g hg).2 e)
  · have : k = xb := e; omega

theorem LN.growL (h : LN w0 wr cb xb cf m vl vp kl kp ls ps) (hg : wr.grownBy w2 vl.ownBlock) (ho : w2.ownsRow w0.heap.size 3 1 v' (kl + 1) (iv ls (kl + 1))) (hv : v'.ownBlock = vl.ownBlock ∨ v'.ownBlock = some wr.heap.size) : LN w0 w2 cb xb cf m v' vp (kl + 1) kp ls ps := by
  have hz := hg.size
  have hl := h.lt
  have hx := h.p.blt
  have ne : ∀ k, k < wr.heap.size → vl.ownBlock ≠ some k → w2.heap[k]? = wr.heap[k]? := fun k hk hn => hg.block k hk (fun e => hn e.symm)
  have ncb : vl.ownBlock ≠ some cb := fun e => (h.al cb e).1 rfl
  have nxb : vl.ownBlock ≠ some xb := fun e => (h.al xb e).2 rfl
  have npb : ∀ g, vp.ownBlock = some g → vl.ownBlock ≠ some g := fun g e q => h.ap g q e
  refine ⟨h.n1, h.n2, by omega, fun j hj => ?_, h.p.of_blockN (ne xb hx nxb), ho, own_block h.op (fun g e => ne g (h.op.lt g e).2 (npb g e)), fun g e q => ?_, fun g e => ?_, h.aq, upd_grown h.u hg (fun k e => (h.ol.lt k e).1)⟩
  · rw [World.cell?_of_block (w := wr) (a := ⟨cb, j, none⟩) (ne cb hl ncb)]; exact h.c j hj
  · rcases hv with hv | hv
    · rw [hv] at e; exact h.ap g e q
    · rw [hv] at e
      injection e with e
      have := (h.op.lt g q).2; omega
  · rcases hv with hv | hv
    · rw [hv] at e; exact h.al g e
    · rw [hv] at e
      injection e with e
      constructor <;> omega

theorem LN.growP (h : LN w0 wr cb xb cf m vl vp kl kp ls ps) (hg : wr.grownBy w2 vp.ownBlock) (ho : w2.ownsRow w0.heap.size 3 1 v' (kp + 1) (iv ps (kp + 1))) (hv : v'.ownBlock = vp.ownBlock ∨ v'.ownBlock = some wr.heap.size) : LN w0 w2 cb xb cf m vl v' kl (kp + 1) ls ps := by
  have hz := hg.size
  have hl := h.lt
  have hx := h.p.blt
  have ne : ∀ k, k < wr.heap.size → vp.ownBlock ≠ some k → w2.heap[k]? = wr.heap[k]? := fun k hk hn => hg.block k hk (fun e => hn e.symm)
  have ncb : vp.ownBlock ≠ some cb := fun e => (h.aq cb e).1 rfl
  have nxb : vp.ownBlock ≠ some xb := fun e => (h.aq xb e).2 rfl
  refine ⟨h.n1, h.n2, by omega, fun j hj => ?_, h.p.of_blockN (ne xb hx nxb), own_block h.ol (fun g e => ne g (h.ol.lt g e).2 (h.ap g e)), ho, fun g e q => ?_, h.al, fun g e => ?_, upd_grown h.u hg (fun k e => (h.op.lt k e).1)⟩
  · rw [World.cell?_of_block (w := wr) (a := ⟨cb, j, none⟩) (ne cb hl ncb)]; exact h.c j hj
  · rcases hv with hv | hv
    · rw [hv] at q; exact h.ap g e q
    · rw [hv] at q
      injection q with q
      have := (h.ol.lt g e).2; omega
  · rcases hv with hv | hv
    · rw [hv] at e; exact h.aq g e
    · rw [hv] at e
      injection e with e
      constructor <;> omega
end

/-- the machine's numbers, with room for all lines -/
def nestC (c : Nat → Int) : Nat → Int := fun j => if j = 0 then 1 else if j = 4 then 8 else if j = 5 then 8 else fitC c j
theorem nest_ok (c : Nat → Int) : CfOk (nestC c) 1 (powerN (c 1)) (powerN (c 2)) (pickN (c 3) 2) 8 8 (pickN (c 6) 5) := by
  have h := fit_ok c
  exact ⟨rfl, h.e1, h.e2, h.e3, rfl, rfl, h.e6, by omega, h.sS, h.sW, h.sP, .inr (.inr (.inr rfl)), .inr (.inr (.inr rfl)), h.sLP⟩

theorem nest_start (c : Nat → Int) : NI (newM (nestC c)).freshS 0 ∧ (∀ y : Nat, ¬ Hs (newM (nestC c)).freshS.far y) ∧ (newM (nestC c)).freshS.firsts 0 = newRC (powerN (c 1)) (powerN (c 2)) (pickN (c 3) 2) := by
  have h := nest_ok c
  have he := checkE_ok h
  refine ⟨⟨newM_inv he, newM_cinv he, newM_s1 rfl, fresh_dm _, rfl, rfl⟩, fun y => ?_, ?_⟩
  · rw [freshS_eq (m := newM (nestC c)) h]; exact newRC_hs _ _ _ _
  · rw [freshS_eq (m := newM (nestC c)) h]

/-- what nested is asked of each set -/
theorem nest_sets (c : Nat → Int) (os : Nat → Nat → Int) (K s : Nat) :
    (∀ i, i < K → nLn (os i) % powerN (c 1) = s → ((newM (nestC c)).freshS.nrun os i).nPl (os i) = if (tchRunT (pickN (c 3) 2) (powerN (c 2)) (sel (powerN (c 1)) s (fun i => nLn (os i)) K) (cS (powerN (c 1)) s (fun i => nLn (os i)) i)).hit then 0 else if bef (fun i => (nLn (os i) : Int)) (nLn (os i)) i then 1 else 2) ∧
    (∀ n, n < 64 → n % powerN (c 1) = s → (((newM (nestC c)).freshS.nrun os K).has 0 n ≠ 0 ↔ inR (sel (powerN (c 1)) s (fun i => nLn (os i)) K) (tchRunT (pickN (c 3) 2) (powerN (c 2)) (sel (powerN (c 1)) s (fun i => nLn (os i)) K)) n (cS (powerN (c 1)) s (fun i => nLn (os i)) K) = true)) := by
  obtain ⟨h1, h2, h3⟩ := nest_start c
  have hok := nest_ok c
  have hp := hok.sP
  have run := nrun_all h1 h2 os
  constructor
  · intro i hi hs
    obtain ⟨a, b, d, _⟩ := run i
    rw [h3] at b
    have st := (set_step (K := K) (xs := fun i => nLn (os i)) hp hok.sS hok.sW hi hs).1
    rw [← st, ← b]
    have hl := nLn_lt (os i)
    have hc := a.s.c
    have hf := a.I.find (c := 0) (l := nLn (os i)) (by omega) hl
    unfold RM.nPl RM.pPlace
    by_cases h0 : ((newM (nestC c)).freshS.nrun os i).has 0 (nLn (os i)) ≠ 0
    · obtain ⟨j, e⟩ := hf.2 h0
      rw [if_pos h0, if_pos (by rw [e]; rfl)]
    · have e : ((((newM (nestC c)).freshS.nrun os i).firsts 0).find (nLn (os i) : Int)).isSome = false := by
        cases e : (((newM (nestC c)).freshS.nrun os i).firsts 0).find (nLn (os i) : Int) with
        | none => rfl
        | some j => exact absurd (hf.1 ⟨j, e⟩) h0
      rw [if_neg h0, e, if_neg (by simp)]
      unfold RM.fetchedV
      by_cases hb : bef (fun i => (nLn (os i) : Int)) (nLn (os i)) i = true
      · obtain ⟨k, hk, ek⟩ := (bef_iff _ _ _).1 hb
        rw [if_pos hb, if_pos (find_isSome.2 ((d _ hl).2 ⟨k, hk, by omega⟩))]
      · rw [if_neg hb, if_neg (fun q => hb ((bef_iff _ _ _).2 (by obtain ⟨k, hk, ek⟩ := (d _ hl).1 (find_isSome.1 q); exact ⟨k, hk, by omega⟩)))]
  · intro n hn hs
    obtain ⟨a, b, d, _⟩ := run K
    rw [h3] at b
    have hc := a.s.c
    have hin := in_eq (P := pickN (c 3) 2) (W := powerN (c 2)) (S := powerN (c 1)) (s := s) (K := K) (xs := fun i => nLn (os i)) hp hok.sS hok.sW (fun i => nLn_lt (os i)) (fun k hk => by
      obtain ⟨a', b', _, _⟩ := run k
      rw [h3] at b'
      rw [← b']
      exact ⟨a'.I.fi.ok 0, a'.I.fi.ln 0 (by have := a'.s.c; omega)⟩) hs K (Nat.le_refl _)
    rw [hin, ← b]
    exact a.I.fi.hs 0 n (by omega) hn

end Go.Proofs.Ytobniidkkmlilaa
