import Derived.Test.YtobniidkkmlilaaPl03
import Derived.RegionTactic
import Derived.BigRegion

/- The walks over package coherentref: a cache; what only reads. -/
namespace Go.Proofs.Ytobniidkkmlilaa
open Go.RowKit Go.Coh

/-- A cache lies in block b, its ways in block g. -/
structure RefAt (w : World) (b g cap : Nat) (s : RC) : Prop where
  ne : b ≠ g
  c0 : w.cell? ⟨b, 0, none⟩ = some (.int .i64 s.S)
  c1 : w.cell? ⟨b, 1, none⟩ = some (.int .i64 s.W)
  c2 : w.cell? ⟨b, 2, none⟩ = some (.int .i64 s.P)
  c3 : w.cell? ⟨b, 3, none⟩ = some (.slice (some ⟨g, 0, none⟩) s.n cap)
  c4 : w.cell? ⟨b, 4, none⟩ = some (.int .i64 s.clock)
  c5 : w.cell? ⟨b, 5, none⟩ = some (.int .i64 s.fills)
  c6 : w.cell? ⟨b, 6, none⟩ = some (.int .i64 s.psel)
  bf : ∀ o, w.frozen? ⟨b, o, none⟩ = false
  gf : ∀ o, w.frozen? ⟨g, o, none⟩ = false
  ln : ∀ i, i < s.n → w.cell? ⟨g, i * 3, none⟩ = some (.int .i64 (s.L i))
  st : ∀ i, i < s.n → w.cell? ⟨g, i * 3 + 1, none⟩ = some (.int .i64 (s.T i))
  rk : ∀ i, i < s.n → w.cell? ⟨g, i * 3 + 2, none⟩ = some (.int .i64 (s.R i))

theorem RefAt.drewN {w : World} {b g cap : Nat} {s : RC} (h : RefAt w b g cap s) (q : Nat) : RefAt (w.drewN q) b g cap s := ⟨h.ne, h.c0, h.c1, h.c2, h.c3, h.c4, h.c5, h.c6, h.bf, h.gf, h.ln, h.st, h.rk⟩
theorem RefAt.drew {w : World} {b g cap : Nat} {s : RC} (h : RefAt w b g cap s) : RefAt w.drew b g cap s := ⟨h.ne, h.c0, h.c1, h.c2, h.c3, h.c4, h.c5, h.c6, h.bf, h.gf, h.ln, h.st, h.rk⟩
theorem RefAt.blt {w : World} {b g cap : Nat} {s : RC} (h : RefAt w b g cap s) : b < w.heap.size := World.block_lt_of_cell? w _ h.c0

/-- the cells of a cache -/
def refS (b g : Nat) : Nat → Nat → Prop := fun k _ => k = b ∨ k = g

theorem RefAt.of_upd {S : Nat → Nat → Prop} {w w' : World} {b g cap : Nat} {s : RC} (h : RefAt w b g cap s) (u : Upd S w w') (hg : g < w.heap.size) (h1 : ∀ o, ¬ S b o) (h2 : ∀ o, ¬ S g o) : RefAt w' b g cap s := by
  have hb := h.blt
  have kb : ∀ o, w'.cell? ⟨b, o, none⟩ = w.cell? ⟨b, o, none⟩ := fun o => u.cell hb (h1 o)
  have kg : ∀ o, w'.cell? ⟨g, o, none⟩ = w.cell? ⟨g, o, none⟩ := fun o => u.cell hg (h2 o)
  exact ⟨h.ne, by rw [kb]; exact h.c0, by rw [kb]; exact h.c1, by rw [kb]; exact h.c2, by rw [kb]; exact h.c3, by rw [kb]; exact h.c4, by rw [kb]; exact h.c5, by rw [kb]; exact h.c6,
    fun o => by rw [u.frozen hb]; exact h.bf o, fun o => by rw [u.frozen hg]; exact h.gf o, fun i hi => by rw [kg]; exact h.ln i hi, fun i hi => by rw [kg]; exact h.st i hi, fun i hi => by rw [kg]; exact h.rk i hi⟩

theorem cell_set_ne {w : World} {b o b' o' : Nat} {v : Value} (h : b ≠ b' ∨ o ≠ o') : (w.setCell ⟨b, o, none⟩ v).cell? ⟨b', o', none⟩ = w.cell? ⟨b', o', none⟩ :=
  World.cell?_setCell_other _ _ _ _ (fun e => by injection e with e1 e2; rcases h with h | h <;> contradiction)

/-- a store into the ways -/
theorem RefAt.setG {w : World} {b g cap : Nat} {s : RC} (h : RefAt w b g cap s) (o : Nat) (v : Int) (s' : RC) (e : s'.S = s.S ∧ s'.W = s.W ∧ s'.P = s.P ∧ s'.clock = s.clock ∧ s'.fills = s.fills ∧ s'.psel = s.psel)
    (hl : ∀ i, i < s.n → s'.L i = if o = i * 3 then v else s.L i) (ht : ∀ i, i < s.n → s'.T i = if o = i * 3 + 1 then v else s.T i) (hr : ∀ i, i < s.n → s'.R i = if o = i * 3 + 2 then v else s.R i) :
    RefAt (w.setCell ⟨g, o, none⟩ (.int .i64 v)) b g cap s' := by
  obtain ⟨e1, e2, e3, e4, e5, e6⟩ := e
  have en : s'.n = s.n := by show s'.S * s'.W = s.S * s.W; rw [e1, e2]
  have kb : ∀ o', (w.setCell ⟨g, o, none⟩ (.int .i64 v)).cell? ⟨b, o', none⟩ = w.cell? ⟨b, o', none⟩ := fun o' => cell_set_ne (.inl (Ne.symm h.ne))
  have key : ∀ o' z u, w.cell? ⟨g, o', none⟩ = some (.int .i64 z) → u = (if o = o' then v else z) → (w.setCell ⟨g, o, none⟩ (.int .i64 v)).cell? ⟨g, o', none⟩ = some (.int .i64 u) := by
    intro o' z u hz hu
    by_cases e : o = o'
    · subst e; rw [World.cell?_setCell_same _ _ _ hz, hu, if_pos rfl]
    · rw [cell_set_ne (.inr e), hz, hu, if_neg e]
  refine ⟨h.ne, by rw [kb, e1]; exact h.c0, by rw [kb, e2]; exact h.c1, by rw [kb, e3]; exact h.c2, by rw [kb, en]; exact h.c3, by rw [kb, e4]; exact h.c4, by rw [kb, e5]; exact h.c5, by rw [kb, e6]; exact h.c6,
    fun o => by rw [World.frozen?_setCell]; exact h.bf o, fun o => by rw [World.frozen?_setCell]; exact h.gf o, fun i hi => ?_, fun i hi => ?_, fun i hi => ?_⟩
  · rw [en] at hi; exact key _ _ _ (h.ln i hi) (hl i hi)
  · rw [en] at hi; exact key _ _ _ (h.st i hi) (ht i hi)
  · rw [en] at hi; exact key _ _ _ (h.rk i hi) (hr i hi)

theorem RefAt.setClock {w : World} {b g cap : Nat} {s : RC} (h : RefAt w b g cap s) (v : Int) : RefAt (w.setCell ⟨b, 4, none⟩ (.int .i64 v)) b g cap { s with clock := v } := by
  have kg : ∀ o', (w.setCell ⟨b, 4, none⟩ (.int .i64 v)).cell? ⟨g, o', none⟩ = w.cell? ⟨g, o', none⟩ := fun o' => cell_set_ne (.inl h.ne)
  have kb : ∀ o', 4 ≠ o' → (w.setCell ⟨b, 4, none⟩ (.int .i64 v)).cell? ⟨b, o', none⟩ = w.cell? ⟨b, o', none⟩ := fun o' ho => cell_set_ne (.inr ho)
  exact ⟨h.ne, by rw [kb _ (by omega)]; exact h.c0, by rw [kb _ (by omega)]; exact h.c1, by rw [kb _ (by omega)]; exact h.c2, by rw [kb _ (by omega)]; exact h.c3, World.cell?_setCell_same _ _ _ h.c4, by rw [kb _ (by omega)]; exact h.c5, by rw [kb _ (by omega)]; exact h.c6,
    fun o => by rw [World.frozen?_setCell]; exact h.bf o, fun o => by rw [World.frozen?_setCell]; exact h.gf o, fun i hi => by rw [kg]; exact h.ln i hi, fun i hi => by rw [kg]; exact h.st i hi, fun i hi => by rw [kg]; exact h.rk i hi⟩
theorem RefAt.setFills {w : World} {b g cap : Nat} {s : RC} (h : RefAt w b g cap s) (v : Int) : RefAt (w.setCell ⟨b, 5, none⟩ (.int .i64 v)) b g cap { s with fills := v } := by
  have kg : ∀ o', (w.setCell ⟨b, 5, none⟩ (.int .i64 v)).cell? ⟨g, o', none⟩ = w.cell? ⟨g, o', none⟩ := fun o' => cell_set_ne (.inl h.ne)
  have kb : ∀ o', 5 ≠ o' → (w.setCell ⟨b, 5, none⟩ (.int .i64 v)).cell? ⟨b, o', none⟩ = w.cell? ⟨b, o', none⟩ := fun o' ho => cell_set_ne (.inr ho)
  exact ⟨h.ne, by rw [kb _ (by omega)]; exact h.c0, by rw [kb _ (by omega)]; exact h.c1, by rw [kb _ (by omega)]; exact h.c2, by rw [kb _ (by omega)]; exact h.c3, by rw [kb _ (by omega)]; exact h.c4, World.cell?_setCell_same _ _ _ h.c5, by rw [kb _ (by omega)]; exact h.c6,
    fun o => by rw [World.frozen?_setCell]; exact h.bf o, fun o => by rw [World.frozen?_setCell]; exact h.gf o, fun i hi => by rw [kg]; exact h.ln i hi, fun i hi => by rw [kg]; exact h.st i hi, fun i hi => by rw [kg]; exact h.rk i hi⟩

set_option maxHeartbeats 400000 in
theorem refOldest_any (b g cap lo hi : Nat) (s : RC) (w : World) (hh : hi ≤ s.n) (hl : lo < hi) (hn : s.n ≤ 64) (H : RefAt w b g cap s) :
    Calls Try.prog 73 #[.pointer (some ⟨b, 0, none⟩), .int .i64 lo, .int .i64 hi] w fun e w' => e = .returned (.int .i64 (argm (fun i j => decide (s.T i < s.T j)) lo (hi - lo) : Nat)) ∧ ∃ q, w' = w.drewN q := by
  have hc := H.c3
  have hst := H.st
  clear H
  generalize s.n = n at *
  generalize s.T = T at *
  go_enter Try.func73, Try.ntmps73
  go_wp2
  go_loopw [7, 8] (fun r i wr => ∃ k q : Nat, lo + k ≤ hi ∧ r = .int .i64 (argm (fun i j => decide (T i < T j)) lo k : Nat) ∧ i = .int .i64 (lo + k : Nat) ∧ wr = w.drewN q) (fun _ i _ => hi - (intOf i).toNat)
  case atStart => exact ⟨0, 0, by omega, rfl, rfl, rfl⟩
  case round =>
    obtain ⟨k, q, hk, rfl, rfl, rfl⟩ := hrel
    have hlr := argm_lt (fun i j => decide (T i < T j)) lo k hi (by omega) hl
    have HS : Hid (argm (fun i j => decide (T i < T j)) lo (k + 1) = if decide (T (lo + k) < T (argm (fun i j => decide (T i < T j)) lo k)) then lo + k else argm (fun i j => decide (T i < T j)) lo k) := rfl
    by_cases hlt : lo + k < hi
    · have hlk := hst (lo + k) (by omega)
      have hla := hst (argm (fun i j => decide (T i < T j)) lo k) (by omega)
      generalize argm (fun i j => decide (T i < T j)) lo k = r at *
      generalize hm : lo + k = m at *
      have HM : Hid (lo + k = m) := hm
      clear hm
      go_wp2
      go_quiet (fail)
      go_wp2
      all_goals
        go_roundw
        case rel => exact ⟨k + 1, _, by have := HM.out; omega, by rw [HS.out]; first | rw [if_pos (decide_eq_true ‹_›)] | rw [if_neg (by simp only [decide_eq_true_eq]; omega)], by have := HM.out; subst this; go_num, rfl⟩
        case measure => simp [intOf]; omega
    · go_wp2
      go_ret
      exact ⟨ret_int (by rw [show k = hi - lo from by omega]), q, rfl⟩

set_option maxHeartbeats 400000 in
theorem refNewest_any (b g cap lo hi : Nat) (l h : Int) (s : RC) (w : World) (el : l = lo) (eh : h = hi) (hh : hi ≤ s.n) (hl : lo < hi) (hn : s.n ≤ 64) (H : RefAt w b g cap s) :
    Calls Try.prog 96 #[.pointer (some ⟨b, 0, none⟩), .int .i64 l, .int .i64 h] w fun e w' => e = .returned (.int .i64 (argm (fun i j => decide (s.T j < s.T i)) lo (hi - lo) : Nat)) ∧ ∃ q, w' = w.drewN q := by
  subst el; subst eh
  have hc := H.c3
  have hst := H.st
  clear H
  generalize s.n = n at *
  generalize s.T = T at *
  go_enter Try.func96, Try.ntmps96
  go_wp2
  go_loopw [7, 8] (fun r i wr => ∃ k q : Nat, lo + k ≤ hi ∧ r = .int .i64 (argm (fun i j => decide (T j < T i)) lo k : Nat) ∧ i = .int .i64 (lo + k : Nat) ∧ wr = w.drewN q) (fun _ i _ => hi - (intOf i).toNat)
  case atStart => exact ⟨0, 0, by omega, rfl, rfl, rfl⟩
  case round =>
    obtain ⟨k, q, hk, rfl, rfl, rfl⟩ := hrel
    have hlr := argm_lt (fun i j => decide (T j < T i)) lo k hi (by omega) hl
    have HS : Hid (argm (fun i j => decide (T j < T i)) lo (k + 1) = if decide (T (argm (fun i j => decide (T j < T i)) lo k) < T (lo + k)) then lo + k else argm (fun i j => decide (T j < T i)) lo k) := rfl
    by_cases hlt : lo + k < hi
    · have hlk := hst (lo + k) (by omega)
      have hla := hst (argm (fun i j => decide (T j < T i)) lo k) (by omega)
      generalize argm (fun i j => decide (T j < T i)) lo k = r at *
      generalize hm : lo + k = m at *
      have HM : Hid (lo + k = m) := hm
      clear hm
      go_wp2
      go_quiet (fail)
      go_wp2
      all_goals
        go_roundw
        case rel => exact ⟨k + 1, _, by have := HM.out; omega, by rw [HS.out]; first | rw [if_pos (decide_eq_true ‹_›)] | rw [if_neg (by simp only [decide_eq_true_eq]; omega)], by have := HM.out; subst this; go_num, rfl⟩
        case measure => simp [intOf]; omega
    · go_wp2
      go_ret
      exact ⟨ret_int (by rw [show k = hi - lo from by omega]), q, rfl⟩

end Go.Proofs.Ytobniidkkmlilaa
