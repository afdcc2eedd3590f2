import Derived.Test.YtobniidkkmlilaaPk01
import Derived.WalkKit
import Derived.WalkSpells
import Derived.WalkSmall
import Derived.Deep.Draws
import Derived.Test.YtobniidkkmlilaaRows
import Derived.WalkLawsBesides
import Derived.Deep.QuietTactic
import Derived.BigQuiet

/- Worlds in which only some cells have turned, and rows of integers in memory. No program is named here. -/
namespace Go.Coh
open Go Go.RowKit

/-- Of what was there only cells in S may have turned; new blocks may have come. -/
structure Upd (S : Nat → Nat → Prop) (w w' : World) : Prop where
  os : w'.os = w.os
  tape : w'.tape = w.tape
  output : w'.output = w.output
  size : w.heap.size ≤ w'.heap.size
  cells : ∀ (k : Nat) (c : Array Value) (e : TypeId) (fr : Nat × Nat), w.heap[k]? = some (.cells c e fr) →
    ∃ c', w'.heap[k]? = some (.cells c' e fr) ∧ c'.size = c.size ∧ ∀ o, ¬ S k o → c'[o]? = c[o]?
  rest : ∀ (k : Nat) (x : Obj), w.heap[k]? = some x → (∀ c e fr, x ≠ .cells c e fr) → w'.heap[k]? = some x

namespace Upd
variable {S S' : Nat → Nat → Prop} {w w' w'' : World}

theorem refl (S : Nat → Nat → Prop) (w : World) : Upd S w w :=
  ⟨rfl, rfl, rfl, Nat.le_refl _, fun _ c _ _ h => ⟨c, h, rfl, fun _ _ => rfl⟩, fun _ _ h _ => h⟩

theorem trans (h : Upd S w w') (k : Upd S w' w'') : Upd S w w'' := by
  refine ⟨k.os.trans h.os, k.tape.trans h.tape, k.output.trans h.output, Nat.le_trans h.size k.size, ?_, ?_⟩
  · intro b c e fr hb
    obtain ⟨c1, h1, s1, o1⟩ := h.cells b c e fr hb
    obtain ⟨c2, h2, s2, o2⟩ := k.cells b c1 e fr h1
    exact ⟨c2, h2, s2.trans s1, fun o ho => (o2 o ho).trans (o1 o ho)⟩
  · intro b x hb hx
    exact k.rest b x (h.rest b x hb hx) hx

theorem mono (h : Upd S w w') (hS : ∀ k o, S k o → S' k o) : Upd S' w w' := by
  refine ⟨h.os, h.tape, h.output, h.size, ?_, ?_⟩
  · intro b c e fr hb
    obtain ⟨c1, h1, s1, o1⟩ := h.cells b c e fr hb
    exact ⟨c1, h1, s1, fun o ho => o1 o (fun hs => ho (hS _ _ hs))⟩
  · exact h.rest

theorem drew (h : Upd S w w') : Upd S w w'.drew := ⟨h.os, h.tape, h.output, h.size, h.cells, h.rest⟩
theorem drewN (h : Upd S w w') (n : Nat) : Upd S w (w'.drewN n) := ⟨h.os, h.tape, h.output, h.size, h.cells, h.rest⟩
theorem ofDrew (h : Upd S w.drew w') : Upd S w w' := ⟨h.os, h.tape, h.output, h.size, h.cells, h.rest⟩
theorem ofDrewN {n : Nat} (h : Upd S (w.drewN n) w') : Upd S w w' := ⟨h.os, h.tape, h.output, h.size, h.cells, h.rest⟩
theorem ofAlike (h : w'.Alike w'') (ht : w'.tape = w''.tape) (k : Upd S w w'') : Upd S w w' := by
  obtain ⟨h1, h2, h3⟩ := h
  refine ⟨?_, ht.trans k.tape, ?_, by rw [h1]; exact k.size, by rw [h1]; exact k.cells, by rw [h1]; exact k.rest⟩
  · first | exact h2.trans k.os | exact h3.trans k.os
  · first | exact h3.trans k.output | exact h2.trans k.output

theorem setCell (h : Upd S w w') {a : Addr} (ha : a.block < w.heap.size → S a.block a.off) (v : Value) : Upd S w (w'.setCell a v) := by
  refine ⟨h.os, h.tape, h.output, by simpa using h.size, ?_, ?_⟩
  · intro b c e fr hb
    obtain ⟨c1, h1, s1, o1⟩ := h.cells b c e fr hb
    have hlt : b < w.heap.size := (Array.getElem?_eq_some_iff.1 hb).1
    by_cases hab : a.block = b
    · subst hab
      refine ⟨if a.spot.isSome then c1 else c1.setIfInBounds a.off v, ?_, ?_, ?_⟩
      · simp [World.setCell, Array.getElem?_modify, h1]
      · split
        · exact s1
        · simpa using s1
      · intro o ho
        split
        · exact o1 o ho
        · rw [Array.getElem?_setIfInBounds, if_neg (fun (e : a.off = o) => ho (e ▸ ha hlt))]
          exact o1 o ho
    · exact ⟨c1, by rw [Below.heap_setCell _ _ _ _ (fun e => hab e.symm)]; exact h1, s1, o1⟩
  · intro b x hb hx
    have hr := h.rest b x hb hx
    by_cases hab : a.block = b
    · subst hab
      simp only [World.setCell, Array.getElem?_modify, if_true, hr, Option.map_some]
    · rw [Below.heap_setCell _ _ _ _ (fun e => hab e.symm)]; exact hr

theorem alloc (h : Upd S w w') (o : Obj) : Upd S w (w'.alloc o) := by
  refine ⟨h.os, h.tape, h.output, by have := h.size; simp; omega, ?_, ?_⟩
  · intro b c e fr hb
    obtain ⟨c1, h1, s1, o1⟩ := h.cells b c e fr hb
    have hlt : b < w'.heap.size := (Array.getElem?_eq_some_iff.1 h1).1
    exact ⟨c1, by rw [Below.heap_alloc _ _ _ hlt]; exact h1, s1, o1⟩
  · intro b x hb hx
    have hr := h.rest b x hb hx
    rw [Below.heap_alloc _ _ _ (Array.getElem?_eq_some_iff.1 hr).1]
    exact hr

theorem obj (h : Upd S w w') {b : Nat} (hb : b < w.heap.size) : (∃ c e fr c', w.heap[b]? = some (.cells c e fr) ∧ w'.heap[b]? = some (.cells c' e fr) ∧ c'.size = c.size ∧ ∀ o, ¬ S b o → c'[o]? = c[o]?) ∨ w'.heap[b]? = w.heap[b]? := by
  have hh : w.heap[b]? = some w.heap[b] := Array.getElem?_eq_getElem hb
  generalize w.heap[b] = x at hh
  by_cases hx : ∃ c e fr, x = .cells c e fr
  · obtain ⟨c, e, fr, rfl⟩ := hx
    obtain ⟨c1, h1, s1, o1⟩ := h.cells b c e fr hh
    exact .inl ⟨c, e, fr, c1, hh, h1, s1, o1⟩
  · exact .inr (by rw [hh]; exact h.rest b x hh (fun c e fr hc => hx ⟨c, e, fr, hc⟩))

theorem setRowAll (h : Upd S w w') {g : Nat} {old cs : Array Value} {t : TypeId} {fr : Nat × Nat} (hg : w'.heap[g]? = some (.cells old t fr)) (hs : cs.size = old.size) (hS : g < w.heap.size → ∀ o, S g o) : Upd S w (w'.setRow g cs) := by
  refine ⟨h.os, h.tape, h.output, by simpa using h.size, ?_, ?_⟩
  · intro b c e fr' hb
    obtain ⟨c1, h1, s1, o1⟩ := h.cells b c e fr' hb
    have hlt : b < w.heap.size := (Array.getElem?_eq_some_iff.1 hb).1
    by_cases hab : g = b
    · subst hab
      rw [hg] at h1
      injection h1 with h1
      injection h1 with e1 e2 e3
      subst e1 e2 e3
      exact ⟨cs, setRow_heap _ _ _ _ _ _ hg, hs.trans s1, fun o ho => absurd (hS hlt o) ho⟩
    · refine ⟨c1, ?_, s1, o1⟩
      simp only [World.setRow, Array.getElem?_modify, if_neg hab]
      exact h1
  · intro b x hb hx
    have hr := h.rest b x hb hx
    by_cases hab : g = b
    · subst hab
      rw [hg] at hr
      injection hr with hr
      exact absurd hr.symm (hx _ _ _)
    · simp only [World.setRow, Array.getElem?_modify, if_neg hab]
      exact hr

theorem cell (h : Upd S w w') {b o : Nat} (hb : b < w.heap.size) (hS : ¬ S b o) : w'.cell? ⟨b, o, none⟩ = w.cell? ⟨b, o, none⟩ := by
  rcases h.obj hb with ⟨c, e, fr, c1, hh, h1, _, o1⟩ | hh
  · simp [World.cell?, hh, h1, o1 o hS]
  · simp [World.cell?, hh]

theorem frozen (h : Upd S w w') {b o : Nat} (hb : b < w.heap.size) : w'.frozen? ⟨b, o, none⟩ = w.frozen? ⟨b, o, none⟩ := by
  rcases h.obj hb with ⟨c, e, fr, c1, hh, h1, _, o1⟩ | hh
  · simp [World.frozen?, hh, h1]
  · simp [World.frozen?, hh]

theorem block (h : Upd S w w') {b : Nat} (hb : b < w.heap.size) (hS : ∀ o, ¬ S b o) : w'.heap[b]? = w.heap[b]? := by
  rcases h.obj hb with ⟨c, e, fr, c1, hh, h1, _, o1⟩ | hh
  · rw [hh, h1, Array.ext_getElem? (fun o => o1 o (hS o))]
  · exact hh

theorem below (h : Upd S w w') {B : Nat} (hB : B ≤ w.heap.size) (hS : ∀ k o, k < B → ¬ S k o) : Below B w w' :=
  ⟨h.os, h.tape, h.output, h.size, fun k hk => h.block (by omega) (fun o => hS k o hk)⟩

/-- What is new may be left out of S. -/
theorem shrink (h : Upd S' w w') (hS : ∀ k o, k < w.heap.size → S' k o → S k o) : Upd S w w' := by
  refine ⟨h.os, h.tape, h.output, h.size, ?_, h.rest⟩
  intro b c e fr hb
  have hlt : b < w.heap.size := (Array.getElem?_eq_some_iff.1 hb).1
  obtain ⟨c1, h1, s1, o1⟩ := h.cells b c e fr hb
  exact ⟨c1, h1, s1, fun o ho => o1 o (fun hs => ho (hS b o hlt hs))⟩

end Upd

/-- n cells from off on in block b hold the integers g 0, g 1, .. and none is frozen. -/
def HoldsF (w : World) (b off n : Nat) (g : Nat → Int) : Prop :=
  ∀ j, j < n → w.cell? ⟨b, off + j, none⟩ = some (.int .i64 (g j)) ∧ w.frozen? ⟨b, off + j, none⟩ = false

/-- the cells that belong to such a row -/
def rowS (b off n : Nat) : Nat → Nat → Prop := fun k o => k = b ∧ off ≤ o ∧ o < off + n


namespace HoldsF
variable {w w' : World} {b off n : Nat} {g : Nat → Int}

theorem c (h : HoldsF w b off n g) (j : Nat) (hj : j < n) : w.cell? ⟨b, off + j, none⟩ = some (.int .i64 (g j)) := (h j hj).1
theorem f (h : HoldsF w b off n g) (j : Nat) (hj : j < n) : w.frozen? ⟨b, off + j, none⟩ = false := (h j hj).2
theorem lt (h : HoldsF w b off n g) (hn : 0 < n) : b < w.heap.size := World.block_lt_of_cell? w _ (h.c 0 hn)

theorem congr {g' : Nat → Int} (h : HoldsF w b off n g) (e : ∀ j, j < n → g j = g' j) : HoldsF w b off n g' :=
  fun j hj => ⟨by rw [h.c j hj, e j hj], h.f j hj⟩

theorem drewN (h : HoldsF w b off n g) (q : Nat) : HoldsF (w.drewN q) b off n g := h
theorem drew (h : HoldsF w b off n g) : HoldsF w.drew b off n g := h

theorem set (h : HoldsF w b off n g) {i : Nat} (hi : i < n) (v : Int) : HoldsF (w.setCell ⟨b, off + i, none⟩ (.int .i64 v)) b off n (upd g i v) := by
  intro j hj
  refine ⟨?_, ?_⟩
  · unfold upd
    by_cases e : j = i
    · subst e
      rw [if_pos rfl]
      exact World.cell?_setCell_same _ _ _ (h.c j hj)
    · rw [if_neg e, World.cell?_setCell_other _ _ _ _ (fun he => e (by injection he; omega))]
      exact h.c j hj
  · rw [World.frozen?_setCell]
    exact h.f j hj

theorem of_upd {S : Nat → Nat → Prop} (h : HoldsF w b off n g) (u : Upd S w w') (hS : ∀ j, j < n → ¬ S b (off + j)) : HoldsF w' b off n g := by
  intro j hj
  have hb : b < w.heap.size := World.block_lt_of_cell? w _ (h.c j hj)
  exact ⟨by rw [u.cell hb (hS j hj)]; exact h.c j hj, by rw [u.frozen hb]; exact h.f j hj⟩

theorem sub (h : HoldsF w b off n g) (i m : Nat) (hm : i + m ≤ n) : HoldsF w b (off + i) m (fun j => g (i + j)) := by
  intro j hj
  have := h (i + j) (by omega)
  rwa [← Nat.add_assoc] at this

end HoldsF

theorem Upd.setRow {w w' : World} {b off n i : Nat} (h : Upd (rowS b off n) w w') (hi : i < n) (v : Value) : Upd (rowS b off n) w (w'.setCell ⟨b, off + i, none⟩ v) :=
  h.setCell (fun _ => ⟨rfl, by simp, by simp; omega⟩) v

end Go.Coh

/- The walks over package set: methods that only read. -/
namespace Go.Proofs.Ytobniidkkmlilaa
open Go.RowKit Go.Coh

theorem ret_int {k : IntKind} {a b : Int} (h : a = b) : Ending.returned (.int k a) = .returned (.int k b) := by rw [h]

/-- A set lies at ⟨b, off⟩: how many ways, their lines, ages and ranks. -/
structure SetAt (w : World) (b off n : Nat) (L A R : Nat → Int) : Prop where
  cnt : w.cell? ⟨b, off, none⟩ = some (.int .i64 n)
  ln : HoldsF w b (off + 1) 8 L
  ag : HoldsF w b (off + 9) 8 A
  rk : HoldsF w b (off + 17) 8 R

set_option maxHeartbeats 400000 in
theorem possible_any (n : Int) (w : World) (h1 : 1 ≤ n) (h2 : n ≤ 8) :
    Calls Try.prog 91 #[.int .i64 n] w fun e w' => e = .returned (.int .i64 n) ∧ w' = w := by
  go_enter Try.func91, Try.ntmps91
  go_wp2
  go_ret
  exact ⟨rfl, rfl⟩

set_option maxHeartbeats 400000 in
theorem Find_any (b off n : Nat) (x : Int) (L A R : Nat → Int) (w : World) (hn : n ≤ 8) (H : SetAt w b off n L A R) :
    Calls Try.prog 92 #[.pointer (some ⟨b, off, none⟩), .int .i64 x] w fun e w' => e = .returned (.int .i64 (oi (findN L x n))) ∧ w' = w := by
  have hc := H.cnt
  have hl := H.ln
  clear H
  go_enter Try.func92, Try.ntmps92
  go_wp2
  go_loop [5] (fun i => ∃ k : Nat, k ≤ n ∧ i = .int .i64 k ∧ ∀ j, j < k → L j ≠ x) (fun i => n - (intOf i).toNat)
  case atStart => exact ⟨0, Nat.zero_le _, rfl, fun j hj => absurd hj (Nat.not_lt_zero _)⟩
  case round =>
    obtain ⟨k, hk, rfl, hno⟩ := hrel
    have HN : Hid (∀ j, j < k → L j ≠ x) := hno
    clear hno
    by_cases hlt : k < n
    · have hlk := hl.c k (by omega)
      by_cases e : L k = x
      · have HF : Hid (findN L x n = some k) := findN_some.2 ⟨hlt, e, HN.out⟩
        have he : (L k == x) = true := by simpa using e
        clear e
        go_wp2
        go_ret
        exact ⟨ret_int (by rw [HF.out]; rfl), rfl⟩
      · have he : (L k == x) = false := by simpa using e
        have HE : Hid (L k ≠ x) := e
        clear e
        go_wp2
        go_round
        case rel =>
          refine ⟨k + 1, by omega, by go_num, fun j hj => ?_⟩
          by_cases hjk : j = k
          · subst hjk; exact HE.out
          · exact HN.out j (by omega)
        case measure => simp [intOf]; omega
    · have HF : Hid (findN L x n = none) := findN_none.2 fun j hj => HN.out j (by omega)
      go_wp2
      go_ret
      exact ⟨ret_int (by rw [HF.out]; rfl), rfl⟩

set_option maxHeartbeats 400000 in
theorem oldest_any (b off n : Nat) (L A R : Nat → Int) (w : World) (hn : n ≤ 8) (hn0 : 0 < n) (H : SetAt w b off n L A R) :
    Calls Try.prog 119 #[.pointer (some ⟨b, off, none⟩)] w fun e w' => e = .returned (.int .i64 (oldestW n A)) ∧ ∃ q, w' = w.drewN q := by
  have hc := H.cnt
  have hl := H.ag
  clear H
  go_enter Try.func119, Try.ntmps119
  go_wp2
  go_loopw [3, 4] (fun r i wr => ∃ k q : Nat, k ≤ n ∧ r = .int .i64 (argm (fun i j => decide (A j < A i)) 0 k : Nat) ∧ i = .int .i64 k ∧ wr = w.drewN q) (fun _ i _ => n - (intOf i).toNat)
  case atStart => exact ⟨0, 0, Nat.zero_le _, rfl, rfl, rfl⟩
  case round =>
    obtain ⟨k, q, hk, rfl, rfl, rfl⟩ := hrel
    have hlr := argm_lt (fun i j => decide (A j < A i)) 0 k n (by omega) hn0
    have HS : Hid (argm (fun i j => decide (A j < A i)) 0 (k + 1) = if decide (A (argm (fun i j => decide (A j < A i)) 0 k) < A k) then k else argm (fun i j => decide (A j < A i)) 0 k) := by
      show (if _ then _ else _) = _
      simp only [Nat.zero_add]
    by_cases hlt : k < n
    · have hlk := hl.c k (by omega)
      have hla := hl.c (argm (fun i j => decide (A j < A i)) 0 k) (by omega)
      generalize argm (fun i j => decide (A j < A i)) 0 k = r at *
      go_wp2
      go_quiet (fail)
      go_wp2
      all_goals
        go_roundw
        case rel => exact ⟨k + 1, _, by omega, by rw [HS.out]; first | rw [if_pos (decide_eq_true ‹_›)] | rw [if_neg (by simp only [decide_eq_true_eq]; omega)], by go_num, rfl⟩
        case measure => simp [intOf]; omega
    · go_wp2
      go_ret
      exact ⟨ret_int (by rw [show k = n from by omega]; rfl), q, rfl⟩

set_option maxHeartbeats 400000 in
theorem youngest_any (b off n lo hi : Nat) (L A R : Nat → Int) (w : World) (hh : hi ≤ 8) (hl8 : lo < hi) (H : SetAt w b off n L A R) :
    Calls Try.prog 122 #[.pointer (some ⟨b, off, none⟩), .int .i64 lo, .int .i64 hi] w fun e w' => e = .returned (.int .i64 (argm (fun i j => decide (A i < A j)) lo (hi - lo) : Nat)) ∧ ∃ q, w' = w.drewN q := by
  have hl := H.ag
  clear H
  go_enter Try.func122, Try.ntmps122
  go_wp2
  go_loopw [7, 8] (fun r i wr => ∃ k q : Nat, lo + k ≤ hi ∧ r = .int .i64 (argm (fun i j => decide (A i < A j)) lo k : Nat) ∧ i = .int .i64 (lo + k : Nat) ∧ wr = w.drewN q) (fun _ i _ => hi - (intOf i).toNat)
  case atStart => exact ⟨0, 0, by omega, rfl, rfl, rfl⟩
  case round =>
    obtain ⟨k, q, hk, rfl, rfl, rfl⟩ := hrel
    have hlr := argm_lt (fun i j => decide (A i < A j)) lo k hi (by omega) hl8
    have HS : Hid (argm (fun i j => decide (A i < A j)) lo (k + 1) = if decide (A (lo + k) < A (argm (fun i j => decide (A i < A j)) lo k)) then lo + k else argm (fun i j => decide (A i < A j)) lo k) := rfl
    by_cases hlt : lo + k < hi
    · have hlk := hl.c (lo + k) (by omega)
      have hla := hl.c (argm (fun i j => decide (A i < A j)) lo k) (by omega)
      generalize argm (fun i j => decide (A i < A j)) lo k = r at *
      generalize hm : lo + k = m at *
      have HM : Hid (lo + k = m) := hm
      clear hm
      go_wp2
      go_quiet (fail)
      go_wp2
      all_goals
        go_roundw
        case rel => exact ⟨k + 1, _, by have := HM.out; omega, by rw [HS.out]; first | rw [if_pos (decide_eq_true ‹_›)] | rw [if_neg (by simp only [decide_eq_true_eq]; omega)], by have := HM.out; subst this; go_num, rfl⟩
        case measure => simp [intOf]; omega
    · go_wp2
      go_ret
      exact ⟨ret_int (by rw [show k = hi - lo from by omega]), q, rfl⟩

end Go.Proofs.Ytobniidkkmlilaa
