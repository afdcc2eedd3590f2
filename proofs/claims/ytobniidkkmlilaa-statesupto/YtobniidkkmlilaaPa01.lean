import Derived.WalkKit
import Derived.WalkSpells
import Derived.WalkSmall
import Derived.Deep.Draws

/- The plain functions that the set's methods compute. No program is named here. -/
namespace Go.Coh

/-- the first of the first n places at which x stands -/
def findN (L : Nat → Int) (x : Int) : Nat → Option Nat
  | 0 => none
  | n + 1 => match findN L x n with
    | some k => some k
    | none => if L n = x then some n else none

/-- a place, or -1 -/
def oi : Option Nat → Int
  | some k => k
  | none => -1

theorem findN_none {L : Nat → Int} {x : Int} : ∀ {n : Nat}, findN L x n = none ↔ ∀ j, j < n → L j ≠ x
  | 0 => by simp [findN]
  | n + 1 => by
    have ih := @findN_none L x n
    unfold findN
    cases h : findN L x n with
    | some k =>
      simp only [reduceCtorEq, false_iff]
      intro hall
      have : findN L x n = none := ih.2 fun j hj => hall j (by omega)
      rw [h] at this; cases this
    | none =>
      have hn := ih.1 h
      by_cases e : L n = x
      · simp only [e, if_true, reduceCtorEq, false_iff]
        intro hall; exact hall n (by omega) e
      · simp only [e, if_false, true_iff]
        intro j hj
        by_cases hjn : j = n
        · subst hjn; exact e
        · exact hn j (by omega)

theorem findN_some {L : Nat → Int} {x : Int} {k : Nat} : ∀ {n : Nat}, findN L x n = some k ↔ k < n ∧ L k = x ∧ ∀ j, j < k → L j ≠ x
  | 0 => by simp [findN]
  | n + 1 => by
    have ih := @findN_some L x k n
    unfold findN
    cases h : findN L x n with
    | some i =>
      have hi := (@findN_some L x i n).1 h
      simp only [Option.some.injEq]
      constructor
      · rintro rfl; exact ⟨by omega, hi.2⟩
      · rintro ⟨h1, h2, h3⟩
        by_cases hlt : i < k
        · exact absurd hi.2.1 (h3 i hlt)
        · by_cases hgt : k < i
          · exact absurd h2 (hi.2.2 k hgt)
          · omega
    | none =>
      have hn := findN_none.1 h
      by_cases e : L n = x
      · simp only [e, if_true, Option.some.injEq]
        constructor
        · rintro rfl; exact ⟨by omega, e, hn⟩
        · rintro ⟨h1, h2, h3⟩
          by_cases hkn : k < n
          · exact absurd h2 (hn k hkn)
          · omega
      · simp only [e, if_false, reduceCtorEq, false_iff]
        rintro ⟨h1, h2, h3⟩
        by_cases hkn : k = n
        · subst hkn; exact e h2
        · exact hn k (by omega) h2

/-- the place, of lo, lo+1, .. (k of them), that c likes best; lo where there is none -/
def argm (c : Nat → Nat → Bool) (lo : Nat) : Nat → Nat
  | 0 => lo
  | k + 1 => if c (lo + k) (argm c lo k) then lo + k else argm c lo k

theorem argm_bd (c : Nat → Nat → Bool) (lo : Nat) : ∀ k, lo ≤ argm c lo k ∧ (argm c lo k < lo + k ∨ argm c lo k = lo)
  | 0 => by simp [argm]
  | k + 1 => by
    have := argm_bd c lo k
    unfold argm
    split <;> omega

theorem argm_lt (c : Nat → Nat → Bool) (lo k m : Nat) (hk : lo + k ≤ m) (hlo : lo < m) : argm c lo k < m := by
  have := argm_bd c lo k
  omega

/-- behind 'touch way' -/
def touchA (n way : Nat) (A : Nat → Int) : Nat → Int := fun i => if i = way then 0 else if i < n ∧ A i < A way then A i + 1 else A i

/-- .. while it goes on, k ways are done -/
def touchTo (k : Nat) (before : Int) (A : Nat → Int) : Nat → Int := fun i => if i < k ∧ A i < before then A i + 1 else A i

/-- Tree: m halvings from low on -/
def leaf (A : Nat → Int) : Nat → Nat → Nat
  | 0, low => low
  | m + 1, low => leaf A m (if argm (fun i j => decide (A i < A j)) low (2 ^ (m + 1)) < low + 2 ^ m then low + 2 ^ m else low)

theorem leaf_bd (A : Nat → Int) : ∀ m low, low ≤ leaf A m low ∧ leaf A m low < low + 2 ^ m
  | 0, low => by simp [leaf]
  | m + 1, low => by
    unfold leaf
    have h := leaf_bd A m (if argm (fun i j => decide (A i < A j)) low (2 ^ (m + 1)) < low + 2 ^ m then low + 2 ^ m else low)
    have h2 : 2 ^ (m + 1) = 2 ^ m + 2 ^ m := by rw [Nat.pow_succ]; omega
    revert h
    split <;> intro h <;> omega

def oldestW (n : Nat) (A : Nat → Int) : Nat := argm (fun i j => decide (A j < A i)) 0 n
def liftR (k : Nat) (d : Int) (R : Nat → Int) : Nat → Int := fun i => if i < k then R i + d else R i

/-- how often a size can be halved -/
def lg (n : Nat) : Nat := if n = 8 then 3 else if n = 4 then 2 else if n = 2 then 1 else 0

/-- the victim's way, and the ranks behind the choice -/
def victimW (p n : Nat) (A R : Nat → Int) : Nat := if p = 0 then oldestW n A else if p = 1 then leaf A (lg n) 0 else oldestW n R
def victimR (p n : Nat) (R : Nat → Int) : Nat → Int := if p = 0 ∨ p = 1 then R else liftR n (3 - R (oldestW n R)) R

def Size (n : Nat) : Prop := n = 1 ∨ n = 2 ∨ n = 4 ∨ n = 8

theorem victimW_lt {p n : Nat} (A R : Nat → Int) (hn : Size n) : victimW p n A R < n := by
  have h0 : 0 < n := by rcases hn with h | h | h | h <;> omega
  unfold victimW oldestW
  split
  · exact argm_lt _ _ _ _ (by omega) h0
  · split
    · have := (leaf_bd A (lg n) 0).2
      have e : 2 ^ lg n = n := by rcases hn with rfl | rfl | rfl | rfl <;> rfl
      omega
    · exact argm_lt _ _ _ _ (by omega) h0

def upd (g : Nat → Int) (i : Nat) (v : Int) : Nat → Int := fun j => if j = i then v else g j

def putW (p n : Nat) (L A R : Nat → Int) : Nat := match findN L (-1) n with
  | some k => k
  | none => victimW p n A R
def putR (p n : Nat) (L R : Nat → Int) : Nat → Int := match findN L (-1) n with
  | some _ => R
  | none => victimR p n R

theorem putW_lt {p n : Nat} (L A R : Nat → Int) (hn : Size n) : putW p n L A R < n := by
  unfold putW
  cases h : findN L (-1) n with
  | some k => exact (findN_some.1 h).1
  | none => exact victimW_lt A R hn

/-- what Next answers, and the count behind it -/
def nextRank (p : Nat) (c : Int) : Int := if p ≠ 3 then 2 else if c + 1 < 8 then 3 else 2
def nextCount (p : Nat) (c : Int) : Int := if p ≠ 3 then c else if c + 1 < 8 then c + 1 else 0

/-- a new set of n ways, k of them done -/
def newL (k : Nat) : Nat → Int := fun j => if j < k then -1 else 0
def newA (k : Nat) : Nat → Int := fun j => if j < k then j else 0

/-- how things stand: lines, ages, ranks; how many lines Rare has put in since its last Often-th one -/
structure St where
  L : Nat → Int
  A : Nat → Int
  R : Nat → Int
  c : Int

/-- what comes of a touch -/
structure Tch where
  hit : Bool
  way : Nat
  out : Int

def tchT (p n : Nat) (x : Int) (s : St) : Tch := match findN s.L x n with
  | some k => ⟨true, k, -1⟩
  | none => ⟨false, putW p n s.L s.A s.R, s.L (putW p n s.L s.A s.R)⟩

def tchS (p n : Nat) (x : Int) (s : St) : St := match findN s.L x n with
  | some k => ⟨s.L, touchA n k s.A, upd s.R k 0, s.c⟩
  | none => ⟨upd s.L (putW p n s.L s.A s.R) x, touchA n (putW p n s.L s.A s.R) s.A, upd (putR p n s.L s.R) (putW p n s.L s.A s.R) (nextRank p s.c), nextCount p s.c⟩

def newS (n : Nat) : St := ⟨newL n, newA n, fun _ => 0, 0⟩

/-- the state behind the first k lines, and what comes of line k -/
def tchRun (p n : Nat) (xs : Nat → Int) : Nat → St
  | 0 => newS n
  | k + 1 => tchS p n (xs k) (tchRun p n xs k)
def tchRunT (p n : Nat) (xs : Nat → Int) (k : Nat) : Tch := tchT p n (xs k) (tchRun p n xs k)

/-- the bounds within which all stays -/
structure Bd (s : St) : Prop where
  a : ∀ j, 0 ≤ s.A j ∧ s.A j ≤ 100
  r : ∀ j, 0 ≤ s.R j ∧ s.R j ≤ 3
  c : 0 ≤ s.c ∧ s.c < 8

theorem argm_max (f : Nat → Int) (lo : Nat) : ∀ k j, lo ≤ j → j < lo + k → f j ≤ f (argm (fun i j => decide (f j < f i)) lo k)
  | 0, j, h1, h2 => by omega
  | k + 1, j, h1, h2 => by
    have ih := argm_max f lo k
    unfold argm
    by_cases h : f (argm (fun i j => decide (f j < f i)) lo k) < f (lo + k)
    · rw [if_pos (decide_eq_true h)]
      by_cases e : j = lo + k
      · subst e; exact Int.le_refl _
      · have := ih j h1 (by omega); omega
    · rw [if_neg (by simpa using h)]
      by_cases e : j = lo + k
      · subst e; omega
      · exact ih j h1 (by omega)

theorem touchA_bd {n way : Nat} {A : Nat → Int} (h : ∀ j, 0 ≤ A j ∧ A j ≤ 100) (j : Nat) : 0 ≤ touchA n way A j ∧ touchA n way A j ≤ 100 := by
  unfold touchA
  have h1 := h j
  have h2 := h way
  split
  · omega
  · split <;> omega

theorem putR_bd {p n : Nat} {L R : Nat → Int} (h : ∀ j, 0 ≤ R j ∧ R j ≤ 3) (j : Nat) : 0 ≤ putR p n L R j ∧ putR p n L R j ≤ 3 := by
  unfold putR
  cases findN L (-1) n with
  | some k => exact h j
  | none =>
    show 0 ≤ victimR p n R j ∧ victimR p n R j ≤ 3
    unfold victimR
    by_cases hp : p = 0 ∨ p = 1
    · rw [if_pos hp]; exact h j
    · rw [if_neg hp]
      unfold liftR
      have h1 := h j
      have h2 := h (oldestW n R)
      split
      · rename_i hj
        have h3 : R j ≤ R (oldestW n R) := argm_max R 0 n j (by omega) (by omega)
        omega
      · exact h1

theorem upd_bd {R : Nat → Int} {i : Nat} {v lo hi : Int} (h : ∀ j, lo ≤ R j ∧ R j ≤ hi) (hv : lo ≤ v ∧ v ≤ hi) (j : Nat) : lo ≤ upd R i v j ∧ upd R i v j ≤ hi := by
  unfold upd; split
  · exact hv
  · exact h j

theorem next_bd {p : Nat} {c : Int} (h : 0 ≤ c ∧ c < 8) : (0 ≤ nextRank p c ∧ nextRank p c ≤ 3) ∧ (0 ≤ nextCount p c ∧ nextCount p c < 8) := by
  unfold nextRank nextCount
  split
  · exact ⟨by omega, h⟩
  · split <;> omega

theorem Bd.step {p n : Nat} {x : Int} {s : St} (h : Bd s) : Bd (tchS p n x s) := by
  unfold tchS
  split
  · exact ⟨touchA_bd h.a, upd_bd h.r (by omega), h.c⟩
  · exact ⟨touchA_bd h.a, upd_bd (putR_bd h.r) (next_bd h.c).1, (next_bd h.c).2⟩

theorem Bd.new {n : Nat} (hn : n ≤ 8) : Bd (newS n) := by
  refine ⟨fun j => ?_, fun j => by simp [newS], by simp [newS]⟩
  show 0 ≤ newA n j ∧ newA n j ≤ 100
  unfold newA; split <;> omega

theorem Bd.run {p n : Nat} {xs : Nat → Int} (hn : n ≤ 8) : ∀ k, Bd (tchRun p n xs k)
  | 0 => Bd.new hn
  | k + 1 => (Bd.run hn k).step

theorem tchT_way {p n : Nat} {x : Int} {s : St} (hn : Size n) : (tchT p n x s).way < n := by
  unfold tchT
  cases h : findN s.L x n with
  | some k => exact (findN_some.1 h).1
  | none => exact putW_lt s.L s.A s.R hn

end Go.Coh

/- Worlds in which only some cells have turned, and rows of integers in memory. No program is named here. -/
namespace Go.Coh
open Go Go.RowKit

/-- Of what was there only cells in S may have turned; new blocks may have come. -/
structure Upd (S : Nat → Nat → Prop) (w w' : World) : Prop where
  os : w'.os = w.os
  tape : w'.tape = w.tape
  output : w'.output = w.output
  size : w.heap.size ≤ w'.heap.size
  cells : ∀ (k : Nat) (c : Array Value) (e : TypeId) (fr : Nat × Nat), w.heap[k]? = some (.cells c e fr) →
    ∃ c', w'.heap[k]? = some (.cells c' e fr) ∧ c'.size = c.size ∧ ∀ o, ¬ S k o → c'[o]? = c[o]?
  rest : ∀ (k : Nat) (x : Obj), w.heap[k]? = some x → (∀ c e fr, x ≠ .cells c e fr) → w'.heap[k]? = some x

namespace Upd
variable {S S' : Nat → Nat → Prop} {w w' w'' : World}

theorem refl (S : Nat → Nat → Prop) (w : World) : Upd S w w :=
  ⟨rfl, rfl, rfl, Nat.le_refl _, fun _ c _ _ h => ⟨c, h, rfl, fun _ _ => rfl⟩, fun _ _ h _ => h⟩

theorem trans (h : Upd S w w') (k : Upd S w' w'') : Upd S w w'' := by
  refine ⟨k.os.trans h.os, k.tape.trans h.tape, k.output.trans h.output, Nat.le_trans h.size k.size, ?_, ?_⟩
  · intro b c e fr hb
    obtain ⟨c1, h1, s1, o1⟩ := h.cells b c e fr hb
    obtain ⟨c2, h2, s2, o2⟩ := k.cells b c1 e fr h1
    exact ⟨c2, h2, s2.trans s1, fun o ho => (o2 o ho).trans (o1 o ho)⟩
  · intro b x hb hx
    exact k.rest b x (h.rest b x hb hx) hx

theorem mono (h : Upd S w w') (hS : ∀ k o, S k o → S' k o) : Upd S' w w' := by
  refine ⟨h.os, h.tape, h.output, h.size, ?_, ?_⟩
  · intro b c e fr hb
    obtain ⟨c1, h1, s1, o1⟩ := h.cells b c e fr hb
    exact ⟨c1, h1, s1, fun o ho => o1 o (fun hs => ho (hS _ _ hs))⟩
  · exact h.rest

theorem drew (h : Upd S w w') : Upd S w w'.drew := ⟨h.os, h.tape, h.output, h.size, h.cells, h.rest⟩
theorem drewN (h : Upd S w w') (n : Nat) : Upd S w (w'.drewN n) := ⟨h.os, h.tape, h.output, h.size, h.cells, h.rest⟩
theorem ofDrew (h : Upd S w.drew w') : Upd S w w' := ⟨h.os, h.tape, h.output, h.size, h.cells, h.rest⟩
theorem ofDrewN {n : Nat} (h : Upd S (w.drewN n) w') : Upd S w w' := ⟨h.os, h.tape, h.output, h.size, h.cells, h.rest⟩
theorem ofAlike (h : w'.Alike w'') (ht : w'.tape = w''.tape) (k : Upd S w w'') : Upd S w w' := by
  obtain ⟨h1, h2, h3⟩ := h
  refine ⟨?_, ht.trans k.tape, ?_, by rw [h1]; exact k.size, by rw [h1]; exact k.cells, by rw [h1]; exact k.rest⟩
  · first | exact h2.trans k.os | exact h3.trans k.os
  · first | exact h3.trans k.output | exact h2.trans k.output

theorem setCell (h : Upd S w w') {a : Addr} (ha : a.block < w.heap.size → S a.block a.off) (v : Value) : Upd S w (w'.setCell a v) := by
  refine ⟨h.os, h.tape, h.output, by simpa using h.size, ?_, ?_⟩
  · intro b c e fr hb
    obtain ⟨c1, h1, s1, o1⟩ := h.cells b c e fr hb
    have hlt : b < w.heap.size := (Array.getElem?_eq_some_iff.1 hb).1
    by_cases hab : a.block = b
    · subst hab
      refine ⟨if a.spot.isSome then c1 else c1.setIfInBounds a.off v, ?_, ?_, ?_⟩
      · simp [World.setCell, Array.getElem?_modify, h1]
      · split
        · exact s1
        · simpa using s1
      · intro o ho
        split
        · exact o1 o ho
        · rw [Array.getElem?_setIfInBounds, if_neg (fun (e : a.off = o) => ho (e ▸ ha hlt))]
          exact o1 o ho
    · exact ⟨c1, by rw [Below.heap_setCell _ _ _ _ (fun e => hab e.symm)]; exact h1, s1, o1⟩
  · intro b x hb hx
    have hr := h.rest b x hb hx
    by_cases hab : a.block = b
    · subst hab
      simp only [World.setCell, Array.getElem?_modify, if_true, hr, Option.map_some]
    · rw [Below.heap_setCell _ _ _ _ (fun e => hab e.symm)]; exact hr

theorem alloc (h : Upd S w w') (o : Obj) : Upd S w (w'.alloc o) := by
  refine ⟨h.os, h.tape, h.output, by have := h.size; simp; omega, ?_, ?_⟩
  · intro b c e fr hb
    obtain ⟨c1, h1, s1, o1⟩ := h.cells b c e fr hb
    have hlt : b < w'.heap.size := (Array.getElem?_eq_some_iff.1 h1).1
    exact ⟨c1, by rw [Below.heap_alloc _ _ _ hlt]; exact h1, s1, o1⟩
  · intro b x hb hx
    have hr := h.rest b x hb hx
    rw [Below.heap_alloc _ _ _ (Array.getElem?_eq_some_iff.1 hr).1]
    exact hr

theorem obj (h : Upd S w w') {b : Nat} (hb : b < w.heap.size) : (∃ c e fr c', w.heap[b]? = some (.cells c e fr) ∧ w'.heap[b]? = some (.cells c' e fr) ∧ c'.size = c.size ∧ ∀ o, ¬ S b o → c'[o]? = c[o]?) ∨ w'.heap[b]? = w.heap[b]? := by
  have hh : w.heap[b]? = some w.heap[b] := Array.getElem?_eq_getElem hb
  generalize w.heap[b] = x at hh
  by_cases hx : ∃ c e fr, x = .cells c e fr
  · obtain ⟨c, e, fr, rfl⟩ := hx
    obtain ⟨c1, h1, s1, o1⟩ := h.cells b c e fr hh
    exact .inl ⟨c, e, fr, c1, hh, h1, s1, o1⟩
  · exact .inr (by rw [hh]; exact h.rest b x hh (fun c e fr hc => hx ⟨c, e, fr, hc⟩))

theorem setRowAll (h : Upd S w w') {g : Nat} {old cs : Array Value} {t : TypeId} {fr : Nat × Nat} (hg : w'.heap[g]? = some (.cells old t fr)) (hs : cs.size = old.size) (hS : g < w.heap.size → ∀ o, S g o) : Upd S w (w'.setRow g cs) := by
  refine ⟨h.os, h.tape, h.output, by simpa using h.size, ?_, ?_⟩
  · intro b c e fr' hb
    obtain ⟨c1, h1, s1, o1⟩ := h.cells b c e fr' hb
    have hlt : b < w.heap.size := (Array.getElem?_eq_some_iff.1 hb).1
    by_cases hab : g = b
    · subst hab
      rw [hg] at h1
      injection h1 with h1
      injection h1 with e1 e2 e3
      subst e1 e2 e3
      exact ⟨cs, setRow_heap _ _ _ _ _ _ hg, hs.trans s1, fun o ho => absurd (hS hlt o) ho⟩
    · refine ⟨c1, ?_, s1, o1⟩
      simp only [World.setRow, Array.getElem?_modify, if_neg hab]
      exact h1
  · intro b x hb hx
    have hr := h.rest b x hb hx
    by_cases hab : g = b
    · subst hab
      rw [hg] at hr
      injection hr with hr
      exact absurd hr.symm (hx _ _ _)
    · simp only [World.setRow, Array.getElem?_modify, if_neg hab]
      exact hr

theorem cell (h : Upd S w w') {b o : Nat} (hb : b < w.heap.size) (hS : ¬ S b o) : w'.cell? ⟨b, o, none⟩ = w.cell? ⟨b, o, none⟩ := by
  rcases h.obj hb with ⟨c, e, fr, c1, hh, h1, _, o1⟩ | hh
  · simp [World.cell?, hh, h1, o1 o hS]
  · simp [World.cell?, hh]

theorem frozen (h : Upd S w w') {b o : Nat} (hb : b < w.heap.size) : w'.frozen? ⟨b, o, none⟩ = w.frozen? ⟨b, o, none⟩ := by
  rcases h.obj hb with ⟨c, e, fr, c1, hh, h1, _, o1⟩ | hh
  · simp [World.frozen?, hh, h1]
  · simp [World.frozen?, hh]

theorem block (h : Upd S w w') {b : Nat} (hb : b < w.heap.size) (hS : ∀ o, ¬ S b o) : w'.heap[b]? = w.heap[b]? := by
  rcases h.obj hb with ⟨c, e, fr, c1, hh, h1, _, o1⟩ | hh
  · rw [hh, h1, Array.ext_getElem? (fun o => o1 o (hS o))]
  · exact hh

theorem below (h : Upd S w w') {B : Nat} (hB : B ≤ w.heap.size) (hS : ∀ k o, k < B → ¬ S k o) : Below B w w' :=
  ⟨h.os, h.tape, h.output, h.size, fun k hk => h.block (by omega) (fun o => hS k o hk)⟩

/-- What is new may be left out of S. -/
theorem shrink (h : Upd S' w w') (hS : ∀ k o, k < w.heap.size → S' k o → S k o) : Upd S w w' := by
  refine ⟨h.os, h.tape, h.output, h.size, ?_, h.rest⟩
  intro b c e fr hb
  have hlt : b < w.heap.size := (Array.getElem?_eq_some_iff.1 hb).1
  obtain ⟨c1, h1, s1, o1⟩ := h.cells b c e fr hb
  exact ⟨c1, h1, s1, fun o ho => o1 o (fun hs => ho (hS b o hlt hs))⟩

end Upd

/-- n cells from off on in block b hold the integers g 0, g 1, .. and none is frozen. -/
def HoldsF (w : World) (b off n : Nat) (g : Nat → Int) : Prop :=
  ∀ j, j < n → w.cell? ⟨b, off + j, none⟩ = some (.int .i64 (g j)) ∧ w.frozen? ⟨b, off + j, none⟩ = false

/-- the cells that belong to such a row -/
def rowS (b off n : Nat) : Nat → Nat → Prop := fun k o => k = b ∧ off ≤ o ∧ o < off + n


namespace HoldsF
variable {w w' : World} {b off n : Nat} {g : Nat → Int}

theorem c (h : HoldsF w b off n g) (j : Nat) (hj : j < n) : w.cell? ⟨b, off + j, none⟩ = some (.int .i64 (g j)) := (h j hj).1
theorem f (h : HoldsF w b off n g) (j : Nat) (hj : j < n) : w.frozen? ⟨b, off + j, none⟩ = false := (h j hj).2
theorem lt (h : HoldsF w b off n g) (hn : 0 < n) : b < w.heap.size := World.block_lt_of_cell? w _ (h.c 0 hn)

theorem congr {g' : Nat → Int} (h : HoldsF w b off n g) (e : ∀ j, j < n → g j = g' j) : HoldsF w b off n g' :=
  fun j hj => ⟨by rw [h.c j hj, e j hj], h.f j hj⟩

theorem drewN (h : HoldsF w b off n g) (q : Nat) : HoldsF (w.drewN q) b off n g := h
theorem drew (h : HoldsF w b off n g) : HoldsF w.drew b off n g := h

theorem set (h : HoldsF w b off n g) {i : Nat} (hi : i < n) (v : Int) : HoldsF (w.setCell ⟨b, off + i, none⟩ (.int .i64 v)) b off n (upd g i v) := by
  intro j hj
  refine ⟨?_, ?_⟩
  · unfold upd
    by_cases e : j = i
    · subst e
      rw [if_pos rfl]
      exact World.cell?_setCell_same _ _ _ (h.c j hj)
    · rw [if_neg e, World.cell?_setCell_other _ _ _ _ (fun he => e (by injection he; omega))]
      exact h.c j hj
  · rw [World.frozen?_setCell]
    exact h.f j hj

theorem of_upd {S : Nat → Nat → Prop} (h : HoldsF w b off n g) (u : Upd S w w') (hS : ∀ j, j < n → ¬ S b (off + j)) : HoldsF w' b off n g := by
  intro j hj
  have hb : b < w.heap.size := World.block_lt_of_cell? w _ (h.c j hj)
  exact ⟨by rw [u.cell hb (hS j hj)]; exact h.c j hj, by rw [u.frozen hb]; exact h.f j hj⟩

theorem sub (h : HoldsF w b off n g) (i m : Nat) (hm : i + m ≤ n) : HoldsF w b (off + i) m (fun j => g (i + j)) := by
  intro j hj
  have := h (i + j) (by omega)
  rwa [← Nat.add_assoc] at this

end HoldsF

theorem Upd.setRow {w w' : World} {b off n i : Nat} (h : Upd (rowS b off n) w w') (hi : i < n) (v : Value) : Upd (rowS b off n) w (w'.setCell ⟨b, off + i, none⟩ v) :=
  h.setCell (fun _ => ⟨rfl, by simp, by simp; omega⟩) v

end Go.Coh
