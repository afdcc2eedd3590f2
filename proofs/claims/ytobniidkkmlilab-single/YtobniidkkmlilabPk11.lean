import Derived.Test.YtobniidkkmlilabPk10

/- The reference's machine in memory. -/
namespace Go.Proofs.Ytobniidkkmlilab
open Go.RowKit Go.Coh

/-- the reference's machine, as plain data; conf: Cores, Sets, Ways, Policy, LastSets, LastWays, LastPolicy; tally: Loads, Stores, Firsts, Lasts, Fetches, Upgrades, Takens, Backs, Writes, Psel -/
structure RM where
  cores : Nat
  conf : Nat → Int
  firsts : Nat → RC
  far : RC
  has : Nat → Nat → Int
  lasts : Nat → Int
  words : Nat → Int
  mem : Nat → Int
  tally : Nat → Int

/-- where it lies: block 0: the machine; 1: the row of first caches; 2, 3: the last cache and its ways; 4 + 2i, 5 + 2i: first cache i and its ways -/
structure Lay where
  blk : Nat → Nat
  capF : Nat
  farcap : Nat
  cc : Nat → Nat

structure RmAt (w : World) (y : Lay) (m : RM) : Prop where
  c0 : m.conf 0 = m.cores
  conf : HoldsF w (y.blk 0) 0 7 m.conf
  fs : w.cell? ⟨y.blk 0, 7, none⟩ = some (.slice (some ⟨y.blk 1, 0, none⟩) m.cores y.capF)
  fr : w.cell? ⟨y.blk 0, 8, none⟩ = some (.pointer (some ⟨y.blk 2, 0, none⟩))
  has : ∀ i l, i < 4 → l < 64 → w.cell? ⟨y.blk 0, 9 + i * 64 + l, none⟩ = some (.int .i64 (m.has i l))
  lasts : HoldsF w (y.blk 0) 265 64 m.lasts
  words : HoldsF w (y.blk 0) 329 256 m.words
  mem : HoldsF w (y.blk 0) 585 256 m.mem
  tally : HoldsF w (y.blk 0) 841 10 m.tally
  bf : ∀ o, w.frozen? ⟨y.blk 0, o, none⟩ = false
  row : ∀ i, i < m.cores → w.cell? ⟨y.blk 1, i, none⟩ = some (.pointer (some ⟨y.blk (4 + 2 * i), 0, none⟩))
  first : ∀ i, i < m.cores → RefAt w (y.blk (4 + 2 * i)) (y.blk (5 + 2 * i)) (y.cc i) (m.firsts i)
  far : RefAt w (y.blk 2) (y.blk 3) y.farcap m.far
  inj : ∀ p q, p < 4 + 2 * m.cores → q < 4 + 2 * m.cores → y.blk p = y.blk q → p = q
  lt : ∀ p, p < 4 + 2 * m.cores → y.blk p < w.heap.size

section
variable {w w' : World} {y : Lay} {m : RM}

theorem HoldsF.keepN {b b' o' off n : Nat} {g : Nat → Int} {v : Value} (h : HoldsF w b off n g) (hne : b ≠ b' ∨ ∀ j, j < n → off + j ≠ o') : HoldsF (w.setCell ⟨b', o', none⟩ v) b off n g := fun j hj =>
  ⟨by rw [cell_set_ne (by rcases hne with e | e; exact .inl (Ne.symm e); exact .inr (Ne.symm (e j hj)))]; exact h.c j hj, by rw [World.frozen?_setCell]; exact h.f j hj⟩

theorem RefAt.keepN {b g cap b' o' : Nat} {s : RC} {v : Value} (h : RefAt w b g cap s) (h1 : b' ≠ b) (h2 : b' ≠ g) : RefAt (w.setCell ⟨b', o', none⟩ v) b g cap s := by
  have kb : ∀ o, (w.setCell ⟨b', o', none⟩ v).cell? ⟨b, o, none⟩ = w.cell? ⟨b, o, none⟩ := fun o => cell_set_ne (.inl h1)
  have kg : ∀ o, (w.setCell ⟨b', o', none⟩ v).cell? ⟨g, o, none⟩ = w.cell? ⟨g, o, none⟩ := fun o => cell_set_ne (.inl h2)
  exact ⟨h.ne, by rw [kb]; exact h.c0, by rw [kb]; exact h.c1, by rw [kb]; exact h.c2, by rw [kb]; exact h.c3, by rw [kb]; exact h.c4, by rw [kb]; exact h.c5, by rw [kb]; exact h.c6,
    fun o => by rw [World.frozen?_setCell]; exact h.bf o, fun o => by rw [World.frozen?_setCell]; exact h.gf o, fun i hi => by rw [kg]; exact h.ln i hi, fun i hi => by rw [kg]; exact h.st i hi, fun i hi => by rw [kg]; exact h.rk i hi⟩

theorem RmAt.bne (h : RmAt w y m) {p : Nat} (hp : p < 4 + 2 * m.cores) (h0 : p ≠ 0) : y.blk 0 ≠ y.blk p := fun e => h0 (h.inj 0 p (by omega) hp e).symm

/-- a store into the machine's own block -/
theorem RmAt.set0 (h : RmAt w y m) (o : Nat) (v : Int) (m' : RM) (hc : m'.cores = m.cores ∧ m'.conf = m.conf ∧ m'.firsts = m.firsts ∧ m'.far = m.far) (ho : 9 ≤ o)
    (h1 : ∀ i l, i < 4 → l < 64 → m'.has i l = if o = 9 + i * 64 + l then v else m.has i l) (h2 : ∀ j, j < 64 → m'.lasts j = if o = 265 + j then v else m.lasts j)
    (h3 : ∀ j, j < 256 → m'.words j = if o = 329 + j then v else m.words j) (h4 : ∀ j, j < 256 → m'.mem j = if o = 585 + j then v else m.mem j) (h5 : ∀ j, j < 10 → m'.tally j = if o = 841 + j then v else m.tally j) :
    RmAt (w.setCell ⟨y.blk 0, o, none⟩ (.int .i64 v)) y m' := by
  obtain ⟨e1, e2, e3, e4⟩ := hc
  have key : ∀ o' z u, w.cell? ⟨y.blk 0, o', none⟩ = some (.int .i64 z) → u = (if o = o' then v else z) → (w.setCell ⟨y.blk 0, o, none⟩ (.int .i64 v)).cell? ⟨y.blk 0, o', none⟩ = some (.int .i64 u) := by
    intro o' z u hz hu
    by_cases e : o = o'
    · subst e; rw [World.cell?_setCell_same _ _ _ hz, hu, if_pos rfl]
    · rw [cell_set_ne (.inr e), hz, hu, if_neg e]
  have fz : ∀ a, (w.setCell ⟨y.blk 0, o, none⟩ (.int .i64 v)).frozen? a = w.frozen? a := fun a => World.frozen?_setCell _ _ _ _
  refine ⟨by rw [e1, e2]; exact h.c0, ?_, by rw [e1, cell_set_ne (.inr (by omega))]; exact h.fs, by rw [cell_set_ne (.inr (by omega))]; exact h.fr, fun i l hi hl => key _ _ _ (h.has i l hi hl) (h1 i l hi hl), ?_, ?_, ?_, ?_, fun o' => by rw [fz]; exact h.bf o', ?_, ?_, ?_, ?_, ?_⟩
  · rw [e2]; exact HoldsF.keepN h.conf (.inr fun j hj => by omega)
  · exact fun j hj => ⟨key _ _ _ (h.lasts.c j hj) (h2 j hj), by rw [fz]; exact h.lasts.f j hj⟩
  · exact fun j hj => ⟨key _ _ _ (h.words.c j hj) (h3 j hj), by rw [fz]; exact h.words.f j hj⟩
  · exact fun j hj => ⟨key _ _ _ (h.mem.c j hj) (h4 j hj), by rw [fz]; exact h.mem.f j hj⟩
  · exact fun j hj => ⟨key _ _ _ (h.tally.c j hj) (h5 j hj), by rw [fz]; exact h.tally.f j hj⟩
  · intro i hi; rw [e1] at hi; rw [cell_set_ne (.inl (h.bne (p := 1) (by omega) (by omega)))]; exact h.row i hi
  · intro i hi; rw [e1] at hi; rw [e3]; exact RefAt.keepN (h.first i hi) (h.bne (p := 4 + 2 * i) (by omega) (by omega)) (h.bne (p := 5 + 2 * i) (by omega) (by omega))
  · rw [e4]; exact RefAt.keepN h.far (h.bne (p := 2) (by omega) (by omega)) (h.bne (p := 3) (by omega) (by omega))
  · rw [e1]; exact h.inj
  · rw [e1]; intro p hp; simpa using h.lt p hp

def updC (f : Nat → RC) (i : Nat) (r : RC) : Nat → RC := fun j => if j = i then r else f j

/-- first cache i has done something -/
theorem RmAt.setFirst (h : RmAt w y m) {i : Nat} (hi : i < m.cores) {r : RC} (hr : RefAt w' (y.blk (4 + 2 * i)) (y.blk (5 + 2 * i)) (y.cc i) r) (u : Upd (refS (y.blk (4 + 2 * i)) (y.blk (5 + 2 * i))) w w') :
    RmAt w' y { m with firsts := updC m.firsts i r } := by
  have no2 : ∀ p, p < 4 + 2 * m.cores → p ≠ 4 + 2 * i → p ≠ 5 + 2 * i → ∀ o, ¬ refS (y.blk (4 + 2 * i)) (y.blk (5 + 2 * i)) (y.blk p) o := fun p hp h1 h2 o hs => by
    rcases hs with e | e
    · exact h1 (h.inj p _ hp (by omega) e)
    · exact h2 (h.inj p _ hp (by omega) e)
  have l0 := h.lt 0 (by omega)
  have k0 := fun o => no2 0 (by omega) (by omega) (by omega) o
  refine ⟨h.c0, h.conf.of_upd u (fun j _ => k0 _), by rw [u.cell l0 (k0 _)]; exact h.fs, by rw [u.cell l0 (k0 _)]; exact h.fr, fun a l ha hl => by rw [u.cell l0 (k0 _)]; exact h.has a l ha hl, h.lasts.of_upd u (fun j _ => k0 _), h.words.of_upd u (fun j _ => k0 _), h.mem.of_upd u (fun j _ => k0 _), h.tally.of_upd u (fun j _ => k0 _), fun o => by rw [u.frozen l0]; exact h.bf o, fun j hj => ?_, fun j hj => ?_, ?_, h.inj, fun p hp => Nat.lt_of_lt_of_le (h.lt p hp) u.size⟩
  · have hj' : j < m.cores := hj
    rw [u.cell (h.lt 1 (by omega)) (no2 1 (by omega) (by omega) (by omega) _)]; exact h.row j hj
  · have hj' : j < m.cores := hj
    show RefAt w' _ _ _ (updC m.firsts i r j)
    unfold updC
    by_cases e : j = i
    · subst e; rw [if_pos rfl]; exact hr
    · rw [if_neg e]
      exact (h.first j hj).of_upd u (h.lt (5 + 2 * j) (by omega)) (no2 (4 + 2 * j) (by omega) (by omega) (by omega)) (no2 (5 + 2 * j) (by omega) (by omega) (by omega))
  · exact h.far.of_upd u (h.lt 3 (by omega)) (no2 2 (by omega) (by omega) (by omega)) (no2 3 (by omega) (by omega) (by omega))

/-- the last cache has done something -/
theorem RmAt.setFar (h : RmAt w y m) {r : RC} (hr : RefAt w' (y.blk 2) (y.blk 3) y.farcap r) (u : Upd (refS (y.blk 2) (y.blk 3)) w w') : RmAt w' y { m with far := r } := by
  have no2 : ∀ p, p < 4 + 2 * m.cores → p ≠ 2 → p ≠ 3 → ∀ o, ¬ refS (y.blk 2) (y.blk 3) (y.blk p) o := fun p hp h1 h2 o hs => by
    rcases hs with e | e
    · exact h1 (h.inj p _ hp (by omega) e)
    · exact h2 (h.inj p _ hp (by omega) e)
  have l0 := h.lt 0 (by omega)
  have k0 := fun o => no2 0 (by omega) (by omega) (by omega) o
  refine ⟨h.c0, h.conf.of_upd u (fun j _ => k0 _), by rw [u.cell l0 (k0 _)]; exact h.fs, by rw [u.cell l0 (k0 _)]; exact h.fr, fun a l ha hl => by rw [u.cell l0 (k0 _)]; exact h.has a l ha hl, h.lasts.of_upd u (fun j _ => k0 _), h.words.of_upd u (fun j _ => k0 _), h.mem.of_upd u (fun j _ => k0 _), h.tally.of_upd u (fun j _ => k0 _), fun o => by rw [u.frozen l0]; exact h.bf o, fun j hj => ?_, fun j hj => ?_, hr, h.inj, fun p hp => Nat.lt_of_lt_of_le (h.lt p hp) u.size⟩
  · have hj' : j < m.cores := hj
    rw [u.cell (h.lt 1 (by omega)) (no2 1 (by omega) (by omega) (by omega) _)]; exact h.row j hj
  · have hj' : j < m.cores := hj
    exact (h.first j hj).of_upd u (h.lt (5 + 2 * j) (by omega)) (no2 (4 + 2 * j) (by omega) (by omega) (by omega)) (no2 (5 + 2 * j) (by omega) (by omega) (by omega))

theorem RmAt.drewN (h : RmAt w y m) (q : Nat) : RmAt (w.drewN q) y m := ⟨h.c0, h.conf, h.fs, h.fr, h.has, h.lasts, h.words, h.mem, h.tally, h.bf, h.row, fun i hi => (h.first i hi).drewN q, h.far.drewN q, h.inj, h.lt⟩
theorem RmAt.drew (h : RmAt w y m) : RmAt w.drew y m := ⟨h.c0, h.conf, h.fs, h.fr, h.has, h.lasts, h.words, h.mem, h.tally, h.bf, h.row, fun i hi => (h.first i hi).drew, h.far.drew, h.inj, h.lt⟩
end

end Go.Proofs.Ytobniidkkmlilab

/- The walks over the reference's machine: refuses, near. -/
namespace Go.Proofs.Ytobniidkkmlilab
open Go.RowKit Go.Coh

/-- the errors of Load and Store -/
def refE (cores : Nat) (core addr : Int) : Int := if core < 0 ∨ core ≥ cores then 6 else if addr < 0 ∨ addr ≥ 256 then 8 else 0

set_option maxHeartbeats 1000000 in
theorem refRefuses_nil (c a : Int) (w : World) :
    Calls Try.prog 67 #[.pointer none, .int .i64 c, .int .i64 a] w fun e w' => e = .returned (.int .i64 1) ∧ w' = w := by
  go_enter Try.func67, Try.ntmps67
  go_wp2
  go_ret
  exact ⟨rfl, rfl⟩

set_option maxHeartbeats 1000000 in
theorem refRefuses_any (y : Lay) (m : RM) (c a : Int) (w : World) (H : RmAt w y m) :
    Calls Try.prog 67 #[.pointer (some ⟨y.blk 0, 0, none⟩), .int .i64 c, .int .i64 a] w fun e w' => e = .returned (.int .i64 (refE m.cores c a)) ∧ w' = w := by
  have h0 := H.conf.c 0 (by omega)
  rw [H.c0] at h0
  clear H
  generalize y.blk 0 = b at *
  generalize m.cores = n at *
  by_cases h1 : c < 0
  · have HF : Hid (refE n c a = 6) := by show _ = _; unfold refE; rw [if_pos (.inl h1)]
    go_enter Try.func67, Try.ntmps67
    go_wp2
    go_ret
    exact ⟨ret_int HF.out.symm, rfl⟩
  · by_cases h2 : c ≥ n
    · have HF : Hid (refE n c a = 6) := by show _ = _; unfold refE; rw [if_pos (.inr h2)]
      go_enter Try.func67, Try.ntmps67
      go_wp2
      go_ret
      exact ⟨ret_int HF.out.symm, rfl⟩
    · by_cases h3 : a < 0
      · have HF : Hid (refE n c a = 8) := by show _ = _; unfold refE; rw [if_neg (by omega), if_pos (.inl h3)]
        go_enter Try.func67, Try.ntmps67
        go_wp2
        go_ret
        exact ⟨ret_int HF.out.symm, rfl⟩
      · by_cases h4 : a ≥ 256
        · have HF : Hid (refE n c a = 8) := by show _ = _; unfold refE; rw [if_neg (by omega), if_pos (.inr h4)]
          go_enter Try.func67, Try.ntmps67
          go_wp2
          go_ret
          exact ⟨ret_int HF.out.symm, rfl⟩
        · have HF : Hid (refE n c a = 0) := by show _ = _; unfold refE; rw [if_neg (by omega), if_neg (by omega)]
          go_enter Try.func67, Try.ntmps67
          go_wp2
          go_ret
          exact ⟨ret_int HF.out.symm, rfl⟩

end Go.Proofs.Ytobniidkkmlilab
