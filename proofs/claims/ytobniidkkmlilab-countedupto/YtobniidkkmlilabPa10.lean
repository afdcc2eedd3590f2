import Derived.Test.YtobniidkkmlilabPa09

/- The reference's machine in memory. -/
namespace Go.Proofs.Ytobniidkkmlilab
open Go.RowKit Go.Coh

/-- the reference's machine, as plain data; conf: Cores, Sets, Ways, Policy, LastSets, LastWays, LastPolicy; tally: Loads, Stores, Firsts, Lasts, Fetches, Upgrades, Takens, Backs, Writes, Psel -/
structure RM where
  cores : Nat
  conf : Nat → Int
  firsts : Nat → RC
  far : RC
  has : Nat → Nat → Int
  lasts : Nat → Int
  words : Nat → Int
  mem : Nat → Int
  tally : Nat → Int

/-- where it lies: block 0: the machine; 1: the row of first caches; 2, 3: the last cache and its ways; 4 + 2i, 5 + 2i: first cache i and its ways -/
structure Lay where
  blk : Nat → Nat
  capF : Nat
  farcap : Nat
  cc : Nat → Nat

structure RmAt (w : World) (y : Lay) (m : RM) : Prop where
  c0 : m.conf 0 = m.cores
  conf : HoldsF w (y.blk 0) 0 7 m.conf
  fs : w.cell? ⟨y.blk 0, 7, none⟩ = some (.slice (some ⟨y.blk 1, 0, none⟩) m.cores y.capF)
  fr : w.cell? ⟨y.blk 0, 8, none⟩ = some (.pointer (some ⟨y.blk 2, 0, none⟩))
  has : ∀ i l, i < 4 → l < 64 → w.cell? ⟨y.blk 0, 9 + i * 64 + l, none⟩ = some (.int .i64 (m.has i l))
  lasts : HoldsF w (y.blk 0) 265 64 m.lasts
  words : HoldsF w (y.blk 0) 329 256 m.words
  mem : HoldsF w (y.blk 0) 585 256 m.mem
  tally : HoldsF w (y.blk 0) 841 10 m.tally
  bf : ∀ o, w.frozen? ⟨y.blk 0, o, none⟩ = false
  row : ∀ i, i < m.cores → w.cell? ⟨y.blk 1, i, none⟩ = some (.pointer (some ⟨y.blk (4 + 2 * i), 0, none⟩))
  first : ∀ i, i < m.cores → RefAt w (y.blk (4 + 2 * i)) (y.blk (5 + 2 * i)) (y.cc i) (m.firsts i)
  far : RefAt w (y.blk 2) (y.blk 3) y.farcap m.far
  inj : ∀ p q, p < 4 + 2 * m.cores → q < 4 + 2 * m.cores → y.blk p = y.blk q → p = q
  lt : ∀ p, p < 4 + 2 * m.cores → y.blk p < w.heap.size

section
variable {w w' : World} {y : Lay} {m : RM}

theorem HoldsF.keepN {b b' o' off n : Nat} {g : Nat → Int} {v : Value} (h : HoldsF w b off n g) (hne : b ≠ b' ∨ ∀ j, j < n → off + j ≠ o') : HoldsF (w.setCell ⟨b', o', none⟩ v) b off n g := fun j hj =>
  ⟨by rw [cell_set_ne (by rcases hne with e | e; exact .inl (Ne.symm e); exact .inr (Ne.symm (e j hj)))]; exact h.c j hj, by rw [World.frozen?_setCell]; exact h.f j hj⟩

theorem RefAt.keepN {b g cap b' o' : Nat} {s : RC} {v : Value} (h : RefAt w b g cap s) (h1 : b' ≠ b) (h2 : b' ≠ g) : RefAt (w.setCell ⟨b', o', none⟩ v) b g cap s := by
  have kb : ∀ o, (w.setCell ⟨b', o', none⟩ v).cell? ⟨b, o, none⟩ = w.cell? ⟨b, o, none⟩ := fun o => cell_set_ne (.inl h1)
  have kg : ∀ o, (w.setCell ⟨b', o', none⟩ v).cell? ⟨g, o, none⟩ = w.cell? ⟨g, o, none⟩ := fun o => cell_set_ne (.inl h2)
  exact ⟨h.ne, by rw [kb]; exact h.c0, by rw [kb]; exact h.c1, by rw [kb]; exact h.c2, by rw [kb]; exact h.c3, by rw [kb]; exact h.c4, by rw [kb]; exact h.c5, by rw [kb]; exact h.c6,
    fun o => by rw [World.frozen?_setCell]; exact h.bf o, fun o => by rw [World.frozen?_setCell]; exact h.gf o, fun i hi => by rw [kg]; exact h.ln i hi, fun i hi => by rw [kg]; exact h.st i hi, fun i hi => by rw [kg]; exact h.rk i hi⟩

theorem RmAt.bne (h : RmAt w y m) {p : Nat} (hp : p < 4 + 2 * m.cores) (h0 : p ≠ 0) : y.blk 0 ≠ y.blk p := fun e => h0 (h.inj 0 p (by omega) hp e).symm

/-- a store into the machine's own block -/
theorem RmAt.set0 (h : RmAt w y m) (o : Nat) (v : Int) (m' : RM) (hc : m'.cores = m.cores ∧ m'.conf = m.conf ∧ m'.firsts = m.firsts ∧ m'.far = m.far) (ho : 9 ≤ o)
    (h1 : ∀ i l, i < 4 → l < 64 → m'.has i l = if o = 9 + i * 64 + l then v else m.has i l) (h2 : ∀ j, j < 64 → m'.lasts j = if o = 265 + j then v else m.lasts j)
    (h3 : ∀ j, j < 256 → m'.words j = if o = 329 + j then v else m.words j) (h4 : ∀ j, j < 256 → m'.mem j = if o = 585 + j then v else m.mem j) (h5 : ∀ j, j < 10 → m'.tally j = if o = 841 + j then v else m.tally j) :
    RmAt (w.setCell ⟨y.blk 0, o, none⟩ (.int .i64 v)) y m' := by
  obtain ⟨e1, e2, e3, e4⟩ := hc
  have key : ∀ o' z u, w.cell? ⟨y.blk 0, o', none⟩ = some (.int .i64 z) → u = (if o = o' then v else z) → (w.setCell ⟨y.blk 0, o, none⟩ (.int .i64 v)).cell? ⟨y.blk 0, o', none⟩ = some (.int .i64 u) := by
    intro o' z u hz hu
    by_cases e : o = o'
    · subst e; rw [World.cell?_setCell_same _ _ _ hz, hu, if_pos rfl]
    · rw [cell_set_ne (.inr e), hz, hu, if_neg e]
  have fz : ∀ a, (w.setCell ⟨y.blk 0, o, none⟩ (.int .i64 v)).frozen? a = w.frozen? a := fun a => World.frozen?_setCell _ _ _ _
  refine ⟨by rw [e1, e2]; exact h.c0, ?_, by rw [e1, cell_set_ne (.inr (by omega))]; exact h.fs, by rw [cell_set_ne (.inr (by omega))]; exact h.fr, fun i l hi hl => key _ _ _ (h.has i l hi hl) (h1 i l hi hl), ?_, ?_, ?_, ?_, fun o' => by rw [fz]; exact h.bf o', ?_, ?_, ?_, ?_, ?_⟩
  · rw [e2]; exact HoldsF.keepN h.conf (.inr fun j hj => by omega)
  · exact fun j hj => ⟨key _ _ _ (h.lasts.c j hj) (h2 j hj), by rw [fz]; exact h.lasts.f j hj⟩
  · exact fun j hj => ⟨key _ _ _ (h.words.c j hj) (h3 j hj), by rw [fz]; exact h.words.f j hj⟩
  · exact fun j hj => ⟨key _ _ _ (h.mem.c j hj) (h4 j hj), by rw [fz]; exact h.mem.f j hj⟩
  · exact fun j hj => ⟨key _ _ _ (h.tally.c j hj) (h5 j hj), by rw [fz]; exact h.tally.f j hj⟩
  · intro i hi; rw [e1] at hi; rw [cell_set_ne (.inl (h.bne (p := 1) (by omega) (by omega)))]; exact h.row i hi
  · intro i hi; rw [e1] at hi; rw [e3]; exact RefAt.keepN (h.first i hi) (h.bne (p := 4 + 2 * i) (by omega) (by omega)) (h.bne (p := 5 + 2 * i) (by omega) (by omega))
  · rw [e4]; exact RefAt.keepN h.far (h.bne (p := 2) (by omega) (by omega)) (h.bne (p := 3) (by omega) (by omega))
  · rw [e1]; exact h.inj
  · rw [e1]; intro p hp; simpa using h.lt p hp

def updC (f : Nat → RC) (i : Nat) (r : RC) : Nat → RC := fun j => if j = i then r else f j

/-- first cache i has done something -/
theorem RmAt.setFirst (h : RmAt w y m) {i : Nat} (hi : i < m.cores) {r : RC} (hr : RefAt w' (y.blk (4 + 2 * i)) (y.blk (5 + 2 * i)) (y.cc i) r) (u : Upd (refS (y.blk (4 + 2 * i)) (y.blk (5 + 2 * i))) w w') :
    RmAt w' y { m with firsts := updC m.firsts i r } := by
  have no2 : ∀ p, p < 4 + 2 * m.cores → p ≠ 4 + 2 * i → p ≠ 5 + 2 * i → ∀ o, ¬ refS (y.blk (4 + 2 * i)) (y.blk (5 + 2 * i)) (y.blk p) o := fun p hp h1 h2 o hs => by
    rcases hs with e | e
    · exact h1 (h.inj p _ hp (by omega) e)
    · exact h2 (h.inj p _ hp (by omega) e)
  have l0 := h.lt 0 (by omega)
  have k0 := fun o => no2 0 (by omega) (by omega) (by omega) o
  refine ⟨h.c0, h.conf.of_upd u (fun j _ => k0 _), by rw [u.cell l0 (k0 _)]; exact h.fs, by rw [u.cell l0 (k0 _)]; exact h.fr, fun a l ha hl => by rw [u.cell l0 (k0 _)]; exact h.has a l ha hl, h.lasts.of_upd u (fun j _ => k0 _), h.words.of_upd u (fun j _ => k0 _), h.mem.of_upd u (fun j _ => k0 _), h.tally.of_upd u (fun j _ => k0 _), fun o => by rw [u.frozen l0]; exact h.bf o, fun j hj => ?_, fun j hj => ?_, ?_, h.inj, fun p hp => Nat.lt_of_lt_of_le (h.lt p hp) u.size⟩
  · have hj' : j < m.cores := hj
    rw [u.cell (h.lt 1 (by omega)) (no2 1 (by omega) (by omega) (by omega) _)]; exact h.row j hj
  · have hj' : j < m.cores := hj
    show RefAt w' _ _ _ (updC m.firsts i r j)
    unfold updC
    by_cases e : j = i
    · subst e; rw [if_pos rfl]; exact hr
    · rw [if_neg e]
      exact (h.first j hj).of_upd u (h.lt (5 + 2 * j) (by omega)) (no2 (4 + 2 * j) (by omega) (by omega) (by omega)) (no2 (5 + 2 * j) (by omega) (by omega) (by omega))
  · exact h.far.of_upd u (h.lt 3 (by omega)) (no2 2 (by omega) (by omega) (by omega)) (no2 3 (by omega) (by omega) (by omega))

/-- the last cache has done something -/
theorem RmAt.setFar (h : RmAt w y m) {r : RC} (hr : RefAt w' (y.blk 2) (y.blk 3) y.farcap r) (u : Upd (refS (y.blk 2) (y.blk 3)) w w') : RmAt w' y { m with far := r } := by
  have no2 : ∀ p, p < 4 + 2 * m.cores → p ≠ 2 → p ≠ 3 → ∀ o, ¬ refS (y.blk 2) (y.blk 3) (y.blk p) o := fun p hp h1 h2 o hs => by
    rcases hs with e | e
    · exact h1 (h.inj p _ hp (by omega) e)
    · exact h2 (h.inj p _ hp (by omega) e)
  have l0 := h.lt 0 (by omega)
  have k0 := fun o => no2 0 (by omega) (by omega) (by omega) o
  refine ⟨h.c0, h.conf.of_upd u (fun j _ => k0 _), by rw [u.cell l0 (k0 _)]; exact h.fs, by rw [u.cell l0 (k0 _)]; exact h.fr, fun a l ha hl => by rw [u.cell l0 (k0 _)]; exact h.has a l ha hl, h.lasts.of_upd u (fun j _ => k0 _), h.words.of_upd u (fun j _ => k0 _), h.mem.of_upd u (fun j _ => k0 _), h.tally.of_upd u (fun j _ => k0 _), fun o => by rw [u.frozen l0]; exact h.bf o, fun j hj => ?_, fun j hj => ?_, hr, h.inj, fun p hp => Nat.lt_of_lt_of_le (h.lt p hp) u.size⟩
  · have hj' : j < m.cores := hj
    rw [u.cell (h.lt 1 (by omega)) (no2 1 (by omega) (by omega) (by omega) _)]; exact h.row j hj
  · have hj' : j < m.cores := hj
    exact (h.first j hj).of_upd u (h.lt (5 + 2 * j) (by omega)) (no2 (4 + 2 * j) (by omega) (by omega) (by omega)) (no2 (5 + 2 * j) (by omega) (by omega) (by omega))

theorem RmAt.drewN (h : RmAt w y m) (q : Nat) : RmAt (w.drewN q) y m := ⟨h.c0, h.conf, h.fs, h.fr, h.has, h.lasts, h.words, h.mem, h.tally, h.bf, h.row, fun i hi => (h.first i hi).drewN q, h.far.drewN q, h.inj, h.lt⟩
theorem RmAt.drew (h : RmAt w y m) : RmAt w.drew y m := ⟨h.c0, h.conf, h.fs, h.fr, h.has, h.lasts, h.words, h.mem, h.tally, h.bf, h.row, fun i hi => (h.first i hi).drew, h.far.drew, h.inj, h.lt⟩
end

end Go.Proofs.Ytobniidkkmlilab

/- The walks over the reference's machine: refuses, near. -/
namespace Go.Proofs.Ytobniidkkmlilab
open Go.RowKit Go.Coh

/-- the errors of Load and Store -/
def refE (cores : Nat) (core addr : Int) : Int := if core < 0 ∨ core ≥ cores then 6 else if addr < 0 ∨ addr ≥ 256 then 8 else 0

set_option maxHeartbeats 1000000 in
theorem refRefuses_nil (c a : Int) (w : World) :
    Calls Try.prog 67 #[.pointer none, .int .i64 c, .int .i64 a] w fun e w' => e = .returned (.int .i64 1) ∧ w' = w := by
  go_enter Try.func67, Try.ntmps67
  go_wp2
  go_ret
  exact ⟨rfl, rfl⟩

set_option maxHeartbeats 1000000 in
theorem refRefuses_any (y : Lay) (m : RM) (c a : Int) (w : World) (H : RmAt w y m) :
    Calls Try.prog 67 #[.pointer (some ⟨y.blk 0, 0, none⟩), .int .i64 c, .int .i64 a] w fun e w' => e = .returned (.int .i64 (refE m.cores c a)) ∧ w' = w := by
  have h0 := H.conf.c 0 (by omega)
  rw [H.c0] at h0
  clear H
  generalize y.blk 0 = b at *
  generalize m.cores = n at *
  by_cases h1 : c < 0
  · have HF : Hid (refE n c a = 6) := by show _ = _; unfold refE; rw [if_pos (.inl h1)]
    go_enter Try.func67, Try.ntmps67
    go_wp2
    go_ret
    exact ⟨ret_int HF.out.symm, rfl⟩
  · by_cases h2 : c ≥ n
    · have HF : Hid (refE n c a = 6) := by show _ = _; unfold refE; rw [if_pos (.inr h2)]
      go_enter Try.func67, Try.ntmps67
      go_wp2
      go_ret
      exact ⟨ret_int HF.out.symm, rfl⟩
    · by_cases h3 : a < 0
      · have HF : Hid (refE n c a = 8) := by show _ = _; unfold refE; rw [if_neg (by omega), if_pos (.inl h3)]
        go_enter Try.func67, Try.ntmps67
        go_wp2
        go_ret
        exact ⟨ret_int HF.out.symm, rfl⟩
      · by_cases h4 : a ≥ 256
        · have HF : Hid (refE n c a = 8) := by show _ = _; unfold refE; rw [if_neg (by omega), if_pos (.inr h4)]
          go_enter Try.func67, Try.ntmps67
          go_wp2
          go_ret
          exact ⟨ret_int HF.out.symm, rfl⟩
        · have HF : Hid (refE n c a = 0) := by show _ = _; unfold refE; rw [if_neg (by omega), if_neg (by omega)]
          go_enter Try.func67, Try.ntmps67
          go_wp2
          go_ret
          exact ⟨ret_int HF.out.symm, rfl⟩

end Go.Proofs.Ytobniidkkmlilab

/- The walks over the reference's machine: near, loses, written. -/
namespace Go.Proofs.Ytobniidkkmlilab
open Go.RowKit Go.Coh

/-- what may change when the machine does something -/
def rmS (y : Lay) (n : Nat) : Nat → Nat → Prop := fun k _ => ∃ p, p < 4 + 2 * n ∧ k = y.blk p

theorem rmS_ref {y : Lay} {n p q : Nat} (hp : p < 4 + 2 * n) (hq : q < 4 + 2 * n) (k o : Nat) (h : refS (y.blk p) (y.blk q) k o) : rmS y n k o := by
  rcases h with e | e
  · exact ⟨p, hp, e⟩
  · exact ⟨q, hq, e⟩
theorem rmS_0 {y : Lay} {n : Nat} (o : Nat) : rmS y n (y.blk 0) o := ⟨0, by omega, rfl⟩

/-- one more of what is counted -/
def RM.bump (m : RM) (k : Nat) : RM := { m with tally := upd m.tally k (m.tally k + 1) }

theorem RmAt.setTally {w : World} {y : Lay} {m : RM} (h : RmAt w y m) (k : Nat) (hk : k < 10) (v : Int) : RmAt (w.setCell ⟨y.blk 0, 841 + k, none⟩ (.int .i64 v)) y { m with tally := upd m.tally k v } := by
  refine h.set0 (841 + k) v _ ⟨rfl, rfl, rfl, rfl⟩ (by omega) (fun i l hi hl => ?_) (fun j hj => ?_) (fun j hj => ?_) (fun j hj => ?_) (fun j hj => ?_)
  · rw [if_neg (by omega)]
  · rw [if_neg (by omega)]
  · rw [if_neg (by omega)]
  · rw [if_neg (by omega)]
  · show upd m.tally k v j = _
    unfold upd
    by_cases e : j = k
    · rw [if_pos e, if_pos (by omega)]
    · rw [if_neg e, if_neg (by omega)]

def updH (h : Nat → Nat → Int) (i l : Nat) (v : Int) : Nat → Nat → Int := fun a b => if a = i ∧ b = l then v else h a b

theorem RmAt.setHas {w : World} {y : Lay} {m : RM} (h : RmAt w y m) (i l : Nat) (hi : i < 4) (hl : l < 64) (v : Int) : RmAt (w.setCell ⟨y.blk 0, 9 + i * 64 + l, none⟩ (.int .i64 v)) y { m with has := updH m.has i l v } := by
  refine h.set0 (9 + i * 64 + l) v _ ⟨rfl, rfl, rfl, rfl⟩ (by omega) (fun a b ha hb => ?_) (fun j hj => ?_) (fun j hj => ?_) (fun j hj => ?_) (fun j hj => ?_)
  · show updH m.has i l v a b = _
    unfold updH
    by_cases e : a = i ∧ b = l
    · rw [if_pos e, if_pos (by rw [e.1, e.2])]
    · rw [if_neg e, if_neg (by omega)]
  · rw [if_neg (by omega)]
  · rw [if_neg (by omega)]
  · rw [if_neg (by omega)]
  · rw [if_neg (by omega)]

theorem RmAt.setLasts {w : World} {y : Lay} {m : RM} (h : RmAt w y m) (l : Nat) (hl : l < 64) (v : Int) : RmAt (w.setCell ⟨y.blk 0, 265 + l, none⟩ (.int .i64 v)) y { m with lasts := upd m.lasts l v } := by
  refine h.set0 (265 + l) v _ ⟨rfl, rfl, rfl, rfl⟩ (by omega) (fun a b ha hb => ?_) (fun j hj => ?_) (fun j hj => ?_) (fun j hj => ?_) (fun j hj => ?_)
  · rw [if_neg (by omega)]
  · show upd m.lasts l v j = _
    unfold upd
    by_cases e : j = l
    · rw [if_pos e, if_pos (by omega)]
    · rw [if_neg e, if_neg (by omega)]
  · rw [if_neg (by omega)]
  · rw [if_neg (by omega)]
  · rw [if_neg (by omega)]

theorem RmAt.setWord {w : World} {y : Lay} {m : RM} (h : RmAt w y m) (a : Nat) (ha : a < 256) (v : Int) : RmAt (w.setCell ⟨y.blk 0, 329 + a, none⟩ (.int .i64 v)) y { m with words := upd m.words a v } := by
  refine h.set0 (329 + a) v _ ⟨rfl, rfl, rfl, rfl⟩ (by omega) (fun a b ha hb => ?_) (fun j hj => ?_) (fun j hj => ?_) (fun j hj => ?_) (fun j hj => ?_)
  · rw [if_neg (by omega)]
  · rw [if_neg (by omega)]
  · show upd m.words a v j = _
    unfold upd
    by_cases e : j = a
    · rw [if_pos e, if_pos (by omega)]
    · rw [if_neg e, if_neg (by omega)]
  · rw [if_neg (by omega)]
  · rw [if_neg (by omega)]

theorem RmAt.setMem {w : World} {y : Lay} {m : RM} (h : RmAt w y m) (a : Nat) (ha : a < 256) (v : Int) : RmAt (w.setCell ⟨y.blk 0, 585 + a, none⟩ (.int .i64 v)) y { m with mem := upd m.mem a v } := by
  refine h.set0 (585 + a) v _ ⟨rfl, rfl, rfl, rfl⟩ (by omega) (fun a b ha hb => ?_) (fun j hj => ?_) (fun j hj => ?_) (fun j hj => ?_) (fun j hj => ?_)
  · rw [if_neg (by omega)]
  · rw [if_neg (by omega)]
  · rw [if_neg (by omega)]
  · show upd m.mem a v j = _
    unfold upd
    by_cases e : j = a
    · rw [if_pos e, if_pos (by omega)]
    · rw [if_neg e, if_neg (by omega)]
  · rw [if_neg (by omega)]

/-- the numbers of a machine are such as may be; none is over B -/
structure RmOk (m : RM) (B : Int) : Prop where
  c : 0 < m.cores ∧ m.cores ≤ 4
  first : ∀ i, RcOk (m.firsts i)
  far : RcOk m.far
  clocks : ∀ i, (m.firsts i).clock ≤ B
  fills : ∀ i, (m.firsts i).fills ≤ B
  fclock : m.far.clock ≤ B
  ffills : m.far.fills ≤ B
  tally : ∀ k, 0 ≤ m.tally k ∧ m.tally k ≤ B

/-- where the line is found in the first cache -/
def RM.nearS (m : RM) (c : Nat) (x : Int) : RM := match (m.firsts c).find x with
  | some j => RM.bump { m with firsts := updC m.firsts c ((m.firsts c).found ((m.firsts c).lo x + j)) } 2
  | none => m
def RM.nearB (m : RM) (c : Nat) (x : Int) : Bool := ((m.firsts c).find x).isSome

set_option maxRecDepth 100000 in
set_option maxHeartbeats 1000000 in
theorem refNear_any (y : Lay) (m : RM) (c : Nat) (x : Int) (w : World) (hc : c < m.cores) (hx : 0 ≤ x) (hx2 : x < 64) (ok : RmOk m 4611686018427387904) (H : RmAt w y m) :
    Calls Try.prog 68 #[.pointer (some ⟨y.blk 0, 0, none⟩), .int .i64 c, .int .i64 x] w fun e w' => e = .returned (.bool (m.nearB c x)) ∧ RmAt w' y (m.nearS c x) ∧ Upd (rmS y m.cores) w w' := by
  have h1 := H.fs
  have h2 := H.row c hc
  have hc4 := ok.c.2
  have HH : Hid (RmAt w y m) := H
  have HF : Hid (RefAt w (y.blk (4 + 2 * c)) (y.blk (5 + 2 * c)) (y.cc c) (m.firsts c)) := H.first c hc
  have HOK : Hid (RcOk (m.firsts c)) := ok.first c
  have hcl : 0 ≤ (m.firsts c).clock ∧ (m.firsts c).clock ≤ 4611686018427387904 := ⟨(ok.first c).clock, ok.clocks c⟩
  have ht := ok.tally 2
  have HB : Hid (m.nearB c x = ((m.firsts c).find x).isSome) := rfl
  clear H ok
  go_enter Try.func68, Try.ntmps68
  go_wp2_with fail
  refine (refFind_any _ _ _ x (m.firsts c) _ HOK.out hx (by omega) (HF.out)).mono ?_
  rintro e w1 ⟨rfl, q, rfl⟩
  cases hfd : (m.firsts c).find x with
  | none =>
    have HS : Hid (m.nearS c x = m) := by show _ = _; unfold RM.nearS; rw [hfd]
    have HB2 : Hid (m.nearB c x = false) := by show _ = _; rw [HB.out, hfd]; rfl
    clear hfd
    simp only [ofs]
    go_wp2
    go_ret
    exact ⟨by rw [HB2.out]; rfl, by rw [HS.out]; exact HH.out.drewN q, (Upd.refl _ _).drewN q⟩
  | some j =>
    have hj : (m.firsts c).lo x + j < (m.firsts c).n := by
      have := (findN_some.1 hfd).1
      have := HOK.out.lo x
      omega
    have HS : Hid (m.nearS c x = RM.bump { m with firsts := updC m.firsts c ((m.firsts c).found ((m.firsts c).lo x + j)) } 2) := by show _ = _; unfold RM.nearS; rw [hfd]
    have HB2 : Hid (m.nearB c x = true) := by show _ = _; rw [HB.out, hfd]; rfl
    clear hfd
    simp only [ofs]
    generalize hm : (m.firsts c).lo x + j = k at *
    clear hm
    go_wp2_with fail
    refine (refFound_any _ _ _ k (m.firsts c) _ hcl.1 hcl.2 hj (HF.out.drewN q)).mono ?_
    rintro e w2 ⟨rfl, hr, hu⟩
    have HM := (HH.out.drewN q).setFirst hc hr hu
    have h841 := HM.tally.c 2 (by omega)
    have h841f := HM.tally.f 2 (by omega)
    have HM2 : Hid (RmAt w2 y { m with firsts := updC m.firsts c ((m.firsts c).found k) }) := HM
    have HU : Hid (Upd (rmS y m.cores) w w2) := (hu.ofDrewN).mono (fun a b h => rmS_ref (by omega) (by omega) a b h)
    clear hr hu HM
    simp only at h841 h841f
    go_wp2
    go_ret
    refine ⟨by rw [HB2.out]; rfl, ?_, HU.out.setCell (fun _ => rmS_0 _) _⟩
    rw [HS.out]
    exact HM2.out.setTally 2 (by omega) _

end Go.Proofs.Ytobniidkkmlilab
