import Derived.Test.YtobniidkkmlilaaPl24
import Derived.Test.YtobniidkkmlilaaPl10

/- The program's caches and its machine in memory, as the reference's data. -/
namespace Go.Proofs.Ytobniidkkmlilaa
open Go.RowKit Go.Coh

theorem HoldsF.move {w w' : World} {b b' off off' n : Nat} {g : Nat → Int} (h : HoldsF w b off n g) (e : ∀ j, j < n → w'.cell? ⟨b', off' + j, none⟩ = w.cell? ⟨b, off + j, none⟩ ∧ w'.frozen? ⟨b', off' + j, none⟩ = false) : HoldsF w' b' off' n g :=
  fun j hj => ⟨by rw [(e j hj).1]; exact h.c j hj, (e j hj).2⟩

theorem SetAt.move {w w' : World} {b b' off off' n : Nat} {L A R : Nat → Int} (h : SetAt w b off n L A R) (e : ∀ j, j < 25 → w'.cell? ⟨b', off' + j, none⟩ = w.cell? ⟨b, off + j, none⟩ ∧ w'.frozen? ⟨b', off' + j, none⟩ = false) : SetAt w' b' off' n L A R := by
  refine ⟨?_, HoldsF.move h.ln (fun j hj => ?_), HoldsF.move h.ag (fun j hj => ?_), HoldsF.move h.rk (fun j hj => ?_)⟩
  · have := (e 0 (by omega)).1
    rw [Nat.add_zero, Nat.add_zero] at this
    rw [this]; exact h.cnt
  · have := e (1 + j) (by omega)
    rwa [← Nat.add_assoc, ← Nat.add_assoc] at this
  · have := e (9 + j) (by omega)
    rwa [← Nat.add_assoc, ← Nat.add_assoc] at this
  · have := e (17 + j) (by omega)
    rwa [← Nat.add_assoc, ← Nat.add_assoc] at this

/-- a cache of the program: policy, count, 8 sets of 25 cells, the count of Rare, PSEL -/
structure CacheAt (w : World) (b off : Nat) (s : RC) : Prop where
  sets : ∃ D : Nat → St, CRel D s ∧ ∀ i, i < s.S → SetAt w b (off + 2 + i * 25) s.W (D i).L (D i).A (D i).R
  c0 : w.cell? ⟨b, off, none⟩ = some (.int .i64 s.P)
  c1 : w.cell? ⟨b, off + 1, none⟩ = some (.int .i64 s.S)
  rk : HoldsF w b (off + 202) 1 (fun _ => s.fills % 8)
  ps : HoldsF w b (off + 203) 1 (fun _ => s.psel)

theorem CacheAt.move {w w' : World} {b b' off off' : Nat} {s : RC} (h : CacheAt w b off s) (e : ∀ j, j < 204 → w'.cell? ⟨b', off' + j, none⟩ = w.cell? ⟨b, off + j, none⟩ ∧ w'.frozen? ⟨b', off' + j, none⟩ = false) : CacheAt w' b' off' s := by
  obtain ⟨D, hD, hS⟩ := h.sets
  refine ⟨⟨D, hD, fun i hi => (hS i hi).move (fun j hj => ?_)⟩, ?_, ?_, HoldsF.move h.rk (fun j hj => ?_), HoldsF.move h.ps (fun j hj => ?_)⟩
  · have := hD.sz.pos
    have := e (2 + i * 25 + j) (by omega)
    rwa [← Nat.add_assoc, ← Nat.add_assoc, ← Nat.add_assoc, ← Nat.add_assoc] at this
  · have := (e 0 (by omega)).1
    rw [Nat.add_zero, Nat.add_zero] at this
    rw [this]; exact h.c0
  · rw [(e 1 (by omega)).1]; exact h.c1
  · have := e (202 + j) (by omega)
    rwa [← Nat.add_assoc, ← Nat.add_assoc] at this
  · have := e (203 + j) (by omega)
    rwa [← Nat.add_assoc, ← Nat.add_assoc] at this

theorem CacheAt.blt {w : World} {b off : Nat} {s : RC} (h : CacheAt w b off s) : b < w.heap.size := World.block_lt_of_cell? w _ h.c0

theorem CacheAt.of_upd {S : Nat → Nat → Prop} {w w' : World} {b off : Nat} {s : RC} (h : CacheAt w b off s) (u : Upd S w w') (hS : ∀ j, j < 204 → ¬ S b (off + j)) : CacheAt w' b off s := by
  obtain ⟨D, hD, hs⟩ := h.sets
  have hb := h.blt
  refine ⟨⟨D, hD, fun i hi => (hs i hi).of_upd u (fun j hj => ?_)⟩, ?_, ?_, h.rk.of_upd u (fun j hj => ?_), h.ps.of_upd u (fun j hj => ?_)⟩
  · have := hD.sz.pos
    have := hS (2 + i * 25 + j) (by omega)
    rwa [← Nat.add_assoc, ← Nat.add_assoc] at this
  · rw [u.cell hb (by have := hS 0 (by omega); rwa [Nat.add_zero] at this)]; exact h.c0
  · rw [u.cell hb (hS 1 (by omega))]; exact h.c1
  · have := hS (202 + j) (by omega)
    rwa [← Nat.add_assoc] at this
  · have := hS (203 + j) (by omega)
    rwa [← Nat.add_assoc] at this

theorem CacheAt.size {w : World} {b off : Nat} {s : RC} (h : CacheAt w b off s) : Size s.S ∧ Size s.W := by
  obtain ⟨D, hD, _⟩ := h.sets
  exact ⟨hD.sz, hD.wz⟩

/-- the machine of the program: 1869 cells -/
structure PmAt (w : World) (b : Nat) (m : RM) : Prop where
  c0 : m.conf 0 = m.cores
  conf : HoldsF w b 0 7 m.conf
  first : ∀ i, i < m.cores → CacheAt w b (7 + i * 204) (m.firsts i)
  far : CacheAt w b 823 m.far
  has : ∀ i l, i < 4 → l < 64 → w.cell? ⟨b, 1027 + i * 64 + l, none⟩ = some (.int .i64 (m.has i l))
  lasts : HoldsF w b 1283 64 m.lasts
  words : HoldsF w b 1347 256 m.words
  mem : HoldsF w b 1603 256 m.mem
  tally : HoldsF w b 1859 10 m.tally
  bf : ∀ o, w.frozen? ⟨b, o, none⟩ = false
  obj : ∃ cs, w.heap[b]? = some (.cells cs 118 (0, 0)) ∧ cs.size = 1869

def blkS (b : Nat) : Nat → Nat → Prop := fun k _ => k = b

section
variable {w w' : World} {b : Nat} {m : RM}

theorem PmAt.blt (h : PmAt w b m) : b < w.heap.size := h.conf.lt (by omega)

theorem PmAt.thereAt (h : PmAt w b m) (o n : Nat) (ho : o + n ≤ 1869) : w.there b o n := by
  obtain ⟨cs, h1, h2⟩ := h.obj
  intro j hj
  exact ⟨by simp [World.cell?, h1, h2]; omega, h.bf _⟩

theorem CacheAt.keepN {b off b' o' : Nat} {s : RC} {v : Value} (h : CacheAt w b off s) (hne : o' < off ∨ off + 204 ≤ o') (hf : ∀ o, w.frozen? ⟨b, o, none⟩ = false) : CacheAt (w.setCell ⟨b', o', none⟩ v) b off s :=
  h.move (fun j hj => ⟨cell_set_ne (.inr (by omega)), by rw [World.frozen?_setCell]; exact hf _⟩)

/-- a store into the machine's own tables -/
theorem PmAt.set0 (h : PmAt w b m) (o : Nat) (v : Int) (m' : RM) (hc : m'.cores = m.cores ∧ m'.conf = m.conf ∧ m'.firsts = m.firsts ∧ m'.far = m.far) (ho : 1027 ≤ o) (hc4 : m.cores ≤ 4)
    (h1 : ∀ i l, i < 4 → l < 64 → m'.has i l = if o = 1027 + i * 64 + l then v else m.has i l) (h2 : ∀ j, j < 64 → m'.lasts j = if o = 1283 + j then v else m.lasts j)
    (h3 : ∀ j, j < 256 → m'.words j = if o = 1347 + j then v else m.words j) (h4 : ∀ j, j < 256 → m'.mem j = if o = 1603 + j then v else m.mem j) (h5 : ∀ j, j < 10 → m'.tally j = if o = 1859 + j then v else m.tally j) :
    PmAt (w.setCell ⟨b, o, none⟩ (.int .i64 v)) b m' := by
  obtain ⟨e1, e2, e3, e4⟩ := hc
  have key : ∀ o' z u, w.cell? ⟨b, o', none⟩ = some (.int .i64 z) → u = (if o = o' then v else z) → (w.setCell ⟨b, o, none⟩ (.int .i64 v)).cell? ⟨b, o', none⟩ = some (.int .i64 u) := by
    intro o' z u hz hu
    by_cases e : o = o'
    · subst e; rw [World.cell?_setCell_same _ _ _ hz, hu, if_pos rfl]
    · rw [cell_set_ne (.inr e), hz, hu, if_neg e]
  have fz : ∀ a, (w.setCell ⟨b, o, none⟩ (.int .i64 v)).frozen? a = w.frozen? a := fun a => World.frozen?_setCell _ _ _ _
  refine ⟨by rw [e1, e2]; exact h.c0, ?_, ?_, ?_, fun i l hi hl => key _ _ _ (h.has i l hi hl) (h1 i l hi hl), ?_, ?_, ?_, ?_, fun o' => by rw [fz]; exact h.bf o', ?_⟩
  · rw [e2]; exact HoldsF.keepN h.conf (.inr fun j hj => by omega)
  · intro i hi; rw [e1] at hi; rw [e3]; exact CacheAt.keepN (h.first i hi) (.inr (by omega)) h.bf
  · rw [e4]; exact CacheAt.keepN h.far (.inr (by omega)) h.bf
  · exact fun j hj => ⟨key _ _ _ (h.lasts.c j hj) (h2 j hj), by rw [fz]; exact h.lasts.f j hj⟩
  · exact fun j hj => ⟨key _ _ _ (h.words.c j hj) (h3 j hj), by rw [fz]; exact h.words.f j hj⟩
  · exact fun j hj => ⟨key _ _ _ (h.mem.c j hj) (h4 j hj), by rw [fz]; exact h.mem.f j hj⟩
  · exact fun j hj => ⟨key _ _ _ (h.tally.c j hj) (h5 j hj), by rw [fz]; exact h.tally.f j hj⟩
  · obtain ⟨cs, o1, o2⟩ := h.obj
    obtain ⟨c', o3, o4, _⟩ := ((Upd.refl (fun k o' => k = b ∧ o' = o) w).setCell (a := ⟨b, o, none⟩) (fun _ => ⟨rfl, rfl⟩) (.int .i64 v)).cells _ _ _ _ o1
    exact ⟨c', o3, o4.trans o2⟩

theorem PmAt.setTally (h : PmAt w b m) (hc4 : m.cores ≤ 4) (k : Nat) (hk : k < 10) (v : Int) : PmAt (w.setCell ⟨b, 1859 + k, none⟩ (.int .i64 v)) b { m with tally := upd m.tally k v } := by
  refine h.set0 (1859 + k) v _ ⟨rfl, rfl, rfl, rfl⟩ (by omega) hc4 (fun i l hi hl => ?_) (fun j hj => ?_) (fun j hj => ?_) (fun j hj => ?_) (fun j hj => ?_)
  · rw [if_neg (by omega)]
  · rw [if_neg (by omega)]
  · rw [if_neg (by omega)]
  · rw [if_neg (by omega)]
  · show upd m.tally k v j = _
    unfold upd
    by_cases e : j = k
    · rw [if_pos e, if_pos (by omega)]
    · rw [if_neg e, if_neg (by omega)]
theorem PmAt.setHas (h : PmAt w b m) (hc4 : m.cores ≤ 4) (i l : Nat) (hi : i < 4) (hl : l < 64) (v : Int) : PmAt (w.setCell ⟨b, 1027 + i * 64 + l, none⟩ (.int .i64 v)) b { m with has := updH m.has i l v } := by
  refine h.set0 (1027 + i * 64 + l) v _ ⟨rfl, rfl, rfl, rfl⟩ (by omega) hc4 (fun a c ha hc => ?_) (fun j hj => ?_) (fun j hj => ?_) (fun j hj => ?_) (fun j hj => ?_)
  · show updH m.has i l v a c = _
    unfold updH
    by_cases e : a = i ∧ c = l
    · rw [if_pos e, if_pos (by rw [e.1, e.2])]
    · rw [if_neg e, if_neg (by omega)]
  · rw [if_neg (by omega)]
  · rw [if_neg (by omega)]
  · rw [if_neg (by omega)]
  · rw [if_neg (by omega)]
theorem PmAt.setLasts (h : PmAt w b m) (hc4 : m.cores ≤ 4) (l : Nat) (hl : l < 64) (v : Int) : PmAt (w.setCell ⟨b, 1283 + l, none⟩ (.int .i64 v)) b { m with lasts := upd m.lasts l v } := by
  refine h.set0 (1283 + l) v _ ⟨rfl, rfl, rfl, rfl⟩ (by omega) hc4 (fun a c ha hc => ?_) (fun j hj => ?_) (fun j hj => ?_) (fun j hj => ?_) (fun j hj => ?_)
  · rw [if_neg (by omega)]
  · show upd m.lasts l v j = _
    unfold upd
    by_cases e : j = l
    · rw [if_pos e, if_pos (by omega)]
    · rw [if_neg e, if_neg (by omega)]
  · rw [if_neg (by omega)]
  · rw [if_neg (by omega)]
  · rw [if_neg (by omega)]
theorem PmAt.setWord (h : PmAt w b m) (hc4 : m.cores ≤ 4) (a : Nat) (ha : a < 256) (v : Int) : PmAt (w.setCell ⟨b, 1347 + a, none⟩ (.int .i64 v)) b { m with words := upd m.words a v } := by
  refine h.set0 (1347 + a) v _ ⟨rfl, rfl, rfl, rfl⟩ (by omega) hc4 (fun i c hi hc => ?_) (fun j hj => ?_) (fun j hj => ?_) (fun j hj => ?_) (fun j hj => ?_)
  · rw [if_neg (by omega)]
  · rw [if_neg (by omega)]
  · show upd m.words a v j = _
    unfold upd
    by_cases e : j = a
    · rw [if_pos e, if_pos (by omega)]
    · rw [if_neg e, if_neg (by omega)]
  · rw [if_neg (by omega)]
  · rw [if_neg (by omega)]
theorem PmAt.setMem (h : PmAt w b m) (hc4 : m.cores ≤ 4) (a : Nat) (ha : a < 256) (v : Int) : PmAt (w.setCell ⟨b, 1603 + a, none⟩ (.int .i64 v)) b { m with mem := upd m.mem a v } := by
  refine h.set0 (1603 + a) v _ ⟨rfl, rfl, rfl, rfl⟩ (by omega) hc4 (fun i c hi hc => ?_) (fun j hj => ?_) (fun j hj => ?_) (fun j hj => ?_) (fun j hj => ?_)
  · rw [if_neg (by omega)]
  · rw [if_neg (by omega)]
  · rw [if_neg (by omega)]
  · show upd m.mem a v j = _
    unfold upd
    by_cases e : j = a
    · rw [if_pos e, if_pos (by omega)]
    · rw [if_neg e, if_neg (by omega)]
  · rw [if_neg (by omega)]

/-- one cache of the machine has done something -/
theorem PmAt.moveTo {o : Nat} (h : PmAt w b m) (u : Upd (rowS b o 204) w w') (ho : o + 204 ≤ 1027) (m' : RM) (hc : m'.cores = m.cores ∧ m'.conf = m.conf ∧ m'.has = m.has ∧ m'.lasts = m.lasts ∧ m'.words = m.words ∧ m'.mem = m.mem ∧ m'.tally = m.tally) (h7 : 7 ≤ o)
    (hf : ∀ i, i < m.cores → CacheAt w' b (7 + i * 204) (m'.firsts i)) (hl : CacheAt w' b 823 m'.far) : PmAt w' b m' := by
  obtain ⟨e1, e2, e3, e4, e5, e6, e7⟩ := hc
  have hb := h.blt
  have no : ∀ o', (o' < 7 ∨ 1027 ≤ o') → ¬ rowS b o 204 b o' := fun o' ho' hs => by have := hs.2; omega
  refine ⟨by rw [e1, e2]; exact h.c0, by rw [e2]; exact h.conf.of_upd u (fun j hj => no _ (by omega)), by rw [e1]; exact hf, hl, fun i l hi hl => by rw [e3, u.cell hb (no _ (by omega))]; exact h.has i l hi hl, by rw [e4]; exact h.lasts.of_upd u (fun j hj => no _ (by omega)), by rw [e5]; exact h.words.of_upd u (fun j hj => no _ (by omega)), by rw [e6]; exact h.mem.of_upd u (fun j hj => no _ (by omega)), by rw [e7]; exact h.tally.of_upd u (fun j hj => no _ (by omega)), fun o => by rw [u.frozen hb]; exact h.bf o, ?_⟩
  obtain ⟨cs, o1, o2⟩ := h.obj
  obtain ⟨c', o3, o4, _⟩ := u.cells _ _ _ _ o1
  exact ⟨c', o3, o4.trans o2⟩

theorem PmAt.setFirst (h : PmAt w b m) (hc4 : m.cores ≤ 4) {i : Nat} (hi : i < m.cores) {r : RC} (hr : CacheAt w' b (7 + i * 204) r) (u : Upd (rowS b (7 + i * 204) 204) w w') : PmAt w' b { m with firsts := updC m.firsts i r } := by
  refine h.moveTo u (by omega) _ ⟨rfl, rfl, rfl, rfl, rfl, rfl, rfl⟩ (by omega) (fun j hj => ?_) (h.far.of_upd u (fun k hk hs => by have := hs.2; omega))
  show CacheAt w' b _ (updC m.firsts i r j)
  unfold updC
  by_cases e : j = i
  · subst e; rw [if_pos rfl]; exact hr
  · rw [if_neg e]
    exact (h.first j hj).of_upd u (fun k hk hs => by have := hs.2; omega)
theorem PmAt.setFar (h : PmAt w b m) (hc4 : m.cores ≤ 4) {r : RC} (hr : CacheAt w' b 823 r) (u : Upd (rowS b 823 204) w w') : PmAt w' b { m with far := r } :=
  h.moveTo u (by omega) _ ⟨rfl, rfl, rfl, rfl, rfl, rfl, rfl⟩ (by omega) (fun j hj => (h.first j hj).of_upd u (fun k hk hs => by have := hs.2; omega)) hr

theorem PmAt.of_upd {S : Nat → Nat → Prop} (h : PmAt w b m) (u : Upd S w w') (hS : ∀ o, ¬ S b o) : PmAt w' b m := by
  have hb := h.blt
  refine ⟨h.c0, h.conf.of_upd u (fun j _ => hS _), fun i hi => (h.first i hi).of_upd u (fun j _ => hS _), h.far.of_upd u (fun j _ => hS _), fun i l hi hl => by rw [u.cell hb (hS _)]; exact h.has i l hi hl, h.lasts.of_upd u (fun j _ => hS _), h.words.of_upd u (fun j _ => hS _), h.mem.of_upd u (fun j _ => hS _), h.tally.of_upd u (fun j _ => hS _), fun o => by rw [u.frozen hb]; exact h.bf o, ?_⟩
  obtain ⟨cs, o1, o2⟩ := h.obj
  obtain ⟨c', o3, o4, _⟩ := u.cells _ _ _ _ o1
  exact ⟨c', o3, o4.trans o2⟩

theorem CacheAt.drewN {off : Nat} {s : RC} (h : CacheAt w b off s) (q : Nat) : CacheAt (w.drewN q) b off s := h.of_upd ((Upd.refl no w).drewN q) (fun _ _ e => e)
theorem PmAt.drewN (h : PmAt w b m) (q : Nat) : PmAt (w.drewN q) b m := h.of_upd ((Upd.refl no w).drewN q) (fun _ e => e)
theorem PmAt.drew (h : PmAt w b m) : PmAt w.drew b m := h.of_upd ((Upd.refl no w).drew) (fun _ e => e)
end

end Go.Proofs.Ytobniidkkmlilaa
