import Derived.Test.YtobniidkkmlilaaPk44
import Derived.Test.YtobniidkkmlilaaPk41
import Derived.Test.YtobniidkkmlilaaPk42

/- Plain: the words and what is counted of loads, stores and places; a step of package coherentkeep. -/
namespace Go.Proofs.Ytobniidkkmlilaa
open Go.RowKit Go.Coh

/-- words and the first five tallies stay -/
structure Low (m m' : RM) : Prop where
  w : m'.words = m.words
  t : ∀ k, k ≤ 4 → m'.tally k = m.tally k
theorem Low.refl (m : RM) : Low m m := ⟨rfl, fun _ _ => rfl⟩
theorem Low.trans {a b c : RM} (h : Low a b) (k : Low b c) : Low a c := ⟨k.w.trans h.w, fun j hj => (k.t j hj).trans (h.t j hj)⟩
theorem Low.same {m m' : RM} (hw : m'.words = m.words) (ht : m'.tally = m.tally) : Low m m' := ⟨hw, fun k _ => by rw [ht]⟩
theorem Low.lose (m : RM) (c l : Nat) : Low m (m.loseAt c l) := Low.same (RM.loseAt_keep m c l).2.2.2.2.1 (RM.loseAt_keep m c l).2.2.2.1
theorem Low.bump (m : RM) (q : Nat) (h : 5 ≤ q) : Low m (m.bump q) := ⟨rfl, fun k hk => by show upd m.tally q _ k = _; unfold upd; rw [if_neg (by omega)]⟩
theorem Low.gone (m : RM) (o : Int) : Low m (m.gone o) := by
  unfold RM.gone
  split
  · have kp := RM.dropK_keep m o.toNat m.cores
    have h : Low m (m.dropK o.toNat m.cores) := ⟨kp.2.2.2.1, fun k hk => kp.2.2.2.2.2.2.1 k (by omega)⟩
    unfold RM.droppedS
    dsimp only
    split
    · exact (h.trans (Low.bump _ 8 (by omega))).trans (Low.same rfl rfl)
    · exact h.trans (Low.same rfl rfl)
  · exact Low.refl m
theorem Low.pFetch (m : RM) (l : Nat) : Low m (m.pFetch l) := by
  unfold RM.pFetch
  split
  · exact Low.same rfl rfl
  · exact (Low.gone m _).trans (Low.same rfl rfl)
theorem Low.takeK (m : RM) (c l k : Nat) : Low m (m.takeK c l k) := ⟨(RM.takeK_keep m c l k).2.2.2.1, fun j hj => (RM.takeK_keep m c l k).2.2.2.2.2.2.1 j (by omega)⟩
theorem Low.shareK (m : RM) (l k : Nat) : Low m (m.shareK l k) := Low.same (RM.shareK_keep m l k).2.2.2.2.1 (RM.shareK_keep m l k).2.2.2.2.2.2.1
theorem Low.taken (m : RM) (c l : Nat) (v : Int) : Low m (m.takenS c l v) := by
  refine Low.trans (b := m.cleared c l) ?_ (Low.same rfl rfl)
  unfold RM.cleared
  split
  · exact Low.trans (b := m.roomed c l) (Low.same rfl rfl) (Low.lose _ _ _)
  · exact Low.same rfl rfl
theorem Low.pLine (m : RM) (c l : Nat) : Low m (m.pLine c l) := by
  unfold RM.pLine
  split
  · exact Low.same rfl rfl
  · exact ((Low.pFetch m l).trans (Low.shareK _ _ _)).trans (Low.taken _ _ _ _)
theorem Low.pSLine (m : RM) (c l : Nat) : Low m (m.pSLine c l) := by
  unfold RM.pSLine
  split
  · exact ((Low.pFetch m l).trans (Low.takeK _ _ _ _)).trans (Low.taken _ _ _ _)
  · have h : Low m (m.pHere c l) := by
      unfold RM.pHere
      split
      · exact (Low.bump m 5 (by omega)).trans (Low.same rfl rfl)
      · exact Low.same rfl rfl
    exact (h.trans (Low.takeK _ c l m.cores)).trans (Low.same rfl rfl)

/-- a book: words, loads, stores, places -/
structure Bk where
  W : Nat → Int
  L : Int
  S : Int
  P : Nat → Int

structure BkIs (k : Bk) (m : RM) : Prop where
  w : ∀ a, a < 256 → k.W a = m.words a
  l : k.L = m.tally 0
  s : k.S = m.tally 1
  p : ∀ j, j < 3 → k.P j = m.tally (2 + j)

theorem bump2_t (m : RM) (q p k : Nat) (hp : q < 2) : ((m.bump q).bump (2 + p)).tally k = m.tally k + (if k = q then 1 else 0) + (if k = 2 + p then 1 else 0) := by
  show upd (upd m.tally q (m.tally q + 1)) (2 + p) (upd m.tally q (m.tally q + 1) (2 + p) + 1) k = _
  unfold upd
  by_cases e1 : k = 2 + p
  · subst e1; simp only [if_pos, if_neg (show ¬ 2 + p = q by omega)]; omega
  · by_cases e2 : k = q
    · subst e2; simp only [if_neg e1, if_pos]; omega
    · simp only [if_neg e1, if_neg e2]; omega

section
variable {m : RM} {B : Int} {c l : Nat} {k : Bk}
theorem BkIs.low {m' : RM} (h : BkIs k m) (e : Low m m') : BkIs k m' := ⟨fun a ha => by rw [e.w]; exact h.w a ha, by rw [e.t 0 (by omega)]; exact h.l, by rw [e.t 1 (by omega)]; exact h.s, fun j hj => by rw [e.t (2 + j) (by omega)]; exact h.p j hj⟩
theorem BkIs.bumpL (h : BkIs k m) (p : Nat) : BkIs { k with L := k.L + 1, P := upd k.P p (k.P p + 1) } ((m.bump 0).bump (2 + p)) := by
  refine ⟨h.w, ?_, ?_, fun j hj => ?_⟩
  · show k.L + 1 = _; rw [bump2_t m 0 p 0 (by omega), if_pos rfl, if_neg (by omega), h.l]; omega
  · show k.S = _; rw [bump2_t m 0 p 1 (by omega), if_neg (by omega), if_neg (by omega), h.s]; omega
  · show upd k.P p (k.P p + 1) j = _
    rw [bump2_t m 0 p (2 + j) (by omega), if_neg (by omega)]
    have := h.p j hj
    unfold upd
    by_cases e : j = p
    · subst e; rw [if_pos rfl, if_pos rfl]; omega
    · rw [if_neg e, if_neg (by omega)]; omega
theorem BkIs.bumpS (h : BkIs k m) (p a : Nat) (v : Int) : BkIs { k with W := upd k.W a v, S := k.S + 1, P := upd k.P p (k.P p + 1) } ((({ m with words := upd m.words a v } : RM).bump 1).bump (2 + p)) := by
  have hb := fun j => bump2_t { m with words := upd m.words a v } 1 p j (by omega)
  refine ⟨fun x hx => ?_, ?_, ?_, fun j hj => ?_⟩
  · show upd k.W a v x = upd m.words a v x
    unfold upd; rw [h.w x hx]
  · show k.L = _; rw [hb 0, if_neg (by omega), if_neg (by omega)]; show k.L = m.tally 0 + 0 + 0; rw [h.l]; omega
  · show k.S + 1 = _; rw [hb 1, if_pos rfl, if_neg (by omega)]; show k.S + 1 = m.tally 1 + 1 + 0; rw [h.s]; omega
  · show upd k.P p (k.P p + 1) j = _
    rw [hb (2 + j), if_neg (by omega)]
    show _ = m.tally (2 + j) + 0 + _
    have := h.p j hj
    unfold upd
    by_cases e : j = p
    · subst e; rw [if_pos rfl, if_pos rfl]; omega
    · rw [if_neg e, if_neg (by omega)]; omega
theorem BkIs.load (h : BkIs k m) (I : MInv m B) (hc : c < m.cores) (hl : l < 64) {p : Nat} (hp : m.loadW c l = p) : BkIs { k with L := k.L + 1, P := upd k.P p (k.P p + 1) } (m.loadS c l) := by
  obtain ⟨e1, e2⟩ := I.pLoad_eq hc hl
  rw [← e1]
  unfold RM.pLoad
  rw [e2, hp]
  exact (h.low (Low.pLine m c l)).bumpL p
theorem BkIs.store (h : BkIs k m) (I : MInv m B) (hc : c < m.cores) (hl : l < 64) (a : Nat) (v : Int) {p : Nat} (hp : m.storeW c l = p) : BkIs { k with W := upd k.W a v, S := k.S + 1, P := upd k.P p (k.P p + 1) } (m.storeS c l a v) := by
  obtain ⟨e1, e2⟩ := I.pStore_eq hc hl a v
  rw [← e1]
  unfold RM.pStore
  rw [e2, hp, ← (pSLine_keep m c l).1]
  exact (h.low (Low.pSLine m c l)).bumpS p a v
theorem BkIs.evict (h : BkIs k m) (x y : Int) : BkIs k (m.evictS x y) := by
  unfold RM.evictS
  split
  · exact h.low (Low.lose _ _ _)
  · exact h
theorem BkIs.drain (h : BkIs k m) : BkIs k m.drainS := by
  have kp := RM.drainK_keep m 64
  exact h.low ⟨kp.2.2.2.2.1, fun j hj => kp.2.2.2.2.2.2.2.2 j (by omega)⟩
end

/-- a step of package coherentkeep -/
noncomputable def RM.kst (m : RM) (o : Nat → Int) : RM :=
  if pickN (o 0) 8 = 6 then m.evictS (pickN (o 1) m.cores) ((pickN (o 2) 256 / 4 : Nat) : Int)
  else if pickN (o 0) 8 = 7 ∧ pickN (o 3) 4 = 0 then m.drainS
  else if 0 < pickN (o 0) 8 ∧ pickN (o 0) 8 < 6 then m.sS (pickN (o 1) m.cores) (pickN (o 2) 256) (o 3)
  else m.lS (pickN (o 1) m.cores) (pickN (o 2) 256)

section
variable {m : RM} {B : Int}
theorem MInv.kst (h : MInv m B) (o : Nat → Int) : MInv (m.kst o) (B + 128) := by
  unfold RM.kst
  split
  · exact (h.evict _ _).mono (by omega)
  · split
    · exact h.drain.mono (by omega)
    · split
      · exact (h.sS _ _ _).1.mono (by omega)
      · exact (h.lS _ _).1.mono (by omega)
theorem kst_cores (h : MInv m B) (o : Nat → Int) : (m.kst o).cores = m.cores := by
  unfold RM.kst
  split
  · exact evictS_cores _ _ _
  · split
    · exact drainS_cores _
    · split
      · exact (h.sS _ _ _).2
      · exact (h.lS _ _).2
theorem CInv.kst (h : CInv m) (I : MInv m B) (o : Nat → Int) : CInv (m.kst o) := by
  unfold RM.kst
  split
  · exact h.evict I _ _
  · split
    · exact (h.drain I).1
    · split
      · exact h.sS I _ _ _
      · exact h.lS I _ _
theorem S1.kst (h : S1 m) (I : MInv m B) (o : Nat → Int) : S1 (m.kst o) := by
  unfold RM.kst
  split
  · exact h.evict _ _
  · split
    · exact h.drain
    · split
      · unfold RM.sS; split
        · rename_i he
          obtain ⟨i, j, e1, e2, hi, hj⟩ := refE_nat he
          rw [e1, e2]
          exact h.store I (by simpa using hi) (by simp; omega) _ _
        · exact h
      · unfold RM.lS; split
        · rename_i he
          obtain ⟨i, j, e1, e2, hi, hj⟩ := refE_nat he
          rw [e1, e2]
          exact h.load I (by simpa using hi) (by simp; omega)
        · exact h
end

/-- a script of steps -/
noncomputable def RM.krun (m : RM) (os : Nat → Nat → Int) : Nat → RM
  | 0 => m
  | k + 1 => (m.krun os k).kst (os k)
theorem krun_inv {m : RM} {B : Int} (h : MInv m B) (c : CInv m) (os : Nat → Nat → Int) : ∀ k, MInv (m.krun os k) (B + 128 * k) ∧ CInv (m.krun os k) ∧ (m.krun os k).cores = m.cores
  | 0 => ⟨h.mono (by omega), c, rfl⟩
  | k + 1 => by
    obtain ⟨h1, h2, h3⟩ := krun_inv h c os k
    exact ⟨(h1.kst (os k)).mono (by omega), h2.kst h1 _, (kst_cores h1 _).trans h3⟩
theorem krun_s1 {m : RM} {B : Int} (h : MInv m B) (c : CInv m) (s : S1 m) (os : Nat → Nat → Int) : ∀ k, S1 (m.krun os k)
  | 0 => s
  | k + 1 => (krun_s1 h c s os k).kst (krun_inv h c os k).1 (os k)

end Go.Proofs.Ytobniidkkmlilaa

/- The walks over package coherentkeep: the book. -/
namespace Go.Proofs.Ytobniidkkmlilaa
open Go.RowKit Go.Coh

structure BkAt (w : World) (b : Nat) (k : Bk) : Prop where
  words : HoldsF w b 0 256 k.W
  loads : HoldsF w b 256 1 (fun _ => k.L)
  stores : HoldsF w b 257 1 (fun _ => k.S)
  places : HoldsF w b 258 3 k.P

theorem BkAt.of_upd {S : Nat → Nat → Prop} {w w' : World} {b : Nat} {k : Bk} (h : BkAt w b k) (u : Upd S w w') (hS : ∀ o, ¬ S b o) : BkAt w' b k :=
  ⟨h.words.of_upd u (fun _ _ => hS _), h.loads.of_upd u (fun _ _ => hS _), h.stores.of_upd u (fun _ _ => hS _), h.places.of_upd u (fun _ _ => hS _)⟩
theorem BkAt.blt {w : World} {b : Nat} {k : Bk} (h : BkAt w b k) : b < w.heap.size := h.words.lt (by omega)
theorem BkAt.setP {w : World} {b : Nat} {k : Bk} (h : BkAt w b k) (p : Nat) (hp : p < 3) (v : Int) : BkAt (w.setCell ⟨b, 258 + p, none⟩ (.int .i64 v)) b { k with P := upd k.P p v } :=
  ⟨HoldsF.keepN h.words (.inr fun j hj => by omega), HoldsF.keepN h.loads (.inr fun j hj => by omega), HoldsF.keepN h.stores (.inr fun j hj => by omega), h.places.set hp v⟩
theorem BkAt.setL {w : World} {b : Nat} {k : Bk} (h : BkAt w b k) (v : Int) : BkAt (w.setCell ⟨b, 256, none⟩ (.int .i64 v)) b { k with L := v } :=
  ⟨HoldsF.keepN h.words (.inr fun j hj => by omega), (h.loads.set (i := 0) (by omega) v).congr (fun j hj => by unfold upd; rw [if_pos (by omega)]), HoldsF.keepN h.stores (.inr fun j hj => by omega), HoldsF.keepN h.places (.inr fun j hj => by omega)⟩
theorem BkAt.setS {w : World} {b : Nat} {k : Bk} (h : BkAt w b k) (v : Int) : BkAt (w.setCell ⟨b, 257, none⟩ (.int .i64 v)) b { k with S := v } :=
  ⟨HoldsF.keepN h.words (.inr fun j hj => by omega), HoldsF.keepN h.loads (.inr fun j hj => by omega), (h.stores.set (i := 0) (by omega) v).congr (fun j hj => by unfold upd; rw [if_pos (by omega)]), HoldsF.keepN h.places (.inr fun j hj => by omega)⟩
theorem BkAt.setW {w : World} {b : Nat} {k : Bk} (h : BkAt w b k) (a : Nat) (ha : a < 256) (v : Int) : BkAt (w.setCell ⟨b, a, none⟩ (.int .i64 v)) b { k with W := upd k.W a v } := by
  have := h.words.set ha v
  rw [Nat.zero_add] at this
  exact ⟨this, HoldsF.keepN h.loads (.inr fun j hj => by omega), HoldsF.keepN h.stores (.inr fun j hj => by omega), HoldsF.keepN h.places (.inr fun j hj => by omega)⟩

set_option maxRecDepth 100000 in
set_option maxHeartbeats 1000000 in
theorem place_any (b p : Nat) (k : Bk) (w : World) (hp : p < 3) (hb : 0 ≤ k.P p ∧ k.P p ≤ 4611686018427387904) (H : BkAt w b k) :
    Calls Try.prog 55 #[.pointer (some ⟨b, 0, none⟩), .int .i64 p] w fun e w' => e = .returned (.bool true) ∧ BkAt w' b { k with P := upd k.P p (k.P p + 1) } ∧ Upd (blkS b) w w' := by
  have c := H.places.c p hp
  have cf := H.places.f p hp
  have HF : Hid (BkAt (w.setCell ⟨b, 258 + p, none⟩ (.int .i64 (k.P p + 1))) b { k with P := upd k.P p (k.P p + 1) }) := H.setP p hp _
  clear H
  generalize k.P p = x at *
  go_enter Try.func55, Try.ntmps55
  go_wp2
  go_region
  all_goals
    go_wp2
    go_ret
    refine ⟨rfl, ?_, ?_⟩
    · exact HF.out.of_upd ((Upd.refl no _).drew) (fun _ h => h)
    · exact ((Upd.refl _ w).setCell (fun _ => blk_self b _) _).drew

end Go.Proofs.Ytobniidkkmlilaa
