import Derived.Test.YtobniidkkmlilaaPl35

/- The reference's machine: fresh. -/
namespace Go.Proofs.Ytobniidkkmlilaa
open Go.RowKit Go.Coh

/-- the reference's machine, whatever its caches -/
structure RrAt (w : World) (b : Nat) (m : RM) : Prop where
  c0 : m.conf 0 = m.cores
  conf : HoldsF w b 0 7 m.conf
  words : HoldsF w b 329 256 m.words
  mem : HoldsF w b 585 256 m.mem
  tally : HoldsF w b 841 10 m.tally
  bf : ∀ o, w.frozen? ⟨b, o, none⟩ = false
  there : w.there b 0 851

theorem RrAt.blt {w : World} {b : Nat} {m : RM} (h : RrAt w b m) : b < w.heap.size := h.conf.lt (by omega)
theorem RrAt.of_upd {S : Nat → Nat → Prop} {w w' : World} {b : Nat} {m : RM} (h : RrAt w b m) (u : Upd S w w') (hS : ∀ o, (o < 7 ∨ 329 ≤ o) → ¬ S b o) : RrAt w' b m := by
  have hb := h.blt
  refine ⟨h.c0, h.conf.of_upd u (fun j _ => hS _ (by omega)), h.words.of_upd u (fun j _ => hS _ (by omega)), h.mem.of_upd u (fun j _ => hS _ (by omega)), h.tally.of_upd u (fun j _ => hS _ (by omega)), fun o => by rw [u.frozen hb]; exact h.bf o, fun j hj => ⟨?_, by rw [u.frozen hb]; exact h.bf _⟩⟩
  have h1 := (h.there j hj).1
  rcases u.obj hb with ⟨c, e, fr, c1, hh, h2, hs, _⟩ | hh
  · simp [World.cell?, hh] at h1
    simp [World.cell?, h2, hs]; exact h1
  · simp [World.cell?, hh] at h1 ⊢; exact h1
theorem RrAt.thereAt {w : World} {b : Nat} {m : RM} (h : RrAt w b m) (o n : Nat) (ho : o + n ≤ 851) : w.there b o n := fun j hj => by
  have := h.there (o + j) (by omega)
  rwa [Nat.zero_add] at this

theorem RmAt.raw {w : World} {y : Lay} {m : RM} (h : RmAt w y m) : RrAt w (y.blk 0) m := by
  refine ⟨h.c0, h.conf, h.words, h.mem, h.tally, h.bf, fun j hj => ⟨?_, h.bf _⟩⟩
  rw [Nat.zero_add]
  by_cases h1 : j < 7
  · have := h.conf.c j h1; rw [Nat.zero_add] at this; rw [this]; rfl
  · by_cases h2 : j = 7
    · subst h2; rw [h.fs]; rfl
    · by_cases h3 : j = 8
      · subst h3; rw [h.fr]; rfl
      · by_cases h4 : j < 265
        · have := h.has ((j - 9) / 64) ((j - 9) % 64) (by omega) (by omega)
          rw [show 9 + (j - 9) / 64 * 64 + (j - 9) % 64 = j by omega] at this
          rw [this]; rfl
        · by_cases h5 : j < 329
          · have := h.lasts.c (j - 265) (by omega)
            rw [show 265 + (j - 265) = j by omega] at this
            rw [this]; rfl
          · by_cases h6 : j < 585
            · have := h.words.c (j - 329) (by omega)
              rw [show 329 + (j - 329) = j by omega] at this
              rw [this]; rfl
            · by_cases h7 : j < 841
              · have := h.mem.c (j - 585) (by omega)
                rw [show 585 + (j - 585) = j by omega] at this
                rw [this]; rfl
              · have := h.tally.c (j - 841) (by omega)
                rw [show 841 + (j - 841) = j by omega] at this
                rw [this]; rfl

theorem infoPC : (Try.prog.info? 87).map (fun i => (i.zero, i.size, i.bytes)) = some (some (.pointer none), 1, 8) := by kernel_rfl

/-- pointers to caches -/
def pcs (B : Nat → Nat) : Nat → List Value
  | 0 => []
  | k + 1 => pcs B k ++ [.pointer (some ⟨B k, 0, none⟩)]
theorem pcs_len (B : Nat → Nat) : ∀ k, (pcs B k).length = k
  | 0 => rfl
  | k + 1 => by simp [pcs, pcs_len B k]
theorem pcs_get (B : Nat → Nat) : ∀ k i, i < k → (pcs B k)[i]? = some (.pointer (some ⟨B i, 0, none⟩))
  | 0, i, h => by omega
  | k + 1, i, h => by
    have hl := pcs_len B k
    unfold pcs
    by_cases e : i = k
    · subst e
      rw [List.getElem?_append_right (by omega), hl, Nat.sub_self]; rfl
    · rw [List.getElem?_append_left (by omega)]; exact pcs_get B k i (by omega)
theorem pcs_congr {B B' : Nat → Nat} : ∀ k, (∀ i, i < k → B i = B' i) → pcs B k = pcs B' k
  | 0, _ => rfl
  | k + 1, h => by
    unfold pcs
    rw [pcs_congr k (fun i hi => h i (by omega)), h k (by omega)]

/-- the row of pointers -/
theorem own_ptrs {w : World} {base n : Nat} {v : Value} {B : Nat → Nat} (h : w.ownsRow base 87 1 v n (pcs B n)) (hn : 0 < n) : ∃ g cap, v = .slice (some ⟨g, 0, none⟩) n cap ∧ base ≤ g ∧ g < w.heap.size ∧
    ∀ i, i < n → w.cell? ⟨g, i, none⟩ = some (.pointer (some ⟨B i, 0, none⟩)) := by
  rcases h.2 with ⟨rfl, rfl⟩ | ⟨g, cap, cur, rfl, hb, hg, _, _, _, ht⟩
  · omega
  · refine ⟨g, cap, rfl, hb, (Array.getElem?_eq_some_iff.1 hg).1, fun i hi => ?_⟩
    have hu := pcs_get B n i hi
    rw [cell_of_row w g i cur 87 (0, 0) hg]
    rw [← ht, List.getElem?_take, if_pos (by omega)] at hu
    simpa using hu

/-- caches that have been made -/
structure Made (w : World) (N j : Nat) (B G C : Nat → Nat) (s : RC) : Prop where
  ref : ∀ i, i < j → RefAt w (B i) (G i) (C i) s
  lo : ∀ i, i < j → N ≤ B i ∧ N ≤ G i
  hi : ∀ i, i < j → B i < w.heap.size ∧ G i < w.heap.size
  bb : ∀ i i', i < j → i' < j → B i = B i' → i = i'
  gg : ∀ i i', i < j → i' < j → G i = G i' → i = i'
  bg : ∀ i i', i < j → i' < j → B i ≠ G i'

theorem Made.of_upd {S : Nat → Nat → Prop} {w w' : World} {N j : Nat} {B G C : Nat → Nat} {s : RC} (h : Made w N j B G C s) (u : Upd S w w') (hS : ∀ i o, i < j → ¬ S (B i) o ∧ ¬ S (G i) o) : Made w' N j B G C s :=
  ⟨fun i hi => (h.ref i hi).of_upd u (h.hi i hi).2 (fun o => (hS i o hi).1) (fun o => (hS i o hi).2), h.lo, fun i hi => ⟨Nat.lt_of_lt_of_le (h.hi i hi).1 u.size, Nat.lt_of_lt_of_le (h.hi i hi).2 u.size⟩, h.bb, h.gg, h.bg⟩

theorem Made.more {w w' : World} {N j : Nat} {B G C : Nat → Nat} {s : RC} (h : Made w N j B G C s) (u : Upd no w w') {b g c : Nat} (hr : RefAt w' b g c s) (hN : N ≤ w.heap.size) (hb : w.heap.size ≤ b ∧ b < w'.heap.size) (hg : w.heap.size ≤ g ∧ g < w'.heap.size) :
    Made w' N (j + 1) (fun i => if i = j then b else B i) (fun i => if i = j then g else G i) (fun i => if i = j then c else C i) s := by
  have h1 := h.of_upd u (fun _ _ _ => ⟨fun e => e, fun e => e⟩)
  refine ⟨fun i hi => ?_, fun i hi => ?_, fun i hi => ?_, fun i i' hi hi' e => ?_, fun i i' hi hi' e => ?_, fun i i' hi hi' e => ?_⟩
  · skip
    by_cases e : i = j
    · rw [if_pos e, if_pos e, if_pos e]; exact hr
    · rw [if_neg e, if_neg e, if_neg e]; exact h1.ref i (by omega)
  · skip
    by_cases e : i = j
    · rw [if_pos e, if_pos e]; omega
    · rw [if_neg e, if_neg e]; exact h.lo i (by omega)
  · skip
    by_cases e : i = j
    · rw [if_pos e, if_pos e]; omega
    · rw [if_neg e, if_neg e]; exact h1.hi i (by omega)
  · skip
    by_cases e1 : i = j
    · by_cases e2 : i' = j
      · omega
      · rw [if_pos e1, if_neg e2] at e; have := h.hi i' (by omega); omega
    · by_cases e2 : i' = j
      · rw [if_neg e1, if_pos e2] at e; have := h.hi i (by omega); omega
      · rw [if_neg e1, if_neg e2] at e; exact h.bb i i' (by omega) (by omega) e
  · skip
    by_cases e1 : i = j
    · by_cases e2 : i' = j
      · omega
      · rw [if_pos e1, if_neg e2] at e; have := h.hi i' (by omega); omega
    · by_cases e2 : i' = j
      · rw [if_neg e1, if_pos e2] at e; have := h.hi i (by omega); omega
      · rw [if_neg e1, if_neg e2] at e; exact h.gg i i' (by omega) (by omega) e
  · skip
    by_cases e1 : i = j
    · by_cases e2 : i' = j
      · rw [if_pos e1, if_pos e2] at e; exact hr.ne e
      · rw [if_pos e1, if_neg e2] at e; have := h.hi i' (by omega); omega
    · by_cases e2 : i' = j
      · rw [if_neg e1, if_pos e2] at e; have := h.hi i (by omega); omega
      · rw [if_neg e1, if_neg e2] at e; exact h.bg i i' (by omega) (by omega) e

/-- the row of pointers is no cache's block -/
theorem row_apart {w : World} {base n j : Nat} {v : Value} {B0 B G C : Nat → Nat} {s : RC} (h : w.ownsRow base 87 1 v n (pcs B0 n)) (hm : Made w base j B G C s) (hs : 0 < s.n) (hn : n = 0 → v = .slice none 0 0) : ∀ g, v.ownBlock = some g → ∀ i, i < j → B i ≠ g ∧ G i ≠ g := by
  intro g hg i hi
  by_cases h0 : n = 0
  · rw [hn h0] at hg; cases hg
  · obtain ⟨g', cap, rfl, _, _, hc⟩ := own_ptrs h (by omega)
    have e : g' = g := by simpa [Value.ownBlock] using hg
    subst e
    have c0 := hc 0 (by omega)
    have hr := hm.ref i hi
    refine ⟨fun e => ?_, fun e => ?_⟩
    · have := hr.c0; rw [e, c0] at this; cases this
    · have := hr.ln 0 hs; rw [Nat.zero_mul, e, c0] at this; cases this

theorem RefAt.of_blocks {w w' : World} {b g cap : Nat} {s : RC} (h : RefAt w b g cap s) (e1 : w'.heap[b]? = w.heap[b]?) (e2 : w'.heap[g]? = w.heap[g]?) : RefAt w' b g cap s := by
  have kb : ∀ o, w'.cell? ⟨b, o, none⟩ = w.cell? ⟨b, o, none⟩ := fun o => World.cell?_of_block (a := ⟨b, o, none⟩) e1
  have kg : ∀ o, w'.cell? ⟨g, o, none⟩ = w.cell? ⟨g, o, none⟩ := fun o => World.cell?_of_block (a := ⟨g, o, none⟩) e2
  have fb : ∀ o, w'.frozen? ⟨b, o, none⟩ = w.frozen? ⟨b, o, none⟩ := fun o => World.frozen?_of_block (a := ⟨b, o, none⟩) e1
  have fg : ∀ o, w'.frozen? ⟨g, o, none⟩ = w.frozen? ⟨g, o, none⟩ := fun o => World.frozen?_of_block (a := ⟨g, o, none⟩) e2
  exact ⟨h.ne, by rw [kb]; exact h.c0, by rw [kb]; exact h.c1, by rw [kb]; exact h.c2, by rw [kb]; exact h.c3, by rw [kb]; exact h.c4, by rw [kb]; exact h.c5, by rw [kb]; exact h.c6, fun o => by rw [fb]; exact h.bf o, fun o => by rw [fg]; exact h.gf o, fun i hi => by rw [kg]; exact h.ln i hi, fun i hi => by rw [kg]; exact h.st i hi, fun i hi => by rw [kg]; exact h.rk i hi⟩

theorem Made.of_blocks {w w' : World} {N j : Nat} {B G C : Nat → Nat} {s : RC} (h : Made w N j B G C s) (hz : w.heap.size ≤ w'.heap.size) (e : ∀ i, i < j → w'.heap[B i]? = w.heap[B i]? ∧ w'.heap[G i]? = w.heap[G i]?) : Made w' N j B G C s :=
  ⟨fun i hi => RefAt.of_blocks (h.ref i hi) (e i hi).1 (e i hi).2, h.lo, fun i hi => by have := h.hi i hi; omega, h.bb, h.gg, h.bg⟩

theorem RrAt.of_block {w w' : World} {b : Nat} {m : RM} (h : RrAt w b m) (e : w'.heap[b]? = w.heap[b]?) : RrAt w' b m := by
  have kb : ∀ o, w'.cell? ⟨b, o, none⟩ = w.cell? ⟨b, o, none⟩ := fun o => World.cell?_of_block (a := ⟨b, o, none⟩) e
  have fb : ∀ o, w'.frozen? ⟨b, o, none⟩ = w.frozen? ⟨b, o, none⟩ := fun o => World.frozen?_of_block (a := ⟨b, o, none⟩) e
  exact ⟨h.c0, fun j hj => ⟨by rw [kb]; exact h.conf.c j hj, by rw [fb]; exact h.conf.f j hj⟩, fun j hj => ⟨by rw [kb]; exact h.words.c j hj, by rw [fb]; exact h.words.f j hj⟩, fun j hj => ⟨by rw [kb]; exact h.mem.c j hj, by rw [fb]; exact h.mem.f j hj⟩, fun j hj => ⟨by rw [kb]; exact h.tally.c j hj, by rw [fb]; exact h.tally.f j hj⟩, fun o => by rw [fb]; exact h.bf o, fun j hj => ⟨by rw [kb]; exact (h.there j hj).1, by rw [fb]; exact (h.there j hj).2⟩⟩

def layF (b g0 b2 g2 cap0 cap2 : Nat) (B G C : Nat → Nat) : Lay :=
  ⟨fun p => if p = 0 then b else if p = 1 then g0 else if p = 2 then b2 else if p = 3 then g2 else if p % 2 = 0 then B ((p - 4) / 2) else G ((p - 4) / 2), cap0, cap2, C⟩

theorem layF_even (b g0 b2 g2 cap0 cap2 : Nat) (B G C : Nat → Nat) (i : Nat) : (layF b g0 b2 g2 cap0 cap2 B G C).blk (4 + 2 * i) = B i := by
  show (if _ then _ else _) = _
  rw [if_neg (by omega), if_neg (by omega), if_neg (by omega), if_neg (by omega), if_pos (by omega), show (4 + 2 * i - 4) / 2 = i by omega]
theorem layF_odd (b g0 b2 g2 cap0 cap2 : Nat) (B G C : Nat → Nat) (i : Nat) : (layF b g0 b2 g2 cap0 cap2 B G C).blk (5 + 2 * i) = G i := by
  show (if _ then _ else _) = _
  rw [if_neg (by omega), if_neg (by omega), if_neg (by omega), if_neg (by omega), if_neg (by omega), show (5 + 2 * i - 4) / 2 = i by omega]

theorem layF_cases (b g0 b2 g2 cap0 cap2 : Nat) (B G C : Nat → Nat) (n p : Nat) (hp : p < 4 + 2 * n) :
    (p = 0 ∧ (layF b g0 b2 g2 cap0 cap2 B G C).blk p = b) ∨ (p = 1 ∧ (layF b g0 b2 g2 cap0 cap2 B G C).blk p = g0) ∨ (p = 2 ∧ (layF b g0 b2 g2 cap0 cap2 B G C).blk p = b2) ∨ (p = 3 ∧ (layF b g0 b2 g2 cap0 cap2 B G C).blk p = g2) ∨
    (∃ i, i < n ∧ p = 4 + 2 * i ∧ (layF b g0 b2 g2 cap0 cap2 B G C).blk p = B i) ∨ (∃ i, i < n ∧ p = 5 + 2 * i ∧ (layF b g0 b2 g2 cap0 cap2 B G C).blk p = G i) := by
  by_cases h0 : p = 0
  · subst h0; exact .inl ⟨rfl, rfl⟩
  · by_cases h1 : p = 1
    · subst h1; exact .inr (.inl ⟨rfl, rfl⟩)
    · by_cases h2 : p = 2
      · subst h2; exact .inr (.inr (.inl ⟨rfl, rfl⟩))
      · by_cases h3 : p = 3
        · subst h3; exact .inr (.inr (.inr (.inl ⟨rfl, rfl⟩)))
        · by_cases he : p % 2 = 0
          · refine .inr (.inr (.inr (.inr (.inl ⟨(p - 4) / 2, by omega, by omega, ?_⟩))))
            have := layF_even b g0 b2 g2 cap0 cap2 B G C ((p - 4) / 2)
            rwa [show 4 + 2 * ((p - 4) / 2) = p by omega] at this
          · refine .inr (.inr (.inr (.inr (.inr ⟨(p - 4) / 2, by omega, by omega, ?_⟩))))
            have := layF_odd b g0 b2 g2 cap0 cap2 B G C ((p - 4) / 2)
            rwa [show 5 + 2 * ((p - 4) / 2) = p by omega] at this

/-- the last part of fresh, in memory -/
theorem rm_fresh {wc : World} {b N M : Nat} {m : RM} {n S W P LS LW LP g0 cap0 b2 g2 cap2 : Nat} {B G C : Nat → Nat} (hr : RrAt wc b m) (hcf : CfOk m.conf n S W P LS LW LP) (c7 : wc.cell? ⟨b, 7, none⟩ = some (.slice (some ⟨g0, 0, none⟩) n cap0))
    (c8 : wc.cell? ⟨b, 8, none⟩ = some (.pointer (some ⟨b2, 0, none⟩))) (hrow : ∀ i, i < n → wc.cell? ⟨g0, i, none⟩ = some (.pointer (some ⟨B i, 0, none⟩))) (hm : Made wc N n B G C (newRC S W P)) (hf : RefAt wc b2 g2 cap2 (newRC LS LW LP))
    (hbN : b < N) (hg0 : N ≤ g0 ∧ g0 < M) (ha : ∀ i, i < n → B i ≠ g0 ∧ G i ≠ g0) (hM : ∀ i, i < n → B i < M ∧ G i < M) (hb2 : M ≤ b2 ∧ b2 < wc.heap.size) (hg2 : M ≤ g2 ∧ g2 < wc.heap.size) :
    wc.there b 9 (zc 256).size ∧ (wc.setCells b 9 (zc 256).toList).there b 265 (zc 64).size ∧
    RmAt ((wc.setCells b 9 (zc 256).toList).setCells b 265 (zc 64).toList) (layF b g0 b2 g2 cap0 cap2 B G C) m.freshS ∧ Upd (blkS b) wc ((wc.setCells b 9 (zc 256).toList).setCells b 265 (zc 64).toList) ∧
    ∀ p, 0 < p → p < 4 + 2 * m.cores → N ≤ (layF b g0 b2 g2 cap0 cap2 B G C).blk p := by
  have hn := hcf.n0
  have hcn : m.cores = n := by have := hr.c0; have := hcf.e0; omega
  have th1 : wc.there b 9 (zc 256).size := hr.thereAt 9 _ (by rw [zc_size]; omega)
  have u1 := zc_upd 256 wc b 9
  have s1 := zc_range 256 th1
  have r1 : RrAt (wc.setCells b 9 (zc 256).toList) b m := hr.of_upd u1 (fun o ho h => by have := h.2; omega)
  have th2 : (wc.setCells b 9 (zc 256).toList).there b 265 (zc 64).size := r1.thereAt 265 _ (by rw [zc_size]; omega)
  have ub : Upd (blkS b) wc (wc.setCells b 9 (zc 256).toList) := u1.mono (fun _ _ h => blk_row h)
  generalize wc.setCells b 9 (zc 256).toList = w5 at *
  have u2 := zc_upd 64 w5 b 265
  have s2 := zc_range 64 th2
  have r2 : RrAt (w5.setCells b 265 (zc 64).toList) b m := r1.of_upd u2 (fun o ho h => by have := h.2; omega)
  have ub2 : Upd (blkS b) wc (w5.setCells b 265 (zc 64).toList) := ub.trans (u2.mono (fun _ _ h => blk_row h))
  have hbc := hr.blt
  refine ⟨th1, th2, ?_, ub2, fun p h0 hp => ?_⟩
  · have hz := ub2.size
    rw [freshS_eq hcf]
    refine ⟨hr.c0, r2.conf, ?_, ?_, fun i l hi hl => ?_, fun j hj => ⟨s2 j hj, r2.bf _⟩, r2.words, r2.mem, r2.tally, r2.bf, fun i hi => ?_, fun i hi => ?_, ?_, fun p q hp hq e => ?_, fun p hp => ?_⟩
    · show World.cell? _ ⟨b, 7, none⟩ = some (.slice (some ⟨g0, 0, none⟩) m.cores cap0)
      rw [u2.cell r1.blt (fun h => by have := h.2; omega), u1.cell hbc (fun h => by have := h.2; omega), hcn]; exact c7
    · show World.cell? _ ⟨b, 8, none⟩ = some (.pointer (some ⟨b2, 0, none⟩))
      rw [u2.cell r1.blt (fun h => by have := h.2; omega), u1.cell hbc (fun h => by have := h.2; omega)]; exact c8
    · show World.cell? _ ⟨b, 9 + i * 64 + l, none⟩ = some (.int .i64 0)
      have := s1 (i * 64 + l) (by omega)
      rw [← Nat.add_assoc] at this
      rw [u2.cell r1.blt (fun h => by have := h.2; omega)]
      exact this
    · have hi' : i < n := by rw [← hcn]; exact hi
      rw [layF_even]
      show World.cell? _ ⟨g0, i, none⟩ = _
      rw [ub2.cell (World.block_lt_of_cell? wc _ (hrow i hi')) (fun h => by have : g0 = b := h; omega)]; exact hrow i hi'
    · have hi' : i < n := by rw [← hcn]; exact hi
      rw [layF_even, layF_odd]
      have hl := hm.lo i hi'
      exact (hm.ref i hi').of_upd ub2 (hm.hi i hi').2 (fun o h => by have : B i = b := h; omega) (fun o h => by have : G i = b := h; omega)
    · exact hf.of_upd ub2 hg2.2 (fun o h => by have : b2 = b := h; omega) (fun o h => by have : g2 = b := h; omega)
    · have hp' : p < 4 + 2 * n := by rw [← hcn]; exact hp
      have hq' : q < 4 + 2 * n := by rw [← hcn]; exact hq
      have hne := hf.ne
      rcases layF_cases b g0 b2 g2 cap0 cap2 B G C n p hp' with ⟨h1, h2⟩ | ⟨h1, h2⟩ | ⟨h1, h2⟩ | ⟨h1, h2⟩ | ⟨i, hi, h1, h2⟩ | ⟨i, hi, h1, h2⟩ <;>
        rcases layF_cases b g0 b2 g2 cap0 cap2 B G C n q hq' with ⟨k1, k2⟩ | ⟨k1, k2⟩ | ⟨k1, k2⟩ | ⟨k1, k2⟩ | ⟨i', hi', k1, k2⟩ | ⟨i', hi', k1, k2⟩ <;>
        rw [h2, k2] at e <;> (try (have q1 := hm.lo i hi)) <;> (try (have q2 := hM i hi)) <;> (try (have q3 := ha i hi)) <;> (try (have q4 := hm.lo i' hi')) <;> (try (have q5 := hM i' hi')) <;> (try (have q6 := ha i' hi'))
      all_goals first
        | omega
        | (have := hm.bb i i' hi hi' e; omega)
        | (have := hm.gg i i' hi hi' e; omega)
        | exact absurd e (hm.bg i i' hi hi')
        | exact absurd e.symm (hm.bg i' i hi' hi)
    · have hp' : p < 4 + 2 * n := by rw [← hcn]; exact hp
      rcases layF_cases b g0 b2 g2 cap0 cap2 B G C n p hp' with ⟨h1, h2⟩ | ⟨h1, h2⟩ | ⟨h1, h2⟩ | ⟨h1, h2⟩ | ⟨i, hi, h1, h2⟩ | ⟨i, hi, h1, h2⟩
      · rw [h2]; omega
      · rw [h2]; omega
      · rw [h2]; omega
      · rw [h2]; omega
      · rw [h2]; have := hm.hi i hi; omega
      · rw [h2]; have := hm.hi i hi; omega
  · rw [hcn] at hp
    rcases layF_cases b g0 b2 g2 cap0 cap2 B G C n p hp with ⟨h1, h2⟩ | ⟨h1, h2⟩ | ⟨h1, h2⟩ | ⟨h1, h2⟩ | ⟨i, hi, h1, h2⟩ | ⟨i, hi, h1, h2⟩
    · omega
    · rw [h2]; omega
    · rw [h2]; omega
    · rw [h2]; omega
    · rw [h2]; exact (hm.lo i hi).1
    · rw [h2]; exact (hm.lo i hi).2

end Go.Proofs.Ytobniidkkmlilaa
