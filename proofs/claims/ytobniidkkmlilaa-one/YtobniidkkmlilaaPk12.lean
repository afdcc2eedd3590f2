import Derived.Test.YtobniidkkmlilaaPk07
import Derived.Test.YtobniidkkmlilaaPk11

/- The walks over package coherentref: a new cache. -/
namespace Go.Proofs.Ytobniidkkmlilaa
open Go.RowKit Go.Coh

theorem info73 : (Try.prog.info? 132).map (fun i => (i.zero, i.size, i.bytes)) = some (some (.agg #[.int .i64 0, .int .i64 0, .int .i64 0]), 3, 24) := by kernel_rfl

def wc : Nat → List Value
  | 0 => []
  | k + 1 => wc k ++ [.int .i64 (-1), .int .i64 0, .int .i64 0]

theorem wc_len : ∀ k, (wc k).length = k * 3
  | 0 => rfl
  | k + 1 => by simp [wc, wc_len k]; omega

theorem wc_get : ∀ k i, i < k → (wc k)[i * 3]? = some (.int .i64 (-1)) ∧ (wc k)[i * 3 + 1]? = some (.int .i64 0) ∧ (wc k)[i * 3 + 2]? = some (.int .i64 0)
  | 0, i, h => by omega
  | k + 1, i, h => by
    have hl := wc_len k
    unfold wc
    by_cases e : i = k
    · subst e
      rw [List.getElem?_append_right (by omega), List.getElem?_append_right (by omega), List.getElem?_append_right (by omega), hl]
      refine ⟨?_, ?_, ?_⟩
      · rw [show i * 3 - i * 3 = 0 by omega]; rfl
      · rw [show i * 3 + 1 - i * 3 = 1 by omega]; rfl
      · rw [show i * 3 + 2 - i * 3 = 2 by omega]; rfl
    · rw [List.getElem?_append_left (by omega), List.getElem?_append_left (by omega), List.getElem?_append_left (by omega)]
      exact wc_get k i (by omega)

theorem news_cells (w : World) (vs : List Value) (t : TypeId) : ∀ j u, vs[j]? = some u → (w.alloc (.cells vs.toArray t)).cell? ((⟨w.heap.size, 0, none⟩ : Addr).add j) = some u := by
  intro j u hu
  rw [Addr.add_mid, Nat.zero_add, World.cell?_alloc_new]
  simpa using hu

theorem own_ways {w : World} {base n : Nat} {v : Value} (h : w.ownsRow base 132 3 v n (wc n)) (hn : 0 < n) : ∃ g cap, v = .slice (some ⟨g, 0, none⟩) n cap ∧ base ≤ g ∧ g < w.heap.size ∧ (∀ o, w.frozen? ⟨g, o, none⟩ = false) ∧
    ∀ i, i < n → w.cell? ⟨g, i * 3, none⟩ = some (.int .i64 (-1)) ∧ w.cell? ⟨g, i * 3 + 1, none⟩ = some (.int .i64 0) ∧ w.cell? ⟨g, i * 3 + 2, none⟩ = some (.int .i64 0) := by
  rcases h.2 with ⟨rfl, rfl⟩ | ⟨g, cap, cur, rfl, hb, hg, _, _, _, ht⟩
  · omega
  · refine ⟨g, cap, rfl, hb, (Array.getElem?_eq_some_iff.1 hg).1, fun o => by simp [World.frozen?, hg], fun i hi => ?_⟩
    have key : ∀ o u, o < n * 3 → (wc n)[o]? = some u → w.cell? ⟨g, o, none⟩ = some u := fun o u ho hu => by
      rw [cell_of_row w g o cur 132 (0, 0) hg]
      rw [← ht, List.getElem?_take, if_pos ho] at hu
      simpa using hu
    obtain ⟨h1, h2, h3⟩ := wc_get n i hi
    exact ⟨key _ _ (by omega) h1, key _ _ (by omega) h2, key _ _ (by omega) h3⟩

def newRC (S W P : Nat) : RC := ⟨S, W, P, fun _ => -1, fun _ => 0, fun _ => 0, 0, 0, 7⟩

theorem own_slice' {w : World} {base e size n : Nat} {v : Value} {xs : List Value} (h : w.ownsRow base e size v n xs) : ∃ o cap, v = .slice o n cap := by
  rcases h.2 with ⟨rfl, rfl⟩ | ⟨g, cap, cur, rfl, _⟩
  · exact ⟨none, 0, rfl⟩
  · exact ⟨_, cap, rfl⟩

set_option maxRecDepth 100000 in
set_option maxHeartbeats 2000000 in
theorem refEmpty_any (S W P : Nat) (S' : Int) (w : World) (eS : S' = S) (hS : Size S) (hW : Size W) :
    Calls Try.prog 43 #[.int .i64 S', .int .i64 W, .int .i64 P] w fun e w' => (∃ b g cap, e = .returned (.pointer (some ⟨b, 0, none⟩)) ∧ w.heap.size ≤ b ∧ w.heap.size ≤ g ∧ b < w'.heap.size ∧ g < w'.heap.size ∧ RefAt w' b g cap (newRC S W P)) ∧ Upd no w w' := by
  subst eS
  obtain ⟨i0, hi, hz0, hz1, hz2⟩ := info_parts info73
  have hn : ∃ n : Nat, (S : Int) * (W : Int) = n ∧ S * W = n ∧ n ≤ 64 ∧ 0 < n := by
    refine ⟨S * W, by simp, rfl, ?_, ?_⟩
    · rcases hS with rfl | rfl | rfl | rfl <;> rcases hW with rfl | rfl | rfl | rfl <;> decide
    · rcases hS with rfl | rfl | rfl | rfl <;> rcases hW with rfl | rfl | rfl | rfl <;> decide
  obtain ⟨n, hn1, hn2, hn3, hn4⟩ := hn
  have HN1 : Hid ((S : Int) * (W : Int) = n) := hn1
  have HN2 : Hid (S * W = n) := hn2
  have HWR : wrap64 ((S : Int) * (W : Int)) = n := by rw [hn1]; exact wrap64_small n (by omega)
  have hSb : 0 < S ∧ S ≤ 8 := by rcases hS with h | h | h | h <;> omega
  have hWb : 0 < W ∧ W ≤ 8 := by rcases hW with h | h | h | h <;> omega
  clear hn1 hn2 hS hW
  go_enter Try.func43, Try.ntmps43
  go_wp2
  go_loopw [8] (fun i wr => ∃ (j : Nat) (v : Value), j ≤ n ∧ i = .int .i64 j ∧ wr.cell? ⟨w.heap.size, 0, none⟩ = some (.int .i64 S) ∧ wr.cell? ⟨w.heap.size, 1, none⟩ = some (.int .i64 W) ∧ wr.cell? ⟨w.heap.size, 2, none⟩ = some (.int .i64 P) ∧ wr.cell? ⟨w.heap.size, 3, none⟩ = some v ∧
      wr.cell? ⟨w.heap.size, 4, none⟩ = some (.int .i64 0) ∧ wr.cell? ⟨w.heap.size, 5, none⟩ = some (.int .i64 0) ∧ wr.cell? ⟨w.heap.size, 6, none⟩ = some (.int .i64 7) ∧ (∀ o, wr.frozen? ⟨w.heap.size, o, none⟩ = false) ∧
      wr.ownsRow (w.heap.size + 1) 132 3 v j (wc j) ∧ Upd no w wr ∧ w.heap.size + 1 ≤ wr.heap.size) (fun i _ => n - (intOf i).toNat)
  case atStart => exact ⟨0, .slice none 0 0, Nat.zero_le _, rfl, by simp, by simp, by simp, by simp, by simp, by simp, by simp, by simp, World.ownsRow_nil _ _ _ _, (Upd.refl _ _).alloc _, by simp⟩
  case round =>
    obtain ⟨j, v, hj, rfl, c0, c1, c2, c3, c4, c5, c6, hf, hown, hu, hz⟩ := hrel
    have HO : Hid (wr.ownsRow (w.heap.size + 1) 132 3 v j (wc j)) := hown
    have HU : Hid (Upd no w wr) := hu
    have HF : Hid (∀ o, wr.frozen? ⟨w.heap.size, o, none⟩ = false) := hf
    clear hown hu hf
    by_cases hlt : j < n
    · have key : ∀ w5, (wr.alloc (Obj.cells #[Value.int IntKind.i64 (-1), Value.int IntKind.i64 0, Value.int IntKind.i64 0] 132)).grownBy w5 v.ownBlock → w5.heap[w.heap.size]? = wr.heap[w.heap.size]? := fun w5 hg => by
        rw [hg.block w.heap.size (by simp; omega) (fun e => by have := (HO.out.lt _ e.symm).1; omega), Below.heap_alloc _ _ _ (by omega)]
      have KEY := (show Hid _ from key)
      clear key
      go_wp2_with (at_builtin; refine wpList_append_own _ rfl _ _ 128 rfl (w.heap.size + 1) 132 i0 (.agg #[.int .i64 0, .int .i64 0, .int .i64 0]) 3 24 Try.underlying128 hi hz0 hz1 hz2 rfl (by decide) v _ _ rfl (HO.out.alloc _) ⟨wr.heap.size, 0, none⟩ 1 1 [.int .i64 (-1), .int .i64 0, .int .i64 0] rfl rfl (news_cells wr [.int .i64 (-1), .int .i64 0, .int .i64 0] 132) (ints_oneCell .i64 [-1, 0, 0]) (by unfold maxLen; omega) (by omega) (by simp; omega) ?_; intro v' w5 hown' hgrow _hnil; clear _hnil; obtain ⟨o', cap', rfl⟩ := own_slice' hown'; have hcb : w5.cell? ⟨w.heap.size, 3, none⟩ = some v := (World.cell?_of_block (w := wr) (a := ⟨w.heap.size, 3, none⟩) (KEY.out w5 hgrow)).trans c3; have hfb : w5.frozen? ⟨w.heap.size, 3, none⟩ = false := (World.frozen?_of_block (w := wr) (a := ⟨w.heap.size, 3, none⟩) (KEY.out w5 hgrow)).trans (HF.out 3))
      go_roundw
      case rel =>
        have hs5 := hgrow.size
        simp at hs5
        have kc : ∀ o, 3 ≠ o → (w5.setCell ⟨w.heap.size, 3, none⟩ (.slice o' (j + 1) cap')).cell? ⟨w.heap.size, o, none⟩ = wr.cell? ⟨w.heap.size, o, none⟩ := fun o ho => by
          rw [cell_set_ne (.inr ho)]
          exact World.cell?_of_block (w := wr) (a := ⟨w.heap.size, o, none⟩) (KEY.out w5 hgrow)
        refine ⟨j + 1, .slice o' (j + 1) cap', by omega, by go_num, by rw [kc _ (by omega)]; exact c0, by rw [kc _ (by omega)]; exact c1, by rw [kc _ (by omega)]; exact c2, World.cell?_setCell_same _ _ _ hcb, by rw [kc _ (by omega)]; exact c4, by rw [kc _ (by omega)]; exact c5, by rw [kc _ (by omega)]; exact c6, fun o => ?_, ?_, ?_, by simp; omega⟩
        · rw [World.frozen?_setCell]
          exact (World.frozen?_of_block (w := wr) (a := ⟨w.heap.size, o, none⟩) (KEY.out w5 hgrow)).trans (HF.out o)
        · exact ownsRow_setCell_below hown' (by simp) _
        · exact (upd_grown (HU.out.alloc _) hgrow (fun b hb => by have := (HO.out.lt _ hb).1; omega)).setCell (fun h => absurd h (by simp)) _
      case measure => simp [intOf]; omega
    · have hjn : j = n := by omega
      subst hjn
      obtain ⟨g, cap, rfl, hg1, hg2, hgf, hgc⟩ := own_ways HO.out hn4
      have HR : Hid (RefAt wr w.heap.size g cap (newRC S W P)) := by
        have en : (newRC S W P).n = j := HN2.out
        refine ⟨by omega, c0, c1, c2, by rw [en]; exact c3, c4, c5, c6, HF.out, hgf, fun i hi => ?_, fun i hi => ?_, fun i hi => ?_⟩
        · rw [en] at hi; exact (hgc i hi).1
        · rw [en] at hi; exact (hgc i hi).2.1
        · rw [en] at hi; exact (hgc i hi).2.2
      clear hgc hgf
      go_wp2
      go_ret
      exact ⟨⟨w.heap.size, g, cap, rfl, Nat.le_refl _, by omega, by omega, hg2, HR.out⟩, HU.out⟩

end Go.Proofs.Ytobniidkkmlilaa

/- The reference's machine in memory. -/
namespace Go.Proofs.Ytobniidkkmlilaa
open Go.RowKit Go.Coh

/-- the reference's machine, as plain data; conf: Cores, Sets, Ways, Policy, LastSets, LastWays, LastPolicy; tally: Loads, Stores, Firsts, Lasts, Fetches, Upgrades, Takens, Backs, Writes, Psel -/
structure RM where
  cores : Nat
  conf : Nat → Int
  firsts : Nat → RC
  far : RC
  has : Nat → Nat → Int
  lasts : Nat → Int
  words : Nat → Int
  mem : Nat → Int
  tally : Nat → Int

/-- where it lies: block 0: the machine; 1: the row of first caches; 2, 3: the last cache and its ways; 4 + 2i, 5 + 2i: first cache i and its ways -/
structure Lay where
  blk : Nat → Nat
  capF : Nat
  farcap : Nat
  cc : Nat → Nat

structure RmAt (w : World) (y : Lay) (m : RM) : Prop where
  c0 : m.conf 0 = m.cores
  conf : HoldsF w (y.blk 0) 0 7 m.conf
  fs : w.cell? ⟨y.blk 0, 7, none⟩ = some (.slice (some ⟨y.blk 1, 0, none⟩) m.cores y.capF)
  fr : w.cell? ⟨y.blk 0, 8, none⟩ = some (.pointer (some ⟨y.blk 2, 0, none⟩))
  has : ∀ i l, i < 4 → l < 64 → w.cell? ⟨y.blk 0, 9 + i * 64 + l, none⟩ = some (.int .i64 (m.has i l))
  lasts : HoldsF w (y.blk 0) 265 64 m.lasts
  words : HoldsF w (y.blk 0) 329 256 m.words
  mem : HoldsF w (y.blk 0) 585 256 m.mem
  tally : HoldsF w (y.blk 0) 841 10 m.tally
  bf : ∀ o, w.frozen? ⟨y.blk 0, o, none⟩ = false
  row : ∀ i, i < m.cores → w.cell? ⟨y.blk 1, i, none⟩ = some (.pointer (some ⟨y.blk (4 + 2 * i), 0, none⟩))
  first : ∀ i, i < m.cores → RefAt w (y.blk (4 + 2 * i)) (y.blk (5 + 2 * i)) (y.cc i) (m.firsts i)
  far : RefAt w (y.blk 2) (y.blk 3) y.farcap m.far
  inj : ∀ p q, p < 4 + 2 * m.cores → q < 4 + 2 * m.cores → y.blk p = y.blk q → p = q
  lt : ∀ p, p < 4 + 2 * m.cores → y.blk p < w.heap.size

section
variable {w w' : World} {y : Lay} {m : RM}

theorem HoldsF.keepN {b b' o' off n : Nat} {g : Nat → Int} {v : Value} (h : HoldsF w b off n g) (hne : b ≠ b' ∨ ∀ j, j < n → off + j ≠ o') : HoldsF (w.setCell ⟨b', o', none⟩ v) b off n g := fun j hj =>
  ⟨by rw [cell_set_ne (by rcases hne with e | e; exact .inl (Ne.symm e); exact .inr (Ne.symm (e j hj)))]; exact h.c j hj, by rw [World.frozen?_setCell]; exact h.f j hj⟩

theorem RefAt.keepN {b g cap b' o' : Nat} {s : RC} {v : Value} (h : RefAt w b g cap s) (h1 : b' ≠ b) (h2 : b' ≠ g) : RefAt (w.setCell ⟨b', o', none⟩ v) b g cap s := by
  have kb : ∀ o, (w.setCell ⟨b', o', none⟩ v).cell? ⟨b, o, none⟩ = w.cell? ⟨b, o, none⟩ := fun o => cell_set_ne (.inl h1)
  have kg : ∀ o, (w.setCell ⟨b', o', none⟩ v).cell? ⟨g, o, none⟩ = w.cell? ⟨g, o, none⟩ := fun o => cell_set_ne (.inl h2)
  exact ⟨h.ne, by rw [kb]; exact h.c0, by rw [kb]; exact h.c1, by rw [kb]; exact h.c2, by rw [kb]; exact h.c3, by rw [kb]; exact h.c4, by rw [kb]; exact h.c5, by rw [kb]; exact h.c6,
    fun o => by rw [World.frozen?_setCell]; exact h.bf o, fun o => by rw [World.frozen?_setCell]; exact h.gf o, fun i hi => by rw [kg]; exact h.ln i hi, fun i hi => by rw [kg]; exact h.st i hi, fun i hi => by rw [kg]; exact h.rk i hi⟩

theorem RmAt.bne (h : RmAt w y m) {p : Nat} (hp : p < 4 + 2 * m.cores) (h0 : p ≠ 0) : y.blk 0 ≠ y.blk p := fun e => h0 (h.inj 0 p (by omega) hp e).symm

/-- a store into the machine's own block -/
theorem RmAt.set0 (h : RmAt w y m) (o : Nat) (v : Int) (m' : RM) (hc : m'.cores = m.cores ∧ m'.conf = m.conf ∧ m'.firsts = m.firsts ∧ m'.far = m.far) (ho : 9 ≤ o)
    (h1 : ∀ i l, i < 4 → l < 64 → m'.has i l = if o = 9 + i * 64 + l then v else m.has i l) (h2 : ∀ j, j < 64 → m'.lasts j = if o = 265 + j then v else m.lasts j)
    (h3 : ∀ j, j < 256 → m'.words j = if o = 329 + j then v else m.words j) (h4 : ∀ j, j < 256 → m'.mem j = if o = 585 + j then v else m.mem j) (h5 : ∀ j, j < 10 → m'.tally j = if o = 841 + j then v else m.tally j) :
    RmAt (w.setCell ⟨y.blk 0, o, none⟩ (.int .i64 v)) y m' := by
  obtain ⟨e1, e2, e3, e4⟩ := hc
  have key : ∀ o' z u, w.cell? ⟨y.blk 0, o', none⟩ = some (.int .i64 z) → u = (if o = o' then v else z) → (w.setCell ⟨y.blk 0, o, none⟩ (.int .i64 v)).cell? ⟨y.blk 0, o', none⟩ = some (.int .i64 u) := by
    intro o' z u hz hu
    by_cases e : o = o'
    · subst e; rw [World.cell?_setCell_same _ _ _ hz, hu, if_pos rfl]
    · rw [cell_set_ne (.inr e), hz, hu, if_neg e]
  have fz : ∀ a, (w.setCell ⟨y.blk 0, o, none⟩ (.int .i64 v)).frozen? a = w.frozen? a := fun a => World.frozen?_setCell _ _ _ _
  refine ⟨by rw [e1, e2]; exact h.c0, ?_, by rw [e1, cell_set_ne (.inr (by omega))]; exact h.fs, by rw [cell_set_ne (.inr (by omega))]; exact h.fr, fun i l hi hl => key _ _ _ (h.has i l hi hl) (h1 i l hi hl), ?_, ?_, ?_, ?_, fun o' => by rw [fz]; exact h.bf o', ?_, ?_, ?_, ?_, ?_⟩
  · rw [e2]; exact HoldsF.keepN h.conf (.inr fun j hj => by omega)
  · exact fun j hj => ⟨key _ _ _ (h.lasts.c j hj) (h2 j hj), by rw [fz]; exact h.lasts.f j hj⟩
  · exact fun j hj => ⟨key _ _ _ (h.words.c j hj) (h3 j hj), by rw [fz]; exact h.words.f j hj⟩
  · exact fun j hj => ⟨key _ _ _ (h.mem.c j hj) (h4 j hj), by rw [fz]; exact h.mem.f j hj⟩
  · exact fun j hj => ⟨key _ _ _ (h.tally.c j hj) (h5 j hj), by rw [fz]; exact h.tally.f j hj⟩
  · intro i hi; rw [e1] at hi; rw [cell_set_ne (.inl (h.bne (p := 1) (by omega) (by omega)))]; exact h.row i hi
  · intro i hi; rw [e1] at hi; rw [e3]; exact RefAt.keepN (h.first i hi) (h.bne (p := 4 + 2 * i) (by omega) (by omega)) (h.bne (p := 5 + 2 * i) (by omega) (by omega))
  · rw [e4]; exact RefAt.keepN h.far (h.bne (p := 2) (by omega) (by omega)) (h.bne (p := 3) (by omega) (by omega))
  · rw [e1]; exact h.inj
  · rw [e1]; intro p hp; simpa using h.lt p hp

def updC (f : Nat → RC) (i : Nat) (r : RC) : Nat → RC := fun j => if j = i then r else f j

/-- first cache i has done something -/
theorem RmAt.setFirst (h : RmAt w y m) {i : Nat} (hi : i < m.cores) {r : RC} (hr : RefAt w' (y.blk (4 + 2 * i)) (y.blk (5 + 2 * i)) (y.cc i) r) (u : Upd (refS (y.blk (4 + 2 * i)) (y.blk (5 + 2 * i))) w w') :
    RmAt w' y { m with firsts := updC m.firsts i r } := by
  have no2 : ∀ p, p < 4 + 2 * m.cores → p ≠ 4 + 2 * i → p ≠ 5 + 2 * i → ∀ o, ¬ refS (y.blk (4 + 2 * i)) (y.blk (5 + 2 * i)) (y.blk p) o := fun p hp h1 h2 o hs => by
    rcases hs with e | e
    · exact h1 (h.inj p _ hp (by omega) e)
    · exact h2 (h.inj p _ hp (by omega) e)
  have l0 := h.lt 0 (by omega)
  have k0 := fun o => no2 0 (by omega) (by omega) (by omega) o
  refine ⟨h.c0, h.conf.of_upd u (fun j _ => k0 _), by rw [u.cell l0 (k0 _)]; exact h.fs, by rw [u.cell l0 (k0 _)]; exact h.fr, fun a l ha hl => by rw [u.cell l0 (k0 _)]; exact h.has a l ha hl, h.lasts.of_upd u (fun j _ => k0 _), h.words.of_upd u (fun j _ => k0 _), h.mem.of_upd u (fun j _ => k0 _), h.tally.of_upd u (fun j _ => k0 _), fun o => by rw [u.frozen l0]; exact h.bf o, fun j hj => ?_, fun j hj => ?_, ?_, h.inj, fun p hp => Nat.lt_of_lt_of_le (h.lt p hp) u.size⟩
  · have hj' : j < m.cores := hj
    rw [u.cell (h.lt 1 (by omega)) (no2 1 (by omega) (by omega) (by omega) _)]; exact h.row j hj
  · have hj' : j < m.cores := hj
    show RefAt w' _ _ _ (updC m.firsts i r j)
    unfold updC
    by_cases e : j = i
    · subst e; rw [if_pos rfl]; exact hr
    · rw [if_neg e]
      exact (h.first j hj).of_upd u (h.lt (5 + 2 * j) (by omega)) (no2 (4 + 2 * j) (by omega) (by omega) (by omega)) (no2 (5 + 2 * j) (by omega) (by omega) (by omega))
  · exact h.far.of_upd u (h.lt 3 (by omega)) (no2 2 (by omega) (by omega) (by omega)) (no2 3 (by omega) (by omega) (by omega))

/-- the last cache has done something -/
theorem RmAt.setFar (h : RmAt w y m) {r : RC} (hr : RefAt w' (y.blk 2) (y.blk 3) y.farcap r) (u : Upd (refS (y.blk 2) (y.blk 3)) w w') : RmAt w' y { m with far := r } := by
  have no2 : ∀ p, p < 4 + 2 * m.cores → p ≠ 2 → p ≠ 3 → ∀ o, ¬ refS (y.blk 2) (y.blk 3) (y.blk p) o := fun p hp h1 h2 o hs => by
    rcases hs with e | e
    · exact h1 (h.inj p _ hp (by omega) e)
    · exact h2 (h.inj p _ hp (by omega) e)
  have l0 := h.lt 0 (by omega)
  have k0 := fun o => no2 0 (by omega) (by omega) (by omega) o
  refine ⟨h.c0, h.conf.of_upd u (fun j _ => k0 _), by rw [u.cell l0 (k0 _)]; exact h.fs, by rw [u.cell l0 (k0 _)]; exact h.fr, fun a l ha hl => by rw [u.cell l0 (k0 _)]; exact h.has a l ha hl, h.lasts.of_upd u (fun j _ => k0 _), h.words.of_upd u (fun j _ => k0 _), h.mem.of_upd u (fun j _ => k0 _), h.tally.of_upd u (fun j _ => k0 _), fun o => by rw [u.frozen l0]; exact h.bf o, fun j hj => ?_, fun j hj => ?_, hr, h.inj, fun p hp => Nat.lt_of_lt_of_le (h.lt p hp) u.size⟩
  · have hj' : j < m.cores := hj
    rw [u.cell (h.lt 1 (by omega)) (no2 1 (by omega) (by omega) (by omega) _)]; exact h.row j hj
  · have hj' : j < m.cores := hj
    exact (h.first j hj).of_upd u (h.lt (5 + 2 * j) (by omega)) (no2 (4 + 2 * j) (by omega) (by omega) (by omega)) (no2 (5 + 2 * j) (by omega) (by omega) (by omega))

theorem RmAt.drewN (h : RmAt w y m) (q : Nat) : RmAt (w.drewN q) y m := ⟨h.c0, h.conf, h.fs, h.fr, h.has, h.lasts, h.words, h.mem, h.tally, h.bf, h.row, fun i hi => (h.first i hi).drewN q, h.far.drewN q, h.inj, h.lt⟩
theorem RmAt.drew (h : RmAt w y m) : RmAt w.drew y m := ⟨h.c0, h.conf, h.fs, h.fr, h.has, h.lasts, h.words, h.mem, h.tally, h.bf, h.row, fun i hi => (h.first i hi).drew, h.far.drew, h.inj, h.lt⟩
end

end Go.Proofs.Ytobniidkkmlilaa
