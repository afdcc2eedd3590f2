import Derived.Test.YtobniidkkmlilaaPl39

/- Pairs of machines: the program's and the reference's, side by side. -/
namespace Go.Proofs.Ytobniidkkmlilaa
open Go.RowKit Go.Coh

theorem newRC_ok {S W P : Nat} (hS : Size S) (hW : Size W) : RcOk (newRC S W P) :=
  ⟨hS, hW, Int.le_refl _, Int.le_refl _, by show (0 : Int) ≤ 7 ∧ (7 : Int) ≤ 15; omega, fun i => by show (0 : Int) ≤ 0 ∧ (0 : Int) ≤ 3; omega, fun i => Int.le_refl _⟩
theorem newRC_ln (S W P : Nat) : LnOk (newRC S W P) := ⟨fun _ _ _ _ => .inl rfl, fun _ _ _ _ _ _ _ h => absurd rfl h⟩
theorem newRC_hs (S W P : Nat) (l : Nat) : ¬ Hs (newRC S W P) l := by
  rintro ⟨j, _, e⟩
  have : (-1 : Int) = l := e
  omega

theorem fresh_inv {m : RM} {B : Int} {n S W P LS LW LP : Nat} (hcf : CfOk m.conf n S W P LS LW LP) (h0 : m.conf 0 = m.cores) (ht : ∀ k, 0 ≤ m.tally k ∧ m.tally k ≤ B) (hB : 0 ≤ B) (ck : checkE m.conf = 0) : MInv m.freshS B := by
  have hcn : m.cores = n := by have := hcf.e0; omega
  rw [freshS_eq hcf]
  refine ⟨by show 0 < m.cores ∧ m.cores ≤ 4; rw [hcn]; exact hcf.n0, ⟨fun i => newRC_ok hcf.sS hcf.sW, fun i _ => newRC_ln _ _ _, fun i => hB, fun i => hB, fun i l _ _ => ?_, fun i l _ => rfl, fun i _ => hcf.sP⟩, newRC_ok hcf.sLS hcf.sLW, newRC_ln _ _ _, hB, hB, hcf.sLP, ht, h0, ck⟩
  exact ⟨fun h => absurd rfl h, fun h => absurd h (newRC_hs _ _ _ _)⟩

theorem MInv.drain {m : RM} {B : Int} (h : MInv m B) : MInv m.drainS (B + 64) := by
  obtain ⟨n, S, W, P, LS, LW, LP, hcf⟩ := cf_ok h.ck
  have kp := RM.drainK_keep m 64
  have hB : 0 ≤ B := Int.le_trans (h.ht 0).1 (h.ht 0).2
  unfold RM.drainS
  refine fresh_inv (m := m.drainK 64) (by rw [kp.2.1]; exact hcf) (by rw [kp.1, kp.2.1]; exact h.c0) (fun k => ?_) (by omega) (by rw [kp.2.1]; exact h.ck)
  have hk := h.ht k
  by_cases e : k = 8
  · subst e; have := kp.2.2.2.2.2.2.2.1; omega
  · rw [kp.2.2.2.2.2.2.2.2 k e]; omega

theorem newM_inv {c : Nat → Int} (h : checkE c = 0) : MInv (newM c).freshS 0 := by
  obtain ⟨n, S, W, P, LS, LW, LP, hcf⟩ := cf_ok h
  exact fresh_inv (m := newM c) hcf (by show c 0 = ((c 0).toNat : Int); have := hcf.e0; have := hcf.n0; omega) (fun k => by show (0 : Int) ≤ 0 ∧ (0 : Int) ≤ 0; omega) (Int.le_refl _) h

theorem RmAt.of_upd {S : Nat → Nat → Prop} {w w' : World} {y : Lay} {m : RM} (h : RmAt w y m) (u : Upd S w w') (hS : ∀ p o, p < 4 + 2 * m.cores → ¬ S (y.blk p) o) : RmAt w' y m := by
  have l0 := h.lt 0 (by omega)
  have k0 := fun o => hS 0 o (by omega)
  refine ⟨h.c0, h.conf.of_upd u (fun j _ => k0 _), by rw [u.cell l0 (k0 _)]; exact h.fs, by rw [u.cell l0 (k0 _)]; exact h.fr, fun a l ha hl => by rw [u.cell l0 (k0 _)]; exact h.has a l ha hl, h.lasts.of_upd u (fun j _ => k0 _), h.words.of_upd u (fun j _ => k0 _), h.mem.of_upd u (fun j _ => k0 _), h.tally.of_upd u (fun j _ => k0 _), fun o => by rw [u.frozen l0]; exact h.bf o, fun j hj => ?_, fun j hj => ?_, ?_, h.inj, fun p hp => Nat.lt_of_lt_of_le (h.lt p hp) u.size⟩
  · rw [u.cell (h.lt 1 (by omega)) (hS 1 _ (by omega))]; exact h.row j hj
  · exact (h.first j hj).of_upd u (h.lt (5 + 2 * j) (by omega)) (fun o => hS (4 + 2 * j) o (by omega)) (fun o => hS (5 + 2 * j) o (by omega))
  · exact h.far.of_upd u (h.lt 3 (by omega)) (fun o => hS 2 o (by omega)) (fun o => hS 3 o (by omega))

/-- who may have what; what the memory lacks (kept: Xd) -/
structure CInv (m : RM) : Prop where
  rg : ∀ i l, 0 ≤ m.has i l ∧ m.has i l ≤ 3
  lr : ∀ l, 0 ≤ m.lasts l ∧ m.lasts l ≤ 2
  inc : ∀ i l, i < m.cores → l < 64 → m.has i l ≠ 0 → Hs m.far l
  la : ∀ l, l < 64 → (m.lasts l ≠ 0 ↔ Hs m.far l)
  ow : ∀ i j l, i < m.cores → j < m.cores → i ≠ j → l < 64 → 2 ≤ m.has i l → m.has j l = 0
  bk : ∀ a, a < 256 → m.mem a = m.words a ∨ m.lasts (a / 4) = 2 ∨ ∃ i, i < m.cores ∧ m.has i (a / 4) = 3

/-- a pair of machines -/
structure PD where
  b : Nat
  y : Lay
  r1 : RM
  r2 : RM

def ownP (x : PD) (k : Nat) : Prop := k = x.b ∨ ∃ p, p < 4 + 2 * x.r2.cores ∧ k = x.y.blk p
def ownS (x : PD) : Nat → Nat → Prop := fun k _ => ownP x k

structure PairAt (w : World) (x : PD) (B : Int) : Prop where
  p : PmAt w x.b x.r1
  r : RmAt w x.y x.r2
  i1 : MInv x.r1 B
  i2 : MInv x.r2 B
  c1 : CInv x.r1
  c : x.r1.cores = x.r2.cores
  ne : ∀ p, p < 4 + 2 * x.r2.cores → x.b ≠ x.y.blk p

theorem PairAt.mono {w : World} {x : PD} {B B' : Int} (h : PairAt w x B) (hb : B ≤ B') : PairAt w x B' := ⟨h.p, h.r, h.i1.mono hb, h.i2.mono hb, h.c1, h.c, h.ne⟩
theorem PairAt.of_upd {S : Nat → Nat → Prop} {w w' : World} {x : PD} {B : Int} (h : PairAt w x B) (u : Upd S w w') (hS : ∀ k o, ownP x k → ¬ S k o) : PairAt w' x B :=
  ⟨h.p.of_upd u (fun o => hS _ o (.inl rfl)), h.r.of_upd u (fun p o hp => hS _ o (.inr ⟨p, hp, rfl⟩)), h.i1, h.i2, h.c1, h.c, h.ne⟩
theorem PairAt.lt {w : World} {x : PD} {B : Int} (h : PairAt w x B) {k : Nat} (hk : ownP x k) : k < w.heap.size := by
  rcases hk with rfl | ⟨p, hp, rfl⟩
  · exact h.p.blt
  · exact h.r.lt p hp

/-- the pair goes on: what it has, or new blocks -/
structure Goes (w w' : World) (x x' : PD) : Prop where
  b : x'.b = x.b
  y0 : x'.y.blk 0 = x.y.blk 0
  own : ∀ k, ownP x' k → ownP x k ∨ (w.heap.size ≤ k ∧ k < w'.heap.size)
  u : Upd (ownS x) w w'

/-- the program's machine has gone on, the reference's stands -/
theorem PairAt.step1 {w w' : World} {x : PD} {B : Int} {r : RM} (h : PairAt w x B) (hp : PmAt w' x.b r) (hi : MInv r B) (hci : CInv r) (hc : r.cores = x.r1.cores) (u : Upd (blkS x.b) w w') : PairAt w' { x with r1 := r } B :=
  ⟨hp, h.r.of_upd u (fun p o hp' e => h.ne p hp' (by have : x.y.blk p = x.b := e; exact this.symm)), hi, h.i2, hci, by show r.cores = _; rw [hc]; exact h.c, h.ne⟩
/-- the reference's machine has gone on, the program's stands -/
theorem PairAt.step2 {w w' : World} {x : PD} {B : Int} {r : RM} (h : PairAt w x B) (hr : RmAt w' x.y r) (hi : MInv r B) (hc : r.cores = x.r2.cores) (u : Upd (rmS x.y x.r2.cores) w w') : PairAt w' { x with r2 := r } B :=
  ⟨h.p.of_upd u (fun o e => by obtain ⟨p, hp, e⟩ := e; exact h.ne p hp e), hr, h.i1, hi, h.c1, by show _ = r.cores; rw [hc]; exact h.c, by show ∀ p, p < 4 + 2 * r.cores → _; rw [hc]; exact h.ne⟩

theorem Goes.refl (w : World) (x : PD) {w' : World} (u : Upd no w w') : Goes w w' x x := ⟨rfl, rfl, fun _ h => .inl h, u.mono (fun _ _ h => h.elim)⟩
theorem blk_own {x : PD} {k o : Nat} (h : blkS x.b k o) : ownS x k o := .inl h
theorem rm_own {x : PD} {k o : Nat} (h : rmS x.y x.r2.cores k o) : ownS x k o := .inr h

def WhichOk (q : Int) : Prop := q = 0 ∨ q = 2 ∨ q = 4 ∨ q = 8 ∨ q = 16

def opC (k mm a b c : Int) (cf : Nat → Int) : Array Value := #[.int .i64 k, .int .i64 mm, .int .i64 a, .int .i64 b, .int .i64 c, .int .i64 (cf 0), .int .i64 (cf 1), .int .i64 (cf 2), .int .i64 (cf 3), .int .i64 (cf 4), .int .i64 (cf 5), .int .i64 (cf 6)]
def prC (x : Option PD) : Array Value := match x with
  | none => #[.pointer none, .pointer none]
  | some x => #[.pointer (some ⟨x.b, 0, none⟩), .pointer (some ⟨x.y.blk 0, 0, none⟩)]

end Go.Proofs.Ytobniidkkmlilaa

/- The reference's Load and Store under the invariant; what a step of a pair needs. -/
namespace Go.Proofs.Ytobniidkkmlilaa
open Go.RowKit Go.Coh

theorem refLoad_inv (y : Lay) (m : RM) (c a l : Nat) (B : Int) (w : World) (el : l = a / 4) (hc : c < m.cores) (ha : a < 256) (I : MInv m B) (hB : B ≤ 1152921504606846976) (H : RmAt w y m) :
    Calls Try.prog 77 #[.pointer (some ⟨y.blk 0, 0, none⟩), .int .i64 c, .int .i64 a] w fun e w' => e = .returned (.tuple #[.int .i64 (m.words a), .int .i64 (m.loadW c l), .int .i64 0]) ∧ RmAt w' y (m.loadS c l) ∧ Upd (rmS y m.cores) w w' := by
  have hl : l < 64 := by omega
  have I1 := I.bump 0
  refine refLoad_good y m c a l w el hc I.c.2 ha (I1.mono (by omega)).rmOk ⟨(I.ht 0).1, by have := (I.ht 0).2; omega⟩ (fun hn => ⟨I1.fetchPre l (by omega), ?_⟩) H
  have kp := RM.fetchedS_keep (m.bump 0) l
  have sk := RM.shareK_keep ((m.bump 0).fetchedS l) l m.cores
  exact ((I1.fetched hl).1.share l m.cores).takePre (by rw [sk.1, kp.1]; exact hc) l (by omega)

theorem refStore_inv (y : Lay) (m : RM) (c a l : Nat) (v : Int) (B : Int) (w : World) (el : l = a / 4) (hc : c < m.cores) (ha : a < 256) (I : MInv m B) (hB : B ≤ 1152921504606846976) (H : RmAt w y m) :
    Calls Try.prog 78 #[.pointer (some ⟨y.blk 0, 0, none⟩), .int .i64 c, .int .i64 a, .int .i64 v] w fun e w' => e = .returned (.tuple #[.int .i64 (m.storeW c l), .int .i64 0]) ∧ RmAt w' y (m.storeS c l a v) ∧ Upd (rmS y m.cores) w w' := by
  have hl : l < 64 := by omega
  have I1 := I.bump 1
  have hc4 := I.c
  refine refStore_good y m c a l v w el hc I.c.2 ha (I1.mono (by omega)).rmOk ⟨(I.ht 1).1, by have := (I.ht 1).2; omega⟩ (fun hn => ⟨I1.fetchPre l (by omega), ?_, ?_⟩) (fun hn => ?_) H
  · exact (I1.fetched hl).1.losePre c hl (by omega)
  · have kp := RM.fetchedS_keep (m.bump 1) l
    have tk := RM.takeK_keep ((m.bump 1).fetchedS l) c l m.cores
    exact ((I1.fetched hl).1.takeK c hl m.cores (by rw [kp.1]; exact Nat.le_refl _)).takePre (by rw [tk.1, kp.1]; exact hc) l (by omega)
  · exact ((I1.near (c := c) (l := l) hc).upgr c l).losePre c hl (by omega)

theorem loadS_cores (m : RM) (c l : Nat) : (m.loadS c l).cores = m.cores := by
  unfold RM.loadS
  split
  · exact (RM.nearS_keep (m.bump 0) c l).1
  · have kp := RM.fetchedS_keep (m.bump 0) l
    have sk := RM.shareK_keep ((m.bump 0).fetchedS l) l m.cores
    show (RM.cleared _ c l).cores = _
    unfold RM.cleared
    split
    · rw [(RM.loseAt_keep _ c _).1]; show (RM.shareK _ l m.cores).cores = _; rw [sk.1, kp.1]; rfl
    · show (RM.shareK _ l m.cores).cores = _; rw [sk.1, kp.1]; rfl
theorem storeS_cores (m : RM) (c l a : Nat) (v : Int) : (m.storeS c l a v).cores = m.cores := by
  show (m.storeM c l).cores = _
  unfold RM.storeM
  split
  · show (RM.takeK _ c l m.cores).cores = _
    rw [(RM.takeK_keep _ c l m.cores).1, (RM.upgr_keep _ c l).1, (RM.nearS_keep (m.bump 1) c l).1]; rfl
  · have kp := RM.fetchedS_keep (m.bump 1) l
    have sk := RM.takeK_keep ((m.bump 1).fetchedS l) c l m.cores
    show (RM.cleared _ c l).cores = _
    unfold RM.cleared
    split
    · rw [(RM.loseAt_keep _ c _).1]; show (RM.takeK _ c l m.cores).cores = _; rw [sk.1, kp.1]; rfl
    · show (RM.takeK _ c l m.cores).cores = _; rw [sk.1, kp.1]; rfl
theorem evictS_cores (m : RM) (c l : Int) : (m.evictS c l).cores = m.cores := by
  unfold RM.evictS
  split
  · exact (RM.loseAt_keep m _ _).1
  · rfl
theorem drainS_cores (m : RM) : m.drainS.cores = m.cores := (RM.drainK_keep m 64).1

theorem boxed {S : Nat → Nat → Prop} {w w1 : World} {pc oc : Array Value} {tp tq : TypeId} (u : Upd S ((w.alloc (.cells pc tp)).alloc (.cells oc tq)) w1) (h1 : ∀ o, ¬ S w.heap.size o) (h2 : ∀ o, ¬ S (w.heap.size + 1) o) :
    w1.heap[w.heap.size]? = some (.cells pc tp) ∧ w1.heap[w.heap.size + 1]? = some (.cells oc tq) ∧ w.heap.size + 1 < w1.heap.size := by
  have hz := u.size
  simp at hz
  refine ⟨?_, ?_, by omega⟩
  · rw [u.block (by simp; omega) h1, Below.heap_alloc _ _ _ (by simp), heap_alloc_new]
  · rw [u.block (by simp) h2]; exact heap_alloc2_new w _ _

/-- behind two boxes: a machine has gone on -/
theorem PairAt.boxes {w : World} {x : PD} {B : Int} (h : PairAt w x B) (o1 o2 : Obj) : PairAt ((w.alloc o1).alloc o2) x B := h.of_upd (S := no) (((Upd.refl no w).alloc _).alloc _) (fun _ _ _ e => e)

theorem Goes.of_boxes {w w' : World} {x : PD} {o1 o2 : Obj} {r1 r2 : RM} (u : Upd (ownS x) ((w.alloc o1).alloc o2) w') (hc : r2.cores = x.r2.cores) : Goes w w' x { x with r1 := r1, r2 := r2 } :=
  ⟨rfl, rfl, fun k hk => .inl (by
    rcases hk with e | ⟨p, hp, e⟩
    · exact .inl e
    · exact .inr ⟨p, by have hp' : p < 4 + 2 * r2.cores := hp; rw [hc] at hp'; exact hp', e⟩), (((Upd.refl (ownS x) w).alloc _).alloc _).trans u⟩

/-! the calls of the two machines, whatever the arguments, by the same functions -/
def RM.lV (m : RM) (c a : Int) : Int := if refE m.cores c a = 0 then m.words a.toNat else 0
def RM.lW (m : RM) (c a : Int) : Int := if refE m.cores c a = 0 then m.loadW c.toNat (a.toNat / 4) else 0
def RM.lS (m : RM) (c a : Int) : RM := if refE m.cores c a = 0 then m.loadS c.toNat (a.toNat / 4) else m
def RM.sW (m : RM) (c a : Int) : Int := if refE m.cores c a = 0 then m.storeW c.toNat (a.toNat / 4) else 0
def RM.sS (m : RM) (c a v : Int) : RM := if refE m.cores c a = 0 then m.storeS c.toNat (a.toNat / 4) a.toNat v else m

theorem refE_nat {n : Nat} {c a : Int} (h : refE n c a = 0) : ∃ i j : Nat, c = i ∧ a = j ∧ i < n ∧ j < 256 := by
  unfold refE at h
  split at h
  · omega
  · split at h
    · omega
    · exact ⟨c.toNat, a.toNat, by omega, by omega, by omega, by omega⟩
theorem stateE_nat {n : Nat} {c a : Int} (h : stateE n c a = 0) : ∃ i j : Nat, c = i ∧ a = j ∧ i < n ∧ j < 64 := by
  unfold stateE at h
  split at h
  · omega
  · split at h
    · omega
    · exact ⟨c.toNat, a.toNat, by omega, by omega, by omega, by omega⟩

theorem MInv.lS {m : RM} {B : Int} (h : MInv m B) (c a : Int) : MInv (m.lS c a) (B + 8) ∧ (m.lS c a).cores = m.cores := by
  unfold RM.lS
  split
  · rename_i he
    obtain ⟨i, j, rfl, rfl, hi, hj⟩ := refE_nat he
    exact ⟨h.load (by simpa using hi) (by simp; omega), loadS_cores _ _ _⟩
  · exact ⟨h.mono (by omega), rfl⟩
theorem MInv.sS {m : RM} {B : Int} (h : MInv m B) (c a v : Int) : MInv (m.sS c a v) (B + 12) ∧ (m.sS c a v).cores = m.cores := by
  unfold RM.sS
  split
  · rename_i he
    obtain ⟨i, j, rfl, rfl, hi, hj⟩ := refE_nat he
    exact ⟨h.store (by simpa using hi) (by simp; omega) _ _, storeS_cores _ _ _ _ _⟩
  · exact ⟨h.mono (by omega), rfl⟩

theorem pLoad_all (b : Nat) (m : RM) (c a B : Int) (w : World) (I : MInv m B) (hB : B ≤ 1152921504606846976) (H : PmAt w b m) :
    Calls Try.prog 34 #[.pointer (some ⟨b, 0, none⟩), .int .i64 c, .int .i64 a] w fun e w' => e = .returned (.tuple #[.int .i64 (m.lV c a), .int .i64 (m.lW c a), .int .i64 (refE m.cores c a)]) ∧ PmAt w' b (m.lS c a) ∧ Upd (blkS b) w w' := by
  unfold RM.lV RM.lW RM.lS
  by_cases he : refE m.cores c a = 0
  · rw [if_pos he, if_pos he, if_pos he, he]
    obtain ⟨i, j, rfl, rfl, hi, hj⟩ := refE_nat he
    exact pLoad_good b m i j (j / 4) B w rfl hi hj I hB H
  · rw [if_neg he, if_neg he, if_neg he]
    refine (pLoad_bad b m c a w he H).mono ?_
    rintro e w' ⟨rfl, rfl⟩
    exact ⟨rfl, H, Upd.refl _ _⟩
theorem refLoad_all (y : Lay) (m : RM) (c a B : Int) (w : World) (I : MInv m B) (hB : B ≤ 1152921504606846976) (H : RmAt w y m) :
    Calls Try.prog 77 #[.pointer (some ⟨y.blk 0, 0, none⟩), .int .i64 c, .int .i64 a] w fun e w' => e = .returned (.tuple #[.int .i64 (m.lV c a), .int .i64 (m.lW c a), .int .i64 (refE m.cores c a)]) ∧ RmAt w' y (m.lS c a) ∧ Upd (rmS y m.cores) w w' := by
  unfold RM.lV RM.lW RM.lS
  by_cases he : refE m.cores c a = 0
  · rw [if_pos he, if_pos he, if_pos he, he]
    obtain ⟨i, j, rfl, rfl, hi, hj⟩ := refE_nat he
    exact refLoad_inv y m i j (j / 4) B w rfl hi hj I hB H
  · rw [if_neg he, if_neg he, if_neg he]
    refine (refLoad_bad y m c a w he H).mono ?_
    rintro e w' ⟨rfl, rfl⟩
    exact ⟨rfl, H, Upd.refl _ _⟩
theorem refStore_all (y : Lay) (m : RM) (c a v B : Int) (w : World) (I : MInv m B) (hB : B ≤ 1152921504606846976) (H : RmAt w y m) :
    Calls Try.prog 78 #[.pointer (some ⟨y.blk 0, 0, none⟩), .int .i64 c, .int .i64 a, .int .i64 v] w fun e w' => e = .returned (.tuple #[.int .i64 (m.sW c a), .int .i64 (refE m.cores c a)]) ∧ RmAt w' y (m.sS c a v) ∧ Upd (rmS y m.cores) w w' := by
  unfold RM.sW RM.sS
  by_cases he : refE m.cores c a = 0
  · rw [if_pos he, if_pos he, he]
    obtain ⟨i, j, rfl, rfl, hi, hj⟩ := refE_nat he
    exact refStore_inv y m i j (j / 4) v B w rfl hi hj I hB H
  · rw [if_neg he, if_neg he]
    refine (refStore_bad y m c a v w he H).mono ?_
    rintro e w' ⟨rfl, rfl⟩
    exact ⟨rfl, H, Upd.refl _ _⟩
theorem pEvict_all (b : Nat) (m : RM) (c l B : Int) (w : World) (I : MInv m B) (H : PmAt w b m) :
    Calls Try.prog 54 #[.pointer (some ⟨b, 0, none⟩), .int .i64 c, .int .i64 l] w fun e w' => e = .returned (.int .i64 (stateE m.cores c l)) ∧ PmAt w' b (m.evictS c l) ∧ Upd (blkS b) w w' := by
  by_cases he : stateE m.cores c l = 0
  · rw [he]
    obtain ⟨i, j, rfl, rfl, hi, hj⟩ := stateE_nat he
    rw [← I.pEvict hi hj]
    exact pEvict_good b m i j w hi hj I.c.2 H
  · have e : m.evictS c l = m := by unfold RM.evictS; rw [if_neg (fun h => he h.1)]
    rw [e]
    refine (pEvict_bad b m c l w he H).mono ?_
    rintro e w' ⟨rfl, rfl⟩
    exact ⟨rfl, H, Upd.refl _ _⟩
theorem refEvict_all (y : Lay) (m : RM) (c l B : Int) (w : World) (I : MInv m B) (H : RmAt w y m) :
    Calls Try.prog 79 #[.pointer (some ⟨y.blk 0, 0, none⟩), .int .i64 c, .int .i64 l] w fun e w' => e = .returned (.int .i64 (stateE m.cores c l)) ∧ RmAt w' y (m.evictS c l) ∧ Upd (rmS y m.cores) w w' :=
  refEvict_any y m c l w I.c.2 I.fi.ok (fun _ _ hi hk hh => (I.find hi hk).2 hh) H

end Go.Proofs.Ytobniidkkmlilaa
