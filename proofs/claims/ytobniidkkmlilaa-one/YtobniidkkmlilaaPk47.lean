import Derived.Test.YtobniidkkmlilaaPk20
import Derived.Test.YtobniidkkmlilaaRows
import Derived.ProofKit
import Derived.OpenShut
import Derived.Deep.Slices
import Derived.Deep.Strs
import Derived.Test.YtobniidkkmlilaaPk46

/- A machine's numbers and a script of package coherentkeep, read. -/
namespace Go.Proofs.Ytobniidkkmlilaa
open Go.ChangeShapes Go.WideShapes Go.ChangeAt Go.RowKit Go.Coh Go.Deep

theorem kbytesOp : Try.prog.bytesOf 66 = 32 := by kernel_rfl
theorem kcellsOp : Try.prog.cellsOf 66 = 4 := by kernel_rfl
theorem kcellsConf : Try.prog.cellsOf 53 = 7 := by kernel_rfl
theorem kcells3 : Try.prog.cellsOf 3 = 1 := by kernel_rfl

theorem kdrop_take_one {cs : List Value} {o : Nat} {v : Value} (h : (cs.drop o).take 1 = [v]) : cs[o]? = some v := by
  have h1 : ((cs.drop o).take 1)[0]? = some v := by rw [h]; rfl
  rw [List.getElem?_take, if_pos (by omega), List.getElem?_drop, Nat.add_zero] at h1
  exact h1

theorem kstruct_ints {H : Type} {enc : TypeId × Value → H} {W : World} {sp : Nat → Bool} {fuel : Nat} {t : TypeId} {cs : List Value} {x : DataW H × List MemPlace} {fs : Array Field} (ht : Try.prog.underlying t = some (.struct fs)) (h : DataW.trod enc Try.prog W 0 sp true fuel t cs = some x)
    (i : Nat) (f : Field) (hi : fs[i]? = some f) (hty : f.type = 3) : ∃ z : Int, cs[f.offset]? = some (.int .i64 z) ∧ (Lit.int .i64 z).wf = true := by
  obtain ⟨xs, n, _, _, _, hlen, hf⟩ := DataW.trod_struct ht h
  have h1 := hf i f hi
  have hlt : i < xs.length := by rw [hlen]; exact (Array.getElem?_eq_some_iff.1 hi).1
  rw [List.getElem?_eq_getElem hlt] at h1
  rw [hty, kcells3] at h1
  obtain ⟨z, e, _, hw⟩ := DataW.trod_int Try.underlying3 h1
  exact ⟨z, kdrop_take_one e, hw⟩

def InI64 (z : Int) : Prop := -9223372036854775808 ≤ z ∧ z ≤ 9223372036854775807

set_option maxRecDepth 100000 in
theorem conf_read {H : Type} {enc : TypeId × Value → H} {W : World} {sp : Nat → Bool} {n : Nat} {cs : Array Value} {x : DataW H × List MemPlace} (hs : cs.size = 7)
    (h : DataW.trod enc Try.prog W 0 sp true n 53 cs.toList = some x) : ∃ c : Nat → Int, cs = celC c ∧ ∀ j, j < 7 → InI64 (c j) := by
  have key : ∀ j, j < 7 → ∃ z : Int, cs.toList[j]? = some (.int .i64 z) ∧ (Lit.int .i64 z).wf = true := by
    intro j hj
    have A := kstruct_ints Try.underlying53 h
    match j, hj with
    | 0, _ => exact A 0 _ rfl rfl
    | 1, _ => exact A 1 _ rfl rfl
    | 2, _ => exact A 2 _ rfl rfl
    | 3, _ => exact A 3 _ rfl rfl
    | 4, _ => exact A 4 _ rfl rfl
    | 5, _ => exact A 5 _ rfl rfl
    | 6, _ => exact A 6 _ rfl rfl
  obtain ⟨c, hc⟩ := choose_lt (α := Int) key
  refine ⟨c, ?_, fun j hj => bounds_i64 (hc j hj).2⟩
  have e : cs.toList = (celC c).toList := by
    refine List.ext_getElem? (fun j => ?_)
    by_cases hj : j < 7
    · rw [(hc j hj).1]
      match j, hj with
      | 0, _ => rfl
      | 1, _ => rfl
      | 2, _ => rfl
      | 3, _ => rfl
      | 4, _ => rfl
      | 5, _ => rfl
      | 6, _ => rfl
    · rw [List.getElem?_eq_none (by rw [Array.length_toList, hs]; omega), List.getElem?_eq_none (by show 7 ≤ j; omega)]
  exact Array.toList_inj.1 e

/-- a step lies in the memory -/
def KOpAt (w : World) (a off i : Nat) (os : Nat → Nat → Int) : Prop := ∀ j, j < 4 → w.cell? ⟨a, off + i * 4 + j, none⟩ = some (.int .i64 (os i j))

set_option maxRecDepth 100000 in
theorem kop_read {H : Type} {enc : TypeId × Value → H} {W : World} {n : Nat} {x : Addr} {D : DataW H} {Pl : List MemPlace} {cs : List Value}
    (hc : W.cells? 0 x 4 = some cs) (h : DataW.trod enc Try.prog W 0 (fun _ => true) true n 66 cs = some (D, Pl)) :
    ∃ o : Nat → Int, (∀ j, j < 4 → W.cell? (x.add j) = some (.int .i64 (o j))) ∧ ∀ j, j < 4 → InI64 (o j) := by
  obtain ⟨_, hlen, hcell⟩ := World.cells?_some hc
  have key : ∀ j, j < 4 → ∃ z : Int, cs[j]? = some (.int .i64 z) ∧ (Lit.int .i64 z).wf = true := by
    intro j hj
    have A := kstruct_ints Try.underlying66 h
    match j, hj with
    | 0, _ => exact A 0 _ rfl rfl
    | 1, _ => exact A 1 _ rfl rfl
    | 2, _ => exact A 2 _ rfl rfl
    | 3, _ => exact A 3 _ rfl rfl
  obtain ⟨o, ho⟩ := choose_lt (α := Int) key
  refine ⟨o, fun j hj => ?_, fun j hj => bounds_i64 (ho j hj).2⟩
  have h1 := hcell j hj
  rw [(ho j hj).1] at h1
  exact h1

/-- a script: its slice, its length, its steps -/
structure Script (W : World) (o : Option Addr) (M : Nat) (os : Nat → Nat → Int) : Prop where
  r : ∀ i, i < M → ∀ j, j < 4 → InI64 (os i j)
  c : 0 < M → ∃ a off, o = some ⟨a, off, none⟩ ∧ a < W.heap.size ∧ ∀ i, i < M → KOpAt W a off i os

theorem kops_read {H : Type} {enc : TypeId × Value → H} {W : World} {fuel : Nat} {v : Value} {d : DataW H} {p : List MemPlace} (h : DataW.trod enc Try.prog W 0 (fun _ => true) true fuel 54 [v] = some (d, p)) :
    ∃ (o : Option Addr) (M cap : Nat) (os : Nat → Nat → Int), v = .slice o M cap ∧ M ≤ 9223372036854775807 ∧ (M = 0 ∨ ∃ elems spare, d = .slice elems spare ∧ elems.length = M) ∧ Script W o M os := by
  rcases open_slice Try.underlying54 h with ⟨hcs, _⟩ | ⟨a, len, cap, m, n, D, Pl, hcs, _, hl, hm, hmm, hx, hel⟩
  · simp at hcs
    subst hcs
    exact ⟨none, 0, 0, fun _ _ => 0, rfl, by omega, .inl rfl, fun i hi => absurd hi (Nat.not_lt_zero _), fun h => absurd h (Nat.lt_irrefl _)⟩
  · simp at hcs
    subst hcs
    simp only [if_true] at hmm
    simp only [Prod.mk.injEq] at hx
    have hM : len ≤ 9223372036854775807 := by have : maxLen = 9223372036854775807 := rfl; omega
    have hb : ∃ elems spare, d = .slice elems spare ∧ elems.length = len := ⟨_, _, hx.1, by simp⟩
    rw [kcellsOp] at hel
    have each : ∀ i, i < len → ∃ o : Nat → Int, (∀ j, j < 4 → W.cell? ((a.add (i * 4)).add j) = some (.int .i64 (o j))) ∧ ∀ j, j < 4 → InI64 (o j) := fun i hi => by
      obtain ⟨cs', h1, h2⟩ := hel i (by omega)
      exact kop_read h1 h2
    have hinh : Inhabited (Nat → Int) := ⟨fun _ => 0⟩
    obtain ⟨C, hC⟩ := choose_lt (α := Nat → Int) each
    refine ⟨some a, len, cap, C, rfl, hM, .inr hb, fun i hi => (hC i hi).2, fun hpos => ?_⟩
    obtain ⟨b, off, spot⟩ := a
    have hsp : spot = none := by
      have h1 := (hC 0 hpos).1 0 (by omega)
      simpa [Addr.add] using World.cell?_spot h1
    subst hsp
    have ad : ∀ o j, (⟨b, o, none⟩ : Addr).add j = ⟨b, o + j, none⟩ := fun o j => Addr.add_mid b o j
    have hcc : ∀ i, i < len → KOpAt W b off i C := fun i hi j hj => by
      have h1 := (hC i hi).1 j hj
      rw [ad, ad] at h1
      exact h1
    exact ⟨b, off, rfl, World.block_lt_of_cell? W _ (hcc 0 hpos 0 (by omega)), hcc⟩

theorem int_read {H : Type} {enc : TypeId × Value → H} {W : World} {sp : Nat → Bool} {n : Nat} {v : Value} {x : DataW H × List MemPlace} (h : DataW.trod enc Try.prog W 0 sp true n 3 [v] = some x) : ∃ z : Int, v = .int .i64 z ∧ InI64 z := by
  obtain ⟨z, e, _, hw⟩ := DataW.trod_int Try.underlying3 h
  simp at e
  exact ⟨z, e, bounds_i64 hw⟩

end Go.Proofs.Ytobniidkkmlilaa

/- What package coherentkeep's laws begin with: a machine's numbers, a book. -/
namespace Go.Proofs.Ytobniidkkmlilaa
open Go.RowKit Go.Coh

theorem powB_of {n : Nat} (h : Size n) : powB n = true := by
  rcases h with rfl | rfl | rfl | rfl <;> rfl
theorem checkE_ok {c : Nat → Int} {n S W P LS LW LP : Nat} (h : CfOk c n S W P LS LW LP) : checkE c = 0 := by
  have h0 := h.n0
  have e0 := h.e0
  have e3 := h.e3
  have e6 := h.e6
  have s3 := h.sP
  have s6 := h.sLP
  unfold checkE
  rw [h.e1, h.e2, h.e4, h.e5, powB_of h.sS, powB_of h.sW, powB_of h.sLS, powB_of h.sLW]
  unfold checkB
  rw [if_neg (by omega), if_neg (by simp), if_neg (by simp), if_neg (by omega), if_neg (by omega)]
theorem fit_ok (c : Nat → Int) : CfOk (fitC c) (1 + pickN (c 0) 4) (powerN (c 1)) (powerN (c 2)) (pickN (c 3) 2) (powerN (c 4)) (powerN (c 5)) (pickN (c 6) 5) := by
  have h0 := pickN_lt (c 0) 4 (by omega)
  have h3 := pickN_lt (c 3) 2 (by omega)
  have h6 := pickN_lt (c 6) 5 (by omega)
  exact ⟨by show 1 + (pickN (c 0) 4 : Int) = _; omega, rfl, rfl, rfl, rfl, rfl, rfl, by omega, powerN_size _, powerN_size _, by omega, powerN_size _, powerN_size _, by omega⟩

theorem zeroBook : Try.zeroCells63 = zc 261 := by kernel_rfl
theorem new_book {w : World} {b : Nat} (h : w.heap[b]? = some (.cells (zc 261) 63 (0, 0))) : BkAt w b ⟨fun _ => 0, 0, 0, fun _ => 0⟩ := by
  have hc : ∀ j, j < 261 → w.cell? ⟨b, j, none⟩ = some (.int .i64 0) := fun j hj => by
    have : w.cell? ⟨b, j, none⟩ = (zc 261)[j]? := by simp [World.cell?, h]
    rw [this]; exact zc_get 261 j hj
  have hf : ∀ o, w.frozen? ⟨b, o, none⟩ = false := fun o => by simp [World.frozen?, h]
  exact ⟨fun j hj => ⟨hc _ (by omega), hf _⟩, fun j hj => ⟨hc _ (by omega), hf _⟩, fun j hj => ⟨hc _ (by omega), hf _⟩, fun j hj => ⟨hc _ (by omega), hf _⟩⟩
theorem new_bkIs (c : Nat → Int) : BkIs ⟨fun _ => 0, 0, 0, fun _ => 0⟩ (newM c).freshS := ⟨fun _ _ => rfl, rfl, rfl, fun _ _ => rfl⟩

theorem lS_words {m : RM} {B : Int} (I : MInv m B) (c a : Int) : (m.lS c a).words = m.words := by
  unfold RM.lS
  split
  · rename_i he
    obtain ⟨i, j, rfl, rfl, hi, hj⟩ := refE_nat he
    rw [← (I.pLoad_eq (c := ((i : Int)).toNat) (l := ((j : Int)).toNat / 4) (by simpa using hi) (by simp; omega)).1]
    exact (Low.pLine m _ _).w
  · rfl
theorem sS_words {m : RM} {B : Int} (I : MInv m B) {c a : Nat} (hc : c < m.cores) (ha : a < 256) (v : Int) : (m.sS c a v).words = upd m.words a v := by
  unfold RM.sS
  rw [if_pos (refE_zero hc ha)]
  rw [← (I.pStore_eq (c := ((c : Int)).toNat) (l := ((a : Int)).toNat / 4) (by simpa using hc) (by simp; omega) _ _).1]
  rfl

theorem conf_cells {w : World} {b : Nat} {c : Nat → Int} (h : w.heap[b]? = some (.cells (celC c) 53)) : ∀ j, j < 7 → w.cell? ⟨b, j, none⟩ = some (.int .i64 (c j)) := fun j hj => by
  have : w.cell? ⟨b, j, none⟩ = (celC c)[j]? := by simp [World.cell?, h]
  rw [this]
  match j, hj with
  | 0, _ | 1, _ | 2, _ | 3, _ | 4, _ | 5, _ | 6, _ => rfl

/-- other numbers, the same number of cores -/
def setN (d : Nat → Int) (x : Int) : Nat → Int := fun j => if j = 0 then x else d j
theorem setN_ok {d : Nat → Int} {n n' S W P LS LW LP : Nat} {x : Int} (h : CfOk d n S W P LS LW LP) (hx : x = n') (hn : 0 < n' ∧ n' ≤ 4) : CfOk (setN d x) n' S W P LS LW LP :=
  ⟨hx, h.e1, h.e2, h.e3, h.e4, h.e5, h.e6, hn, h.sS, h.sW, h.sP, h.sLS, h.sLW, h.sLP⟩

theorem load_has {m : RM} {B : Int} (I : MInv m B) {c l : Nat} (hc : c < m.cores) (hl : l < 64) : (m.loadS c l).has c l ≠ 0 := by
  unfold RM.loadS
  split
  · rename_i hn
    rw [(RM.nearS_keep (m.bump 0) c l).2.1]
    exact ((I.bump 0).near_eq (c := c) (l := l) hc hl).1 hn
  · show updH _ c l _ c l ≠ 0
    unfold updH
    rw [if_pos ⟨rfl, rfl⟩]
    rcases shareV_spec ((m.bump 0).fetchedS l) l (m.bump 0).cores with ⟨q, _⟩ | q
    · rw [q]; omega
    · rw [q]; omega

/-- the machine, its numbers and the book of a law, behind some steps -/
structure KAt (w0 wr : World) (cb bb xb : Nat) (cf : Nat → Int) (m : RM) : Prop where
  n1 : w0.heap.size ≤ cb ∧ w0.heap.size ≤ bb ∧ w0.heap.size ≤ xb
  n2 : cb ≠ bb ∧ cb ≠ xb ∧ bb ≠ xb
  lt : cb < wr.heap.size
  c : ∀ j, j < 7 → wr.cell? ⟨cb, j, none⟩ = some (.int .i64 (cf j))
  p : PmAt wr xb m
  b : ∃ k, BkAt wr bb k ∧ BkIs k m
  u : Upd no w0 wr

theorem upd_above {S : Nat → Nat → Prop} {w w1 w2 : World} (h : Upd no w w1) (g : Upd S w1 w2) (hl : ∀ k o, S k o → w.heap.size ≤ k) : Upd no w w2 :=
  ((h.mono (S' := S) (fun _ _ e => e.elim)).trans g).shrink (fun k o hk hs => by have := hl k o hs; omega)

theorem KAt.go {w0 wr w' : World} {cb bb xb : Nat} {cf : Nat → Int} {m m' : RM} {S : Nat → Nat → Prop} (h : KAt w0 wr cb bb xb cf m) (hp : PmAt w' xb m') (hb : ∃ k, BkAt w' bb k ∧ BkIs k m') (u : Upd S wr w') (hS : ∀ k o, S k o → k = bb ∨ k = xb) : KAt w0 w' cb bb xb cf m' := by
  have n1 := h.n1
  have n2 := h.n2
  refine ⟨n1, n2, Nat.lt_of_lt_of_le h.lt u.size, fun j hj => ?_, hp, hb, upd_above h.u u (fun k o hk => ?_)⟩
  · rw [u.cell h.lt (fun q => by rcases hS _ _ q with e | e; exact n2.1 e; exact n2.2.1 e)]; exact h.c j hj
  · rcases hS _ _ hk with e | e <;> omega
theorem KAt.step {w0 wr w' : World} {cb bb xb : Nat} {cf : Nat → Int} {m m' : RM} (h : KAt w0 wr cb bb xb cf m) (g : Went bb xb m' wr w') : KAt w0 w' cb bb xb cf m' := h.go g.p g.b g.u (fun _ _ e => e)
theorem KAt.of_no {w0 wr w' : World} {cb bb xb : Nat} {cf : Nat → Int} {m : RM} (h : KAt w0 wr cb bb xb cf m) (u : Upd no wr w') : KAt w0 w' cb bb xb cf m := by
  obtain ⟨k, h1, h2⟩ := h.b
  exact h.go (h.p.of_upd u (fun _ e => e)) ⟨k, h1.of_upd u (fun _ e => e), h2⟩ u (fun _ _ e => e.elim)

theorem Script.cells {w wr : World} {oS : Option Addr} {M : Nat} {os : Nat → Nat → Int} (h : Script w oS M os) (u : Upd no w wr) {k : Nat} (hk : k < M) : ∃ a off, oS = some ⟨a, off, none⟩ ∧
    wr.cell? ⟨a, off + k * 4, none⟩ = some (.int .i64 (os k 0)) ∧ wr.cell? ⟨a, off + k * 4 + 1, none⟩ = some (.int .i64 (os k 1)) ∧ wr.cell? ⟨a, off + k * 4 + 2, none⟩ = some (.int .i64 (os k 2)) ∧ wr.cell? ⟨a, off + k * 4 + 3, none⟩ = some (.int .i64 (os k 3)) := by
  obtain ⟨a, off, e, ha, hc⟩ := h.c (by omega)
  have keep : ∀ o, wr.cell? ⟨a, o, none⟩ = w.cell? ⟨a, o, none⟩ := fun o => u.cell ha (fun h => h)
  exact ⟨a, off, e, (keep _).trans (hc k hk 0 (by omega)), (keep _).trans (hc k hk 1 (by omega)), (keep _).trans (hc k hk 2 (by omega)), (keep _).trans (hc k hk 3 (by omega))⟩

/-- a law has made its machine and its book -/
theorem KAt.start {w w1 w2 : World} {cf : Nat → Int} {b2 : Nat} (u1 : Upd no w w1) (hb2 : (w1.alloc (.cells (celC cf) 53)).heap.size ≤ b2) (u2 : Upd no (w1.alloc (.cells (celC cf) 53)) w2) (hp : PmAt w2 b2 (newM cf).freshS) :
    KAt w (w2.alloc (.cells Try.zeroCells63 63)) w1.heap.size w2.heap.size b2 cf (newM cf).freshS := by
  have s1 := u1.size
  have s2 := u2.size
  have hlt := hp.blt
  simp at hb2 s2
  have hbk := heap_alloc_new w1 (.cells (celC cf) 53)
  rw [← u2.block (by simp) (fun _ h => h)] at hbk
  have hbk2 : (w2.alloc (.cells Try.zeroCells63 63)).heap[w1.heap.size]? = some (.cells (celC cf) 53) := by rw [Below.heap_alloc _ _ _ (by omega)]; exact hbk
  refine ⟨⟨s1, by omega, by omega⟩, ⟨by omega, by omega, by omega⟩, by simp; omega, fun j hj => ?_, hp.box _, ⟨_, new_book ?_, new_bkIs cf⟩, ((u1.alloc _).trans u2).alloc _⟩
  · have : (w2.alloc (.cells Try.zeroCells63 63)).cell? ⟨w1.heap.size, j, none⟩ = (celC cf)[j]? := by simp [World.cell?, hbk2]
    rw [this]
    match j, hj with
    | 0, _ | 1, _ | 2, _ | 3, _ | 4, _ | 5, _ | 6, _ => rfl
  · rw [heap_alloc_new, zeroBook]

theorem step_at (bb xb : Nat) (m : RM) (k : Bk) (o : Nat → Int) (B : Int) (w : World) (n : Nat) (hn : m.cores = n) (hne : bb ≠ xb) (hB : B ≤ 576460752303423488) (ho : ∀ j, j < 4 → -9223372036854775808 ≤ o j ∧ o j ≤ 9223372036854775807) (I : MInv m B) (CI : CInv m) (hk : BkIs k m) (HP : PmAt w xb m) (HB : BkAt w bb k) :
    Calls Try.prog 30 #[.pointer (some ⟨bb, 0, none⟩), .pointer (some ⟨xb, 0, none⟩), .int .i64 n, .agg (opK o)] w (Stept bb xb m o w) := by
  subst hn
  exact step_any bb xb m k o B w hne hB ho I CI hk HP HB

end Go.Proofs.Ytobniidkkmlilaa
