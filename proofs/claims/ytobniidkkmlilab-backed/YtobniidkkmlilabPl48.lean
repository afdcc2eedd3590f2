import Derived.Test.YtobniidkkmlilabPl47
import Derived.ProofKit
import Derived.OpenShut
import Derived.Deep.Slices
import Derived.Deep.Strs

/- A script, read. -/
namespace Go.Proofs.Ytobniidkkmlilab
open Go.ChangeShapes Go.WideShapes Go.ChangeAt Go.RowKit Go.Coh Go.Deep

theorem sbytesOp : Try.prog.bytesOf 77 = 96 := by kernel_rfl
theorem scells81 : Try.prog.cellsOf 77 = 12 := by kernel_rfl
theorem scells53 : Try.prog.cellsOf 23 = 7 := by kernel_rfl
theorem scells3 : Try.prog.cellsOf 3 = 1 := by kernel_rfl

theorem drop_take_one {cs : List Value} {o : Nat} {v : Value} (h : (cs.drop o).take 1 = [v]) : cs[o]? = some v := by
  have h1 : ((cs.drop o).take 1)[0]? = some v := by rw [h]; rfl
  rw [List.getElem?_take, if_pos (by omega), List.getElem?_drop, Nat.add_zero] at h1
  exact h1

/-- one number of a struct -/
theorem field_int {H : Type} {enc : TypeId × Value → H} {W : World} {sp : Nat → Bool} {n : Nat} {cs : List Value} {f : Field} {y : DataW H × List MemPlace} (hf : f.type = 3) (h : DataW.trod enc Try.prog W 0 sp true n f.type ((cs.drop f.offset).take (Try.prog.cellsOf f.type)) = some y) :
    ∃ z : Int, cs[f.offset]? = some (.int .i64 z) ∧ (Lit.int .i64 z).wf = true := by
  rw [hf, scells3] at h
  obtain ⟨z, e, _, hw⟩ := DataW.trod_int Try.underlying3 h
  exact ⟨z, drop_take_one e, hw⟩

theorem struct_ints {H : Type} {enc : TypeId × Value → H} {W : World} {sp : Nat → Bool} {fuel : Nat} {t : TypeId} {cs : List Value} {x : DataW H × List MemPlace} {fs : Array Field} (ht : Try.prog.underlying t = some (.struct fs)) (h : DataW.trod enc Try.prog W 0 sp true fuel t cs = some x)
    (i : Nat) (f : Field) (hi : fs[i]? = some f) (hty : f.type = 3) : ∃ z : Int, cs[f.offset]? = some (.int .i64 z) ∧ (Lit.int .i64 z).wf = true := by
  obtain ⟨xs, n, _, _, _, hlen, hf⟩ := DataW.trod_struct ht h
  have h1 := hf i f hi
  have hlt : i < xs.length := by rw [hlen]; exact (Array.getElem?_eq_some_iff.1 hi).1
  rw [List.getElem?_eq_getElem hlt] at h1
  exact field_int hty h1

set_option maxRecDepth 100000 in
/-- one op, read -/
theorem op_read {H : Type} {enc : TypeId × Value → H} {W : World} {n : Nat} {x : Addr} {D : DataW H} {Pl : List MemPlace} {cs : List Value}
    (hc : W.cells? 0 x 12 = some cs) (h : DataW.trod enc Try.prog W 0 (fun _ => true) true n 77 cs = some (D, Pl)) :
    ∃ o : Nat → Int, (∀ j, j < 12 → W.cell? (x.add j) = some (.int .i64 (o j))) ∧ (-9223372036854775808 ≤ o 1 ∧ o 1 ≤ 9223372036854775807) := by
  obtain ⟨_, hlen, hcell⟩ := World.cells?_some hc
  have key : ∀ j, j < 12 → ∃ z : Int, cs[j]? = some (.int .i64 z) ∧ (Lit.int .i64 z).wf = true := by
    intro j hj
    by_cases h5 : j < 5
    · have A := struct_ints Try.underlying77 h
      match j, h5 with
      | 0, _ => exact A 0 _ rfl rfl
      | 1, _ => exact A 1 _ rfl rfl
      | 2, _ => exact A 2 _ rfl rfl
      | 3, _ => exact A 3 _ rfl rfl
      | 4, _ => exact A 4 _ rfl rfl
    · obtain ⟨xs, n', _, _, _, hl, hf⟩ := DataW.trod_struct Try.underlying77 h
      have h1 := hf 5 _ rfl
      have hlt : 5 < xs.length := by rw [hl]; decide
      rw [List.getElem?_eq_getElem hlt] at h1
      have A := struct_ints Try.underlying23 h1
      have B : ∀ i, i < 7 → ((cs.drop 5).take (Try.prog.cellsOf 23))[i]? = cs[5 + i]? := fun i hi => by
        rw [scells53, List.getElem?_take, if_pos hi, List.getElem?_drop]
      obtain ⟨i, rfl⟩ : ∃ i, j = 5 + i := ⟨j - 5, by omega⟩
      rw [← B i (by omega)]
      match i, (show i < 7 by omega) with
      | 0, _ => exact A 0 _ rfl rfl
      | 1, _ => exact A 1 _ rfl rfl
      | 2, _ => exact A 2 _ rfl rfl
      | 3, _ => exact A 3 _ rfl rfl
      | 4, _ => exact A 4 _ rfl rfl
      | 5, _ => exact A 5 _ rfl rfl
      | 6, _ => exact A 6 _ rfl rfl
  obtain ⟨o, ho⟩ := choose_lt (α := Int) key
  refine ⟨o, fun j hj => ?_, bounds_i64 (ho 1 (by omega)).2⟩
  have h1 := hcell j hj
  rw [(ho j hj).1] at h1
  exact h1

/-- all ops, read -/
theorem ops_read {H : Type} {enc : TypeId × Value → H} {W : World} {fuel : Nat} {v : Value} {d : DataW H} {p : List MemPlace} (h : DataW.trod enc Try.prog W 0 (fun _ => true) true fuel 47 [v] = some (d, p)) :
    ∃ (o : Option Addr) (M cap : Nat) (os : Nat → Nat → Int), v = .slice o M cap ∧ (M = 0 ∨ ∃ elems spare, d = .slice elems spare ∧ elems.length = M) ∧ (∀ i, i < M → -9223372036854775808 ≤ os i 1 ∧ os i 1 ≤ 9223372036854775807) ∧
      (0 < M → ∃ a off, o = some ⟨a, off, none⟩ ∧ a < W.heap.size ∧ ∀ i, i < M → OpAt W a off i os) := by
  rcases open_slice Try.underlying47 h with ⟨hcs, _⟩ | ⟨a, len, cap, m, n, D, Pl, hcs, _, hl, hm, hmm, hx, hel⟩
  · simp at hcs
    subst hcs
    exact ⟨none, 0, 0, fun _ _ => 0, rfl, .inl rfl, fun i hi => absurd hi (Nat.not_lt_zero _), fun h => absurd h (Nat.lt_irrefl _)⟩
  · simp at hcs
    subst hcs
    simp only [if_true] at hmm
    simp only [Prod.mk.injEq] at hx
    rw [scells81] at hel
    have each : ∀ i, i < len → ∃ o : Nat → Int, (∀ j, j < 12 → W.cell? ((a.add (i * 12)).add j) = some (.int .i64 (o j))) ∧ (-9223372036854775808 ≤ o 1 ∧ o 1 ≤ 9223372036854775807) := fun i hi => by
      obtain ⟨cs', h1, h2⟩ := hel i (by omega)
      exact op_read h1 h2
    have hinh : Inhabited (Nat → Int) := ⟨fun _ => 0⟩
    obtain ⟨C, hC⟩ := choose_lt (α := Nat → Int) each
    refine ⟨some a, len, cap, C, rfl, .inr ⟨_, _, hx.1, by simp⟩, fun i hi => (hC i hi).2, fun hpos => ?_⟩
    obtain ⟨b, off, spot⟩ := a
    have ad0 : ∀ (s : Option _) j, (⟨b, off, s⟩ : Addr).add j = (⟨b, off, s⟩ : Addr).add j := fun _ _ => rfl
    have hsp : spot = none := by
      have h1 := (hC 0 hpos).1 0 (by omega)
      simpa [Addr.add] using World.cell?_spot h1
    subst hsp
    have ad : ∀ o j, (⟨b, o, none⟩ : Addr).add j = ⟨b, o + j, none⟩ := fun o j => Addr.add_mid b o j
    have hcc : ∀ i, i < len → OpAt W b off i C := fun i hi j hj => by
      have h1 := (hC i hi).1 j hj
      rw [ad, ad] at h1
      exact h1
    refine ⟨b, off, rfl, World.block_lt_of_cell? W _ (hcc 0 hpos 0 (by omega)), hcc⟩

end Go.Proofs.Ytobniidkkmlilab
