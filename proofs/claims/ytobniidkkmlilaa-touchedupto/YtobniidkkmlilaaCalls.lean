/- The list of calls, read. -/
import Derived.Test.YtobniidkkmlilaaTouched
import Derived.ProofKit
import Derived.OpenShut
import Derived.Deep.Slices
import Derived.Deep.Strs
namespace Go.Proofs.Ytobniidkkmlilaa
open Go.ChangeShapes Go.WideShapes Go.ChangeAt Go.RowKit Go.Coh Go.Deep

theorem bulk_one {H : Type} (d : DataW H) : 1 ≤ Rows.uptoBulk d := by
  cases d with
  | lit l => cases l <;> simp [Rows.uptoBulk]
  | nil => simp [Rows.uptoBulk]
  | ptr d => simp [Rows.uptoBulk]
  | slice elems spare => simp [Rows.uptoBulk]
  | agg parts => simp [Rows.uptoBulk]
  | iface t d => simp [Rows.uptoBulk]
  | map entries => simp [Rows.uptoBulk]
  | held h => simp [Rows.uptoBulk]

theorem bulk_part {H : Type} {d : DataW H} {l : List (DataW H)} (h : d ∈ l) : Rows.uptoBulk d ≤ Rows.uptoBulkAll l := by
  induction l with
  | nil => cases h
  | cons x r ih =>
    simp only [Rows.uptoBulkAll]
    cases List.mem_cons.1 h with
    | inl e => subst e; omega
    | inr e => have := ih e; omega

theorem bulk_len {H : Type} (l : List (DataW H)) : l.length ≤ Rows.uptoBulkAll l := by
  induction l with
  | nil => simp [Rows.uptoBulkAll]
  | cons x r ih => have := bulk_one x; simp only [Rows.uptoBulkAll, List.length_cons]; omega

theorem cells26 : Try.prog.cellsOf 26 = 3 := by kernel_rfl
theorem cells3 : Try.prog.cellsOf 3 = 1 := by kernel_rfl
theorem cells24 : Try.prog.cellsOf 24 = 1 := by kernel_rfl

set_option maxRecDepth 100000 in
/-- one call, read: its numbers and its list -/
theorem call_read {H : Type} {enc : TypeId × Value → H} {W : World} {n : Nat} {x : Addr} {D : DataW H} {Pl : List MemPlace} {cs : List Value}
    (hc : W.cells? 0 x 3 = some cs) (h : DataW.trod enc Try.prog W 0 (fun _ => true) true n 26 cs = some (D, Pl)) (hD : Rows.uptoBulk D ≤ 1048576) :
    ∃ c : Cl, W.cell? x = some (.int .i64 c.p) ∧ W.cell? (x.add 1) = some (.int .i64 c.n) ∧ W.cell? (x.add 2) = some (.slice c.o c.m c.cap) ∧ ClOk W c := by
  obtain ⟨_, hlen, hcell⟩ := World.cells?_some hc
  obtain ⟨y0, y1, y2, k, hx, _, h0, h1, h2⟩ := trod_struct3 Try.underlying26 h
  match cs, hlen with
  | [v0, v1, v2], _ =>
    simp only [cells3, cells24, List.drop, List.take] at h0 h1 h2
    obtain ⟨z0, e0, rfl, w0⟩ := DataW.trod_int Try.underlying3 h0
    obtain ⟨z1, e1, rfl, w1⟩ := DataW.trod_int Try.underlying3 h1
    simp at e0 e1
    subst e0 e1
    have c0 := hcell 0 (by omega)
    have c1 := hcell 1 (by omega)
    have c2 := hcell 2 (by omega)
    simp at c0 c1 c2
    have hx0 : x.add 0 = x := by unfold Addr.add; split <;> simp_all
    simp only [Prod.mk.injEq] at hx
    rcases open_ints Try.underlying24 Try.underlying3 cells3 h2 with ⟨e2, _⟩ | ⟨a, len, cap, zs, e2, _, hl, hm, hz, hy, hcl, hwz⟩
    · simp at e2
      subst e2
      refine ⟨⟨z0, z1, none, 0, 0, fun _ => 0⟩, by simpa [hx0] using c0, c1, c2, by show (0 : Nat) ≤ _; omega, fun h => absurd h (Nat.lt_irrefl _), fun i hi => absurd hi (Nat.not_lt_zero _)⟩
    · simp at e2
      subst e2
      simp only [if_true] at hz
      have hlen2 : len ≤ 1048576 := by
        rw [hx.1, hy] at hD
        simp only [Rows.uptoBulk, Rows.uptoBulkAll] at hD
        have h3 := bulk_len (lits (H := H) .i64 (zs.take len))
        have h4 : (lits (H := H) .i64 (zs.take len)).length = len := by simp [lits]; omega
        omega
      refine ⟨⟨z0, z1, some a, len, cap, fun i => zs.getD i 0⟩, by simpa [hx0] using c0, c1, c2, hlen2, fun hpos => ?_, fun i hi => ?_⟩
      · obtain ⟨b, off, rfl, hcc⟩ := ints_at hcl (by show 0 < zs.length; have : 0 < len := hpos; omega)
        exact ⟨b, off, rfl, World.block_lt_of_cell? W _ (hcc 0 (by have : 0 < len := hpos; omega)), fun i hi => hcc i (by have : i < len := hi; omega)⟩
      · have hi' : i < zs.length := by have : i < len := hi; omega
        have hzz : zs.getD i 0 = zs[i] := by simp [List.getD, hi']
        show zs.getD i 0 ≤ _
        rw [hzz]
        exact (bounds_i64 (hwz _ (List.getElem_mem hi'))).2

/-- all calls, read -/
theorem calls_read {H : Type} {enc : TypeId × Value → H} {W : World} {fuel : Nat} {v : Value} {d : DataW H} {p : List MemPlace} (h : DataW.trod enc Try.prog W 0 (fun _ => true) true fuel 22 [v] = some (d, p)) (hk : Rows.uptoBulk d ≤ 1048576) :
    ∃ (o : Option Addr) (M cap : Nat) (C : Nat → Cl), v = .slice o M cap ∧ M ≤ 1048575 ∧ (∀ i, i < M → ClOk W (C i)) ∧
      (0 < M → ∃ a off, o = some ⟨a, off, none⟩ ∧ a < W.heap.size ∧ ∀ i, i < M → W.cell? ⟨a, off + i * 3, none⟩ = some (.int .i64 (C i).p) ∧ W.cell? ⟨a, off + i * 3 + 1, none⟩ = some (.int .i64 (C i).n) ∧ W.cell? ⟨a, off + i * 3 + 2, none⟩ = some (.slice (C i).o (C i).m (C i).cap)) := by
  rcases open_slice Try.underlying22 h with ⟨hcs, _⟩ | ⟨a, len, cap, m, n, D, Pl, hcs, _, hl, hm, hmm, hx, hel⟩
  · simp at hcs
    subst hcs
    exact ⟨none, 0, 0, fun _ => ⟨0, 0, none, 0, 0, fun _ => 0⟩, rfl, by omega, fun i hi => absurd hi (Nat.not_lt_zero _), fun h => absurd h (Nat.lt_irrefl _)⟩
  · simp at hcs
    subst hcs
    simp only [if_true] at hmm
    simp only [Prod.mk.injEq] at hx
    rw [hx.1] at hk
    simp only [Rows.uptoBulk] at hk
    have hlen := bulk_len ((List.range len).map D)
    simp only [List.length_map, List.length_range] at hlen
    rw [cells26] at hel
    have each : ∀ i, i < len → ∃ c : Cl, W.cell? (a.add (i * 3)) = some (.int .i64 c.p) ∧ W.cell? ((a.add (i * 3)).add 1) = some (.int .i64 c.n) ∧ W.cell? ((a.add (i * 3)).add 2) = some (.slice c.o c.m c.cap) ∧ ClOk W c := fun i hi => by
      obtain ⟨cs', h1, h2⟩ := hel i (by omega)
      refine call_read h1 h2 ?_
      have hmem : D i ∈ (List.range len).map D := List.mem_map.2 ⟨i, by simpa using hi, rfl⟩
      have := bulk_part hmem
      omega
    have hinh : Inhabited Cl := ⟨⟨0, 0, none, 0, 0, fun _ => 0⟩⟩
    obtain ⟨C, hC⟩ := choose_lt (α := Cl) each
    refine ⟨some a, len, cap, C, rfl, by omega, fun i hi => (hC i hi).2.2.2, fun hpos => ?_⟩
    obtain ⟨b, off, spot⟩ := a
    have hsp : spot = none := by simpa [Addr.add] using World.cell?_spot (hC 0 hpos).1
    subst hsp
    have ad : ∀ j, (⟨b, off, none⟩ : Addr).add j = ⟨b, off + j, none⟩ := fun j => Addr.add_mid b off j
    refine ⟨b, off, rfl, ?_, fun i hi => ?_⟩
    · have := (hC 0 hpos).1
      rw [ad] at this
      exact World.block_lt_of_cell? W _ this
    · obtain ⟨h1, h2, h3, _⟩ := hC i hi
      rw [add_add, ad] at h2 h3
      rw [ad] at h1
      exact ⟨h1, by rw [Nat.add_assoc]; exact h2, by rw [Nat.add_assoc]; exact h3⟩

end Go.Proofs.Ytobniidkkmlilaa
