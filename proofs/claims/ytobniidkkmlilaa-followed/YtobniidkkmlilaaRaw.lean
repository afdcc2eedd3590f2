/- Raw numbers out of a slice that came in. -/
import Derived.Test.YtobniidkkmlilaaKb
import Derived.OpenShut
namespace Go.Proofs.Ytobniidkkmlilaa
open Go.RowKit Go.Coh

theorem raw_of_row {w : World} {a : Option Addr} {len cap : Nat} {zs : List Int}
    (h : (a = none ∧ len = 0 ∧ cap = 0 ∧ zs = []) ∨ ∃ x, a = some x ∧ len ≤ cap ∧ cap ≤ maxLen ∧ zs.length = cap ∧ (∀ i, i < zs.length → w.cell? (x.add i) = some (.int .i64 (zs.getD i 0))) ∧ ∀ n ∈ zs, (Lit.int .i64 n).wf = true) :
    RawAt w (.slice a len cap) len (fun i => zs.getD i 0) := by
  rcases h with ⟨rfl, rfl, rfl, rfl⟩ | ⟨x, rfl, h1, h2, h3, h4, h5⟩
  · exact .inl ⟨none, 0, rfl, rfl⟩
  · by_cases h0 : len = 0
    · subst h0; exact .inl ⟨some x, cap, rfl, rfl⟩
    · obtain ⟨b, off, rfl, hc⟩ := ints_at h4 (by omega)
      refine .inr ⟨b, off, cap, rfl, by omega, World.block_lt_of_cell? w _ (hc 0 (by omega)), fun i hi => ⟨hc i (by omega), ?_⟩⟩
      have hi' : i < zs.length := by omega
      have hz : zs.getD i 0 = zs[i] := by simp [List.getD, hi']
      show -9223372036854775808 ≤ zs.getD i 0 ∧ zs.getD i 0 ≤ 9223372036854775807
      rw [hz]
      exact bounds_i64 (h5 _ (List.getElem_mem hi'))

theorem upd_below {w w' : World} (h : Upd no w w') : Below w.heap.size w w' := h.below (Nat.le_refl _) (fun _ _ _ h => h)

end Go.Proofs.Ytobniidkkmlilaa
