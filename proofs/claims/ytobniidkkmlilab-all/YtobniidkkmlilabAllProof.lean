import Derived.Test.YtobniidkkmlilabRows
import Derived.Test.YtobniidkkmlilabPl48
import Derived.WalkKit
import Derived.ProofKit
import Derived.OpenShut
import Derived.ChangeOld
import Derived.Below
import Derived.JoinedCond
import Derived.SizedLaws

/- The row of All. -/
namespace Go.Proofs.Ytobniidkkmlilab
open Go.RowKit Go.Coh

set_option maxRecDepth 100000 in
set_option maxHeartbeats 2000000 in
theorem all_any (M : Nat) (oS : Option Addr) (capS : Nat) (os : Nat → Nat → Int) (w : World) (hM : M ≤ 1466015503701)
    (hc : 0 < M → ∃ a off, oS = some ⟨a, off, none⟩ ∧ a < w.heap.size ∧ ∀ i, i < M → OpAt w a off i os) (hr : ∀ i, i < M → -9223372036854775808 ≤ os i 1 ∧ os i 1 ≤ 9223372036854775807) :
    Calls Try.prog 7 #[.slice oS M capS] w fun e w' => e = .returned (.bool true) ∧ Below w.heap.size w w' := by
  have HC := (show Hid _ from hc)
  have HR := (show Hid _ from hr)
  clear hc hr
  go_enter Try.func7, Try.ntmps7
  go_wp2_with fail
  refine (holds_any M oS capS os 31 true _ hM HC.out HR.out).mono ?_
  rintro e w1 ⟨rfl, hu⟩
  have HU := (show Hid _ from hu)
  clear hu
  go_wp2
  go_ret
  exact ⟨rfl, HU.out.below (Nat.le_refl _) (fun _ _ _ h => h)⟩
end Go.Proofs.Ytobniidkkmlilab

namespace Go.Proofs.Ytobniidkkmlilab.all
open Go.ChangeShapes Go.WideShapes Go.ChangeAt Go.RowKit
set_option linter.unusedVariables false

theorem own : ownKnob Try.prog.godebug = none := by kernel_rfl
theorem laidOut : laidOutB Try.prog = true := by kernel_rfl

set_option maxRecDepth 100000 in
theorem contract (H : Type) (enc : TypeId × Value → H) (W : World) (base : Nat) (args : Array Value) (ds gs : List (DataW H)) (before : List MemPlace)
    (hval : ∀ (j : Nat) t v, Try.f7.params[j]? = some t → args[j]? = some v → Value.okWide Try.prog W .any base t v)
    (hW : DataW.Whole enc Try.prog Try.f7.params.toList Rows.allSpec.vars false W args.toList ds gs before) (hsz : (DataW.weightsEach Try.prog (Try.f7.params.toList ++ Rows.allSpec.plain.varTypes Try.prog) (ds ++ gs)).all (· ≤ reachBytes) = true) :
    Calls Try.prog 7 args W fun e W' => ∃ v, e = .returned v ∧ Rows.allSpec.post enc Try.prog Try.f7 false true false false W args v W' := by
  have hW' := hW
  obtain ⟨p, q, hA0, hV, rfl, hfz, hnd⟩ := hW
  have hA : DataW.TrodAll enc Try.prog W 0 (fun _ => true) true Try.f7.params.toList args.toList ds p := hA0
  rw [Try.params7] at hA hval hsz
  obtain ⟨v0, vs0, d0, ds0, p0, q0, hargs, rfl, rfl, h0, r0⟩ := trodAll_cons hA
  obtain ⟨rfl, rfl, rfl⟩ := trodAll_nil r0
  obtain rfl : args = #[v0] := by cases args; simp_all
  obtain ⟨rfl, rfl⟩ := trodVars_none hV
  obtain ⟨a0, len0, cap0, rfl⟩ := okWide_slice Try.underlying47 (hval 0 47 v0 rfl rfl)
  have k0 := h0
  have lt0 : ∀ x ∈ p0, x.block < W.heap.size := by obtain ⟨m, hm⟩ := k0; exact DataW.trod_lt m _ _ _ hm
  obtain ⟨fuel, hf⟩ := h0
  obtain ⟨o, M, cap, os, hv, hdat, hok, hc⟩ := ops_read (by simpa [Value.cells] using hf)
  have hM : M ≤ 1466015503701 := by
    rcases hdat with h | ⟨elems, spare, hd, hlen⟩
    · omega
    · have := sized_slice hsz (j := 0) (t := 47) (e := 77) (elems := elems) (spare := spare) rfl (by rw [hd]; rfl) Try.underlying47
      rw [sbytesOp] at this
      simp only [reachBytes] at this
      omega
  rw [hv]
  rw [hv] at hW' k0
  clear hA0
  refine (all_any M o cap os W hM hc hok).mono fun e W' ⟨he, bel⟩ => ?_
  subst he
  exact ⟨_, rfl, _, _, _, [], _, [], hW', trodAll_mk1 (shut_bool Try.underlying4 _), (trodAll_cons_mk (Below.trod laidOut (by kernel_rfl) (of_decide_eq_true (by kernel_rfl)) k0 bel lt0) trodAll_mk0), rfl, bel.frame _, fun h => by cases h⟩

set_option maxRecDepth 100000 in
theorem lifted (os : Os) (started : os.Started) (H : Type) (enc : TypeId × Value → H) :
    ReturnsInHanded {} Try.checked os 7 .any (Rows.allSpec.pre6 enc Try.prog Try.f7 Rows.allRow.domain false) (Rows.allSpec.post enc Try.prog Try.f7 false true false false) := by
  refine returnsInHanded_of_change_sized (C := Try.checked) own started (by kernel_rfl) Try.func7
    (ChangeSpec.witness6 (enc := enc) (C := Try.checked) false ⟨#[], #[.slice none 0 0], []⟩ 8 (by kernel_rfl) (by kernel_rfl) (by kernel_rfl) (by kernel_rfl)) ?_
  intro W base args ds gs before hval hW _ hsz _
  exact contract H enc W base args ds gs before hval hW hsz

theorem over : Rows.allRow.holds Try.pinned (OpenSpec.ofChange Rows.allSpec) :=
  OpenClaim.holds_of_wide 7 Try.f7 rfl rfl rfl rfl rfl rfl rfl ⟨rfl, rfl, rfl, rfl, rfl⟩ rfl rfl rfl rfl rfl (by kernel_rfl) Try.func7 (by kernel_rfl)
    (of_decide_eq_true (by kernel_rfl)) (by unfold Func.isWrapper; first | (rw [if_pos (by decide +kernel)]; kernel_rfl) | (rw [if_neg (by decide +kernel)]; exact ⟨rfl, rfl⟩))
    (fun os started H enc _ => lifted os started H enc)
end Go.Proofs.Ytobniidkkmlilab.all

namespace Go.Proofs.Ytobniidkkmlilab
theorem all_holds : Rows.AllSaid := all.over
end Go.Proofs.Ytobniidkkmlilab
