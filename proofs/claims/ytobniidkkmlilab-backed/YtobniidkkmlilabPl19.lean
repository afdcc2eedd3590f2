import Derived.Test.YtobniidkkmlilabPl18

/- The walks over the reference: Check. -/
namespace Go.Proofs.Ytobniidkkmlilab
open Go.RowKit Go.Coh

def powB (n : Int) : Bool := n == 1 || n == 2 || n == 4 || n == 8

set_option maxHeartbeats 1000000 in
theorem refPower_all (n : Int) (w : World) : Calls Try.prog 50 #[.int .i64 n] w fun e w' => e = .returned (.bool (powB n)) ∧ w' = w := by
  by_cases h1 : n = 1
  · subst h1
    go_enter Try.func50, Try.ntmps50
    go_wp2
    go_ret
    exact ⟨rfl, rfl⟩
  · by_cases h2 : n = 2
    · subst h2
      go_enter Try.func50, Try.ntmps50
      go_wp2
      go_ret
      exact ⟨rfl, rfl⟩
    · by_cases h4 : n = 4
      · subst h4
        go_enter Try.func50, Try.ntmps50
        go_wp2
        go_ret
        exact ⟨rfl, rfl⟩
      · by_cases h8 : n = 8
        · subst h8
          go_enter Try.func50, Try.ntmps50
          go_wp2
          go_ret
          exact ⟨rfl, rfl⟩
        · go_enter Try.func50, Try.ntmps50
          go_wp2
          go_ret
          exact ⟨rfl, rfl⟩

/-- a machine's numbers, as a value -/
def celC (c : Nat → Int) : Array Value := #[.int .i64 (c 0), .int .i64 (c 1), .int .i64 (c 2), .int .i64 (c 3), .int .i64 (c 4), .int .i64 (c 5), .int .i64 (c 6)]
def checkB (c : Nat → Int) (a b d e : Bool) : Int :=
  if c 0 < 1 ∨ c 0 > 4 then 2 else if a = false ∨ b = false then 3 else if d = false ∨ e = false then 4 else if c 3 ≠ 0 ∧ c 3 ≠ 1 then 5 else if c 6 < 0 ∨ c 6 > 4 then 5 else 0
def checkE (c : Nat → Int) : Int := checkB c (powB (c 1)) (powB (c 4)) (powB (c 2)) (powB (c 5))

set_option maxRecDepth 100000 in
set_option maxHeartbeats 2000000 in
theorem refCheck_any (c : Nat → Int) (w : World) : Calls Try.prog 31 #[.agg (celC c)] w fun e w' => e = .returned (.int .i64 (checkE c)) ∧ Upd no w w' := by
  unfold celC
  have HE : Hid (checkE c = checkB c (powB (c 1)) (powB (c 4)) (powB (c 2)) (powB (c 5))) := rfl
  go_enter Try.func31, Try.ntmps31
  go_wp2_with fail
  refine (refPower_all (c 1) _).mono ?_
  rintro e w1 ⟨rfl, rfl⟩
  go_wp2_with fail
  refine (refPower_all (c 4) _).mono ?_
  rintro e w1 ⟨rfl, rfl⟩
  go_wp2_with fail
  refine (refPower_all (c 2) _).mono ?_
  rintro e w1 ⟨rfl, rfl⟩
  go_wp2_with fail
  refine (refPower_all (c 5) _).mono ?_
  rintro e w1 ⟨rfl, rfl⟩
  generalize powB (c 1) = a at *
  generalize powB (c 4) = b at *
  generalize powB (c 2) = d at *
  generalize powB (c 5) = f at *
  go_wp2
  all_goals
    go_ret
    refine ⟨ret_int ?_, (Upd.refl _ _).alloc _⟩
    rw [HE.out]
    clear HE
    unfold checkB
    repeat' split
    all_goals first
      | rfl
      | (exfalso; omega)
      | (exfalso; simp_all; done)
      | (exfalso; simp_all; omega)

end Go.Proofs.Ytobniidkkmlilab
