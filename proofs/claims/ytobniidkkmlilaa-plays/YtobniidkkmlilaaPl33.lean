import Derived.Test.YtobniidkkmlilaaPl20
import Derived.Laws.ResultCell
import Derived.Deep.WholeRow
import Derived.Test.YtobniidkkmlilaaPl32

/- The walks over the reference's machine: Counts. -/
namespace Go.Proofs.Ytobniidkkmlilaa
open Go.RowKit Go.Coh

theorem infoCounts : (Try.prog.info? 68).map (·.size) = some 10 := by kernel_rfl

def RM.countsV (m : RM) : Nat → Int := upd m.tally 9 m.far.psel
def celT (t : Nat → Int) : Array Value := #[.int .i64 (t 0), .int .i64 (t 1), .int .i64 (t 2), .int .i64 (t 3), .int .i64 (t 4), .int .i64 (t 5), .int .i64 (t 6), .int .i64 (t 7), .int .i64 (t 8), .int .i64 (t 9)]
def aggT (t : Nat → Int) : Value := .agg (celT t)

set_option maxRecDepth 100000 in
set_option maxHeartbeats 1000000 in
theorem refCounts_nil (w : World) :
    Calls Try.prog 106 #[.pointer none] w fun e w' => e = .returned (.tuple #[aggT (fun _ => 0), .int .i64 1]) ∧ Upd no w w' := by
  go_enter Try.func106, Try.ntmps106
  go_wp2
  refine bodyPost_ret (v := .tuple #[aggT (fun _ => 0), .int .i64 1]) ?_ rfl ⟨rfl, (Upd.refl _ _).alloc _⟩
  rw [results_cell_tmp rfl]
  simp [asAddr, Result.andThen]
  erw [run_loadVar_row _ _ 68 68 (celT fun _ => 0) (0, 0) _ (heap_alloc_last w _) Try.underlying68 rfl infoCounts]
  rfl

set_option maxRecDepth 100000 in
set_option maxHeartbeats 1000000 in
theorem refCounts_any (y : Lay) (m : RM) (w : World) (H : RmAt w y m) :
    Calls Try.prog 106 #[.pointer (some ⟨y.blk 0, 0, none⟩)] w fun e w' => e = .returned (.tuple #[aggT m.countsV, .int .i64 0]) ∧ Upd no w w' := by
  have h0 := H.tally.c 0 (by omega)
  have h1 := H.tally.c 1 (by omega)
  have h2 := H.tally.c 2 (by omega)
  have h3 := H.tally.c 3 (by omega)
  have h4 := H.tally.c 4 (by omega)
  have h5 := H.tally.c 5 (by omega)
  have h6 := H.tally.c 6 (by omega)
  have h7 := H.tally.c 7 (by omega)
  have h8 := H.tally.c 8 (by omega)
  have h9 := H.tally.c 9 (by omega)
  have hfr := H.fr
  have hps := H.far.c6
  have hb0 := H.lt 0 (by omega)
  have hb2 := H.lt 2 (by omega)
  clear H
  go_enter Try.func106, Try.ntmps106
  go_wp2
  refine bodyPost_ret (v := .tuple #[aggT m.countsV, .int .i64 0]) ?_ rfl ⟨rfl, ((Upd.refl _ _).alloc _).alloc _⟩
  rw [results_cell_tmp rfl]
  simp [asAddr, Result.andThen]
  erw [run_loadVar_row _ _ 68 68 (celT m.countsV) (0, 0) _ ((Below.heap_alloc _ _ _ (by simp)).trans (heap_alloc_last w _)) Try.underlying68 rfl infoCounts]
  rfl

end Go.Proofs.Ytobniidkkmlilaa

/- The walks over the program's machine: Check, Counts, Store while it does nothing. -/
namespace Go.Proofs.Ytobniidkkmlilaa
open Go.RowKit Go.Coh

set_option maxHeartbeats 1000000 in
theorem isSize_all (n : Int) (w : World) : Calls Try.prog 68 #[.int .i64 n] w fun e w' => e = .returned (.bool (powB n)) ∧ w' = w := by
  by_cases h1 : n = 1
  · subst h1
    go_enter Try.func68, Try.ntmps68
    go_wp2
    go_ret
    exact ⟨rfl, rfl⟩
  · by_cases h2 : n = 2
    · subst h2
      go_enter Try.func68, Try.ntmps68
      go_wp2
      go_ret
      exact ⟨rfl, rfl⟩
    · by_cases h4 : n = 4
      · subst h4
        go_enter Try.func68, Try.ntmps68
        go_wp2
        go_ret
        exact ⟨rfl, rfl⟩
      · by_cases h8 : n = 8
        · subst h8
          go_enter Try.func68, Try.ntmps68
          go_wp2
          go_ret
          exact ⟨rfl, rfl⟩
        · go_enter Try.func68, Try.ntmps68
          go_wp2
          go_ret
          exact ⟨rfl, rfl⟩

/-- a machine's numbers, as a value -/

theorem checkB_eq (c : Nat → Int) (a b d e : Bool) : checkB c a b d e = if c 0 < 1 ∨ c 0 > 4 then 2 else if a = false ∨ b = false then 3 else if d = false ∨ e = false then 4 else if c 3 ≠ 0 ∧ c 3 ≠ 1 then 5 else if c 6 < 0 ∨ c 6 > 4 then 5 else 0 := rfl

set_option maxRecDepth 100000 in
set_option maxHeartbeats 2000000 in
theorem pCheck_any (c : Nat → Int) (w : World) : Calls Try.prog 49 #[.agg (celC c)] w fun e w' => e = .returned (.int .i64 (checkE c)) ∧ Upd no w w' := by
  unfold celC
  have HE : Hid (checkE c = checkB c (powB (c 1)) (powB (c 4)) (powB (c 2)) (powB (c 5))) := rfl
  by_cases h0 : c 0 < 1
  · go_enter Try.func49, Try.ntmps49
    go_wp2
    go_ret
    exact ⟨ret_int (by rw [HE.out, checkB_eq]; rw [if_pos (.inl h0)]), (Upd.refl _ _).alloc _⟩
  · by_cases h1 : c 0 > 4
    · go_enter Try.func49, Try.ntmps49
      go_wp2
      go_ret
      exact ⟨ret_int (by rw [HE.out, checkB_eq]; rw [if_pos (.inr h1)]), (Upd.refl _ _).alloc _⟩
    · cases hp1 : powB (c 1) with
      | false =>
        have HP1 : Hid (powB (c 1) = false) := hp1
        clear hp1
        go_enter Try.func49, Try.ntmps49
        go_wp2_with fail
        refine (isSize_all (c 1) _).mono ?_
        rintro e w1 ⟨rfl, rfl⟩
        rw [HP1.out]
        go_wp2
        go_ret
        exact ⟨ret_int (by rw [HE.out, checkB_eq]; rw [if_neg (by omega), HP1.out, if_pos (.inl rfl)]), (Upd.refl _ _).alloc _⟩
      | true =>
        have HP1 : Hid (powB (c 1) = true) := hp1
        clear hp1
        cases hp4 : powB (c 4) with
        | false =>
          have HP4 : Hid (powB (c 4) = false) := hp4
          clear hp4
          go_enter Try.func49, Try.ntmps49
          go_wp2_with fail
          refine (isSize_all (c 1) _).mono ?_
          rintro e w1 ⟨rfl, rfl⟩
          rw [HP1.out]
          go_wp2_with fail
          refine (isSize_all (c 4) _).mono ?_
          rintro e w1 ⟨rfl, rfl⟩
          rw [HP4.out]
          go_wp2
          go_ret
          exact ⟨ret_int (by rw [HE.out, checkB_eq]; rw [if_neg (by omega), HP4.out, if_pos (.inr rfl)]), (Upd.refl _ _).alloc _⟩
        | true =>
          have HP4 : Hid (powB (c 4) = true) := hp4
          clear hp4
          cases hp2 : powB (c 2) with
          | false =>
            have HP2 : Hid (powB (c 2) = false) := hp2
            clear hp2
            go_enter Try.func49, Try.ntmps49
            go_wp2_with fail
            refine (isSize_all (c 1) _).mono ?_
            rintro e w1 ⟨rfl, rfl⟩
            rw [HP1.out]
            go_wp2_with fail
            refine (isSize_all (c 4) _).mono ?_
            rintro e w1 ⟨rfl, rfl⟩
            rw [HP4.out]
            go_wp2_with fail
            refine (isSize_all (c 2) _).mono ?_
            rintro e w1 ⟨rfl, rfl⟩
            rw [HP2.out]
            go_wp2
            go_ret
            exact ⟨ret_int (by rw [HE.out, checkB_eq]; rw [if_neg (by omega), HP1.out, HP4.out, if_neg (by simp), HP2.out, if_pos (.inl rfl)]), (Upd.refl _ _).alloc _⟩
          | true =>
            have HP2 : Hid (powB (c 2) = true) := hp2
            clear hp2
            cases hp5 : powB (c 5) with
            | false =>
              have HP5 : Hid (powB (c 5) = false) := hp5
              clear hp5
              go_enter Try.func49, Try.ntmps49
              go_wp2_with fail
              refine (isSize_all (c 1) _).mono ?_
              rintro e w1 ⟨rfl, rfl⟩
              rw [HP1.out]
              go_wp2_with fail
              refine (isSize_all (c 4) _).mono ?_
              rintro e w1 ⟨rfl, rfl⟩
              rw [HP4.out]
              go_wp2_with fail
              refine (isSize_all (c 2) _).mono ?_
              rintro e w1 ⟨rfl, rfl⟩
              rw [HP2.out]
              go_wp2_with fail
              refine (isSize_all (c 5) _).mono ?_
              rintro e w1 ⟨rfl, rfl⟩
              rw [HP5.out]
              go_wp2
              go_ret
              exact ⟨ret_int (by rw [HE.out, checkB_eq]; rw [if_neg (by omega), HP1.out, HP4.out, if_neg (by simp), HP5.out, if_pos (.inr rfl)]), (Upd.refl _ _).alloc _⟩
            | true =>
              have HP5 : Hid (powB (c 5) = true) := hp5
              clear hp5
              have HB : Hid (checkE c = if c 3 ≠ 0 ∧ c 3 ≠ 1 then 5 else if c 6 < 0 ∨ c 6 > 4 then 5 else 0) := by
                show _ = _
                rw [HE.out, checkB_eq, if_neg (by omega), HP1.out, HP4.out, if_neg (by simp), HP2.out, HP5.out, if_neg (by simp)]
              by_cases h30 : c 3 = 0
              · by_cases h6 : c 6 < 0
                · go_enter Try.func49, Try.ntmps49
                  go_wp2_with fail
                  refine (isSize_all (c 1) _).mono ?_
                  rintro e w1 ⟨rfl, rfl⟩
                  rw [HP1.out]
                  go_wp2_with fail
                  refine (isSize_all (c 4) _).mono ?_
                  rintro e w1 ⟨rfl, rfl⟩
                  rw [HP4.out]
                  go_wp2_with fail
                  refine (isSize_all (c 2) _).mono ?_
                  rintro e w1 ⟨rfl, rfl⟩
                  rw [HP2.out]
                  go_wp2_with fail
                  refine (isSize_all (c 5) _).mono ?_
                  rintro e w1 ⟨rfl, rfl⟩
                  rw [HP5.out]
                  go_wp2
                  go_ret
                  exact ⟨ret_int (by rw [HB.out]; rw [if_neg (by omega), if_pos (.inl h6)]), (Upd.refl _ _).alloc _⟩
                · by_cases h7 : c 6 > 4
                  · go_enter Try.func49, Try.ntmps49
                    go_wp2_with fail
                    refine (isSize_all (c 1) _).mono ?_
                    rintro e w1 ⟨rfl, rfl⟩
                    rw [HP1.out]
                    go_wp2_with fail
                    refine (isSize_all (c 4) _).mono ?_
                    rintro e w1 ⟨rfl, rfl⟩
                    rw [HP4.out]
                    go_wp2_with fail
                    refine (isSize_all (c 2) _).mono ?_
                    rintro e w1 ⟨rfl, rfl⟩
                    rw [HP2.out]
                    go_wp2_with fail
                    refine (isSize_all (c 5) _).mono ?_
                    rintro e w1 ⟨rfl, rfl⟩
                    rw [HP5.out]
                    go_wp2
                    go_ret
                    exact ⟨ret_int (by rw [HB.out]; rw [if_neg (by omega), if_pos (.inr h7)]), (Upd.refl _ _).alloc _⟩
                  · go_enter Try.func49, Try.ntmps49
                    go_wp2_with fail
                    refine (isSize_all (c 1) _).mono ?_
                    rintro e w1 ⟨rfl, rfl⟩
                    rw [HP1.out]
                    go_wp2_with fail
                    refine (isSize_all (c 4) _).mono ?_
                    rintro e w1 ⟨rfl, rfl⟩
                    rw [HP4.out]
                    go_wp2_with fail
                    refine (isSize_all (c 2) _).mono ?_
                    rintro e w1 ⟨rfl, rfl⟩
                    rw [HP2.out]
                    go_wp2_with fail
                    refine (isSize_all (c 5) _).mono ?_
                    rintro e w1 ⟨rfl, rfl⟩
                    rw [HP5.out]
                    go_wp2
                    go_ret
                    exact ⟨ret_int (by rw [HB.out]; rw [if_neg (by omega), if_neg (by omega)]), (Upd.refl _ _).alloc _⟩
              · by_cases h31 : c 3 = 1
                · by_cases h6 : c 6 < 0
                  · go_enter Try.func49, Try.ntmps49
                    go_wp2_with fail
                    refine (isSize_all (c 1) _).mono ?_
                    rintro e w1 ⟨rfl, rfl⟩
                    rw [HP1.out]
                    go_wp2_with fail
                    refine (isSize_all (c 4) _).mono ?_
                    rintro e w1 ⟨rfl, rfl⟩
                    rw [HP4.out]
                    go_wp2_with fail
                    refine (isSize_all (c 2) _).mono ?_
                    rintro e w1 ⟨rfl, rfl⟩
                    rw [HP2.out]
                    go_wp2_with fail
                    refine (isSize_all (c 5) _).mono ?_
                    rintro e w1 ⟨rfl, rfl⟩
                    rw [HP5.out]
                    go_wp2
                    go_ret
                    exact ⟨ret_int (by rw [HB.out]; rw [if_neg (by omega), if_pos (.inl h6)]), (Upd.refl _ _).alloc _⟩
                  · by_cases h7 : c 6 > 4
                    · go_enter Try.func49, Try.ntmps49
                      go_wp2_with fail
                      refine (isSize_all (c 1) _).mono ?_
                      rintro e w1 ⟨rfl, rfl⟩
                      rw [HP1.out]
                      go_wp2_with fail
                      refine (isSize_all (c 4) _).mono ?_
                      rintro e w1 ⟨rfl, rfl⟩
                      rw [HP4.out]
                      go_wp2_with fail
                      refine (isSize_all (c 2) _).mono ?_
                      rintro e w1 ⟨rfl, rfl⟩
                      rw [HP2.out]
                      go_wp2_with fail
                      refine (isSize_all (c 5) _).mono ?_
                      rintro e w1 ⟨rfl, rfl⟩
                      rw [HP5.out]
                      go_wp2
                      go_ret
                      exact ⟨ret_int (by rw [HB.out]; rw [if_neg (by omega), if_pos (.inr h7)]), (Upd.refl _ _).alloc _⟩
                    · go_enter Try.func49, Try.ntmps49
                      go_wp2_with fail
                      refine (isSize_all (c 1) _).mono ?_
                      rintro e w1 ⟨rfl, rfl⟩
                      rw [HP1.out]
                      go_wp2_with fail
                      refine (isSize_all (c 4) _).mono ?_
                      rintro e w1 ⟨rfl, rfl⟩
                      rw [HP4.out]
                      go_wp2_with fail
                      refine (isSize_all (c 2) _).mono ?_
                      rintro e w1 ⟨rfl, rfl⟩
                      rw [HP2.out]
                      go_wp2_with fail
                      refine (isSize_all (c 5) _).mono ?_
                      rintro e w1 ⟨rfl, rfl⟩
                      rw [HP5.out]
                      go_wp2
                      go_ret
                      exact ⟨ret_int (by rw [HB.out]; rw [if_neg (by omega), if_neg (by omega)]), (Upd.refl _ _).alloc _⟩
                · have hb30 : (c 3 != 0) = true := by simpa using h30
                  have hb31 : (c 3 != 1) = true := by simpa using h31
                  go_enter Try.func49, Try.ntmps49
                  go_wp2_with fail
                  refine (isSize_all (c 1) _).mono ?_
                  rintro e w1 ⟨rfl, rfl⟩
                  rw [HP1.out]
                  go_wp2_with fail
                  refine (isSize_all (c 4) _).mono ?_
                  rintro e w1 ⟨rfl, rfl⟩
                  rw [HP4.out]
                  go_wp2_with fail
                  refine (isSize_all (c 2) _).mono ?_
                  rintro e w1 ⟨rfl, rfl⟩
                  rw [HP2.out]
                  go_wp2_with fail
                  refine (isSize_all (c 5) _).mono ?_
                  rintro e w1 ⟨rfl, rfl⟩
                  rw [HP5.out]
                  go_wp2
                  go_ret
                  exact ⟨ret_int (by rw [HB.out]; rw [if_pos ⟨h30, h31⟩]), (Upd.refl _ _).alloc _⟩

set_option maxHeartbeats 1000000 in
theorem pPsel_any (b off : Nat) (s : RC) (w : World) (H : CacheAt w b off s) :
    Calls Try.prog 56 #[.pointer (some ⟨b, off, none⟩)] w fun e w' => e = .returned (.int .i64 s.psel) ∧ w' = w := by
  have h3 := H.ps.c 0 (by omega)
  rw [Nat.add_zero] at h3
  clear H
  go_enter Try.func56, Try.ntmps56
  go_wp2
  go_ret
  exact ⟨rfl, rfl⟩

set_option maxRecDepth 100000 in
set_option maxHeartbeats 1000000 in
theorem pCounts_nil (w : World) :
    Calls Try.prog 31 #[.pointer none] w fun e w' => e = .returned (.tuple #[aggT (fun _ => 0), .int .i64 1]) ∧ Upd no w w' := by
  go_enter Try.func31, Try.ntmps31
  go_wp2
  refine bodyPost_ret (v := .tuple #[aggT (fun _ => 0), .int .i64 1]) ?_ rfl ⟨rfl, (Upd.refl _ _).alloc _⟩
  rw [results_cell_tmp rfl]
  simp [asAddr, Result.andThen]
  erw [run_loadVar_row _ _ 68 68 (celT fun _ => 0) (0, 0) _ (heap_alloc_last w _) Try.underlying68 rfl infoCounts]
  rfl

set_option maxRecDepth 100000 in
set_option maxHeartbeats 1000000 in
theorem pCounts_any (b : Nat) (m : RM) (w : World) (H : PmAt w b m) :
    Calls Try.prog 31 #[.pointer (some ⟨b, 0, none⟩)] w fun e w' => e = .returned (.tuple #[aggT m.countsV, .int .i64 0]) ∧ Upd no w w' := by
  have h0 := H.tally.c 0 (by omega)
  have h1 := H.tally.c 1 (by omega)
  have h2 := H.tally.c 2 (by omega)
  have h3 := H.tally.c 3 (by omega)
  have h4 := H.tally.c 4 (by omega)
  have h5 := H.tally.c 5 (by omega)
  have h6 := H.tally.c 6 (by omega)
  have h7 := H.tally.c 7 (by omega)
  have h8 := H.tally.c 8 (by omega)
  have h9 := H.tally.c 9 (by omega)
  have hb0 := H.blt
  have HF : Hid (∀ w', Upd no w w' → CacheAt w' b 823 m.far) := fun w' u => H.far.of_upd u (fun _ _ h => h)
  clear H
  go_enter Try.func31, Try.ntmps31
  go_wp2_with fail
  refine (pPsel_any b 823 m.far _ (HF.out _ ?_)).mono ?_
  · repeat (first | exact Upd.refl _ _ | apply Upd.drew | apply Upd.alloc)
  rintro e w1 ⟨rfl, rfl⟩
  go_wp2
  refine bodyPost_ret (v := .tuple #[aggT m.countsV, .int .i64 0]) ?_ rfl ⟨rfl, ((Upd.refl _ _).alloc _).alloc _⟩
  rw [results_cell_tmp rfl]
  simp [asAddr, Result.andThen]
  erw [run_loadVar_row _ _ 68 68 (celT m.countsV) (0, 0) _ ((Below.heap_alloc _ _ _ (by simp)).trans (heap_alloc_last w _)) Try.underlying68 rfl infoCounts]
  rfl

end Go.Proofs.Ytobniidkkmlilaa
