import Derived.Test.YtobniidkkmlilabPk28

/- The walks over the program's machine: a core loses a line; a line is written back. -/
namespace Go.Proofs.Ytobniidkkmlilab
open Go.RowKit Go.Coh

def RM.handS (m : RM) (c l : Nat) : RM := if m.has c l = 3 then m.late l else m
def RM.leaveS (m : RM) (c l : Nat) : RM := { m.handS c l with has := updH m.has c l 0 }
def RM.pLose (m : RM) (c l : Nat) : RM := ({ m with firsts := updC m.firsts c (remC (m.firsts c) l) } : RM).leaveS c l
def RM.backS (m : RM) (l : Nat) : RM := if m.lasts l = 2 then m.writtenS l else m

theorem blk_self (b o : Nat) : blkS b b o := rfl
theorem blk_row {b off n k o : Nat} (h : rowS b off n k o) : blkS b k o := h.1
theorem handS_keep (m : RM) (c l : Nat) : (m.handS c l).cores = m.cores ∧ (m.handS c l).conf = m.conf ∧ (m.handS c l).firsts = m.firsts ∧ (m.handS c l).far = m.far ∧ (m.handS c l).has = m.has ∧ (m.handS c l).words = m.words ∧ (m.handS c l).mem = m.mem ∧ (m.handS c l).tally = m.tally := by
  unfold RM.handS; split <;> exact ⟨rfl, rfl, rfl, rfl, rfl, rfl, rfl, rfl⟩

set_option maxRecDepth 100000 in
set_option maxHeartbeats 1000000 in
theorem handOn_any (b : Nat) (m : RM) (c l : Nat) (w : World) (hc : c < 4) (hl : l < 64) (hc4 : m.cores ≤ 4) (H : PmAt w b m) :
    Calls Try.prog 39 #[.pointer (some ⟨b, 0, none⟩), .int .i64 c, .int .i64 l] w fun e w' => e = .returned (.tuple #[]) ∧ PmAt w' b (m.handS c l) ∧ Upd (blkS b) w w' := by
  have HH : Hid (PmAt w b m) := H
  have h1 := H.has c l hc hl
  have h2 := H.lasts.c l hl
  have h2f := H.lasts.f l hl
  clear H
  by_cases h3 : m.has c l = 3
  · have HS : Hid (m.handS c l = m.late l) := by show _ = _; unfold RM.handS; rw [if_pos h3]
    rw [HS.out]
    rw [h3] at h1
    clear h3 HS
    go_enter Try.func39, Try.ntmps39
    go_wp2
    go_end0
    exact ⟨rfl, HH.out.setLasts hc4 l hl 2, (Upd.refl _ _).setCell (fun _ => blk_self b _) _⟩
  · have HS : Hid (m.handS c l = m) := by show _ = _; unfold RM.handS; rw [if_neg h3]
    rw [HS.out]
    have hb : (m.has c l == 3) = false := by simpa using h3
    clear h3 HS
    generalize m.has c l = h at *
    go_enter Try.func39, Try.ntmps39
    go_wp2
    go_end0
    exact ⟨rfl, HH.out, Upd.refl _ _⟩

set_option maxRecDepth 100000 in
set_option maxHeartbeats 1000000 in
theorem leave_any (b : Nat) (m : RM) (c l : Nat) (w : World) (hc : c < 4) (hl : l < 64) (hc4 : m.cores ≤ 4) (H : PmAt w b m) :
    Calls Try.prog 59 #[.pointer (some ⟨b, 0, none⟩), .int .i64 c, .int .i64 l] w fun e w' => e = .returned (.tuple #[]) ∧ PmAt w' b (m.leaveS c l) ∧ Upd (blkS b) w w' := by
  have HH : Hid (PmAt w b m) := H
  clear H
  go_enter Try.func59, Try.ntmps59
  go_wp2_with fail
  refine (handOn_any b m c l _ hc hl hc4 HH.out).mono ?_
  rintro e w1 ⟨rfl, h1, hu⟩
  have hk := handS_keep m c l
  have h2 := h1.has c l hc hl
  have h2f := h1.bf (1027 + c * 64 + l)
  have HF : Hid (PmAt (w1.setCell ⟨b, 1027 + c * 64 + l, none⟩ (.int .i64 0)) b (m.leaveS c l)) := by
    have := h1.setHas (by rw [hk.1]; exact hc4) c l hc hl 0
    rw [hk.2.2.2.2.1] at this
    exact this
  have HU : Hid (Upd (blkS b) w w1) := hu
  clear h1 hu hk
  go_wp2
  go_end0
  exact ⟨rfl, HF.out, HU.out.setCell (fun _ => blk_self b _) _⟩

set_option maxRecDepth 100000 in
set_option maxHeartbeats 1000000 in
theorem lose_any (b : Nat) (m : RM) (c l : Nat) (w : World) (hc : c < m.cores) (hl : l < 64) (hc4 : m.cores ≤ 4) (H : PmAt w b m) :
    Calls Try.prog 38 #[.pointer (some ⟨b, 0, none⟩), .int .i64 c, .int .i64 l] w fun e w' => e = .returned (.tuple #[]) ∧ PmAt w' b (m.pLose c l) ∧ Upd (blkS b) w w' := by
  have HH : Hid (PmAt w b m) := H
  have hcc : c < 4 := by omega
  clear H
  go_enter Try.func38, Try.ntmps38
  go_wp2_with fail
  refine (cRemove_any b (7 + c * 204) l (m.firsts c) _ (by omega) (by omega) (HH.out.first c hc)).mono ?_
  rintro e w1 ⟨rfl, h1, hu⟩
  have HF : Hid (PmAt w1 b { m with firsts := updC m.firsts c (remC (m.firsts c) l) }) := HH.out.setFirst hc4 hc h1 hu
  have HU : Hid (Upd (blkS b) w w1) := hu.mono (fun _ _ h => blk_row h)
  clear h1 hu
  go_wp2_with fail
  refine (leave_any b _ c l _ hcc hl (by exact hc4) HF.out).mono ?_
  rintro e w2 ⟨rfl, h1, hu⟩
  have HF2 : Hid (PmAt w2 b (m.pLose c l)) := h1
  have HU2 : Hid (Upd (blkS b) w w2) := HU.out.trans hu
  clear h1 hu
  go_wp2
  go_end0
  exact ⟨rfl, HF2.out, HU2.out⟩

theorem memK_next (m : RM) (l k : Nat) : ({ memK m l k with mem := upd (memK m l k).mem (4 * l + k) (m.words (4 * l + k)) } : RM) = memK m l (k + 1) := by
  unfold memK
  have : (upd (fun a => if 4 * l ≤ a ∧ a < 4 * l + k then m.words a else m.mem a) (4 * l + k) (m.words (4 * l + k))) = (fun a => if 4 * l ≤ a ∧ a < 4 * l + (k + 1) then m.words a else m.mem a) := by
    funext a
    unfold upd
    by_cases e : a = 4 * l + k
    · rw [if_pos e, if_pos (by omega), e]
    · rw [if_neg e]
      show (if 4 * l ≤ a ∧ a < 4 * l + k then m.words a else m.mem a) = _
      by_cases e2 : 4 * l ≤ a ∧ a < 4 * l + k
      · rw [if_pos e2, if_pos (by omega)]
      · rw [if_neg e2, if_neg (by omega)]
  simp only [this]

set_option maxRecDepth 100000 in
set_option maxHeartbeats 1000000 in
theorem writeBack_any (b : Nat) (m : RM) (l : Nat) (w : World) (hl : l < 64) (hc4 : m.cores ≤ 4) (ht : 0 ≤ m.tally 8 ∧ m.tally 8 ≤ 4611686018427387904) (H : PmAt w b m) :
    Calls Try.prog 40 #[.pointer (some ⟨b, 0, none⟩), .int .i64 l] w fun e w' => e = .returned (.tuple #[]) ∧ PmAt w' b (m.backS l) ∧ Upd (blkS b) w w' := by
  have HH : Hid (PmAt w b m) := H
  have h1 := H.lasts.c l hl
  clear H
  by_cases h2 : m.lasts l = 2
  · have HS : Hid (m.backS l = m.writtenS l) := by show _ = _; unfold RM.backS; rw [if_pos h2]
    rw [HS.out]
    rw [h2] at h1
    clear h2 HS
    go_enter Try.func40, Try.ntmps40
    go_wp2
    go_loopw [4] (fun i wr => ∃ k : Nat, k ≤ 4 ∧ i = .int .i64 ((4 * l + k : Nat) : Int) ∧ PmAt wr b (memK m l k) ∧ Upd (blkS b) w wr) (fun i _ => 4 * l + 4 - (intOf i).toNat)
    case atStart => exact ⟨0, by omega, by go_num, by rw [memK_zero]; exact HH.out, Upd.refl _ _⟩
    case round =>
      obtain ⟨k, hk, rfl, hs, hu⟩ := hrel
      have HS : Hid (PmAt wr b (memK m l k)) := hs
      have HU : Hid (Upd (blkS b) w wr) := hu
      by_cases hlt : k < 4
      · have h1 := hs.words.c (4 * l + k) (by omega)
        have h2 := hs.mem.c (4 * l + k) (by omega)
        have h2f := hs.mem.f (4 * l + k) (by omega)
        change wr.cell? _ = some (.int .i64 (m.words (4 * l + k))) at h1
        have HM : Hid (PmAt (wr.setCell ⟨b, 1603 + (4 * l + k), none⟩ (.int .i64 (m.words (4 * l + k)))) b (memK m l (k + 1))) := by
          have := hs.setMem hc4 (4 * l + k) (by omega) (m.words (4 * l + k))
          rw [memK_next] at this
          exact this
        clear hs hu
        generalize ha : 4 * l + k = a at *
        go_wp2
        go_region
        all_goals go_wp2
        all_goals
          go_roundw
          case rel => exact ⟨k + 1, by omega, by go_num, HM.out.drew, (HU.out.setCell (fun _ => blk_self b _) _).drew⟩
          case measure => simp [intOf]; omega
      · have hk4 : k = 4 := by omega
        subst hk4
        have h1 := hs.tally.c 8 (by omega)
        have h1f := hs.tally.f 8 (by omega)
        change wr.cell? _ = some (.int .i64 (m.tally 8)) at h1
        clear hs hu
        go_wp2
        go_end0
        exact ⟨rfl, HS.out.setTally hc4 8 (by omega) _, HU.out.setCell (fun _ => blk_self b _) _⟩
  · have HS : Hid (m.backS l = m) := by show _ = _; unfold RM.backS; rw [if_neg h2]
    rw [HS.out]
    have hb : (m.lasts l != 2) = true := by simpa using h2
    clear h2 HS
    generalize m.lasts l = h at *
    go_enter Try.func40, Try.ntmps40
    go_wp2
    (try simp only [Exit.inBlock, Exit.then]); refine bodyPost_ret (results_none rfl _ _ _) rfl ?_
    exact ⟨rfl, HH.out, Upd.refl _ _⟩

set_option maxHeartbeats 1000000 in
theorem pEvict_nil (c a : Int) (w : World) :
    Calls Try.prog 21 #[.pointer none, .int .i64 c, .int .i64 a] w fun e w' => e = .returned (.int .i64 1) ∧ w' = w := by
  go_enter Try.func21, Try.ntmps21
  go_wp2_with fail
  refine (checkCoreLine_nil c a _).mono ?_
  rintro e w1 ⟨rfl, rfl⟩
  go_wp2
  go_ret
  exact ⟨rfl, rfl⟩

set_option maxHeartbeats 1000000 in
theorem pEvict_bad (b : Nat) (m : RM) (c l : Int) (w : World) (he : stateE m.cores c l ≠ 0) (H : PmAt w b m) :
    Calls Try.prog 21 #[.pointer (some ⟨b, 0, none⟩), .int .i64 c, .int .i64 l] w fun e w' => e = .returned (.int .i64 (stateE m.cores c l)) ∧ w' = w := by
  have HH : Hid (PmAt w b m) := H
  have hb : (stateE m.cores c l != 0) = true := by simpa using he
  obtain ⟨E, hE⟩ : ∃ E, stateE m.cores c l = E := ⟨_, rfl⟩
  have HEE : Hid (stateE m.cores c l = E) := hE
  rw [hE] at hb ⊢
  clear H he hE
  go_enter Try.func21, Try.ntmps21
  go_wp2_with fail
  refine (checkCoreLine_any b m c l _ HH.out).mono ?_
  rintro e w1 ⟨rfl, rfl⟩
  rw [HEE.out]
  go_wp2
  go_ret
  exact ⟨rfl, rfl⟩

set_option maxHeartbeats 1000000 in
theorem pEvict_good (b : Nat) (m : RM) (c l : Nat) (w : World) (hc : c < m.cores) (hl : l < 64) (hc4 : m.cores ≤ 4) (H : PmAt w b m) :
    Calls Try.prog 21 #[.pointer (some ⟨b, 0, none⟩), .int .i64 c, .int .i64 l] w fun e w' => e = .returned (.int .i64 0) ∧ PmAt w' b (m.pLose c l) ∧ Upd (blkS b) w w' := by
  have HH : Hid (PmAt w b m) := H
  have HE : Hid (stateE m.cores c l = 0) := by show _ = _; unfold stateE; rw [if_neg (by omega), if_neg (by omega)]
  clear H
  go_enter Try.func21, Try.ntmps21
  go_wp2_with fail
  refine (checkCoreLine_any b m c l _ HH.out).mono ?_
  rintro e w1 ⟨rfl, rfl⟩
  rw [HE.out]
  go_wp2_with fail
  refine (lose_any b m c l _ hc hl hc4 HH.out).mono ?_
  rintro e w2 ⟨rfl, h1, hu⟩
  have HF : Hid (PmAt w2 b (m.pLose c l)) := h1
  have HU := (show Hid _ from hu)
  clear h1 hu
  go_wp2
  go_ret
  exact ⟨rfl, HF.out, HU.out⟩

end Go.Proofs.Ytobniidkkmlilab
