import Derived.Test.YtobniidkkmlilaaPl10

/- The walks over package coherentkeep: small numbers out of raw ones. -/
namespace Go.Proofs.Ytobniidkkmlilaa
open Go.RowKit Go.Coh

def pickN (c : Int) (n : Nat) : Nat := ((if c < 0 then -(c + 1) else c) % n).toNat
theorem pickN_lt (c : Int) (n : Nat) (hn : 0 < n) : pickN c n < n := by
  unfold pickN
  have h1 := Int.emod_lt_of_pos (if c < 0 then -(c + 1) else c) (show (0 : Int) < n by omega)
  have h2 := Int.emod_nonneg (if c < 0 then -(c + 1) else c) (show (n : Int) ≠ 0 by omega)
  omega
theorem pickN_neg (c : Int) (n : Nat) (hn : 0 < n) (h : c < 0) : (-(c + 1)) % n = (pickN c n : Int) := by
  unfold pickN
  have h2 := Int.emod_nonneg (-(c + 1)) (show (n : Int) ≠ 0 by omega)
  rw [if_pos h]; omega
theorem pickN_pos (c : Int) (n : Nat) (hn : 0 < n) (h : ¬ c < 0) : c % n = (pickN c n : Int) := by
  unfold pickN
  have h2 := Int.emod_nonneg c (show (n : Int) ≠ 0 by omega)
  rw [if_neg h]; omega

set_option maxHeartbeats 400000 in
theorem pick_any (c : Int) (n : Nat) (w : World) (hn : 0 < n) (hn2 : n ≤ 1000) (h1 : -9223372036854775808 ≤ c) (h2 : c ≤ 9223372036854775807) :
    Calls Try.prog 25 #[.int .i64 c, .int .i64 n] w fun e w' => e = .returned (.int .i64 (pickN c n : Nat)) ∧ w' = w := by
  by_cases h : c < 0
  · have HP : Hid ((-(c + 1)) % (n : Int) = (pickN c n : Int)) := pickN_neg c n hn h
    go_enter Try.func25, Try.ntmps25
    go_wp2
    go_ret
    exact ⟨ret_int (by rw [← HP.out, ← Int.neg_tmod, Int.tmod_eq_emod_of_nonneg (by omega)]), rfl⟩
  · have HP : Hid (c % (n : Int) = (pickN c n : Int)) := pickN_pos c n hn h
    go_enter Try.func25, Try.ntmps25
    go_wp2
    go_ret
    exact ⟨ret_int (by rw [← HP.out]), rfl⟩

theorem pick_int (c : Int) (n : Nat) (k : Int) (w : World) (ek : k = n) (hn : 0 < n) (hn2 : n ≤ 1000) (h1 : -9223372036854775808 ≤ c) (h2 : c ≤ 9223372036854775807) :
    Calls Try.prog 25 #[.int .i64 c, .int .i64 k] w fun e w' => e = .returned (.int .i64 (pickN c n : Nat)) ∧ w' = w := by
  subst ek; exact pick_any c n w hn hn2 h1 h2

def powerN (c : Int) : Nat := 2 ^ pickN c 4
theorem powerN_size (c : Int) : Size (powerN c) := by
  have := pickN_lt c 4 (by omega)
  unfold powerN
  generalize pickN c 4 = k at *
  match k, this with
  | 0, _ => exact .inl rfl
  | 1, _ => exact .inr (.inl rfl)
  | 2, _ => exact .inr (.inr (.inl rfl))
  | 3, _ => exact .inr (.inr (.inr rfl))

set_option maxHeartbeats 400000 in
theorem power_any (c : Int) (w : World) (h1 : -9223372036854775808 ≤ c) (h2 : c ≤ 9223372036854775807) :
    Calls Try.prog 22 #[.int .i64 c] w fun e w' => e = .returned (.int .i64 (powerN c : Nat)) ∧ w' = w := by
  have hk := pickN_lt c 4 (by omega)
  have HP : Hid (powerN c = 2 ^ pickN c 4) := rfl
  go_enter Try.func22, Try.ntmps22
  go_wp2_with fail
  refine (pick_int c 4 _ _ rfl (by omega) (by omega) h1 h2).mono ?_
  rintro e w1 ⟨rfl, rfl⟩
  generalize pickN c 4 = k at *
  have hcase : k = 0 ∨ k = 1 ∨ k = 2 ∨ k = 3 := by omega
  clear hk
  go_wp2
  go_loop [3, 4] (fun n i => ∃ a b : Nat, n = .int .i64 a ∧ i = .int .i64 b ∧ (b = 0 ∨ b = 1 ∨ b = 2 ∨ b = 3) ∧ a * 2 ^ b = 2 ^ k ∧ a ≤ 8) (fun _ i => (intOf i).toNat)
  case atStart => exact ⟨1, k, rfl, rfl, hcase, by omega, by omega⟩
  case round =>
    obtain ⟨a, b, rfl, rfl, hb, he, ha⟩ := hrel
    have HE : Hid (a * 2 ^ b = 2 ^ k) := he
    have HCs : Hid (k = 0 ∨ k = 1 ∨ k = 2 ∨ k = 3) := hcase
    clear he hcase
    have ha8 : 0 < b → a ≤ 4 := by
      intro hb0
      have h8 : 2 ^ k ≤ 8 := by rcases HCs.out with h | h | h | h <;> subst h <;> decide
      have h2 : 2 ≤ 2 ^ b := by rcases hb with h | h | h | h <;> subst h <;> first | omega | decide
      have h3 : a * 2 ≤ a * 2 ^ b := Nat.mul_le_mul_left a h2
      have := HE.out
      omega
    by_cases hz : b = 0
    · subst hz
      go_wp2
      go_ret
      exact ⟨ret_int (by rw [HP.out, ← HE.out]; simp), rfl⟩
    · have ha4 := ha8 (by omega)
      clear ha8
      have hb1 : 0 < b := by omega
      go_wp2
      go_round
      case rel =>
        refine ⟨2 * a, b - 1, by go_num, by first | go_num | (congr 1; omega), by omega, ?_, by omega⟩
        have := HE.out
        rw [show b = (b - 1) + 1 by omega, Nat.pow_succ] at this
        rw [← this, Nat.mul_comm 2 a, Nat.mul_assoc, Nat.mul_comm 2]
      case measure => simp [intOf]; omega

end Go.Proofs.Ytobniidkkmlilaa

/- The walks over package coherentkeep: some. -/
namespace Go.Proofs.Ytobniidkkmlilaa
open Go.RowKit Go.Coh

theorem upd_grown {S : Nat → Nat → Prop} {w w' w'' : World} {row : Option Nat} (h : Upd S w w') (hg : w'.grownBy w'' row) (hr : ∀ k, row = some k → w.heap.size ≤ k) : Upd S w w'' := by
  have hb : ∀ k, k < w.heap.size → w''.heap[k]? = w'.heap[k]? := fun k hk => hg.block k (Nat.lt_of_lt_of_le hk h.size) (fun e => by have := hr k e.symm; omega)
  refine ⟨hg.os.trans h.os, hg.tape.trans h.tape, hg.output.trans h.output, Nat.le_trans h.size hg.size, ?_, ?_⟩
  · intro b c e fr hc
    rw [hb b (Array.getElem?_eq_some_iff.1 hc).1]
    exact h.cells b c e fr hc
  · intro b x hc hx
    rw [hb b (Array.getElem?_eq_some_iff.1 hc).1]
    exact h.rest b x hc hx

theorem info3 : (Try.prog.info? 3).map (fun i => (i.zero, i.size, i.bytes)) = some (some (.int .i64 0), 1, 8) := by kernel_rfl

def iv (f : Nat → Int) (k : Nat) : List Value := (List.range k).map fun i => .int .i64 (f i)
theorem iv_succ (f : Nat → Int) (k : Nat) : iv f k ++ [.int .i64 (f k)] = iv f (k + 1) := by simp [iv, List.range_succ]
theorem iv_get (f : Nat → Int) (k i : Nat) (hi : i < k) : (iv f k)[i]? = some (.int .i64 (f i)) := by simp [iv, hi]

/-- what is owned can be read -/
theorem ints_of_own {w : World} {base : Nat} {v : Value} {k : Nat} {f : Nat → Int} (h : w.ownsRow base 3 1 v k (iv f k)) : IntsAt w v k f ∧ ∀ a l c, v = .slice (some a) l c → base ≤ a.block := by
  rcases h.2 with ⟨rfl, rfl⟩ | ⟨g, cap, cur, rfl, hb, hg, _, _, _, ht⟩
  · exact ⟨.inl ⟨rfl, rfl⟩, fun a l c e => by cases e⟩
  · refine ⟨.inr ⟨g, 0, cap, rfl, (Array.getElem?_eq_some_iff.1 hg).1, fun i hi => ?_⟩, fun a l c e => by injection e with e _ _; injection e with e; subst e; exact hb⟩
    rw [Nat.zero_add, cell_of_row w g i cur 3 (0, 0) hg]
    have := iv_get f k i hi
    rw [← ht, List.getElem?_take, if_pos (by omega)] at this
    simpa using this

def someN (m : Nat) : Nat := if m < 200 then m else 200

set_option maxRecDepth 100000 in
set_option maxHeartbeats 1000000 in
theorem some_some (a off m cap n : Nat) (zs : Nat → Int) (w : World) (hn : 0 < n) (hn2 : n ≤ 100) (hm : m ≤ maxLen) (ha : a < w.heap.size)
    (hz : ∀ i, i < m → w.cell? ⟨a, off + i, none⟩ = some (.int .i64 (zs i)) ∧ -9223372036854775808 ≤ zs i ∧ zs i ≤ 9223372036854775807) :
    Calls Try.prog 23 #[.slice (some ⟨a, off, none⟩) m cap, .int .i64 n] w fun e w' =>
      (∃ v, e = .returned v ∧ w'.ownsRow w.heap.size 3 1 v (someN m) (iv (fun i => pickN (zs i) n) (someN m))) ∧ Upd no w w' := by
  unfold maxLen at hm
  have HZ : Hid (∀ i, i < m → w.cell? ⟨a, off + i, none⟩ = some (.int .i64 (zs i)) ∧ -9223372036854775808 ≤ zs i ∧ zs i ≤ 9223372036854775807) := hz
  obtain ⟨i0, hi, hz0, hz1, hz2⟩ := info_parts info3
  clear hz
  go_enter Try.func23, Try.ntmps23
  go_wp2
  go_loopw [5, 6] (fun l i wr => ∃ k : Nat, k ≤ m ∧ k ≤ 200 ∧ i = .int .i64 k ∧ wr.ownsRow w.heap.size 3 1 l k (iv (fun i => pickN (zs i) n) k) ∧ Upd no w wr) (fun _ i _ => m - (intOf i).toNat)
  case atStart => exact ⟨0, Nat.zero_le _, Nat.zero_le _, rfl, World.ownsRow_nil _ _ _ _, Upd.refl _ _⟩
  case round =>
    obtain ⟨k, hk, hk2, rfl, hown, hu⟩ := hrel
    have HU : Hid (Upd no w wr) := hu
    have HO : Hid (wr.ownsRow w.heap.size 3 1 u5 k (iv (fun i => pickN (zs i) n) k)) := hown
    clear hu hown
    by_cases hlt : k < m
    · have hzk := HZ.out k hlt
      have hc : wr.cell? ⟨a, off + k, none⟩ = some (.int .i64 (zs k)) := by rw [HU.out.cell ha (fun h => h)]; exact hzk.1
      by_cases h200 : k < 200
      · have hsz := HU.out.size
        go_wp2_with fail
        refine (pick_any (zs k) n _ hn (by omega) hzk.2.1 hzk.2.2).mono ?_
        rintro e w1 ⟨rfl, rfl⟩
        go_wp2_with (at_builtin; refine wpList_append_own _ rfl _ _ 24 rfl w.heap.size 3 i0 (.int .i64 0) 1 8 Try.underlying24 hi hz0 hz1 hz2 rfl (by decide) _ _ _ rfl (HO.out.alloc _) ⟨w1.heap.size, 0, none⟩ 1 1 [.int .i64 (pickN (zs k) n : Nat)] rfl rfl (cell_one_new _ _ _) (ints_oneCell .i64 [((pickN (zs k) n : Nat) : Int)]) (by unfold maxLen; omega) (by omega) (by simp; omega) ?_; intro v' w2 hown' hgrow hnil)
        go_roundw
        case rel =>
          refine ⟨k + 1, by omega, by omega, by go_num, ?_, upd_grown (HU.out.alloc _) hgrow (fun g hg => (HO.out.lt g hg).1)⟩
          have := hown'
          rwa [iv_succ (fun i => (pickN (zs i) n : Int)) k] at this
        case measure => simp [intOf]; omega
      · go_wp2
        go_ret
        refine ⟨⟨_, rfl, ?_⟩, HU.out⟩
        rw [show someN m = k by unfold someN; split <;> omega]
        exact HO.out
    · have hd : decide (k < m) = false := by simpa using hlt
      go_wp2
      go_ret
      refine ⟨⟨_, rfl, ?_⟩, HU.out⟩
      rw [show someN m = k by unfold someN; split <;> omega]
      exact HO.out

set_option maxRecDepth 100000 in
set_option maxHeartbeats 1000000 in
theorem some_nil (o : Option Addr) (cap n : Nat) (w : World) :
    Calls Try.prog 23 #[.slice o 0 cap, .int .i64 n] w fun e w' => e = .returned (.slice none 0 0) ∧ w' = w := by
  go_enter Try.func23, Try.ntmps23
  go_wp2
  go_loop [5, 6] (fun l i => i = .int .i64 0 ∧ l = .slice none 0 0) (fun _ _ => 0)
  case atStart => exact ⟨rfl, rfl⟩
  case round =>
    obtain ⟨rfl, rfl⟩ := hrel
    go_wp2
    go_ret
    exact ⟨rfl, rfl⟩

/-- raw numbers as Go hands them over -/
def RawAt (w : World) (v : Value) (m : Nat) (zs : Nat → Int) : Prop :=
  (∃ o cap, v = .slice o 0 cap ∧ m = 0) ∨ ∃ a off cap, v = .slice (some ⟨a, off, none⟩) m cap ∧ m ≤ maxLen ∧ a < w.heap.size ∧ ∀ i, i < m → w.cell? ⟨a, off + i, none⟩ = some (.int .i64 (zs i)) ∧ -9223372036854775808 ≤ zs i ∧ zs i ≤ 9223372036854775807

theorem some_any (m n : Nat) (v : Value) (k : Int) (zs : Nat → Int) (w : World) (ek : k = n) (hn : 0 < n) (hn2 : n ≤ 100) (hv : RawAt w v m zs) :
    Calls Try.prog 23 #[v, .int .i64 k] w fun e w' =>
      (∃ v, e = .returned v ∧ w'.ownsRow w.heap.size 3 1 v (someN m) (iv (fun i => pickN (zs i) n) (someN m))) ∧ Upd no w w' := by
  subst ek
  rcases hv with ⟨o, cap, rfl, rfl⟩ | ⟨a, off, cap, rfl, hm, ha, hz⟩
  · refine (some_nil o cap n w).mono ?_
    rintro e w' ⟨rfl, rfl⟩
    exact ⟨⟨_, rfl, World.ownsRow_nil _ _ _ _⟩, Upd.refl _ _⟩
  · exact some_some a off m cap n zs w hn hn2 hm ha hz

theorem someN_le (m : Nat) : someN m ≤ 200 := by unfold someN; split <;> omega

end Go.Proofs.Ytobniidkkmlilaa
