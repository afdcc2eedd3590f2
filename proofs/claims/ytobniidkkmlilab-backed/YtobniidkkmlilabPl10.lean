import Derived.Test.YtobniidkkmlilabPl09
import Derived.Deep.MidRow
import Derived.Test.YtobniidkkmlilabPl07

/- Rows of integers and of touches in the memory. -/
namespace Go.Proofs.Ytobniidkkmlilab
open Go.RowKit Go.Coh

/-- a list of integers as Go hands it over -/
def IntsAt (w : World) (v : Value) (m : Nat) (xs : Nat → Int) : Prop :=
  (v = .slice none 0 0 ∧ m = 0) ∨ ∃ a off cap, v = .slice (some ⟨a, off, none⟩) m cap ∧ a < w.heap.size ∧ ∀ i, i < m → w.cell? ⟨a, off + i, none⟩ = some (.int .i64 (xs i))

/-- the touches T 0 .. T (k-1) lie in block g -/
def TchAt (w : World) (g k : Nat) (T : Nat → Tch) : Prop :=
  ∀ i, i < k → w.rangeAt g (i * 3) (tv (T i)).toList

theorem upd_setCells {S : Nat → Nat → Prop} {w : World} {b : Nat} : ∀ {vs : List Value} {o : Nat} {w' : World}, Upd S w w' → (b < w.heap.size → ∀ j, j < vs.length → S b (o + j)) → Upd S w (w'.setCells b o vs)
  | [], _, _, h, _ => h
  | v :: r, o, w', h, hS => by
    rw [World.setCells]
    refine upd_setCells (h.setCell (fun hb => ?_) v) (fun hb j hj => ?_)
    · have := hS hb 0 (by simp)
      simpa using this
    · have := hS hb (j + 1) (by simp; omega)
      rwa [show o + (j + 1) = o + 1 + j by omega] at this

theorem there_upd {S : Nat → Nat → Prop} {w w' : World} {b o n : Nat} (h : w.there b o n) (u : Upd S w w') (hb : b < w.heap.size) (hS : ∀ o, ¬ S b o) : w'.there b o n := fun j hj => by
  obtain ⟨h1, h2⟩ := h j hj
  exact ⟨by rw [u.cell hb (hS _)]; exact h1, by rw [u.frozen hb]; exact h2⟩

end Go.Proofs.Ytobniidkkmlilab

/- The walks over package coherentkeep: small numbers out of raw ones. -/
namespace Go.Proofs.Ytobniidkkmlilab
open Go.RowKit Go.Coh

def pickN (c : Int) (n : Nat) : Nat := ((if c < 0 then -(c + 1) else c) % n).toNat
theorem pickN_lt (c : Int) (n : Nat) (hn : 0 < n) : pickN c n < n := by
  unfold pickN
  have h1 := Int.emod_lt_of_pos (if c < 0 then -(c + 1) else c) (show (0 : Int) < n by omega)
  have h2 := Int.emod_nonneg (if c < 0 then -(c + 1) else c) (show (n : Int) ≠ 0 by omega)
  omega
theorem pickN_neg (c : Int) (n : Nat) (hn : 0 < n) (h : c < 0) : (-(c + 1)) % n = (pickN c n : Int) := by
  unfold pickN
  have h2 := Int.emod_nonneg (-(c + 1)) (show (n : Int) ≠ 0 by omega)
  rw [if_pos h]; omega
theorem pickN_pos (c : Int) (n : Nat) (hn : 0 < n) (h : ¬ c < 0) : c % n = (pickN c n : Int) := by
  unfold pickN
  have h2 := Int.emod_nonneg c (show (n : Int) ≠ 0 by omega)
  rw [if_neg h]; omega

set_option maxHeartbeats 400000 in
theorem pick_any (c : Int) (n : Nat) (w : World) (hn : 0 < n) (hn2 : n ≤ 1000) (h1 : -9223372036854775808 ≤ c) (h2 : c ≤ 9223372036854775807) :
    Calls Try.prog 17 #[.int .i64 c, .int .i64 n] w fun e w' => e = .returned (.int .i64 (pickN c n : Nat)) ∧ w' = w := by
  by_cases h : c < 0
  · have HP : Hid ((-(c + 1)) % (n : Int) = (pickN c n : Int)) := pickN_neg c n hn h
    go_enter Try.func17, Try.ntmps17
    go_wp2
    go_ret
    exact ⟨ret_int (by rw [← HP.out, ← Int.neg_tmod, Int.tmod_eq_emod_of_nonneg (by omega)]), rfl⟩
  · have HP : Hid (c % (n : Int) = (pickN c n : Int)) := pickN_pos c n hn h
    go_enter Try.func17, Try.ntmps17
    go_wp2
    go_ret
    exact ⟨ret_int (by rw [← HP.out]), rfl⟩

theorem pick_int (c : Int) (n : Nat) (k : Int) (w : World) (ek : k = n) (hn : 0 < n) (hn2 : n ≤ 1000) (h1 : -9223372036854775808 ≤ c) (h2 : c ≤ 9223372036854775807) :
    Calls Try.prog 17 #[.int .i64 c, .int .i64 k] w fun e w' => e = .returned (.int .i64 (pickN c n : Nat)) ∧ w' = w := by
  subst ek; exact pick_any c n w hn hn2 h1 h2

def powerN (c : Int) : Nat := 2 ^ pickN c 4
theorem powerN_size (c : Int) : Size (powerN c) := by
  have := pickN_lt c 4 (by omega)
  unfold powerN
  generalize pickN c 4 = k at *
  match k, this with
  | 0, _ => exact .inl rfl
  | 1, _ => exact .inr (.inl rfl)
  | 2, _ => exact .inr (.inr (.inl rfl))
  | 3, _ => exact .inr (.inr (.inr rfl))

set_option maxHeartbeats 400000 in
theorem power_any (c : Int) (w : World) (h1 : -9223372036854775808 ≤ c) (h2 : c ≤ 9223372036854775807) :
    Calls Try.prog 18 #[.int .i64 c] w fun e w' => e = .returned (.int .i64 (powerN c : Nat)) ∧ w' = w := by
  have hk := pickN_lt c 4 (by omega)
  have HP : Hid (powerN c = 2 ^ pickN c 4) := rfl
  go_enter Try.func18, Try.ntmps18
  go_wp2_with fail
  refine (pick_int c 4 _ _ rfl (by omega) (by omega) h1 h2).mono ?_
  rintro e w1 ⟨rfl, rfl⟩
  generalize pickN c 4 = k at *
  have hcase : k = 0 ∨ k = 1 ∨ k = 2 ∨ k = 3 := by omega
  clear hk
  go_wp2
  go_loop [3, 4] (fun n i => ∃ a b : Nat, n = .int .i64 a ∧ i = .int .i64 b ∧ (b = 0 ∨ b = 1 ∨ b = 2 ∨ b = 3) ∧ a * 2 ^ b = 2 ^ k ∧ a ≤ 8) (fun _ i => (intOf i).toNat)
  case atStart => exact ⟨1, k, rfl, rfl, hcase, by omega, by omega⟩
  case round =>
    obtain ⟨a, b, rfl, rfl, hb, he, ha⟩ := hrel
    have HE : Hid (a * 2 ^ b = 2 ^ k) := he
    have HCs : Hid (k = 0 ∨ k = 1 ∨ k = 2 ∨ k = 3) := hcase
    clear he hcase
    have ha8 : 0 < b → a ≤ 4 := by
      intro hb0
      have h8 : 2 ^ k ≤ 8 := by rcases HCs.out with h | h | h | h <;> subst h <;> decide
      have h2 : 2 ≤ 2 ^ b := by rcases hb with h | h | h | h <;> subst h <;> first | omega | decide
      have h3 : a * 2 ≤ a * 2 ^ b := Nat.mul_le_mul_left a h2
      have := HE.out
      omega
    by_cases hz : b = 0
    · subst hz
      go_wp2
      go_ret
      exact ⟨ret_int (by rw [HP.out, ← HE.out]; simp), rfl⟩
    · have ha4 := ha8 (by omega)
      clear ha8
      have hb1 : 0 < b := by omega
      go_wp2
      go_round
      case rel =>
        refine ⟨2 * a, b - 1, by go_num, by first | go_num | (congr 1; omega), by omega, ?_, by omega⟩
        have := HE.out
        rw [show b = (b - 1) + 1 by omega, Nat.pow_succ] at this
        rw [← this, Nat.mul_comm 2 a, Nat.mul_assoc, Nat.mul_comm 2]
      case measure => simp [intOf]; omega

end Go.Proofs.Ytobniidkkmlilab

/- Rows of integers that grow. -/
namespace Go.Proofs.Ytobniidkkmlilab
open Go.RowKit Go.Coh

theorem upd_grown {S : Nat → Nat → Prop} {w w' w'' : World} {row : Option Nat} (h : Upd S w w') (hg : w'.grownBy w'' row) (hr : ∀ k, row = some k → w.heap.size ≤ k) : Upd S w w'' := by
  have hb : ∀ k, k < w.heap.size → w''.heap[k]? = w'.heap[k]? := fun k hk => hg.block k (Nat.lt_of_lt_of_le hk h.size) (fun e => by have := hr k e.symm; omega)
  refine ⟨hg.os.trans h.os, hg.tape.trans h.tape, hg.output.trans h.output, Nat.le_trans h.size hg.size, ?_, ?_⟩
  · intro b c e fr hc
    rw [hb b (Array.getElem?_eq_some_iff.1 hc).1]
    exact h.cells b c e fr hc
  · intro b x hc hx
    rw [hb b (Array.getElem?_eq_some_iff.1 hc).1]
    exact h.rest b x hc hx

theorem info3 : (Try.prog.info? 3).map (fun i => (i.zero, i.size, i.bytes)) = some (some (.int .i64 0), 1, 8) := by kernel_rfl

def iv (f : Nat → Int) (k : Nat) : List Value := (List.range k).map fun i => .int .i64 (f i)
theorem iv_succ (f : Nat → Int) (k : Nat) : iv f k ++ [.int .i64 (f k)] = iv f (k + 1) := by simp [iv, List.range_succ]
theorem iv_get (f : Nat → Int) (k i : Nat) (hi : i < k) : (iv f k)[i]? = some (.int .i64 (f i)) := by simp [iv, hi]

/-- what is owned can be read -/
theorem ints_of_own {w : World} {base : Nat} {v : Value} {k : Nat} {f : Nat → Int} (h : w.ownsRow base 3 1 v k (iv f k)) : IntsAt w v k f ∧ ∀ a l c, v = .slice (some a) l c → base ≤ a.block := by
  rcases h.2 with ⟨rfl, rfl⟩ | ⟨g, cap, cur, rfl, hb, hg, _, _, _, ht⟩
  · exact ⟨.inl ⟨rfl, rfl⟩, fun a l c e => by cases e⟩
  · refine ⟨.inr ⟨g, 0, cap, rfl, (Array.getElem?_eq_some_iff.1 hg).1, fun i hi => ?_⟩, fun a l c e => by injection e with e _ _; injection e with e; subst e; exact hb⟩
    rw [Nat.zero_add, cell_of_row w g i cur 3 (0, 0) hg]
    have := iv_get f k i hi
    rw [← ht, List.getElem?_take, if_pos (by omega)] at this
    simpa using this

end Go.Proofs.Ytobniidkkmlilab

/- The walks over package coherentref: a new cache. -/
namespace Go.Proofs.Ytobniidkkmlilab
open Go.RowKit Go.Coh

theorem info73 : (Try.prog.info? 110).map (fun i => (i.zero, i.size, i.bytes)) = some (some (.agg #[.int .i64 0, .int .i64 0, .int .i64 0]), 3, 24) := by kernel_rfl

def wc : Nat → List Value
  | 0 => []
  | k + 1 => wc k ++ [.int .i64 (-1), .int .i64 0, .int .i64 0]

theorem wc_len : ∀ k, (wc k).length = k * 3
  | 0 => rfl
  | k + 1 => by simp [wc, wc_len k]; omega

theorem wc_get : ∀ k i, i < k → (wc k)[i * 3]? = some (.int .i64 (-1)) ∧ (wc k)[i * 3 + 1]? = some (.int .i64 0) ∧ (wc k)[i * 3 + 2]? = some (.int .i64 0)
  | 0, i, h => by omega
  | k + 1, i, h => by
    have hl := wc_len k
    unfold wc
    by_cases e : i = k
    · subst e
      rw [List.getElem?_append_right (by omega), List.getElem?_append_right (by omega), List.getElem?_append_right (by omega), hl]
      refine ⟨?_, ?_, ?_⟩
      · rw [show i * 3 - i * 3 = 0 by omega]; rfl
      · rw [show i * 3 + 1 - i * 3 = 1 by omega]; rfl
      · rw [show i * 3 + 2 - i * 3 = 2 by omega]; rfl
    · rw [List.getElem?_append_left (by omega), List.getElem?_append_left (by omega), List.getElem?_append_left (by omega)]
      exact wc_get k i (by omega)

theorem news_cells (w : World) (vs : List Value) (t : TypeId) : ∀ j u, vs[j]? = some u → (w.alloc (.cells vs.toArray t)).cell? ((⟨w.heap.size, 0, none⟩ : Addr).add j) = some u := by
  intro j u hu
  rw [Addr.add_mid, Nat.zero_add, World.cell?_alloc_new]
  simpa using hu

theorem own_ways {w : World} {base n : Nat} {v : Value} (h : w.ownsRow base 110 3 v n (wc n)) (hn : 0 < n) : ∃ g cap, v = .slice (some ⟨g, 0, none⟩) n cap ∧ base ≤ g ∧ g < w.heap.size ∧ (∀ o, w.frozen? ⟨g, o, none⟩ = false) ∧
    ∀ i, i < n → w.cell? ⟨g, i * 3, none⟩ = some (.int .i64 (-1)) ∧ w.cell? ⟨g, i * 3 + 1, none⟩ = some (.int .i64 0) ∧ w.cell? ⟨g, i * 3 + 2, none⟩ = some (.int .i64 0) := by
  rcases h.2 with ⟨rfl, rfl⟩ | ⟨g, cap, cur, rfl, hb, hg, _, _, _, ht⟩
  · omega
  · refine ⟨g, cap, rfl, hb, (Array.getElem?_eq_some_iff.1 hg).1, fun o => by simp [World.frozen?, hg], fun i hi => ?_⟩
    have key : ∀ o u, o < n * 3 → (wc n)[o]? = some u → w.cell? ⟨g, o, none⟩ = some u := fun o u ho hu => by
      rw [cell_of_row w g o cur 110 (0, 0) hg]
      rw [← ht, List.getElem?_take, if_pos ho] at hu
      simpa using hu
    obtain ⟨h1, h2, h3⟩ := wc_get n i hi
    exact ⟨key _ _ (by omega) h1, key _ _ (by omega) h2, key _ _ (by omega) h3⟩

def newRC (S W P : Nat) : RC := ⟨S, W, P, fun _ => -1, fun _ => 0, fun _ => 0, 0, 0, 7⟩

theorem own_slice' {w : World} {base e size n : Nat} {v : Value} {xs : List Value} (h : w.ownsRow base e size v n xs) : ∃ o cap, v = .slice o n cap := by
  rcases h.2 with ⟨rfl, rfl⟩ | ⟨g, cap, cur, rfl, _⟩
  · exact ⟨none, 0, rfl⟩
  · exact ⟨_, cap, rfl⟩

set_option maxRecDepth 100000 in
set_option maxHeartbeats 2000000 in
theorem refEmpty_any (S W P : Nat) (S' : Int) (w : World) (eS : S' = S) (hS : Size S) (hW : Size W) :
    Calls Try.prog 66 #[.int .i64 S', .int .i64 W, .int .i64 P] w fun e w' => (∃ b g cap, e = .returned (.pointer (some ⟨b, 0, none⟩)) ∧ w.heap.size ≤ b ∧ w.heap.size ≤ g ∧ b < w'.heap.size ∧ g < w'.heap.size ∧ RefAt w' b g cap (newRC S W P)) ∧ Upd no w w' := by
  subst eS
  obtain ⟨i0, hi, hz0, hz1, hz2⟩ := info_parts info73
  have hn : ∃ n : Nat, (S : Int) * (W : Int) = n ∧ S * W = n ∧ n ≤ 64 ∧ 0 < n := by
    refine ⟨S * W, by simp, rfl, ?_, ?_⟩
    · rcases hS with rfl | rfl | rfl | rfl <;> rcases hW with rfl | rfl | rfl | rfl <;> decide
    · rcases hS with rfl | rfl | rfl | rfl <;> rcases hW with rfl | rfl | rfl | rfl <;> decide
  obtain ⟨n, hn1, hn2, hn3, hn4⟩ := hn
  have HN1 : Hid ((S : Int) * (W : Int) = n) := hn1
  have HN2 : Hid (S * W = n) := hn2
  have HWR : wrap64 ((S : Int) * (W : Int)) = n := by rw [hn1]; exact wrap64_small n (by omega)
  have hSb : 0 < S ∧ S ≤ 8 := by rcases hS with h | h | h | h <;> omega
  have hWb : 0 < W ∧ W ≤ 8 := by rcases hW with h | h | h | h <;> omega
  clear hn1 hn2 hS hW
  go_enter Try.func66, Try.ntmps66
  go_wp2
  go_loopw [8] (fun i wr => ∃ (j : Nat) (v : Value), j ≤ n ∧ i = .int .i64 j ∧ wr.cell? ⟨w.heap.size, 0, none⟩ = some (.int .i64 S) ∧ wr.cell? ⟨w.heap.size, 1, none⟩ = some (.int .i64 W) ∧ wr.cell? ⟨w.heap.size, 2, none⟩ = some (.int .i64 P) ∧ wr.cell? ⟨w.heap.size, 3, none⟩ = some v ∧
      wr.cell? ⟨w.heap.size, 4, none⟩ = some (.int .i64 0) ∧ wr.cell? ⟨w.heap.size, 5, none⟩ = some (.int .i64 0) ∧ wr.cell? ⟨w.heap.size, 6, none⟩ = some (.int .i64 7) ∧ (∀ o, wr.frozen? ⟨w.heap.size, o, none⟩ = false) ∧
      wr.ownsRow (w.heap.size + 1) 110 3 v j (wc j) ∧ Upd no w wr ∧ w.heap.size + 1 ≤ wr.heap.size) (fun i _ => n - (intOf i).toNat)
  case atStart => exact ⟨0, .slice none 0 0, Nat.zero_le _, rfl, by simp, by simp, by simp, by simp, by simp, by simp, by simp, by simp, World.ownsRow_nil _ _ _ _, (Upd.refl _ _).alloc _, by simp⟩
  case round =>
    obtain ⟨j, v, hj, rfl, c0, c1, c2, c3, c4, c5, c6, hf, hown, hu, hz⟩ := hrel
    have HO : Hid (wr.ownsRow (w.heap.size + 1) 110 3 v j (wc j)) := hown
    have HU : Hid (Upd no w wr) := hu
    have HF : Hid (∀ o, wr.frozen? ⟨w.heap.size, o, none⟩ = false) := hf
    clear hown hu hf
    by_cases hlt : j < n
    · have key : ∀ w5, (wr.alloc (Obj.cells #[Value.int IntKind.i64 (-1), Value.int IntKind.i64 0, Value.int IntKind.i64 0] 110)).grownBy w5 v.ownBlock → w5.heap[w.heap.size]? = wr.heap[w.heap.size]? := fun w5 hg => by
        rw [hg.block w.heap.size (by simp; omega) (fun e => by have := (HO.out.lt _ e.symm).1; omega), Below.heap_alloc _ _ _ (by omega)]
      have KEY := (show Hid _ from key)
      clear key
      go_wp2_with (at_builtin; refine wpList_append_own _ rfl _ _ 106 rfl (w.heap.size + 1) 110 i0 (.agg #[.int .i64 0, .int .i64 0, .int .i64 0]) 3 24 Try.underlying106 hi hz0 hz1 hz2 rfl (by decide) v _ _ rfl (HO.out.alloc _) ⟨wr.heap.size, 0, none⟩ 1 1 [.int .i64 (-1), .int .i64 0, .int .i64 0] rfl rfl (news_cells wr [.int .i64 (-1), .int .i64 0, .int .i64 0] 110) (ints_oneCell .i64 [-1, 0, 0]) (by unfold maxLen; omega) (by omega) (by simp; omega) ?_; intro v' w5 hown' hgrow _hnil; clear _hnil; obtain ⟨o', cap', rfl⟩ := own_slice' hown'; have hcb : w5.cell? ⟨w.heap.size, 3, none⟩ = some v := (World.cell?_of_block (w := wr) (a := ⟨w.heap.size, 3, none⟩) (KEY.out w5 hgrow)).trans c3; have hfb : w5.frozen? ⟨w.heap.size, 3, none⟩ = false := (World.frozen?_of_block (w := wr) (a := ⟨w.heap.size, 3, none⟩) (KEY.out w5 hgrow)).trans (HF.out 3))
      go_roundw
      case rel =>
        have hs5 := hgrow.size
        simp at hs5
        have kc : ∀ o, 3 ≠ o → (w5.setCell ⟨w.heap.size, 3, none⟩ (.slice o' (j + 1) cap')).cell? ⟨w.heap.size, o, none⟩ = wr.cell? ⟨w.heap.size, o, none⟩ := fun o ho => by
          rw [cell_set_ne (.inr ho)]
          exact World.cell?_of_block (w := wr) (a := ⟨w.heap.size, o, none⟩) (KEY.out w5 hgrow)
        refine ⟨j + 1, .slice o' (j + 1) cap', by omega, by go_num, by rw [kc _ (by omega)]; exact c0, by rw [kc _ (by omega)]; exact c1, by rw [kc _ (by omega)]; exact c2, World.cell?_setCell_same _ _ _ hcb, by rw [kc _ (by omega)]; exact c4, by rw [kc _ (by omega)]; exact c5, by rw [kc _ (by omega)]; exact c6, fun o => ?_, ?_, ?_, by simp; omega⟩
        · rw [World.frozen?_setCell]
          exact (World.frozen?_of_block (w := wr) (a := ⟨w.heap.size, o, none⟩) (KEY.out w5 hgrow)).trans (HF.out o)
        · exact ownsRow_setCell_below hown' (by simp) _
        · exact (upd_grown (HU.out.alloc _) hgrow (fun b hb => by have := (HO.out.lt _ hb).1; omega)).setCell (fun h => absurd h (by simp)) _
      case measure => simp [intOf]; omega
    · have hjn : j = n := by omega
      subst hjn
      obtain ⟨g, cap, rfl, hg1, hg2, hgf, hgc⟩ := own_ways HO.out hn4
      have HR : Hid (RefAt wr w.heap.size g cap (newRC S W P)) := by
        have en : (newRC S W P).n = j := HN2.out
        refine ⟨by omega, c0, c1, c2, by rw [en]; exact c3, c4, c5, c6, HF.out, hgf, fun i hi => ?_, fun i hi => ?_, fun i hi => ?_⟩
        · rw [en] at hi; exact (hgc i hi).1
        · rw [en] at hi; exact (hgc i hi).2.1
        · rw [en] at hi; exact (hgc i hi).2.2
      clear hgc hgf
      go_wp2
      go_ret
      exact ⟨⟨w.heap.size, g, cap, rfl, Nat.le_refl _, by omega, by omega, hg2, HR.out⟩, HU.out⟩

end Go.Proofs.Ytobniidkkmlilab
