/- The walks over package coherentlaw: owned: the steps. -/
import Derived.Test.YtobniidkkmlilaaTe
namespace Go.Proofs.Ytobniidkkmlilaa
open Go.RowKit Go.Coh

/-- where 'owned' stands: nb books; the list of L marks at o; the mark itself in block N -/
structure OwnRel (w0 : World) (bA bL N n nb L : Nat) (o : Option Addr) (cap : Nat) (va : Value) (B : Nat → Bk) (wr : World) : Prop where
  books : BooksAt wr bA va nb B
  row : wr.ownsRow bL 41 3 (.slice o L cap) L (mcs n L)
  lens : ∀ i, i < nb → ∀ g, o = some ⟨g, 0, none⟩ → (B i).o = some ⟨g, 0, none⟩ → (B i).len ≤ L
  apart : ∀ g, o = some ⟨g, 0, none⟩ → va.ownBlock ≠ some g
  box : wr.heap[N]? = some (.cells (mk3 n).toArray 41)
  boxA : va.ownBlock ≠ some N
  boxL : o ≠ some ⟨N, 0, none⟩
  below : Below bA w0 wr
  bAL : bA ≤ bL
  bLN : bL ≤ N

theorem own_facts {w : World} {base e size L cap : Nat} {o : Option Addr} {xs : List Value} (h : w.ownsRow base e size (.slice o L cap) L xs) :
    (o = none → L = 0 ∧ cap = 0) ∧ ∀ b, o = some b → ∀ j u, xs[j]? = some u → w.cell? (b.add j) = some u := by
  refine ⟨fun ho => ?_, fun b ho j u hu => ?_⟩
  · subst ho
    rcases h.2 with ⟨h1, h0⟩ | ⟨g, cap', cur, hv, _⟩
    · injection h1 with _ _ h2; exact ⟨h0, h2⟩
    · injection hv with hv; cases hv
  · subst ho
    rcases h.2 with ⟨h1, h0⟩ | ⟨g, cap', cur, hv, _⟩
    · injection h1 with h1; cases h1
    · injection hv with hv _ _
      injection hv with hv
      subst hv
      exact h.cells rfl j u hu

theorem own_room {w : World} {base e size L cap : Nat} {o : Option Addr} {xs : List Value} (h : w.ownsRow base e size (.slice o L cap) L xs) (hc : 0 < cap) :
    ∃ g, o = some ⟨g, 0, none⟩ ∧ ∃ cur, w.heap[g]? = some (.cells cur e (0, 0)) ∧ cur.size = cap * size ∧ cur.toList.take (L * size) = xs ∧ cap ≤ maxLen := by
  rcases h.2 with ⟨h1, h0⟩ | ⟨g, cap', cur, hv, hb, hg, h1, h2, h3, h4⟩
  · injection h1 with _ _ h2; omega
  · injection hv with ho _ hcap
    subst hcap
    exact ⟨g, ho, cur, hg, h3, h4, h2⟩

theorem mk3_one (n : Nat) : ∀ u ∈ mk3 n, u.oneCell' = true := by
  intro u hu
  simp [mk3] at hu
  rcases hu with rfl | rfl | rfl <;> rfl

section
variable {w0 wr w' : World} {bA bL N n nb L : Nat} {o : Option Addr} {cap : Nat} {va : Value} {B : Nat → Bk} {ob : Obj}

theorem OwnRel.nlt (h : OwnRel w0 bA bL N n nb L o cap va B wr) : N < wr.heap.size := (Array.getElem?_eq_some_iff.1 h.box).1
theorem OwnRel.rlt (h : OwnRel w0 bA bL N n nb L o cap va B wr) {g : Nat} (ho : o = some ⟨g, 0, none⟩) : bL ≤ g ∧ g < wr.heap.size := h.row.lt g (by rw [ho]; rfl)
theorem OwnRel.alt (h : OwnRel w0 bA bL N n nb L o cap va B wr) {g : Nat} (hg : va.ownBlock = some g) : bA ≤ g ∧ g < wr.heap.size := h.books.row.lt g hg

/-- the list has grown into a new row -/
theorem OwnRel.grow (h : OwnRel w0 bA bL N n nb L o cap va B wr) {o' : Option Addr} {cap' : Nat} (hg : (wr.alloc ob).grownBy w' none)
    (hown : w'.ownsRow (wr.heap.size + 1) 41 3 (.slice o' (L + 1) cap') (L + 1) (mcs n L ++ mk3 n)) : OwnRel w0 bA bL N n nb (L + 1) o' cap' va B w' := by
  have hN := h.nlt
  have hL := h.bLN
  have hA := h.bAL
  have hsz : wr.heap.size ≤ w'.heap.size := by have := hg.size; simp at this; omega
  have old : ∀ g, g < wr.heap.size → w'.heap[g]? = wr.heap[g]? := fun g hgl => by rw [hg.block g (by simp; omega) (fun e => by cases e), Below.heap_alloc _ _ _ hgl]
  have hnew : ∀ g, o' = some ⟨g, 0, none⟩ → wr.heap.size < g := fun g ho => by
    have := (hown.lt g (by rw [ho]; rfl)).1
    omega
  refine ⟨h.books.keep hsz (fun g hg' => old g (h.alt hg').2) (fun i hi g _ _ hgl => old g hgl), own_mono hown (by omega), fun i hi g ho hb => ?_, fun g ho e => ?_, by rw [old N hN]; exact h.box, h.boxA, fun e => ?_, h.below.trans ⟨hg.os, hg.tape, hg.output, hsz, fun k hk => old k (by omega)⟩, hA, hL⟩
  · by_cases hpos : 0 < (B i).len
    · obtain ⟨g', ho', hgl, _⟩ := (h.books.mark i hi).2.2 hpos
      rw [hb] at ho'
      injection ho' with ho'
      injection ho' with ho'
      have := hnew g ho
      omega
    · omega
  · have := (h.alt e).2
    have := hnew g ho
    omega
  · have := hnew N e
    omega

/-- there was room in its row -/
theorem OwnRel.room (h : OwnRel w0 bA bL N n nb L o cap va B wr) {g : Nat} (ho : o = some ⟨g, 0, none⟩) {cur : Array Value} (hcur : (wr.alloc ob).heap[g]? = some (.cells cur 41 (0, 0))) (hsz : cur.size = cap * 3) (htake : cur.toList.take (L * 3) = mcs n L) (hcap : L + 1 ≤ cap) (hmax : cap ≤ maxLen) :
    OwnRel w0 bA bL N n nb (L + 1) o cap va B ((wr.alloc ob).setRow g (cur.toList.take (L * 3) ++ mk3 n ++ cur.toList.drop (L * 3 + (mk3 n).length)).toArray) := by
  subst ho
  have hN := h.nlt
  have hgl := h.rlt rfl
  have hl3 : (mk3 n).length = 3 := rfl
  have hlt : (cur.toList.take (L * 3)).length = L * 3 := by simp; omega
  have hba : BooksAt (wr.alloc ob) bA va nb B := h.books.keep (by simp) (fun g' hg' => Below.heap_alloc _ _ _ (h.alt hg').2) (fun i hi g' _ _ hgl' => Below.heap_alloc _ _ _ hgl')
  have hsame : ∀ x, x < L * 3 → ((cur.toList.take (L * 3) ++ mk3 n ++ cur.toList.drop (L * 3 + (mk3 n).length)).toArray)[x]? = cur[x]? := fun x hx => by
    rw [List.getElem?_toArray, List.append_assoc, List.getElem?_append_left (by omega), List.getElem?_take, if_pos hx]
    simp
  have other : ∀ k, k ≠ g → ((wr.alloc ob).setRow g (cur.toList.take (L * 3) ++ mk3 n ++ cur.toList.drop (L * 3 + (mk3 n).length)).toArray).heap[k]? = (wr.alloc ob).heap[k]? := fun k hk => setRow_other _ _ _ _ hk
  refine ⟨hba.room hcur hsame (h.apart g rfl) (fun i hi hb => h.lens i hi g rfl hb), ?_, fun i hi g' hg' hb => ?_, h.apart, ?_, h.boxA, h.boxL, ?_, h.bAL, h.bLN⟩
  · refine ⟨by rw [mcs_len], .inr ⟨g, cap, _, rfl, hgl.1, setRow_heap _ _ _ _ _ _ hcur, hcap, hmax, ?_, ?_⟩⟩
    · simp only [List.size_toArray, List.length_append, hlt, hl3, List.length_drop, Array.length_toList]
      omega
    · show (List.take ((L + 1) * 3) (cur.toList.take (L * 3) ++ mk3 n ++ cur.toList.drop (L * 3 + (mk3 n).length))) = mcs n L ++ mk3 n
      rw [List.take_append_of_le_length (by simp only [List.length_append, hlt, hl3]; omega), List.take_of_length_le (by simp only [List.length_append, hlt, hl3]; omega), htake]
  · have := h.lens i hi g' hg' hb
    omega
  · rw [other N (fun e => by subst e; exact h.boxL rfl), Below.heap_alloc _ _ _ hN]; exact h.box
  · refine h.below.trans ⟨rfl, rfl, rfl, by simp, fun k hk => ?_⟩
    have := h.bAL
    rw [other k (by omega), Below.heap_alloc _ _ _ (by omega)]

/-- a book is put to the others -/
theorem OwnRel.add (h : OwnRel w0 bA bL N n nb L o cap va B wr) (hn : n ≤ 1048576) (hL : L ≤ 1000) {va' : Value} (hg : (wr.alloc ob).grownBy w' va.ownBlock)
    (hown : w'.ownsRow bA 94 2 va' (nb + 1) (bcs B nb ++ [.slice o L cap, .int .i64 n])) (hloc : va'.ownBlock = va.ownBlock ∨ va'.ownBlock = some (wr.alloc ob).heap.size) :
    OwnRel w0 bA bL N n (nb + 1) L o cap va' (setB B nb ⟨o, L, cap, n⟩) w' := by
  have hN := h.nlt
  have hsz : wr.heap.size ≤ w'.heap.size := by have := hg.size; simp at this; omega
  have old : ∀ g, g < wr.heap.size → va.ownBlock ≠ some g → w'.heap[g]? = wr.heap[g]? := fun g hgl hne => by rw [hg.block g (by simp; omega) (fun e => hne e.symm), Below.heap_alloc _ _ _ hgl]
  have hne' : ∀ g, g < wr.heap.size → va.ownBlock ≠ some g → va'.ownBlock ≠ some g := fun g hgl hne e => by
    rcases hloc with h1 | h1
    · exact hne (h1.symm.trans e)
    · rw [h1] at e; injection e with e; simp at e; omega
  refine ⟨h.books.add ⟨o, L, cap, n⟩ hown hg hloc ⟨hn, hL, mark_of_own h.row L (Nat.le_refl _)⟩ (fun g _ ho => h.apart g ho), ?_, fun i hi g ho hb => ?_, fun g ho => hne' g (h.rlt ho).2 (h.apart g ho), by rw [old N hN h.boxA]; exact h.box, hne' N hN h.boxA, h.boxL, ?_, h.bAL, h.bLN⟩
  · refine ⟨h.row.1, ?_⟩
    rcases h.row.2 with h2 | ⟨g, cap', cur, hv, hg1, hh, r⟩
    · exact .inl h2
    · have ho : o = some ⟨g, 0, none⟩ := by injection hv
      exact .inr ⟨g, cap', cur, hv, hg1, by rw [old g (h.rlt ho).2 (h.apart g ho)]; exact hh, r⟩
  · unfold setB at hb ⊢
    by_cases e : i = nb
    · rw [if_pos e]; exact Nat.le_refl _
    · rw [if_neg e] at hb ⊢; exact h.lens i (by omega) g ho hb
  · refine h.below.trans ⟨hg.os, hg.tape, hg.output, hsz, fun k hk => ?_⟩
    have h1 := h.bAL
    have h2 := h.bLN
    exact old k (by omega) (fun e => by have := (h.alt e).1; omega)
end

end Go.Proofs.Ytobniidkkmlilaa
