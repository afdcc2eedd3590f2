/- The walks over package coherentlaw: owned: what it needs. -/
import Derived.Test.YtobniidkkmlilaaTd
import Derived.Maps.AppendAt
namespace Go.Proofs.Ytobniidkkmlilaa
open Go.RowKit Go.Coh

def mk3 (n : Nat) : List Value := [.bool false, .int .i64 (-(n : Int)), .int .i64 n]
def mcs (n : Nat) : Nat → List Value
  | 0 => []
  | k + 1 => mcs n k ++ mk3 n

theorem mcs_len (n : Nat) : ∀ k, (mcs n k).length = k * 3
  | 0 => rfl
  | k + 1 => by simp [mcs, mk3, mcs_len n k]; omega

theorem mcs_get (n : Nat) : ∀ k i, i < k → (mcs n k)[i * 3]? = some (.bool false) ∧ (mcs n k)[i * 3 + 1]? = some (.int .i64 (-(n : Int))) ∧ (mcs n k)[i * 3 + 2]? = some (.int .i64 n)
  | 0, i, h => by omega
  | k + 1, i, h => by
    have hl := mcs_len n k
    unfold mcs mk3
    by_cases e : i = k
    · subst e
      rw [List.getElem?_append_right (by omega), List.getElem?_append_right (by omega), List.getElem?_append_right (by omega), hl]
      refine ⟨?_, ?_, ?_⟩
      · rw [show i * 3 - i * 3 = 0 by omega]; rfl
      · rw [show i * 3 + 1 - i * 3 = 1 by omega]; rfl
      · rw [show i * 3 + 2 - i * 3 = 2 by omega]; rfl
    · rw [List.getElem?_append_left (by omega), List.getElem?_append_left (by omega), List.getElem?_append_left (by omega)]
      exact mcs_get n k i (by omega)

/-- a list whose places are the marks is the marks -/
theorem mcs_eq {n k : Nat} {l : List Value} (hl : l.length = k * 3) (h : ∀ i, i < k → l[i * 3]? = some (.bool false) ∧ l[i * 3 + 1]? = some (.int .i64 (-(n : Int))) ∧ l[i * 3 + 2]? = some (.int .i64 n)) : l = mcs n k := by
  apply List.ext_getElem?
  intro j
  by_cases hj : j < k * 3
  · have hq : j / 3 < k := by omega
    obtain ⟨a1, a2, a3⟩ := h (j / 3) hq
    obtain ⟨b1, b2, b3⟩ := mcs_get n k (j / 3) hq
    have h3 : j = j / 3 * 3 ∨ j = j / 3 * 3 + 1 ∨ j = j / 3 * 3 + 2 := by omega
    rcases h3 with e | e | e
    · rw [e, a1, b1]
    · rw [e, a2, b2]
    · rw [e, a3, b3]
  · rw [List.getElem?_eq_none (by omega), List.getElem?_eq_none (by rw [mcs_len]; omega)]

/-- what is owned and holds the marks is full of them -/
theorem mark_of_own {w : World} {base m n : Nat} {o : Option Addr} {cap : Nat} (h : w.ownsRow base 41 3 (.slice o m cap) m (mcs n m)) (len : Nat) (hlen : len ≤ m) : MarkF w o len n := fun hl => by
  rcases h.2 with ⟨h1, h2⟩ | ⟨g, cap', cur, hv, _, hg, _, _, _, ht⟩
  · omega
  · injection hv with hv _ _
    subst hv
    refine ⟨g, rfl, (Array.getElem?_eq_some_iff.1 hg).1, fun i hi => ?_⟩
    have key : ∀ x u, x < m * 3 → (mcs n m)[x]? = some u → w.cell? ⟨g, x, none⟩ = some u := fun x u hx hu => by
      rw [cell_of_row w g x cur 41 (0, 0) hg]
      rw [← ht, List.getElem?_take, if_pos hx] at hu
      simpa using hu
    obtain ⟨h1, h2, h3⟩ := mcs_get n m i (by omega)
    exact ⟨key _ _ (by omega) h1, key _ _ (by omega) h2, key _ _ (by omega) h3⟩

theorem MarkF.of_block {w w' : World} {o : Option Addr} {m n : Nat} (h : MarkF w o m n) (hs : w.heap.size ≤ w'.heap.size) (hk : ∀ g, o = some ⟨g, 0, none⟩ → g < w.heap.size → 0 < m → w'.heap[g]? = w.heap[g]?) : MarkF w' o m n := fun hm => by
  obtain ⟨g, ho, hg, hc⟩ := h hm
  have kc : ∀ x, w'.cell? ⟨g, x, none⟩ = w.cell? ⟨g, x, none⟩ := fun x => World.cell?_of_block (w := w) (a := ⟨g, x, none⟩) (hk g ho hg hm)
  refine ⟨g, ho, Nat.lt_of_lt_of_le hg hs, fun i hi => ?_⟩
  obtain ⟨h1, h2, h3⟩ := hc i hi
  exact ⟨by rw [kc]; exact h1, by rw [kc]; exact h2, by rw [kc]; exact h3⟩

/-- an append into room that is there -/
theorem wpList_append_roomE {P : Program} {w : World} {ops : Array Oper} {rest : List Oper} {o : Oper} {a : Act} {Q : Exit → Act → World → Prop} (hgd : o.guard = none) (s x : Operand) (t : TypeId)
    (ho : o.op = .call { callee := .builtin .append, args := #[s, x], argTypes := #[t, t] })
    (e : TypeId) (i : TypeInfo) (ht : P.underlying t = some (.slice e)) (hi : P.info? e = some i)
    (g sLen sCap : Nat) (hs : a.eval s = .slice (some ⟨g, 0, none⟩) sLen sCap) (cur : Array Value) (hg : w.heap[g]? = some (.cells cur e (0, 0)))
    (ad : Addr) (m c : Nat) (hx : a.eval x = .slice (some ad) m c) (news : List Value) (hl : news.length = m * i.size) (hnews : ∀ j u, news[j]? = some u → w.cell? (ad.add j) = some u) (h1 : ∀ u ∈ news, u.oneCell' = true)
    (hroom : sLen + m ≤ sCap) (hfit : sLen * i.size + news.length ≤ cur.size)
    (h : wpList P ops Q rest (a.put o.dst (.slice (some ⟨g, 0, none⟩) (sLen + m) sCap)) (w.setRow g (cur.toList.take (sLen * i.size) ++ news ++ cur.toList.drop (sLen * i.size + news.length)).toArray)) : wpList P ops Q (o :: rest) a w := by
  refine wpList_plain hgd fun K hK => ?_
  have hrun := run_append_room (P := P) w t o.type e i ht hi g sLen sCap cur hg ad m c news hl hnews h1 hroom hfit
  unfold Oper.wp execOp
  simp only [ho, resolve, invoke, builtin, Sem.run_bind, Sem.run_pure, Result.andThen_ok, List.map_toArray, List.map_cons, List.map_nil, hs, hx, hrun]
  exact hK _ _ h

theorem info59 : (Try.prog.info? 94).map (fun i => (i.zero, i.size, i.bytes)) = some (some (.agg #[.slice none 0 0, .int .i64 0]), 2, 32) := by kernel_rfl

/-- the books, all full of their marks, none in the row that holds the books -/
structure BooksAt (w : World) (bA : Nat) (va : Value) (K : Nat) (B : Nat → Bk) : Prop where
  row : w.ownsRow bA 94 2 va K (bcs B K)
  mark : ∀ i, i < K → (B i).n ≤ 1048576 ∧ (B i).len ≤ 1000 ∧ MarkF w (B i).o (B i).len (B i).n
  sep : ∀ i, i < K → ∀ g, 0 < (B i).len → (B i).o = some ⟨g, 0, none⟩ → va.ownBlock ≠ some g

def setB (B : Nat → Bk) (k : Nat) (b : Bk) : Nat → Bk := fun i => if i = k then b else B i

theorem bcs_congr {B B' : Nat → Bk} : ∀ {k : Nat}, (∀ i, i < k → B i = B' i) → bcs B k = bcs B' k
  | 0, _ => rfl
  | k + 1, h => by unfold bcs; rw [bcs_congr (fun i hi => h i (by omega)), h k (by omega)]

theorem bcs_set (B : Nat → Bk) (k : Nat) (b : Bk) : bcs (setB B k b) (k + 1) = bcs B k ++ [.slice b.o b.len b.cap, .int .i64 b.n] := by
  have e1 : bcs (setB B k b) k = bcs B k := bcs_congr (fun i hi => by unfold setB; rw [if_neg (by omega)])
  have e2 : setB B k b k = b := by unfold setB; rw [if_pos rfl]
  show bcs (setB B k b) k ++ [.slice (setB B k b k).o (setB B k b k).len (setB B k b k).cap, .int .i64 (setB B k b k).n] = _
  rw [e1, e2]

theorem there_obj {w : World} {g : Nat} {c : Array Value} {t : TypeId} (h : w.heap[g]? = some (.cells c t (0, 0))) (o n : Nat) (hn : o + n ≤ c.size) : w.there g o n := fun j hj =>
  ⟨by simp [World.cell?, h]; omega, by simp [World.frozen?, h]⟩


/-- a book more -/
theorem BooksAt.add {w w' : World} {bA K : Nat} {va va' : Value} {B : Nat → Bk} {ob : Obj} (h : BooksAt w bA va K B) (b : Bk)
    (hown : w'.ownsRow bA 94 2 va' (K + 1) (bcs B K ++ [.slice b.o b.len b.cap, .int .i64 b.n])) (hg : (w.alloc ob).grownBy w' va.ownBlock) (hloc : va'.ownBlock = va.ownBlock ∨ va'.ownBlock = some (w.alloc ob).heap.size)
    (hb : b.n ≤ 1048576 ∧ b.len ≤ 1000 ∧ MarkF w b.o b.len b.n) (hs : ∀ g, 0 < b.len → b.o = some ⟨g, 0, none⟩ → va.ownBlock ≠ some g) : BooksAt w' bA va' (K + 1) (setB B K b) := by
  have hsz : w.heap.size ≤ w'.heap.size := by have := hg.size; simp at this; omega
  have kept : ∀ o m n, MarkF w o m n → (∀ g, 0 < m → o = some ⟨g, 0, none⟩ → va.ownBlock ≠ some g) → MarkF w' o m n := fun o m n hm hne =>
    hm.of_block hsz (fun g ho hgl hpos => by rw [hg.block g (by simp; omega) (fun e => hne g hpos ho e.symm), Below.heap_alloc _ _ _ hgl])
  have sep : ∀ o m n, MarkF w o m n → (∀ g, 0 < m → o = some ⟨g, 0, none⟩ → va.ownBlock ≠ some g) → ∀ g, 0 < m → o = some ⟨g, 0, none⟩ → va'.ownBlock ≠ some g := fun o m n hm hne g hpos ho e => by
    rcases hloc with h1 | h1
    · exact hne g hpos ho (h1.symm.trans e)
    · obtain ⟨g', ho', hgl, _⟩ := hm hpos
      rw [ho] at ho'
      injection ho' with ho'
      injection ho' with ho'
      rw [h1] at e
      injection e with e
      simp at e
      omega
  refine ⟨by rw [bcs_set]; exact hown, fun i hi => ?_, fun i hi => ?_⟩
  · unfold setB
    by_cases e : i = K
    · rw [if_pos e]; exact ⟨hb.1, hb.2.1, kept _ _ _ hb.2.2 hs⟩
    · rw [if_neg e]
      have := h.mark i (by omega)
      exact ⟨this.1, this.2.1, kept _ _ _ this.2.2 (h.sep i (by omega))⟩
  · unfold setB
    by_cases e : i = K
    · rw [if_pos e]; exact sep _ _ _ hb.2.2 hs
    · rw [if_neg e]; exact sep _ _ _ (h.mark i (by omega)).2.2 (h.sep i (by omega))

/-- whatever leaves the books' blocks alone -/
theorem BooksAt.keep {w w' : World} {bA K : Nat} {va : Value} {B : Nat → Bk} (h : BooksAt w bA va K B) (hsz : w.heap.size ≤ w'.heap.size)
    (hA : ∀ g, va.ownBlock = some g → w'.heap[g]? = w.heap[g]?) (hB : ∀ i, i < K → ∀ g, 0 < (B i).len → (B i).o = some ⟨g, 0, none⟩ → g < w.heap.size → w'.heap[g]? = w.heap[g]?) : BooksAt w' bA va K B := by
  refine ⟨⟨h.row.1, ?_⟩, fun i hi => ⟨(h.mark i hi).1, (h.mark i hi).2.1, (h.mark i hi).2.2.of_block hsz (fun g ho hgl hpos => hB i hi g hpos ho hgl)⟩, h.sep⟩
  rcases h.row.2 with h2 | ⟨g, cap, cur, hv, hg, hh, r⟩
  · exact .inl h2
  · exact .inr ⟨g, cap, cur, hv, hg, by rw [hA g (by rw [hv]; rfl)]; exact hh, r⟩

/-- the row of the list that is written on, its first L touches as they were -/
theorem BooksAt.room {w : World} {bA K g L : Nat} {va : Value} {B : Nat → Bk} {cur cs : Array Value} {t : TypeId} (h : BooksAt w bA va K B) (hg : w.heap[g]? = some (.cells cur t (0, 0))) (hsame : ∀ o, o < L * 3 → cs[o]? = cur[o]?)
    (hA : va.ownBlock ≠ some g) (hB : ∀ i, i < K → (B i).o = some ⟨g, 0, none⟩ → (B i).len ≤ L) : BooksAt (w.setRow g cs) bA va K B := by
  have other : ∀ k, k ≠ g → (w.setRow g cs).heap[k]? = w.heap[k]? := fun k hk => setRow_other w g k cs (by omega)
  refine ⟨⟨h.row.1, ?_⟩, fun i hi => ⟨(h.mark i hi).1, (h.mark i hi).2.1, fun hpos => ?_⟩, h.sep⟩
  · rcases h.row.2 with h2 | ⟨g', cap, cur', hv, hg', hh, r⟩
    · exact .inl h2
    · exact .inr ⟨g', cap, cur', hv, hg', by rw [other g' (fun e => hA (by rw [hv]; show some g' = some g; rw [e]))]; exact hh, r⟩
  · obtain ⟨g', ho, hgl, hc⟩ := (h.mark i hi).2.2 hpos
    refine ⟨g', ho, by simpa using hgl, fun j hj => ?_⟩
    obtain ⟨h1, h2, h3⟩ := hc j hj
    by_cases e : g' = g
    · subst e
      have hlen := hB i hi ho
      have hr := setRow_heap w g' cur cs t (0, 0) hg
      have key : ∀ x u, x < L * 3 → w.cell? ⟨g', x, none⟩ = some u → (w.setRow g' cs).cell? ⟨g', x, none⟩ = some u := fun x u hx hu => by
        rw [cell_of_row _ g' x cs t (0, 0) hr, hsame x hx, ← cell_of_row w g' x cur t (0, 0) hg]; exact hu
      exact ⟨key _ _ (by omega) h1, key _ _ (by omega) h2, key _ _ (by omega) h3⟩
    · have kc : ∀ x, (w.setRow g cs).cell? ⟨g', x, none⟩ = w.cell? ⟨g', x, none⟩ := fun x => World.cell?_of_block (w := w) (a := ⟨g', x, none⟩) (other g' e)
      exact ⟨by rw [kc]; exact h1, by rw [kc]; exact h2, by rw [kc]; exact h3⟩

end Go.Proofs.Ytobniidkkmlilaa
