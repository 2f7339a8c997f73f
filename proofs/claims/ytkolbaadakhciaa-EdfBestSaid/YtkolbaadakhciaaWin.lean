/- A slice of the call's own that may begin anywhere in its block: appended to, cut, read. Speaks of no program. -/
import Derived.Test.YtkolbaadakhciaaMem
import Derived.ArgAppend
import Derived.Laws.Slices
import Derived.OwnWalk
namespace Go.Proofs.Ytkolbaadakhciaa
open Go Go.RowKit

/-- v is a slice of n elements (sz cells each), the cells xs; where it has room, it lies in the block h, from some place on. -/
def Win (w : World) (e : TypeId) (sz : Nat) (v : Value) (h : Option Nat) (n : Nat) (xs : List Value) : Prop :=
  xs.length = n * sz ∧ ∃ (p : Option Addr) (cap : Nat), v = .slice p n cap ∧ n ≤ cap ∧ cap ≤ maxLen ∧
    ((h = none ∧ cap = 0) ∨ ∃ (g off : Nat) (L : List Value), h = some g ∧ p = some ⟨g, off, none⟩ ∧ w.heap[g]? = some (.cells L.toArray e (0, 0)) ∧ off + cap * sz ≤ L.length ∧ (L.drop off).take (n * sz) = xs)

section
variable {w w' : World} {e : TypeId} {sz n : Nat} {v : Value} {h : Option Nat} {xs : List Value}

theorem Win.nil (w : World) (e : TypeId) (sz : Nat) : Win w e sz (.slice none 0 0) none 0 [] := ⟨by simp, none, 0, rfl, Nat.le_refl _, Nat.zero_le _, .inl ⟨rfl, rfl⟩⟩
theorem Win.kept {S : Nat → Prop} (hW : Win w e sz v h n xs) (ho : Only S w w') (hS : ∀ k, h = some k → ¬ S k) : Win w' e sz v h n xs := by
  obtain ⟨hl, p, cap, hv, h1, h2, h3⟩ := hW
  refine ⟨hl, p, cap, hv, h1, h2, ?_⟩
  rcases h3 with h3 | ⟨g, off, L, hg, hp, hh, h4, h5⟩
  · exact .inl h3
  · exact .inr ⟨g, off, L, hg, hp, ho.heap hh (hS g hg), h4, h5⟩
theorem Win.same (hW : Win w e sz v h n xs) (hh : w'.heap = w.heap) : Win w' e sz v h n xs := by
  unfold Win at *
  rw [hh]
  exact hW
theorem Win.lt (hW : Win w e sz v h n xs) : ∀ k, h = some k → k < w.heap.size := by
  obtain ⟨hl, p, cap, hv, h1, h2, h3⟩ := hW
  intro k hk
  rcases h3 with h3 | ⟨g, off, L, hg, hp, hh, h4, h5⟩
  · rw [h3.1] at hk; cases hk
  · rw [hg] at hk; cases hk; exact row_lt hh
theorem Win.form (hW : Win w e sz v h n xs) : ∃ p cap, v = .slice p n cap ∧ n ≤ cap ∧ cap ≤ maxLen := by
  obtain ⟨hl, p, cap, hv, h1, h2, h3⟩ := hW
  exact ⟨p, cap, hv, h1, h2⟩
/-- Where there is an element the slice's address is known, and each cell. -/
theorem Win.at_ (hW : Win w e sz v h n xs) (hn : 0 < n) : ∃ g off cap, h = some g ∧ v = .slice (some ⟨g, off, none⟩) n cap ∧ n ≤ cap ∧ cap ≤ maxLen ∧ g < w.heap.size ∧ (∀ i u, xs[i]? = some u → w.cell? ⟨g, off + i, none⟩ = some u) ∧ ∀ i, w.frozen? ⟨g, i, none⟩ = false := by
  obtain ⟨hl, p, cap, hv, h1, h2, h3⟩ := hW
  rcases h3 with h3 | ⟨g, off, L, hg, hp, hh, h4, h5⟩
  · omega
  · subst hp
    refine ⟨g, off, cap, hg, hv, h1, h2, row_lt hh, fun i u hu => ?_, fun i => row_free hh i⟩
    refine row_cell hh ?_
    rw [← h5, List.getElem?_take] at hu
    split at hu
    · rwa [List.getElem?_drop] at hu
    · cases hu
theorem Win.of_owns {base : Nat} (ho : w.ownsRow base e sz v n xs) : ∃ h, Win w e sz v h n xs ∧ ∀ g, h = some g → base ≤ g := by
  obtain ⟨hl, hn | ⟨g, cap, cur, rfl, hb, hg, hnc, hcm, hcs, htake⟩⟩ := ho
  · obtain ⟨rfl, rfl⟩ := hn
    obtain rfl : xs = [] := List.eq_nil_of_length_eq_zero (by simpa using hl)
    exact ⟨none, Win.nil w e sz, fun g hg => by cases hg⟩
  · refine ⟨some g, ⟨hl, _, cap, rfl, hnc, hcm, .inr ⟨g, 0, cur.toList, rfl, rfl, by simpa using hg, ?_, by simpa using htake⟩⟩, fun g' hg' => by cases hg'; exact hb⟩
    simp [hcs]
/-- A block made by the call, known whole. -/
theorem Win.of_row {g : Nat} {L : List Value} (hh : w.heap[g]? = some (.cells L.toArray e (0, 0))) (hL : L.length = n * sz) (hn : n ≤ maxLen) : Win w e sz (.slice (some ⟨g, 0, none⟩) n n) (some g) n L :=
  ⟨hL, _, n, rfl, Nat.le_refl _, hn, .inr ⟨g, 0, L, rfl, rfl, hh, by omega, by simpa using List.take_of_length_le (by omega)⟩⟩

theorem Win.empty (w : World) (e : TypeId) (sz : Nat) (p : Option Addr) : Win w e sz (.slice p 0 0) none 0 [] := ⟨by simp, p, 0, rfl, Nat.le_refl _, Nat.zero_le _, .inl ⟨rfl, rfl⟩⟩
/-- What append and copy ask of their source. -/
theorem Win.src {p : Option Addr} {cap : Nat} (hW : Win w e sz (.slice p n cap) h n xs) : 0 < n → ∃ ad, p = some ad ∧ ∀ j u, xs[j]? = some u → w.cell? (ad.add j) = some u := fun hn => by
  obtain ⟨g, off, cap', _, e, _, _, _, hc, _⟩ := hW.at_ hn
  cases e
  exact ⟨_, rfl, fun j u hu => by rw [Addr.add_lit]; exact hc j u hu⟩
/-- Blocks of different element types differ. -/
theorem Win.ne {e' sz' n' : Nat} {v' : Value} {h' : Option Nat} {xs' : List Value} (hW : Win w e sz v h n xs) (hW' : Win w e' sz' v' h' n' xs') (he : e ≠ e') : ∀ k, h = some k → ¬ some k = h' := fun k hk hk' => by
  obtain ⟨_, _, _, _, _, _, a⟩ := hW
  obtain ⟨_, _, _, _, _, _, b⟩ := hW'
  rcases a with a | ⟨g, _, L, hg, _, hh, _⟩
  · rw [a.1] at hk; cases hk
  · rcases b with b | ⟨g', _, L', hg', _, hh', _⟩
    · rw [b.1] at hk'; cases hk'
    · rw [hg] at hk
      rw [hg'] at hk'
      cases hk
      cases hk'
      rw [hh] at hh'
      simp at hh'
      exact he hh'.2
/-- v[k:]. -/
theorem Win.drop {p : Option Addr} {cap k : Nat} (hW : Win w e sz (.slice p n cap) h n xs) (hk : k ≤ n) :
    ∃ h', Win w e sz (.slice (if cap = k then p else p.map (·.add (k * sz))) (n - k) (cap - k)) h' (n - k) (xs.drop (k * sz)) ∧ (h' = h ∨ h' = none) := by
  obtain ⟨hl, p', cap', hv, h1, h2, h3⟩ := hW
  simp only [Value.slice.injEq, true_and] at hv
  obtain ⟨rfl, rfl⟩ := hv
  have hl' : (xs.drop (k * sz)).length = (n - k) * sz := by rw [List.length_drop, hl, Nat.sub_mul]
  by_cases hc : cap = k
  · refine ⟨none, ⟨hl', _, _, rfl, by omega, by omega, .inl ⟨rfl, by omega⟩⟩, .inr rfl⟩
  · rcases h3 with h3 | ⟨g, off, L, hg, hp, hh, h4, h5⟩
    · omega
    · subst hp
      refine ⟨h, ⟨hl', _, _, rfl, by omega, by omega, .inr ⟨g, off + k * sz, L, hg, ?_, hh, ?_, ?_⟩⟩, .inl rfl⟩
      · rw [if_neg hc]
        simp [Addr.add_lit]
      · rw [Nat.add_assoc, ← Nat.add_mul, show k + (cap - k) = cap by omega]
        exact h4
      · rw [← h5, List.drop_take, ← Nat.sub_mul, List.drop_drop]
/-- v[:k]. -/
theorem Win.take {p : Option Addr} {cap k : Nat} (hW : Win w e sz (.slice p n cap) h n xs) (hk : k ≤ n) :
    Win w e sz (.slice p k cap) h k (xs.take (k * sz)) := by
  obtain ⟨hl, p', cap', hv, h1, h2, h3⟩ := hW
  simp only [Value.slice.injEq, true_and] at hv
  obtain ⟨rfl, rfl⟩ := hv
  have hks : k * sz ≤ n * sz := Nat.mul_le_mul_right _ hk
  refine ⟨by rw [List.length_take, hl]; omega, _, _, rfl, by omega, h2, ?_⟩
  rcases h3 with h3 | ⟨g, off, L, hg, hp, hh, h4, h5⟩
  · exact .inl h3
  · exact .inr ⟨g, off, L, hg, hp, hh, h4, by rw [← h5, List.take_take]; congr 1; omega⟩
end

/-- Cells of a row set one by one. -/
def setList {α : Type} : List α → Nat → List α → List α
  | L, _, [] => L
  | L, o, v :: r => setList (L.set o v) (o + 1) r
theorem setList_length {α : Type} : ∀ (vs : List α) (o : Nat) (L : List α), (setList L o vs).length = L.length
  | [], _, _ => rfl
  | v :: r, o, L => by rw [setList, setList_length r]; simp
theorem setList_out {α : Type} : ∀ (vs : List α) (o : Nat) (L : List α) (i : Nat), i < o ∨ o + vs.length ≤ i → (setList L o vs)[i]? = L[i]?
  | [], _, _, _, _ => rfl
  | v :: r, o, L, i, h => by
    rw [setList, setList_out r (o + 1) _ i (by simp at h; omega), List.getElem?_set_ne (by simp at h; omega)]
theorem setList_in {α : Type} : ∀ (vs : List α) (o : Nat) (L : List α) (j : Nat), j < vs.length → o + vs.length ≤ L.length → (setList L o vs)[o + j]? = vs[j]?
  | [], _, _, j, hj, _ => by simp at hj
  | v :: r, o, L, 0, _, hL => by
    rw [setList, setList_out r (o + 1) _ _ (by omega), Nat.add_zero, List.getElem?_set_self (by simp at hL; omega)]
    rfl
  | v :: r, o, L, j + 1, hj, hL => by
    rw [setList, show o + (j + 1) = o + 1 + j by omega, setList_in r (o + 1) _ j (by simpa using hj) (by simp at hL ⊢; omega)]
    rfl
theorem heap_setCells {g : Nat} {e : TypeId} : ∀ (vs : List Value) (o : Nat) (w : World) (L : List Value), w.heap[g]? = some (.cells L.toArray e (0, 0)) → (w.setCells g o vs).heap[g]? = some (.cells (setList L o vs).toArray e (0, 0))
  | [], _, _, _, h => h
  | v :: r, o, w, L, h => by
    rw [World.setCells, setList]
    exact heap_setCells r (o + 1) _ _ (row_set h o v)
theorem only_setCells {g : Nat} : ∀ (vs : List Value) (o : Nat) (w : World), Only (fun k => k = g) w (w.setCells g o vs)
  | [], _, w => Only.refl _ w
  | v :: r, o, w => ((Only.refl (fun k => k = g) w).setCell (p := ⟨g, o, none⟩) (fun _ => rfl) v).trans' (only_setCells r (o + 1) _)

theorem setList_take {L xs news : List Value} {off a : Nat} (hx : (L.drop off).take a = xs) (hxl : xs.length = a) (hL : off + a + news.length ≤ L.length) :
    ((setList L (off + a) news).drop off).take (a + news.length) = xs ++ news := by
  apply List.ext_getElem?
  intro i
  rw [List.getElem?_take]
  by_cases hi : i < a + news.length
  · rw [if_pos hi, List.getElem?_drop, List.getElem?_append]
    by_cases ha : i < a
    · rw [if_pos (by omega), setList_out _ _ _ _ (by omega), ← hx, List.getElem?_take, if_pos ha, List.getElem?_drop]
    · rw [if_neg (by omega), hxl, ← setList_in news (off + a) L (i - a) (by omega) (by omega)]
      congr 1
      omega
  · rw [if_neg hi, List.getElem?_eq_none (by simp; omega)]

/-- A slice of the call's own stays so behind an append. -/
theorem step_fresh {w W0 w1 : World} {h h1 : Option Nat} (o0 : Only (fun _ => False) w W0) (hO : Only (fun k => some k = h) W0 w1) (hf : ∀ k, h = some k → w.heap.size ≤ k) (hh : h1 = h ∨ ∃ g, h1 = some g ∧ W0.heap.size ≤ g) :
    Only (fun _ => False) w w1 ∧ ∀ k, h1 = some k → w.heap.size ≤ k := by
  have hs := o0.size
  refine ⟨o0.trans hO (fun x hx e => by have := hf x e.symm; omega), fun k hk => ?_⟩
  rcases hh with rfl | ⟨g, rfl, hg⟩
  · exact hf k hk
  · cases hk; omega
theorem row_two {w : World} {X : Nat} {a b : Value} {e : TypeId} (h : w.heap[X]? = some (.cells #[a, b] e (0, 0))) : ∀ j u, [a, b][j]? = some u → w.cell? ((⟨X, 0, none⟩ : Addr).add j) = some u := fun j u hu => by
  rw [Addr.add_lit, Nat.zero_add]
  exact row_cell (L := [a, b]) h hu

section
variable {P : Program}

/-- append onto such a slice, the source whatever: the new one, and that nothing else has turned. -/
theorem run_append_win (w : World) (t ty e : TypeId) (z : Value) (sz bytes : Nat) (ht : P.underlying t = some (.slice e)) (hinfo : (P.info? e).map (fun i => (i.zero, i.size, i.bytes)) = some (some z, sz, bytes)) (hzs : z.cells.size = sz) (hsz : 0 < sz)
    {v : Value} {h : Option Nat} {n : Nat} {xs : List Value} (hW : Win w e sz v h n xs) (xp : Option Addr) (m c : Nat) (news : List Value) (hl : news.length = m * sz)
    (hsrc : 0 < m → ∃ ad, xp = some ad ∧ ∀ j u, news[j]? = some u → w.cell? (ad.add j) = some u) (h1 : ∀ u ∈ news, u.oneCell' = true) (h63 : n + m ≤ maxLen) (hbytes : (n + m) * bytes ≤ 140737488355328) :
    ∃ v' w' h', (Builtin.append_ #[t, t] ty #[v, .slice xp m c]).run P w = .ok v' w' ∧ Win w' e sz v' h' (n + m) (xs ++ news) ∧ Only (fun k => some k = h) w w' ∧ (h' = h ∨ ∃ g, h' = some g ∧ w.heap.size ≤ g) := by
  obtain ⟨i, hi, hz, hs, hb⟩ : ∃ i, P.info? e = some i ∧ i.zero = some z ∧ i.size = sz ∧ i.bytes = bytes := by
    obtain ⟨i, hi, hzz⟩ := Option.map_eq_some_iff.1 hinfo
    simp only [Prod.mk.injEq] at hzz
    exact ⟨i, hi, hzz.1, hzz.2.1, hzz.2.2⟩
  have hW' := hW
  obtain ⟨hxl, p, cap, rfl, hnc, hcm, h3⟩ := hW
  by_cases hm : m = 0
  · subst hm
    obtain rfl : news = [] := List.eq_nil_of_length_eq_zero (by simpa using hl)
    refine ⟨.slice p n cap, w, h, ?_, by simpa using hW', Only.refl _ _, .inl rfl⟩
    cases p <;> cases xp <;> simp [Builtin.append_, run_underlying ht, sizeOf, typeInfo, hi, Builtin.lenOf, Builtin.firstCells, hnc, storeCells, loadCells, loadCellsFrom]
  · obtain ⟨ad, rfl, hcells⟩ := hsrc (by omega)
    rcases h3 with ⟨rfl, rfl⟩ | ⟨g, off, L, rfl, rfl, hg, h4, h5⟩
    · obtain rfl : n = 0 := by omega
      obtain rfl : xs = [] := List.eq_nil_of_length_eq_zero (by simpa using hxl)
      have key : ∃ v' w', (Builtin.append_ #[t, t] ty #[.slice p 0 0, .slice (some ad) m c]).run P w = .ok v' w' ∧ w'.ownsRow w.heap.size e sz v' (0 + m) ([] ++ news) ∧ w.grownBy w' none := by
        cases p with
        | none =>
          obtain ⟨v', w', r1, r2, r3, _⟩ := run_append_own (P := P) w w.heap.size t ty e i z sz bytes ht hi hz hs hb hzs hsz (.slice none 0 0) 0 [] (World.ownsRow_nil w _ e sz) ad m c news hl hcells h1 h63 hbytes (Nat.le_refl _)
          exact ⟨v', w', r1, r2, r3⟩
        | some b => exact run_append_arg_grows (P := P) w t ty e i z sz bytes ht hi hz hs hb hzs hsz b 0 0 [] (by simp) (fun j u hu => by simp at hu) ad m c news hl hcells (by omega) h63 hbytes
      obtain ⟨v', w', r1, r2, r3⟩ := key
      obtain ⟨h', hw', hge⟩ := Win.of_owns r2
      refine ⟨v', w', h', r1, hw', (Only.refl _ w).grown r3 (fun k hk => by cases hk), ?_⟩
      cases h' with
      | none => exact .inl rfl
      | some g => exact .inr ⟨g, rfl, hge g rfl⟩
    · have hxs : ∀ j u, xs[j]? = some u → w.cell? ((⟨g, off, none⟩ : Addr).add j) = some u := by
        intro j u hu
        rw [Addr.add_lit]
        refine row_cell hg ?_
        rw [← h5, List.getElem?_take] at hu
        split at hu
        · rwa [List.getElem?_drop] at hu
        · cases hu
      by_cases hr : n + m ≤ cap
      · have hfit : off + n * sz + news.length ≤ L.length := by
          have : (n + m) * sz ≤ cap * sz := Nat.mul_le_mul_right _ hr
          rw [Nat.add_mul] at this
          omega
        subst hs
        have hrun := run_append_room_cells (P := P) w t ty e i ht hi g off n cap ad m c news hl hcells h1 hr (fun j hj => by
          rw [row_cell hg (v := L[off + n * i.size + j]'(by omega)) (List.getElem?_eq_getElem _)]; rfl) (fun j hj => row_free hg _)
        refine ⟨_, _, some g, hrun, ⟨by rw [List.length_append, hxl, hl, Nat.add_mul], _, cap, rfl, hr, hcm, .inr ⟨g, off, _, rfl, rfl, heap_setCells news _ w L hg, ?_, ?_⟩⟩, ?_, .inl rfl⟩
        · rw [setList_length]
          exact h4
        · rw [Nat.add_mul, ← hl]
          exact setList_take h5 hxl hfit
        · exact (only_setCells news _ w).mono (fun x _ e => by rw [e])
      · obtain ⟨v', w', r1, r2, r3⟩ := run_append_arg_grows (P := P) w t ty e i z sz bytes ht hi hz hs hb hzs hsz ⟨g, off, none⟩ n cap xs hxl hxs ad m c news hl hcells (by omega) h63 hbytes
        obtain ⟨h', hw', hge⟩ := Win.of_owns r2
        refine ⟨v', w', h', r1, hw', (Only.refl _ w).grown r3 (fun k hk => by cases hk), ?_⟩
        cases h' with
        | none =>
          exfalso
          obtain ⟨_, p', cap', _, q1, _, q3⟩ := hw'
          rcases q3 with ⟨_, q4⟩ | ⟨g', _, _, q4, _⟩
          · omega
          · cases q4
        | some g' => exact .inr ⟨g', rfl, hge g' rfl⟩

/-- The same as a law for the walk. -/
theorem wpList_append_win {w : World} {ops : Array Oper} {rest : List Oper} {o : Oper} {a : Act} {Q : Exit → Act → World → Prop} (hgd : o.guard = none) (s x : Operand) (t : TypeId)
    (hop : o.op = Op.call { callee := Callee.builtin Builtin.append, args := #[s, x], argTypes := #[t, t] }) (e : TypeId) (z : Value) (sz bytes : Nat) (ht : P.underlying t = some (.slice e))
    (hinfo : (P.info? e).map (fun i => (i.zero, i.size, i.bytes)) = some (some z, sz, bytes)) (hzs : z.cells.size = sz) (hsz : 0 < sz)
    {v : Value} {h : Option Nat} {n : Nat} {xs : List Value} (hs : a.eval s = v) (hW : Win w e sz v h n xs) (xp : Option Addr) (m c : Nat) (hx : a.eval x = .slice xp m c) (news : List Value) (hl : news.length = m * sz)
    (hsrc : 0 < m → ∃ ad, xp = some ad ∧ ∀ j u, news[j]? = some u → w.cell? (ad.add j) = some u) (h1 : ∀ u ∈ news, u.oneCell' = true) (h63 : n + m ≤ maxLen) (hbytes : (n + m) * bytes ≤ 140737488355328)
    (hK : ∀ v' w' h', Hid (Win w' e sz v' h' (n + m) (xs ++ news)) → Hid (Only (fun k => some k = h) w w') → Hid (h' = h ∨ ∃ g, h' = some g ∧ w.heap.size ≤ g) → wpList P ops Q rest (a.put o.dst v') w') : wpList P ops Q (o :: rest) a w := by
  refine wpList_plain hgd fun K hK' => ?_
  obtain ⟨v', w', h', hrun, r1, r2, r3⟩ := run_append_win (P := P) w t o.type e z sz bytes ht hinfo hzs hsz hW xp m c news hl hsrc h1 h63 hbytes
  unfold Oper.wp
  simp [execOp, hop, resolve, invoke, builtin, hs, hx, hrun, Result.andThen]
  exact hK' _ _ (hK v' w' h' r1 r2 r3)
/-- The same as a step of a region that draws. -/
theorem step_append_win {w : World} {ops : Array Oper} {o : Oper} {a : Act} {K : Act → World → Prop} {Q : Exit → Act → World → Prop} {E : Prop} (hgd : o.guard = none) (s x : Operand) (t : TypeId)
    (hop : o.op = Op.call { callee := Callee.builtin Builtin.append, args := #[s, x], argTypes := #[t, t] }) (e : TypeId) (z : Value) (sz bytes : Nat) (ht : P.underlying t = some (.slice e))
    (hinfo : (P.info? e).map (fun i => (i.zero, i.size, i.bytes)) = some (some z, sz, bytes)) (hzs : z.cells.size = sz) (hsz : 0 < sz)
    {v : Value} {h : Option Nat} {n : Nat} {xs : List Value} (hs : a.eval s = v) (hW : Win w e sz v h n xs) (xp : Option Addr) (m c : Nat) (hx : a.eval x = .slice xp m c) (news : List Value) (hl : news.length = m * sz)
    (hsrc : 0 < m → ∃ ad, xp = some ad ∧ ∀ j u, news[j]? = some u → w.cell? (ad.add j) = some u) (h1 : ∀ u ∈ news, u.oneCell' = true) (h63 : n + m ≤ maxLen) (hbytes : (n + m) * bytes ≤ 140737488355328)
    (hK : ∀ v' w' h', Hid (Win w' e sz v' h' (n + m) (xs ++ news)) → Hid (Only (fun k => some k = h) w w') → Hid (h' = h ∨ ∃ g, h' = some g ∧ w.heap.size ≤ g) → K (a.put o.dst v') w') :
    if Region.wanted o (yielded ops a.tmps) = true then Oper.wp P o a w K Q else E := by
  have hw : Region.wanted o (yielded ops a.tmps) = true := by simp [Region.wanted, hgd]
  rw [if_pos hw]
  obtain ⟨v', w', h', hrun, r1, r2, r3⟩ := run_append_win (P := P) w t o.type e z sz bytes ht hinfo hzs hsz hW xp m c news hl hsrc h1 h63 hbytes
  unfold Oper.wp
  simp [execOp, hop, resolve, invoke, builtin, hs, hx, hrun, Result.andThen]
  exact hK v' w' h' r1 r2 r3
/-- append where there is room, as a step of a region that draws: the new elements lie behind the old ones, the slice's address stays. -/
theorem step_append_room {w : World} {ops : Array Oper} {o : Oper} {a : Act} {K : Act → World → Prop} {Q : Exit → Act → World → Prop} {E : Prop} (hgd : o.guard = none) (s x : Operand) (t : TypeId)
    (hop : o.op = Op.call { callee := Callee.builtin Builtin.append, args := #[s, x], argTypes := #[t, t] }) (e : TypeId) (sz : Nat) (ht : P.underlying t = some (.slice e)) (hinfo : (P.info? e).map (·.size) = some sz)
    (g off n cap : Nat) (hs : a.eval s = .slice (some ⟨g, off, none⟩) n cap) (ad : Addr) (m c : Nat) (hx : a.eval x = .slice (some ad) m c) (L : List Value) (hg : w.heap[g]? = some (.cells L.toArray e (0, 0)))
    (news : List Value) (hl : news.length = m * sz) (hsrc : ∀ j u, news[j]? = some u → w.cell? (ad.add j) = some u) (h1 : ∀ u ∈ news, u.oneCell' = true) (hroom : n + m ≤ cap) (hfit : off + n * sz + news.length ≤ L.length)
    (hK : ∀ w', Hid (w'.heap[g]? = some (.cells (setList L (off + n * sz) news).toArray e (0, 0))) → Hid (Only (fun k => k = g) w w') → K (a.put o.dst (.slice (some ⟨g, off, none⟩) (n + m) cap)) w') :
    if Region.wanted o (yielded ops a.tmps) = true then Oper.wp P o a w K Q else E := by
  have hw : Region.wanted o (yielded ops a.tmps) = true := by simp [Region.wanted, hgd]
  rw [if_pos hw]
  obtain ⟨i, hi, hz⟩ := Option.map_eq_some_iff.1 hinfo
  subst hz
  have hrun := run_append_room_cells (P := P) w t o.type e i ht hi g off n cap ad m c news hl hsrc h1 hroom (fun j hj => by
    rw [row_cell hg (v := L[off + n * i.size + j]'(by omega)) (List.getElem?_eq_getElem _)]; rfl) (fun j hj => row_free hg _)
  unfold Oper.wp
  simp [execOp, hop, resolve, invoke, builtin, hs, hx, hrun, Result.andThen]
  exact hK _ (heap_setCells news _ w L hg) (only_setCells news _ w)
end
end Go.Proofs.Ytkolbaadakhciaa
