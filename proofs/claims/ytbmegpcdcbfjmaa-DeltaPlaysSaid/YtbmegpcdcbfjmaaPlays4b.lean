/- DeltaPlays: the keys and gaps that the law's own loop gathers, and the two rows that it grows side by side. -/
import Derived.Test.YtbmegpcdcbfjmaaPlays4a
namespace Go.Proofs.Ytbmegpcdcbfjmaa.Plays4
open Go.RowKit Delta Ref

def lastAt : Int → Gaps → Int
  | s, [] => s
  | _, x :: r => lastAt x.2 r
theorem lastAt_snoc : ∀ (m : Gaps) (s : Int) (x : Int × Int), lastAt s (m ++ [x]) = x.2
  | [], _, _ => rfl
  | y :: r, _, x => lastAt_snoc r y.2 x
theorem gapsOf_snoc : ∀ (m : Gaps) (s : Int) (x : Int × Int), gapsOf s (m ++ [x]) = gapsOf s m ++ [x.2 - lastAt s m]
  | [], _, _ => rfl
  | y :: r, s, x => by
    rw [List.cons_append, gapsOf, gapsOf_snoc r y.2 x]
    rfl
theorem lastAt_mem : ∀ (m : Gaps) (s : Int), lastAt s m = s ∨ ∃ x ∈ m, lastAt s m = x.2
  | [], _ => .inl rfl
  | y :: r, s => by
    rcases lastAt_mem r y.2 with h | ⟨x, hx, h⟩
    · exact .inr ⟨y, by simp, h⟩
    · exact .inr ⟨x, by simp [hx], h⟩
theorem gapsOf_length : ∀ (m : Gaps) (s : Int), (gapsOf s m).length = m.length
  | [], _ => rfl
  | y :: r, s => by rw [gapsOf, List.length_cons, List.length_cons, gapsOf_length r]

/-- Two rows of ints of the call's own, side by side. -/
structure Pair (w0 w : World) (vk : Value) (hk : Option Nat) (nk : Nat) (ks : List Value) (vg : Value) (hg : Option Nat) (ng : Nat) (gs : List Value) : Prop where
  k : Win w 3 1 vk hk nk ks
  g : Win w 3 1 vg hg ng gs
  ne : ∀ b, hk = some b → ¬ some b = hg
  fk : ∀ b, hk = some b → w0.heap.size ≤ b
  fg : ∀ b, hg = some b → w0.heap.size ≤ b
  only : Only (fun _ => False) w0 w
/-- A block of neither. -/
structure Loc (w : World) (X : Nat) (o : Obj) (hk hg : Option Nat) : Prop where
  at_ : w.heap[X]? = some o
  k : ¬ hk = some X
  g : ¬ hg = some X
section
variable {w0 w w' : World} {vk vg vk' : Value} {hk hg hk' : Option Nat} {nk ng nk' : Nat} {ks gs ks' : List Value} {X : Nat} {o : Obj}
theorem Pair.alloc (h : Pair w0 w vk hk nk ks vg hg ng gs) (o : Obj) : Pair w0 (w.alloc o) vk hk nk ks vg hg ng gs :=
  ⟨h.k.kept ((Only.refl (fun _ => False) w).alloc o) (fun _ _ h => h), h.g.kept ((Only.refl (fun _ => False) w).alloc o) (fun _ _ h => h), h.ne, h.fk, h.fg, h.only.alloc o⟩
theorem Pair.drew (h : Pair w0 w vk hk nk ks vg hg ng gs) : Pair w0 w.drew vk hk nk ks vg hg ng gs :=
  ⟨h.k.kept (Only.refl (fun _ => False) w).drew (fun _ _ h => h), h.g.kept (Only.refl (fun _ => False) w).drew (fun _ _ h => h), h.ne, h.fk, h.fg, h.only.drew⟩
theorem Pair.swap (h : Pair w0 w vk hk nk ks vg hg ng gs) : Pair w0 w vg hg ng gs vk hk nk ks :=
  ⟨h.g, h.k, fun b hb e => h.ne b e.symm hb.symm, h.fg, h.fk, h.only⟩
theorem Pair.grow_k (h : Pair w0 w vk hk nk ks vg hg ng gs) (hW : Win w' 3 1 vk' hk' nk' ks') (hO : Only (fun k => some k = hk) w w') (hh : hk' = hk ∨ ∃ g, hk' = some g ∧ w.heap.size ≤ g) : Pair w0 w' vk' hk' nk' ks' vg hg ng gs := by
  have q := step_fresh h.only hO h.fk hh
  refine ⟨hW, h.g.kept hO (fun b hb e => h.ne b e.symm hb.symm), ?_, q.2, h.fg, q.1⟩
  intro b hb e
  rcases hh with rfl | ⟨g, rfl, hg'⟩
  · exact h.ne b hb e
  · cases hb
    have := h.g.lt _ e.symm
    omega
theorem Pair.grow_g {vg' : Value} {hg' : Option Nat} {ng' : Nat} {gs' : List Value} (h : Pair w0 w vk hk nk ks vg hg ng gs) (hW : Win w' 3 1 vg' hg' ng' gs') (hO : Only (fun k => some k = hg) w w') (hh : hg' = hg ∨ ∃ g, hg' = some g ∧ w.heap.size ≤ g) : Pair w0 w' vk hk nk ks vg' hg' ng' gs' := (h.swap.grow_k hW hO hh).swap
theorem Loc.alloc (h : Loc w X o hk hg) (p : Obj) : Loc (w.alloc p) X o hk hg := ⟨heap_kept_alloc h.at_ p, h.k, h.g⟩
theorem Loc.drew (h : Loc w X o hk hg) : Loc w.drew X o hk hg := ⟨h.at_, h.k, h.g⟩
theorem Loc.grow_k (h : Loc w X o hk hg) (hO : Only (fun k => some k = hk) w w') (hh : hk' = hk ∨ ∃ g, hk' = some g ∧ w.heap.size ≤ g) : Loc w' X o hk' hg := by
  refine ⟨hO.heap h.at_ (fun e => h.k e.symm), ?_, h.g⟩
  rcases hh with rfl | ⟨g, rfl, hg'⟩
  · exact h.k
  · intro e
    cases e
    have := row_lt h.at_
    omega
theorem Loc.swap (h : Loc w X o hk hg) : Loc w X o hg hk := ⟨h.at_, h.g, h.k⟩
theorem Loc.grow_g {hg' : Option Nat} (h : Loc w X o hk hg) (hO : Only (fun k => some k = hg) w w') (hh : hg' = hg ∨ ∃ g, hg' = some g ∧ w.heap.size ≤ g) : Loc w' X o hk hg' := (h.swap.grow_k hO hh).swap
end

theorem next_to {w : World} {l : Nat} {ns : List Nd} (h : ListAt w l ns) : Calls Try.prog 29 #[.pointer (some ⟨l, 0, none⟩)] w fun e w' => ∃ N ok, e = .returned (.tuple #[.int .i64 N, .bool ok]) ∧ w = w' ∧ ((ok = false ∧ ns.length = 0) ∨ (ok = true ∧ 0 < ns.length ∧ ∃ ky, (rows 0 (dat ns))[0]? = some (ky, N))) := by
  cases ns with
  | nil =>
    refine (next_none h).mono ?_
    rintro e w' ⟨rfl, rfl⟩
    exact ⟨_, _, rfl, rfl, .inl ⟨rfl, rfl⟩⟩
  | cons x r =>
    refine (next_some h).mono ?_
    rintro e w' ⟨rfl, rfl⟩
    exact ⟨_, _, rfl, rfl, .inr ⟨rfl, by simp, x.2.1, by simp [dat, rows]⟩⟩
theorem keys_to {w : World} {l : Nat} {ns : List Nd} (h : ListAt w l ns) (hl : ns.length ≤ 1000) {p : Option Addr} {n c : Nat} {hk : Option Nat} (hn : n = ns.length) (hW : Win w 3 1 (.slice p n c) hk n ((ns.map fun m => m.2.1).map mkI)) :
    Calls Try.prog 30 #[.pointer (some ⟨l, 0, none⟩)] w fun e w' => ∃ q d, e = .returned (.slice q n d) ∧ Only (fun _ => False) w w' ∧ Calls Try.prog 27 #[.slice q n d, .slice p n c] w' fun e w'' => e = .returned (.bool true) ∧ ∃ m, w'' = w'.drewN m := by
  refine (keys_any h hl).mono ?_
  rintro e w' ⟨v, h1, rfl, hV, hh, ho⟩
  rw [List.length_map, ← hn] at hV
  obtain ⟨q, d, rfl, _⟩ := hV.form
  exact ⟨q, d, rfl, ho, same_any hV (hW.kept ho (fun _ _ h => h)) (by omega)⟩
theorem gaps_to {w : World} {l : Nat} {ns : List Nd} (h : ListAt w l ns) (hl : ns.length ≤ 1000) {p : Option Addr} {n c : Nat} {hk : Option Nat} (hn : n = ns.length) (hW : Win w 3 1 (.slice p n c) hk n ((ns.map fun m => m.2.2).map mkI)) :
    Calls Try.prog 31 #[.pointer (some ⟨l, 0, none⟩)] w fun e w' => ∃ q d, e = .returned (.slice q n d) ∧ Only (fun _ => False) w w' ∧ Calls Try.prog 27 #[.slice q n d, .slice p n c] w' fun e w'' => e = .returned (.bool true) ∧ ∃ m, w'' = w'.drewN m := by
  refine (gaps_any h hl).mono ?_
  rintro e w' ⟨v, h1, rfl, hV, hh, ho⟩
  rw [List.length_map, ← hn] at hV
  obtain ⟨q, d, rfl, _⟩ := hV.form
  exact ⟨q, d, rfl, ho, same_any hV (hW.kept ho (fun _ _ h => h)) (by omega)⟩
theorem due_to {w : World} {l : Nat} {ns : List Nd} (h : ListAt w l ns) (hf : Fine (dat ns)) (key : Int) :
    Calls Try.prog 32 #[.pointer (some ⟨l, 0, none⟩), .int .i64 key] w fun e w' => ∃ D is, e = .returned (.tuple #[.int .i64 D, .bool is]) ∧ w = w' ∧ hasKey (dat ns) key = is ∧ (dueIn (dat ns) key 0).getD 0 = D := by
  refine (due_all h hf key).mono ?_
  rintro e w' ⟨rfl, rfl⟩
  exact ⟨_, _, rfl, rfl, rfl, rfl⟩
/-- What the law's own loop has gathered are the list's keys and gaps. -/
theorem Pair.told {w0 w : World} {vk vg : Value} {hk hg : Option Nat} {n : Nat} {ns : List Nd} (h : Pair w0 w vk hk n (((rows 0 (dat ns)).map (·.1)).map mkI) vg hg n ((gapsOf 0 (rows 0 (dat ns))).map mkI)) :
    ∃ pk ck pg cg, vk = .slice pk n ck ∧ vg = .slice pg n cg ∧ Win w 3 1 (.slice pk n ck) hk n ((ns.map fun m => m.2.1).map mkI) ∧ Win w 3 1 (.slice pg n cg) hg n ((ns.map fun m => m.2.2).map mkI) := by
  have a := h.k
  have b := h.g
  have e1 : (dat ns).map (·.1) = ns.map fun m => m.2.1 := by simp [dat]
  have e2 : (dat ns).map (·.2) = ns.map fun m => m.2.2 := by simp [dat]
  rw [rows_keys, e1] at a
  rw [gapsOf_rows, e2] at b
  obtain ⟨pk, ck, rfl, _⟩ := a.form
  obtain ⟨pg, cg, rfl, _⟩ := b.form
  exact ⟨pk, ck, pg, cg, rfl, rfl, a, b⟩
theorem rel_back {W wb wr : World} {B l k n rcap : Nat} {ns : List Nd} {p : Option Addr} {h : Option Nat} (hS : ListAt wb l ns ∧ Fine (dat ns) ∧ ns.length ≤ k ∧ (∀ b, fp l ns b → B ≤ b) ∧ (∀ b, h = some b → B ≤ b) ∧ Only (fun x => B ≤ x) W wb ∧ B ≤ wb.heap.size ∧ n = ns.length) (hO : Only (fun _ => False) wb wr) (hR : RowsAt wr p n rcap h (rows 0 (dat ns))) : Rel W B l k (.slice p n rcap) wr := by
  obtain ⟨h1, h2, h3, h4, h5, h6, _, _⟩ := hS
  exact ⟨ns, p, n, rcap, h, rfl, h1.new hO, hR, h2, h3, h4, h5, h6.trans hO (fun _ _ h => h.elim)⟩
end Go.Proofs.Ytbmegpcdcbfjmaa.Plays4
