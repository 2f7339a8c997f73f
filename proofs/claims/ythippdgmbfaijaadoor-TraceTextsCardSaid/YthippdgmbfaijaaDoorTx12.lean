/- Records in memory; the trace's Of. -/
import Derived.Test.YthippdgmbfaijaaDoorTx11
namespace Go.Proofs.YthippdgmbfaijaaDoor
open Go Go.RowKit

structure RecAt (w : World) (g off : Nat) (x : RecV) : Prop where
  c0 : w.cell? ⟨g, off, none⟩ = some (.int .i64 x.at_)
  c1 : w.cell? ⟨g, off + 1, none⟩ = some (.int .i64 x.k)
  c2 : w.cell? ⟨g, off + 2, none⟩ = some (.int .i64 x.t)
  c3 : w.cell? ⟨g, off + 3, none⟩ = some (.int .i64 x.j)
  c4 : w.cell? ⟨g, off + 4, none⟩ = some (.int .i64 x.op)
  c5 : w.cell? ⟨g, off + 5, none⟩ = some (.int .i64 x.c)
  c6 : w.cell? ⟨g, off + 6, none⟩ = some (.int .i64 x.v)
/-- Records in memory. -/
def RecRow (w : World) (A : Option Addr) (l : List RecV) : Prop :=
  ∀ (k : Nat) x, l[k]? = some x → ∃ b off, A = some ⟨b, off, none⟩ ∧ b < w.heap.size ∧ RecAt w b (off + k * 7) x
/-- The blocks of a slice. -/
def inA (A : Option Addr) (n k : Nat) : Prop := 0 < n ∧ ∃ b off, A = some ⟨b, off, none⟩ ∧ k = b
theorem RecRow.kept {S : Nat → Prop} {w w' : World} {A : Option Addr} {l : List RecV} (h : RecRow w A l) (ho : Only S w w') (hS : ∀ k, S k → ¬ inA A l.length k) : RecRow w' A l := fun k x hx => by
  obtain ⟨b, off, rfl, hb, h⟩ := h k x hx
  have hn : ¬ S b := fun hs => hS b hs ⟨by have := (List.getElem?_eq_some_iff.1 hx).1; omega, b, off, rfl, rfl⟩
  exact ⟨b, off, rfl, Nat.lt_of_lt_of_le hb ho.size, ho.cell h.c0 hn, ho.cell h.c1 hn, ho.cell h.c2 hn, ho.cell h.c3 hn, ho.cell h.c4 hn, ho.cell h.c5 hn, ho.cell h.c6 hn⟩
theorem RecRow.lt {w : World} {A : Option Addr} {l : List RecV} (h : RecRow w A l) {k : Nat} (hk : inA A l.length k) : k < w.heap.size := by
  obtain ⟨h0, b, off, hA, rfl⟩ := hk
  obtain ⟨b', off', hA', hb, -⟩ := h 0 l[0] (List.getElem?_eq_getElem h0)
  rw [hA] at hA'
  cases hA'
  exact hb
theorem RecRow.new {w w' : World} {A : Option Addr} {l : List RecV} (h : RecRow w A l) (ho : Only (fun _ => False) w w') : RecRow w' A l := h.kept ho (fun _ h => h.elim)

/-- A slice of the call's own holds its records. -/
theorem RecAt.of_cells {w : World} {g off : Nat} {L : List Value} {x : RecV} {n : Nat} (hg : ∀ i u, L[i]? = some u → w.cell? ⟨g, off + i, none⟩ = some u) (hx : ∀ i u, x.cells[i]? = some u → L[n * 7 + i]? = some u) : RecAt w g (off + n * 7) x := by
  have h := fun i u (hi : x.cells[i]? = some u) => hg _ u (hx i u hi)
  refine ⟨?_, ?_, ?_, ?_, ?_, ?_, ?_⟩
  · have := h 0 _ rfl; rwa [← Nat.add_assoc] at this
  · have := h 1 _ rfl; rwa [← Nat.add_assoc] at this
  · have := h 2 _ rfl; rwa [← Nat.add_assoc] at this
  · have := h 3 _ rfl; rwa [← Nat.add_assoc] at this
  · have := h 4 _ rfl; rwa [← Nat.add_assoc] at this
  · have := h 5 _ rfl; rwa [← Nat.add_assoc] at this
  · have := h 6 _ rfl; rwa [← Nat.add_assoc] at this
theorem recCells_at : ∀ (l : List RecV) (n : Nat) (x : RecV), l[n]? = some x → ∀ i u, x.cells[i]? = some u → (recCells l)[n * 7 + i]? = some u
  | [], n, x, h, i, u, hu => by simp at h
  | r :: l, n, x, h, i, u, hu => by
    have hr : r.cells.length = 7 := rfl
    have hrc : recCells (r :: l) = r.cells ++ recCells l := rfl
    rw [hrc]
    cases n with
    | zero =>
      simp at h
      subst h
      have hi := (List.getElem?_eq_some_iff.1 hu).1
      rw [List.getElem?_append_left (by omega)]
      simpa using hu
    | succ n =>
      rw [List.getElem?_append_right (by omega), hr, show (n + 1) * 7 + i - 7 = n * 7 + i by omega]
      exact recCells_at l n x (by simpa using h) i u hu
theorem Win.recs {w : World} {p : Option Addr} {cap n : Nat} {h : Option Nat} {l : List RecV} (hW : Win w 24 7 (.slice p n cap) h n (recCells l)) (hn : l.length = n) : RecRow w p l := fun k x hx => by
  have hk := (List.getElem?_eq_some_iff.1 hx).1
  obtain ⟨g, off, cp, -, hv, -, -, hgl, hgc, -⟩ := hW.at_ (by omega)
  cases hv
  exact ⟨g, off, rfl, hgl, RecAt.of_cells hgc (recCells_at l k x hx)⟩

def ofL (t j : Int) (l : List RecV) : List RecV := l.filter fun r => decide (r.t = t ∧ r.j = j)
/-- A slice of records is handed back, of the call's own. -/
def RecsEnd (l : List RecV) (w : World) (e : Ending) (w' : World) : Prop :=
  ∃ p cap h, e = .returned (.slice p l.length cap) ∧ Win w' 24 7 (.slice p l.length cap) h l.length (recCells l) ∧ (∀ k, h = some k → w.heap.size ≤ k) ∧ Only (fun _ => False) w w'
theorem ofL_snoc {t j : Int} {l : List RecV} {k : Nat} {x : RecV} (hx : l[k]? = some x) : ofL t j (l.take (k + 1)) = ofL t j (l.take k) ++ if x.t = t ∧ x.j = j then [x] else [] := by
  unfold ofL
  rw [List.take_add_one, hx, List.filter_append]
  congr 1
  by_cases h : x.t = t ∧ x.j = j
  · simp [h]
  · rw [if_neg h]
    simp [h]
theorem ofL_len (t j : Int) (l : List RecV) : (ofL t j l).length ≤ l.length := List.length_filter_le _ _

set_option maxRecDepth 100000 in
set_option maxHeartbeats 4000000 in
theorem of_any {w : World} {A : Option Addr} {n cap : Nat} {l : List RecV} (t j : Int) (hl : RecRow w A l) (hn : l.length = n) (hmax : n ≤ 1000000) : Calls Tryd.prog 15 #[.slice A n cap, .int .i64 t, .int .i64 j] w (RecsEnd (ofL t j l) w) := by
  have hl' := Lib.hid hl
  have hn' := Lib.hid hn
  clear hl hn
  go_enter Tryd.func15, Tryd.ntmps15
  go_wp2
  go_loopw [7, 12] (fun o i wr => ∃ (k : Nat) (p : Option Addr) (cap : Nat) (h : Option Nat), k ≤ n ∧ i = .int .i64 k ∧ o = .slice p (ofL t j (l.take k)).length cap ∧ Win wr 24 7 (.slice p (ofL t j (l.take k)).length cap) h (ofL t j (l.take k)).length (recCells (ofL t j (l.take k))) ∧ (∀ x, h = some x → w.heap.size ≤ x) ∧ Only (fun _ => False) w wr) (fun _ i _ => n - (intOf i).toNat)
  case atStart => exact ⟨0, none, 0, none, Nat.zero_le _, rfl, rfl, Win.nil _ _ _, (fun x hx => by cases hx), Only.refl _ _⟩
  case round =>
    obtain ⟨k, p, cap, h, hk, rfl, rfl, hW, hf, hO⟩ := hrel
    obtain ⟨ws, hws⟩ : ∃ ws : World, ws = wr := ⟨_, rfl⟩
    subst hws
    have hS := Lib.hid (And.intro hW (And.intro hf hO))
    clear hW hf hO
    by_cases hkn : k < n
    · have hkn' : (k : Int) < (n : Int) := by omega
      obtain ⟨x, hx⟩ : ∃ x, l[k]? = some x := ⟨_, List.getElem?_eq_getElem (by have := hn'.out; omega)⟩
      obtain ⟨b, off, rfl, hb, hc⟩ := hl'.out.new hS.out.2.2 k x hx
      have hsn := Lib.hid (ofL_snoc (t := t) (j := j) hx)
      have hlen := ofL_len t j (l.take k)
      rw [List.length_take, Nat.min_eq_left (by have := hn'.out; omega)] at hlen
      obtain ⟨F, hF⟩ : ∃ F, F = ofL t j (l.take k) := ⟨_, rfl⟩
      rw [← hF] at hS hsn hlen ⊢
      obtain ⟨m, hm⟩ : ∃ m, m = F.length := ⟨_, rfl⟩
      rw [← hm] at hS hlen ⊢
      have hm' := Lib.hid hm
      obtain ⟨d0, d1, d2, d3, d4, d5, d6⟩ := hc
      obtain ⟨x0, x1, x2, x3, x4, x5, x6⟩ := x
      dsimp only at d0 d1 d2 d3 d4 d5 d6 hsn
      clear hx hF hm
      by_cases h1 : x2 = t
      · by_cases h2 : x3 = j
        · have e1 : (x2 == t) = true := by simpa using h1
          have e2 : (x3 == j) = true := by simpa using h2
          rw [if_pos ⟨h1, h2⟩] at hsn
          clear h1 h2
          go_wp2_with (at_builtin; go_loud (refine wpList_append_win rfl _ _ 31 rfl 24 (Value.agg #[.int .i64 0, .int .i64 0, .int .i64 0, .int .i64 0, .int .i64 0, .int .i64 0, .int .i64 0]) 7 56 Tryd.underlying31 infoR rfl (by decide) rfl (hS.out.1.kept (((Only.refl (fun _ => False) ws).alloc _).alloc _) (fun _ _ h => h)) _ 1 1 rfl [.int .i64 x0, .int .i64 x1, .int .i64 x2, .int .i64 x3, .int .i64 x4, .int .i64 x5, .int .i64 x6] rfl (fun _ => ⟨_, rfl, row_sevenR (heap_new_at _ _ (by simp))⟩) (by simp [Value.oneCell']) (by unfold maxLen; omega) (by omega) ?_; intro v4 w4 h4 hW4 hO4 hh4; obtain ⟨p4', c4, rfl, _, _⟩ := hW4.out.form))
          go_roundw
          case rel =>
            have hs1 := hS.out.2.2.size
            refine ⟨k + 1, p4', c4, h4, by omega, by go_num, ?_, ?_, ?_, ?_⟩
            · rw [hsn.out, List.length_append, ← hm'.out]
              rfl
            · rw [hsn.out, List.length_append, ← hm'.out, recCells_snoc]
              exact hW4.out
            · intro x hx
              rcases hh4.out with rfl | ⟨g, hg, hge⟩
              · exact hS.out.2.1 x hx
              · rw [hg] at hx
                cases hx
                simp only [alloc_size] at hge
                omega
            · exact ((hS.out.2.2.alloc _).alloc _).trans hO4.out (fun x hx e => by have := hS.out.2.1 x e.symm; omega)
          case measure => simp [intOf]; omega
        · have e1 : (x2 == t) = true := by simpa using h1
          have e2 : (x3 == j) = false := by simpa using h2
          rw [if_neg (fun h => h2 h.2), List.append_nil] at hsn
          clear h1 h2
          go_wp2
          go_roundw
          case rel => exact ⟨k + 1, p, cap, h, by omega, by go_num, by rw [hsn.out, ← hm'.out], by rw [hsn.out, ← hm'.out]; exact hS.out.1.kept ((Only.refl (fun _ => False) ws).alloc _) (fun _ _ h => h), hS.out.2.1, hS.out.2.2.alloc _⟩
          case measure => simp [intOf]; omega
      · have e1 : (x2 == t) = false := by simpa using h1
        rw [if_neg (fun h => h1 h.1), List.append_nil] at hsn
        clear h1
        go_wp2
        go_roundw
        case rel => exact ⟨k + 1, p, cap, h, by omega, by go_num, by rw [hsn.out, ← hm'.out], by rw [hsn.out, ← hm'.out]; exact hS.out.1.kept ((Only.refl (fun _ => False) ws).alloc _) (fun _ _ h => h), hS.out.2.1, hS.out.2.2.alloc _⟩
        case measure => simp [intOf]; omega
    · have hkn2 : k = n := by omega
      subst hkn2
      have htk := Lib.hid (show l.take k = l from List.take_of_length_le (by have := hn'.out; omega))
      rw [htk.out] at hS ⊢
      have hlen := ofL_len t j l
      go_wp2
      go_ret
      exact ⟨p, cap, h, rfl, hS.out⟩
end Go.Proofs.YthippdgmbfaijaaDoor
