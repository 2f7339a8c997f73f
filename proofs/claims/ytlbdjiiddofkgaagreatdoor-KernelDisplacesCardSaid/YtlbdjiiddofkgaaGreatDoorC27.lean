import Derived.Test.YtlbdjiiddofkgaaGreatDoorC11
set_option maxRecDepth 100000
namespace Go.Proofs.YtlbdjiiddofkgaaGreatDoor
namespace Csh
open Go Go.RowKit
def RetI (v : Int) (w : World) (e : Ending) (w' : World) : Prop := e = .returned (.int .i64 v) /\ w = w'
def RetB (v : Bool) (w : World) (e : Ending) (w' : World) : Prop := e = .returned (.bool v) /\ w = w'
theorem zAI {k : IntKind} {a b : Int} (h : a = b) : Ending.returned (.int k a) = .returned (.int k b) := by rw [h]
theorem zAJ {a b : Bool} (h : a = b) : Ending.returned (.bool a) = .returned (.bool b) := by rw [h]
def rowV (M W i n : Nat) : Value := .slice (some ⟨M, i * W, none⟩) n W
def rowsL (M S W : Nat) (G : Nat -> List Int) : List Value := (List.range S).map fun i => rowV M W i (G i).length
structure CacheAt (w : World) (r R M S W : Nat) (G : Nat -> List Int) : Prop where
 hS : 1 <= S /\ S <= 16
 hW : 1 <= W /\ W <= 4
 root : w.heap[r]? = some (.cells [.slice (some ⟨R, 0, none⟩) S S].toArray 201 (0, 0))
 rows : w.heap[R]? = some (.cells (rowsL M S W G).toArray 24 (0, 0))
 len : ∀ i, i < S -> (G i).length <= W
 room : ∃ L : List Value, w.heap[M]? = some (.cells L.toArray 3 (0, 0)) /\ L.length = S * W /\ ∀ i, i < S -> ∀ j x, (G i)[j]? = some x -> L[i * W + j]? = some (.int .i64 x)
theorem CacheAt.kept {A : Nat -> Prop} {w w' : World} {r R M S W : Nat} {G : Nat -> List Int} (h : CacheAt w r R M S W G) (ho : Only A w w') (h1 : ¬ A r) (h2 : ¬ A R) (h3 : ¬ A M) : CacheAt w' r R M S W G := by
 obtain ⟨L, hL, hl, hc⟩ := h.room
 exact ⟨h.hS, h.hW, ho.heap h.root h1, ho.heap h.rows h2, h.len, L, ho.heap hL h3, hl, hc⟩
theorem CacheAt.new {w w' : World} {r R M S W : Nat} {G : Nat -> List Int} (h : CacheAt w r R M S W G) (ho : Only (fun _ => False) w w') : CacheAt w' r R M S W G := h.kept ho id id id
theorem CacheAt.lt {w : World} {r R M S W : Nat} {G : Nat -> List Int} (h : CacheAt w r R M S W G) : r < w.heap.size /\ R < w.heap.size /\ M < w.heap.size := by
 obtain ⟨L, hL, _⟩ := h.room
 exact ⟨zAG h.root, zAG h.rows, zAG hL⟩
theorem CacheAt.ne {w : World} {r R M S W : Nat} {G : Nat -> List Int} (h : CacheAt w r R M S W G) : r ≠ R /\ r ≠ M /\ R ≠ M := by
 obtain ⟨L, hL, _⟩ := h.room
 refine ⟨fun e => ?_, fun e => ?_, fun e => ?_⟩
 ·have := h.root; rw [e, h.rows] at this; simp at this
 ·have := h.root; rw [e, hL] at this; simp at this
 ·have := h.rows; rw [e, hL] at this; simp at this
theorem zCP (M S W : Nat) (G : Nat -> List Int) (i : Nat) (hi : i < S) : (rowsL M S W G)[i]? = some (rowV M W i (G i).length) := by
 unfold rowsL
 rw [List.getElem?_map, List.getElem?_range hi]
 rfl
theorem CacheAt.cell {w : World} {r R M S W : Nat} {G : Nat -> List Int} (h : CacheAt w r R M S W G) {i j : Nat} (hi : i < S) {x : Int} (hx : (G i)[j]? = some x) : w.cell? ⟨M, i * W + j, none⟩ = some (.int .i64 x) := by
 obtain ⟨L, hL, _, hc⟩ := h.room
 exact zAA hL (hc i hi j x hx)
def isB (b : Int) : Bool := decide (0 <= b /\ b <= 255)
theorem zC6 (b : Int) (w : World) : Calls Tryz.prog 262 #[.int .i64 b] w (RetB (isB b) w) := by
 by_cases h1 : 0 <= b
 ·by_cases h2 : b <= 255
  ·have hz := zh (show true = isB b by simp [isB, h1, h2])
   go_enter Tryz.func262, Tryz.ntmps262
   go_wp2
   go_ret
   exact ⟨zAJ hz.out, rfl⟩
  ·have hz := zh (show false = isB b by simp [isB]; omega)
   go_enter Tryz.func262, Tryz.ntmps262
   go_wp2
   go_ret
   exact ⟨zAJ hz.out, rfl⟩
 ·have hz := zh (show false = isB b by simp [isB]; omega)
  go_enter Tryz.func262, Tryz.ntmps262
  go_wp2
  go_ret
  exact ⟨zAJ hz.out, rfl⟩
theorem zGK {w : World} {r R M S W : Nat} {G : Nat -> List Int} (h : CacheAt w r R M S W G) : Calls Tryz.prog 297 #[.pointer (some ⟨r, 0, none⟩)] w (RetI S w) := by
 have c0 := zAA h.root (i := 0) rfl
 clear h
 go_enter Tryz.func297, Tryz.ntmps297
 go_wp2
 go_ret
 exact ⟨rfl, rfl⟩
theorem zER {w : World} {r R M S W : Nat} {G : Nat -> List Int} (h : CacheAt w r R M S W G) (b : Nat) (hb : b <= 255) : Calls Tryz.prog 263 #[.pointer (some ⟨r, 0, none⟩), .int .i64 b] w (RetI ((b % S : Nat) : Int) w) := by
 have q1 := zh (zGK h)
 have q2 := zh (zC6 b w)
 rw [show isB (b : Int) = true by simp [isB]; omega] at q2
 have hS1 := h.hS.1
 have hS2 := h.hS.2
 have hSz : ((S : Int) == 0) = false := by simp; omega
 have hm : (b : Int) % (S : Int) = ((b % S : Nat) : Int) := by omega
 have hm' := zh hm
 clear h hm
 go_enter Tryz.func263, Tryz.ntmps263
 go_wp2_with (first | (go_at_call 297; refine q1.out.mono ?_; rintro e w' ⟨rfl, rfl⟩) | (go_at_call 262; refine q2.out.mono ?_; rintro e w' ⟨rfl, rfl⟩))
 go_ret
 exact ⟨zAI hm'.out, rfl⟩
def idxZ (g : List Int) (b : Int) : Int := if b ∈ g then (g.idxOf b : Int) else -1
theorem zES {b : Int} : ∀ (g : List Int) (k : Nat), k < g.idxOf b -> g[k]? ≠ some b
 | [], k, h => by simp at h
 | a :: g, k, h => by
  rw [List.idxOf_cons] at h
  by_cases hab : a = b
  ·subst hab
   simp at h
  ·have : (a == b) = false := by simpa using hab
   rw [this] at h
   simp only [cond_false] at h
   cases k with
   | zero => simpa using hab
   | succ k =>
    simpa using zES g k (by omega)
theorem zRH {g : List Int} {b : Int} {k : Nat} (h : g[k]? = some b) (hn : ∀ j, j < k -> g[j]? ≠ some b) : idxZ g b = k := by
 have hm : b ∈ g := List.mem_of_getElem? h
 unfold idxZ
 rw [if_pos hm]
 have h1 := List.idxOf_lt_length_iff.2 hm
 have h2 : g[g.idxOf b]? = some b := by rw [List.getElem?_eq_getElem h1, List.getElem_idxOf]
 have h3 : ¬ g.idxOf b < k := fun h => hn _ h h2
 have h4 : ¬ k < g.idxOf b := fun hlt => by
  exact zES g k hlt h
 omega
theorem zOZ {g : List Int} {b : Int} (h : ∀ j, j < g.length -> g[j]? ≠ some b) : idxZ g b = -1 := by
 unfold idxZ
 rw [if_neg]
 intro hm
 obtain ⟨j, hj⟩ := List.getElem?_of_mem hm
 exact h j (List.getElem?_eq_some_iff.1 hj).1 hj
theorem zDF {w : World} {B off n cap : Nat} {g : List Int} (hc : ∀ j x, g[j]? = some x -> w.cell? ⟨B, off + j, none⟩ = some (.int .i64 x)) (hn : g.length = n) (h9 : n <= 1000) (b : Int) : Calls Tryz.prog 264 #[.slice (some ⟨B, off, none⟩) n cap, .int .i64 b] w (RetI (idxZ g b) w) := by
 have hc' := zh hc
 have hn' := zh hn
 clear hc hn
 go_enter Tryz.func264, Tryz.ntmps264
 go_wp2
 go_loopw [8] (fun i wr => ∃ k : Nat, k <= n /\ i = .int .i64 k /\ (∀ j, j < k -> g[j]? ≠ some b) /\ w = wr) (fun i _ => n - (intOf i).toNat)
 case atStart => exact ⟨0, Nat.zero_le _, rfl, (fun j hj => by omega), rfl⟩
 case round =>
  obtain ⟨k, hk, rfl, hno, rfl⟩ := hrel
  have jCg := zh hno
  clear hno
  by_cases hkn : k < n
  ·have vR : (k : Int) < (n : Int) := by omega
   obtain ⟨x, hx⟩ : ∃ x, g[k]? = some x := ⟨_, List.getElem?_eq_getElem (by rw [hn'.out]; exact hkn)⟩
   have c0 := hc'.out k x hx
   have hx' := zh hx
   clear hx
   by_cases hbx : b = x
   ·subst hbx
    have hz := zh (zRH hx'.out jCg.out)
    have bb : (b == b) = true := by simp
    go_wp2
    go_ret
    exact ⟨zAI hz.out.symm, rfl⟩
   ·have hbe : (b == x) = false := by simpa using hbx
    have hnx := zh (show ∀ j, j < k + 1 -> g[j]? ≠ some b from fun j hj => by
     by_cases hjk : j < k
     ·exact jCg.out j hjk
     ·obtain rfl : j = k := by omega
      rw [hx'.out]
      intro h
      cases h
      exact hbx rfl)
    clear hbx
    go_wp2
    go_roundw
    case rel => exact ⟨k + 1, by omega, by go_num, hnx.out, trivial⟩
    case measure => simp [intOf]; omega
  ·obtain rfl : k = n := by omega
   have hz := zh (zOZ (g := g) (b := b) (fun j hj => jCg.out j (by have := hn'.out; omega)))
   go_wp2
   go_ret
   exact ⟨zAI hz.out.symm, rfl⟩
def acc (W : Nat) (g : List Int) (b : Int) : List Int := if b ∈ g then b :: g.erase b else (b :: g).take W
def upd (G : Nat -> List Int) (s : Nat) (g : List Int) : Nat -> List Int := fun i => if i = s then g else G i
theorem zHL {i s W j k : Nat} (hj : j < W) (hk : k < W) (h : i * W + j = s * W + k) : i = s := by
 have h1 : (i * W + j) / W = i := by rw [Nat.mul_comm, Nat.mul_add_div (by omega), Nat.div_eq_of_lt hj]; omega
 have h2 : (s * W + k) / W = s := by rw [Nat.mul_comm, Nat.mul_add_div (by omega), Nat.div_eq_of_lt hk]; omega
 rw [<- h1, h, h2]
theorem zET {b : Int} : ∀ (g : List Int), b ∈ g -> g.erase b = g.take (g.idxOf b) ++ g.drop (g.idxOf b + 1)
 | [], h => by simp at h
 | a :: g, h => by
  by_cases hab : a = b
  ·subst hab
   simp
  ·have hne : (a == b) = false := by simpa using hab
   rw [List.idxOf_cons, hne]
   simp only [cond_false]
   rw [List.erase_cons_tail (by simpa using hab), zET g (by simpa [Ne.symm hab] using (List.mem_cons.1 h).resolve_left (fun e => hab e.symm))]
   simp
theorem zME {W : Nat} {g : List Int} {b : Int} (h : b ∈ g) : acc W g b = b :: (g.take (g.idxOf b) ++ g.drop (g.idxOf b + 1)) := by
 unfold acc
 rw [if_pos h, zET g h]
theorem zRI {W : Nat} {g : List Int} {b : Int} (h : ¬ b ∈ g) (hW : 1 <= W) : acc W g b = b :: g.take (W - 1) := by
 unfold acc
 rw [if_neg h, show W = W - 1 + 1 by omega, List.take_succ_cons]
 rfl
theorem zMF {α : Type} {L cs : List α} {off j : Nat} (hL : off + cs.length <= L.length) (hj : j < cs.length) : (splice L off cs)[off + j]? = cs[j]? := by
 unfold splice
 rw [List.getElem?_append_right (by rw [List.length_take]; omega), List.getElem?_append_left (by rw [List.length_take]; omega), List.length_take]
 congr 1
 omega
theorem zKU {α : Type} {L cs : List α} {off i : Nat} (hL : off + cs.length <= L.length) (hi : i < off ∨ off + cs.length <= i) : (splice L off cs)[i]? = L[i]? := by
 unfold splice
 by_cases h : i < off
 ·rw [List.getElem?_append_left (by rw [List.length_take]; omega), List.getElem?_take, if_pos h]
 ·rw [List.getElem?_append_right (by rw [List.length_take]; omega), List.getElem?_append_right (by rw [List.length_take]; omega), List.length_take, List.getElem?_drop]
  congr 1
  omega
def moved (L : List Value) (o a : Nat) (b : Int) : List Value := (splice L (o + 1) ((L.drop o).take a)).set o (.int .i64 b)
theorem zMG {L : List Value} {o a : Nat} {b : Int} (h : o + 1 + a <= L.length) : (moved L o a b).length = L.length := by
 unfold moved
 rw [List.length_set, length_splice _ _ _ (by rw [List.length_take]; omega)]
theorem zMH {L : List Value} {S W s a : Nat} {G : Nat -> List Int} {b : Int} (hL : L.length = S * W) (hs : s < S) (haW : a < W) (hlen : ∀ i, i < S -> (G i).length <= W) (han : a <= (G s).length)
  (hc : ∀ i, i < S -> ∀ j x, (G i)[j]? = some x -> L[i * W + j]? = some (.int .i64 x)) (g' : List Int) (hg : g' = b :: ((G s).take a ++ (G s).drop (a + 1)) ∨ g' = b :: (G s).take a) :
  ∀ i, i < S -> ∀ j x, (upd G s g' i)[j]? = some x -> (moved L (s * W) a b)[i * W + j]? = some (.int .i64 x) := by
 have hsw : s * W + W <= S * W := by
  have := Nat.mul_le_mul_right W (show s + 1 <= S from hs)
  rw [Nat.succ_mul] at this
  exact this
 have hcl : ((L.drop (s * W)).take a).length = a := by rw [List.length_take, List.length_drop]; omega
 have wL : s * W + 1 + ((L.drop (s * W)).take a).length <= L.length := by rw [hcl]; omega
 have hout : ∀ i, i < s * W ∨ s * W + a < i -> (moved L (s * W) a b)[i]? = L[i]? := fun i hi => by
  unfold moved
  rw [List.getElem?_set_ne (by omega), zKU wL (by rw [hcl]; omega)]
 intro i hi j x hx
 by_cases his : i = s
 ·subst his
  unfold upd at hx
  rw [if_pos rfl] at hx
  cases j with
  | zero =>
   have : x = b := by rcases hg with rfl | rfl <;> simpa using hx.symm
   subst this
   rw [Nat.add_zero]
   unfold moved
   rw [List.getElem?_set_self (by rw [length_splice _ _ _ wL]; omega)]
  | succ k =>
   by_cases hk : k < a
   ·have hgx : (G i)[k]? = some x := by
     rcases hg with rfl | rfl
     ·rw [List.getElem?_cons_succ, List.getElem?_append_left (by rw [List.length_take]; omega), List.getElem?_take, if_pos hk] at hx
      exact hx
     ·rw [List.getElem?_cons_succ, List.getElem?_take, if_pos hk] at hx
      exact hx
    unfold moved
    rw [List.getElem?_set_ne (by omega), show i * W + (k + 1) = i * W + 1 + k by omega, zMF wL (by rw [hcl]; exact hk), List.getElem?_take, if_pos hk, List.getElem?_drop]
    exact hc i hi k x hgx
   ·rcases hg with rfl | rfl
    ·rw [List.getElem?_cons_succ, List.getElem?_append_right (by rw [List.length_take]; omega), List.length_take, List.getElem?_drop] at hx
     have : (G i)[k + 1]? = some x := by
      rw [<- hx]
      congr 1
      omega
     rw [hout _ (by omega)]
     exact hc i hi (k + 1) x this
    ·rw [List.getElem?_cons_succ, List.getElem?_take, if_neg hk] at hx
     cases hx
 ·unfold upd at hx
  rw [if_neg his] at hx
  have hj : j < W := by have := (List.getElem?_eq_some_iff.1 hx).1; have := hlen i hi; omega
  rw [hout _ ?_]
  ·exact hc i hi j x hx
  ·by_cases h1 : i * W + j < s * W
   ·exact .inl h1
   ·by_cases h2 : s * W + a < i * W + j
    ·exact .inr h2
    ·exact absurd (zHL (k := i * W + j - s * W) hj (by omega) (by omega)) his
theorem zJV (M S W s : Nat) (G : Nat -> List Int) (g : List Int) (hs : s < S) : (rowsL M S W G).set s (rowV M W s g.length) = rowsL M S W (upd G s g) := by
 unfold rowsL
 apply List.ext_getElem?
 intro i
 by_cases hi : i < S
 ·by_cases his : i = s
  ·subst his
   rw [List.getElem?_set_self (by simpa using hi), List.getElem?_map, List.getElem?_range hi]
   simp [upd]
  ·rw [List.getElem?_set_ne (fun h => his h.symm), List.getElem?_map, List.getElem?_map, List.getElem?_range hi]
   simp [upd, his]
 ·rw [List.getElem?_eq_none (by simp; omega), List.getElem?_eq_none (by simp; omega)]
def AccEnd (r R M S W : Nat) (G : Nat -> List Int) (b : Nat) (w : World) (e : Ending) (w' : World) : Prop :=
 e = .returned (.tuple #[.bool (decide ((b : Int) ∈ G (b % S))), .int .i64 0]) /\ CacheAt w' r R M S W (upd G (b % S) (acc W (G (b % S)) b)) /\ Only (fun k => k = R ∨ k = M) w w'
theorem zMI {w w2 : World} {r R M S W s n : Nat} {G : Nat -> List Int} {L : List Value} {a : Nat} {b : Int} {g' : List Int} (h : CacheAt w r R M S W G) (hs : s < S) (hL : L.length = S * W)
  (hLc : ∀ i, i < S -> ∀ j x, (G i)[j]? = some x -> L[i * W + j]? = some (.int .i64 x)) (ha : a < W) (han : a <= (G s).length)
  (hg : g' = b :: ((G s).take a ++ (G s).drop (a + 1)) ∨ g' = b :: (G s).take a) (hgl : g'.length = n) (hnW : n <= W)
  (h2 : w2.heap[M]? = some (.cells (splice L (s * W + 1) ((L.drop (s * W)).take a)).toArray 3 (0, 0))) (ho : Only (fun k => k = M) w w2) :
  CacheAt ((w2.setCell ⟨M, s * W, none⟩ (.int .i64 b)).setCell ⟨R, s, none⟩ (rowV M W s n)) r R M S W (upd G s g') /\ Only (fun k => k = R ∨ k = M) w ((w2.setCell ⟨M, s * W, none⟩ (.int .i64 b)).setCell ⟨R, s, none⟩ (rowV M W s n)) := by
 obtain ⟨n1, n2, n3⟩ := h.ne
 have hsw : s * W + W <= S * W := by
  have := Nat.mul_le_mul_right W (show s + 1 <= S from hs)
  rw [Nat.succ_mul] at this
  exact this
 have hM1 : (w2.setCell ⟨M, s * W, none⟩ (.int .i64 b)).heap[M]? = some (.cells (moved L (s * W) a b).toArray 3 (0, 0)) := zAE h2 (s * W) _
 have hR1 : (w2.setCell ⟨M, s * W, none⟩ (.int .i64 b)).heap[R]? = some (.cells (rowsL M S W G).toArray 24 (0, 0)) := zAH (ho.heap h.rows (by exact n3)) (by exact n3) _
 have hr1 := zAH (ho.heap h.root (by exact n2)) (p := ⟨M, s * W, none⟩) (by exact n2) (.int .i64 b)
 refine ⟨⟨h.hS, h.hW, zAH hr1 (p := ⟨R, s, none⟩) (by exact n1) _, ?_, fun i hi => ?_, moved L (s * W) a b, zAH hM1 (p := ⟨R, s, none⟩) (by exact n3.symm) _, ?_, ?_⟩, ?_⟩
 ·rw [<- zJV M S W s G g' hs, hgl]
  exact zAE hR1 s _
 ·unfold upd
  split
  ·omega
  ·exact h.len i hi
 ·rw [zMG (by omega), hL]
 ·exact zMH hL hs ha h.len han hLc g' hg
 ·exact ((ho.mono (fun x _ hx => .inr hx)).setCell (p := ⟨M, s * W, none⟩) (fun _ => .inr rfl) _).setCell (p := ⟨R, s, none⟩) (fun _ => .inl rfl) _
theorem zEU {L : List Value} {o a n : Nat} {g : List Int} (hn : g.length = n) (ha : a <= n) (hc : ∀ j x, g[j]? = some x -> L[o + j]? = some (.int .i64 x)) :
  ∀ v ∈ (L.drop o).take a, v.oneCell' = true := by
 intro v hv
 obtain ⟨j, hj⟩ := List.getElem?_of_mem hv
 rw [List.getElem?_take] at hj
 split at hj
 ·rename_i hja
  rw [List.getElem?_drop] at hj
  obtain ⟨x, hx⟩ : ∃ x, g[j]? = some x := ⟨_, List.getElem?_eq_getElem (by omega)⟩
  rw [hc j x hx] at hj
  cases hj
  rfl
 ·cases hj
set_option maxHeartbeats 1000000 in
theorem zHM {w : World} {r R M S W : Nat} {G : Nat -> List Int} (h : CacheAt w r R M S W G) (b : Nat) (hb : b <= 255) (hin : (b : Int) ∈ G (b % S)) : Calls Tryz.prog 219 #[.pointer (some ⟨r, 0, none⟩), .int .i64 b] w (AccEnd r R M S W G b w) := by
 obtain ⟨s, hs⟩ : ∃ s, s = b % S := ⟨_, rfl⟩
 have hsS : s < S := by rw [hs]; exact Nat.mod_lt _ (by have := h.hS.1; omega)
 have hS2 := h.hS.2
 have q1 := zh (zC6 b w)
 rw [show isB (b : Int) = true by simp [isB]; omega] at q1
 have q2 := zh (zER h b hb)
 unfold AccEnd
 rw [<- hs] at q2 hin ⊢
 have c0 := zAA h.root (i := 0) rfl
 have c1 := zAA h.rows (zCP M S W G s hsS)
 obtain ⟨n, hn⟩ : ∃ n, (G s).length = n := ⟨_, rfl⟩
 have hnW : n <= W := by rw [<- hn]; exact h.len s hsS
 have hW1 := h.hW.1
 have hW2 := h.hW.2
 have q3 := zh (zDF (w := w) (B := M) (off := s * W) (cap := W) (g := G s) (fun j x hx => h.cell hsS hx) hn (by omega) b)
 obtain ⟨a, ha⟩ : ∃ a, a = (G s).idxOf (b : Int) := ⟨_, rfl⟩
 have han : a < n := by rw [ha, <- hn]; exact List.idxOf_lt_length_iff.2 hin
 rw [show idxZ (G s) b = (a : Int) by unfold idxZ; rw [if_pos hin, ha]] at q3
 unfold rowV at c1
 rw [hn] at c1
 obtain ⟨L, hL, hLl, hLc⟩ := h.room
 have z1 : ((s : Int) == -1) = false := by simp
 have z2 : ((a : Int) != -1) = true := by simp
 rw [decide_eq_true hin]
 obtain ⟨H, hH⟩ : ∃ H : World -> Prop, H = fun w' => CacheAt w' r R M S W (upd G s (acc W (G s) b)) /\ Only (fun k => k = R ∨ k = M) w w' := ⟨_, rfl⟩
 have hend : (fun e w' => e = Ending.returned (.tuple #[.bool true, .int .i64 0]) /\ CacheAt w' r R M S W (upd G s (acc W (G s) b)) /\ Only (fun k => k = R ∨ k = M) w w') = fun e w' => e = Ending.returned (.tuple #[.bool true, .int .i64 0]) /\ H w' := by rw [hH]
 rw [hend]
 have hsw : s * W + W <= S * W := by
  have := Nat.mul_le_mul_right W (show s + 1 <= S from hsS)
  rw [Nat.succ_mul] at this
  exact this
 have jE := zh (show ∀ w2 : World, w2.heap[M]? = some (.cells (splice L (s * W + 1) ((L.drop (s * W)).take a)).toArray 3 (0, 0)) -> Only (fun k => k = M) w w2 -> H ((w2.setCell ⟨M, s * W, none⟩ (.int .i64 b)).setCell ⟨R, s, none⟩ (.slice (some ⟨M, s * W, none⟩) n W)) from fun w2 h2 ho => by
  rw [hH]
  exact zMI h hsS hLl hLc (by omega) (by omega) (.inl (by rw [zME hin, <- ha])) (by
   rw [zME hin, <- ha, List.length_cons, List.length_append, List.length_take, List.length_drop]
   omega) hnW h2 ho)
 have hlen : ((L.drop (s * W)).take a).length = a := by rw [List.length_take, List.length_drop]; omega
 have hcp := fun dp vX (hdp : 0 < a -> dp = some (⟨M, s * W + 1, none⟩ : Addr)) => zC8 (P := Tryz.prog) w 24 24 3 3 Tryz.underlying24 (by kernel_rfl) dp (some ⟨M, s * W, none⟩) a vX n W M (s * W + 1) L 3 hL ((L.drop (s * W)).take a) (by rw [hlen]; show a = min n a; omega) (fun h0 => ⟨hdp (by rw [hlen] at h0; exact h0), _, rfl, fun j v hj => zDN (L := L) hL (s * W) a j v hj⟩) (by rw [hlen]; omega) (zEU (L := L) (o := s * W) (a := a) hn (by omega) (fun j x hx => hLc s hsS j x hx))
 rw [hlen] at hcp
 have hRr := zh h.rows
 have hr := zh h.root
 have hne := h.ne
 have kE := zh hne
 have hsl : s < (rowsL M S W G).length := by unfold rowsL; simpa using hsS
 have zM := zh hsl
 have jCh : s * W < L.length := by omega
 have hbig : s * W + W <= L.length := by omega
 have xO := zh hcp
 clear h hs hin hn ha hL hLl hLc hend hH hlen hne hsl hcp
 by_cases hWe : W = 1
 ·subst hWe
  obtain rfl : a = 0 := by omega
  obtain rfl : n = 1 := by omega
  rw [Nat.mul_one] at q3 c1 jE jCh hbig xO
  obtain ⟨w2, hrun, hw2, hO2⟩ := xO.out (some ⟨M, s, none⟩) 0 (fun h => by omega)
  have wZ := zh hw2
  have kC := zh hO2
  have e1 : w2.cell? ⟨r, 0, none⟩ = some (.slice (some ⟨R, 0, none⟩) S S) := zAA (hO2.heap hr.out kE.out.2.1) rfl
  have f1 : w2.frozen? ⟨M, s, none⟩ = false := zAC hw2 _
  have f2 : w2.frozen? ⟨R, s, none⟩ = false := zAC (hO2.heap hRr.out kE.out.2.2) _
  have e2 : ∃ u, w2.cell? ⟨M, s, none⟩ = some u := ⟨_, zAA hw2 (List.getElem?_eq_getElem (by rw [length_splice _ _ _ (by rw [List.length_take, List.length_drop]; omega)]; omega))⟩
  have e3 : ∃ u, w2.cell? ⟨R, s, none⟩ = some u := ⟨_, zAA (hO2.heap hRr.out kE.out.2.2) (List.getElem?_eq_getElem zM.out)⟩
  obtain ⟨u2, e2⟩ := e2
  obtain ⟨u3, e3⟩ := e3
  have hd1 : (M = r) = False := by have := kE.out; simp; omega
  have hd2 : (M = R) = False := by have := kE.out; simp; omega
  have hd3 : (R = r) = False := by have := kE.out; simp; omega
  clear hw2 hO2
  go_enter Tryz.func219, Tryz.ntmps219
  go_wp2_with (first | (go_at_call 262; refine q1.out.mono ?_; rintro e w' ⟨rfl, rfl⟩) | (go_at_call 263; refine q2.out.mono ?_; rintro e w' ⟨rfl, rfl⟩) | (go_at_call 264; refine q3.out.mono ?_; rintro e w' ⟨rfl, rfl⟩))
  go_ret2
  exact ⟨rfl, jE.out w2 wZ.out kC.out⟩
 ·obtain ⟨w2, hrun, hw2, hO2⟩ := xO.out (some ⟨M, s * W + 1, none⟩) (W - 1) (fun _ => rfl)
  have wZ := zh hw2
  have kC := zh hO2
  have e1 : w2.cell? ⟨r, 0, none⟩ = some (.slice (some ⟨R, 0, none⟩) S S) := zAA (hO2.heap hr.out kE.out.2.1) rfl
  have f1 : w2.frozen? ⟨M, s * W, none⟩ = false := zAC hw2 _
  have f2 : w2.frozen? ⟨R, s, none⟩ = false := zAC (hO2.heap hRr.out kE.out.2.2) _
  have e2 : ∃ u, w2.cell? ⟨M, s * W, none⟩ = some u := ⟨_, zAA hw2 (List.getElem?_eq_getElem (by rw [length_splice _ _ _ (by rw [List.length_take, List.length_drop]; omega)]; omega))⟩
  have e3 : ∃ u, w2.cell? ⟨R, s, none⟩ = some u := ⟨_, zAA (hO2.heap hRr.out kE.out.2.2) (List.getElem?_eq_getElem zM.out)⟩
  obtain ⟨u2, e2⟩ := e2
  obtain ⟨u3, e3⟩ := e3
  have hd1 : (M = r) = False := by have := kE.out; simp; omega
  have hd2 : (M = R) = False := by have := kE.out; simp; omega
  have hd3 : (R = r) = False := by have := kE.out; simp; omega
  clear hw2 hO2
  go_enter Tryz.func219, Tryz.ntmps219
  go_wp2_with (first | (go_at_call 262; refine q1.out.mono ?_; rintro e w' ⟨rfl, rfl⟩) | (go_at_call 263; refine q2.out.mono ?_; rintro e w' ⟨rfl, rfl⟩) | (go_at_call 264; refine q3.out.mono ?_; rintro e w' ⟨rfl, rfl⟩))
  go_ret2
  exact ⟨rfl, jE.out w2 wZ.out kC.out⟩
set_option maxHeartbeats 1000000 in
theorem zKV {w : World} {r R M S W : Nat} {G : Nat -> List Int} (h : CacheAt w r R M S W G) (b : Nat) (hb : b <= 255) (hin : ¬ (b : Int) ∈ G (b % S)) : Calls Tryz.prog 219 #[.pointer (some ⟨r, 0, none⟩), .int .i64 b] w (AccEnd r R M S W G b w) := by
 obtain ⟨s, hs⟩ : ∃ s, s = b % S := ⟨_, rfl⟩
 have hsS : s < S := by rw [hs]; exact Nat.mod_lt _ (by have := h.hS.1; omega)
 have hS2 := h.hS.2
 have q1 := zh (zC6 b w)
 rw [show isB (b : Int) = true by simp [isB]; omega] at q1
 have q2 := zh (zER h b hb)
 unfold AccEnd
 rw [<- hs] at q2 hin ⊢
 have c0 := zAA h.root (i := 0) rfl
 have c1 := zAA h.rows (zCP M S W G s hsS)
 obtain ⟨n, hn⟩ : ∃ n, (G s).length = n := ⟨_, rfl⟩
 have hnW : n <= W := by rw [<- hn]; exact h.len s hsS
 have hW1 := h.hW.1
 have hW2 := h.hW.2
 have q3 := zh (zDF (w := w) (B := M) (off := s * W) (cap := W) (g := G s) (fun j x hx => h.cell hsS hx) hn (by omega) b)
 obtain ⟨a, ha⟩ : ∃ a, a = min n (W - 1) := ⟨_, rfl⟩
 have han : a <= n := by omega
 have haW : a < W := by omega
 have jCi : min ((n : Int) + 1) (W : Int) = (a : Int) + 1 := by omega
 rw [show idxZ (G s) b = -1 by unfold idxZ; rw [if_neg hin]] at q3
 unfold rowV at c1
 rw [hn] at c1
 obtain ⟨L, hL, hLl, hLc⟩ := h.room
 have z1 : ((s : Int) == -1) = false := by simp
 rw [decide_eq_false hin]
 obtain ⟨H, hH⟩ : ∃ H : World -> Prop, H = fun w' => CacheAt w' r R M S W (upd G s (acc W (G s) b)) /\ Only (fun k => k = R ∨ k = M) w w' := ⟨_, rfl⟩
 have hend : (fun e w' => e = Ending.returned (.tuple #[.bool false, .int .i64 0]) /\ CacheAt w' r R M S W (upd G s (acc W (G s) b)) /\ Only (fun k => k = R ∨ k = M) w w') = fun e w' => e = Ending.returned (.tuple #[.bool false, .int .i64 0]) /\ H w' := by rw [hH]
 rw [hend]
 have hsw : s * W + W <= S * W := by
  have := Nat.mul_le_mul_right W (show s + 1 <= S from hsS)
  rw [Nat.succ_mul] at this
  exact this
 have jE := zh (show ∀ w2 : World, w2.heap[M]? = some (.cells (splice L (s * W + 1) ((L.drop (s * W)).take a)).toArray 3 (0, 0)) -> Only (fun k => k = M) w w2 -> H ((w2.setCell ⟨M, s * W, none⟩ (.int .i64 b)).setCell ⟨R, s, none⟩ (.slice (some ⟨M, s * W, none⟩) (a + 1) W)) from fun w2 h2 ho => by
  rw [hH]
  have hac : acc W (G s) (b : Int) = (b : Int) :: (G s).take a := by
   rw [zRI hin hW1]
   congr 1
   by_cases h1 : n <= W - 1
   ·rw [List.take_of_length_le (by omega), List.take_of_length_le (by omega)]
   ·rw [show a = W - 1 by omega]
  exact zMI h hsS hLl hLc haW (by omega) (.inr hac) (by
   rw [hac, List.length_cons, List.length_take]
   omega) (by omega) h2 ho)
 have hlen : ((L.drop (s * W)).take a).length = a := by rw [List.length_take, List.length_drop]; omega
 have hcp := fun dp vX (hdp : 0 < a -> dp = some (⟨M, s * W + 1, none⟩ : Addr)) => zC8 (P := Tryz.prog) w 24 24 3 3 Tryz.underlying24 (by kernel_rfl) dp (some ⟨M, s * W, none⟩) a vX (a + 1) W M (s * W + 1) L 3 hL ((L.drop (s * W)).take a) (by rw [hlen]; show a = min (a + 1) a; omega) (fun h0 => ⟨hdp (by rw [hlen] at h0; exact h0), _, rfl, fun j v hj => zDN (L := L) hL (s * W) a j v hj⟩) (by rw [hlen]; omega) (zEU (L := L) (o := s * W) (a := a) hn (by omega) (fun j x hx => hLc s hsS j x hx))
 rw [hlen] at hcp
 have hRr := zh h.rows
 have hr := zh h.root
 have hne := h.ne
 have kE := zh hne
 have hsl : s < (rowsL M S W G).length := by unfold rowsL; simpa using hsS
 have zM := zh hsl
 have jCh : s * W < L.length := by omega
 have hbig : s * W + W <= L.length := by omega
 have xO := zh hcp
 clear h hs hin hn ha hL hLl hLc hend hH hlen hne hsl hcp
 by_cases hWe : W = 1
 ·subst hWe
  obtain rfl : a = 0 := by omega
  rw [Nat.mul_one] at q3 c1 jE jCh hbig xO
  clear jCi
  have jFp : n = 0 ∨ n = 1 := by omega
  rcases jFp with rfl | rfl
  ·have hmx : max (1 : Int) 0 = 1 := by decide
   have hm1 : min (1 : Int) 1 = 1 := by decide
   have hm2 : min (2 : Int) 1 = 1 := by decide
   obtain ⟨w2, hrun, hw2, hO2⟩ := xO.out (some ⟨M, s, none⟩) 0 (fun h => by omega)
   have wZ := zh hw2
   have kC := zh hO2
   have e1 : w2.cell? ⟨r, 0, none⟩ = some (.slice (some ⟨R, 0, none⟩) S S) := zAA (hO2.heap hr.out kE.out.2.1) rfl
   have f1 : w2.frozen? ⟨M, s, none⟩ = false := zAC hw2 _
   have f2 : w2.frozen? ⟨R, s, none⟩ = false := zAC (hO2.heap hRr.out kE.out.2.2) _
   have e2 : ∃ u, w2.cell? ⟨M, s, none⟩ = some u := ⟨_, zAA hw2 (List.getElem?_eq_getElem (by rw [length_splice _ _ _ (by rw [List.length_take, List.length_drop]; omega)]; omega))⟩
   have e3 : ∃ u, w2.cell? ⟨R, s, none⟩ = some u := ⟨_, zAA (hO2.heap hRr.out kE.out.2.2) (List.getElem?_eq_getElem zM.out)⟩
   obtain ⟨u2, e2⟩ := e2
   obtain ⟨u3, e3⟩ := e3
   have hd1 : (M = r) = False := by have := kE.out; simp; omega
   have hd2 : (M = R) = False := by have := kE.out; simp; omega
   have hd3 : (R = r) = False := by have := kE.out; simp; omega
   clear hw2 hO2
   go_enter Tryz.func219, Tryz.ntmps219
   go_wp2_with (first | (go_at_call 262; refine q1.out.mono ?_; rintro e w' ⟨rfl, rfl⟩) | (go_at_call 263; refine q2.out.mono ?_; rintro e w' ⟨rfl, rfl⟩) | (go_at_call 264; refine q3.out.mono ?_; rintro e w' ⟨rfl, rfl⟩))
   go_ret2
   exact ⟨rfl, jE.out w2 wZ.out kC.out⟩
  ·have hmx : max (1 : Int) 0 = 1 := by decide
   have hm1 : min (1 : Int) 1 = 1 := by decide
   have hm2 : min (2 : Int) 1 = 1 := by decide
   obtain ⟨w2, hrun, hw2, hO2⟩ := xO.out (some ⟨M, s, none⟩) 0 (fun h => by omega)
   have wZ := zh hw2
   have kC := zh hO2
   have e1 : w2.cell? ⟨r, 0, none⟩ = some (.slice (some ⟨R, 0, none⟩) S S) := zAA (hO2.heap hr.out kE.out.2.1) rfl
   have f1 : w2.frozen? ⟨M, s, none⟩ = false := zAC hw2 _
   have f2 : w2.frozen? ⟨R, s, none⟩ = false := zAC (hO2.heap hRr.out kE.out.2.2) _
   have e2 : ∃ u, w2.cell? ⟨M, s, none⟩ = some u := ⟨_, zAA hw2 (List.getElem?_eq_getElem (by rw [length_splice _ _ _ (by rw [List.length_take, List.length_drop]; omega)]; omega))⟩
   have e3 : ∃ u, w2.cell? ⟨R, s, none⟩ = some u := ⟨_, zAA (hO2.heap hRr.out kE.out.2.2) (List.getElem?_eq_getElem zM.out)⟩
   obtain ⟨u2, e2⟩ := e2
   obtain ⟨u3, e3⟩ := e3
   have hd1 : (M = r) = False := by have := kE.out; simp; omega
   have hd2 : (M = R) = False := by have := kE.out; simp; omega
   have hd3 : (R = r) = False := by have := kE.out; simp; omega
   clear hw2 hO2
   go_enter Tryz.func219, Tryz.ntmps219
   go_wp2_with (first | (go_at_call 262; refine q1.out.mono ?_; rintro e w' ⟨rfl, rfl⟩) | (go_at_call 263; refine q2.out.mono ?_; rintro e w' ⟨rfl, rfl⟩) | (go_at_call 264; refine q3.out.mono ?_; rintro e w' ⟨rfl, rfl⟩))
   go_ret2
   exact ⟨rfl, jE.out w2 wZ.out kC.out⟩
 ·by_cases hnw : n < W
  ·obtain rfl : a = n := by omega
   have hmx : max ((a : Int) + 1) 0 = (a : Int) + 1 := by omega
   have jFq : (a : Int) + 1 <= (W : Int) := by omega
   clear jCi
   obtain ⟨w2, hrun, hw2, hO2⟩ := xO.out (some ⟨M, s * W + 1, none⟩) (W - 1) (fun _ => rfl)
   have wZ := zh hw2
   have kC := zh hO2
   have e1 : w2.cell? ⟨r, 0, none⟩ = some (.slice (some ⟨R, 0, none⟩) S S) := zAA (hO2.heap hr.out kE.out.2.1) rfl
   have f1 : w2.frozen? ⟨M, s * W, none⟩ = false := zAC hw2 _
   have f2 : w2.frozen? ⟨R, s, none⟩ = false := zAC (hO2.heap hRr.out kE.out.2.2) _
   have e2 : ∃ u, w2.cell? ⟨M, s * W, none⟩ = some u := ⟨_, zAA hw2 (List.getElem?_eq_getElem (by rw [length_splice _ _ _ (by rw [List.length_take, List.length_drop]; omega)]; omega))⟩
   have e3 : ∃ u, w2.cell? ⟨R, s, none⟩ = some u := ⟨_, zAA (hO2.heap hRr.out kE.out.2.2) (List.getElem?_eq_getElem zM.out)⟩
   obtain ⟨u2, e2⟩ := e2
   obtain ⟨u3, e3⟩ := e3
   have hd1 : (M = r) = False := by have := kE.out; simp; omega
   have hd2 : (M = R) = False := by have := kE.out; simp; omega
   have hd3 : (R = r) = False := by have := kE.out; simp; omega
   clear hw2 hO2
   go_enter Tryz.func219, Tryz.ntmps219
   go_wp2_with (first | (go_at_call 262; refine q1.out.mono ?_; rintro e w' ⟨rfl, rfl⟩) | (go_at_call 263; refine q2.out.mono ?_; rintro e w' ⟨rfl, rfl⟩) | (go_at_call 264; refine q3.out.mono ?_; rintro e w' ⟨rfl, rfl⟩))
   go_ret2
   exact ⟨rfl, jE.out w2 wZ.out kC.out⟩
  ·obtain rfl : a = W - 1 := by omega
   obtain rfl : n = W := by omega
   rw [show n - 1 + 1 = n by omega] at xO jE
   have hmx : max (n : Int) 0 = (n : Int) := by omega
   have jFq : (n : Int) < (n : Int) + 1 := by omega
   clear jCi
   obtain ⟨w2, hrun, hw2, hO2⟩ := xO.out (some ⟨M, s * n + 1, none⟩) (n - 1) (fun _ => rfl)
   have wZ := zh hw2
   have kC := zh hO2
   have e1 : w2.cell? ⟨r, 0, none⟩ = some (.slice (some ⟨R, 0, none⟩) S S) := zAA (hO2.heap hr.out kE.out.2.1) rfl
   have f1 : w2.frozen? ⟨M, s * n, none⟩ = false := zAC hw2 _
   have f2 : w2.frozen? ⟨R, s, none⟩ = false := zAC (hO2.heap hRr.out kE.out.2.2) _
   have e2 : ∃ u, w2.cell? ⟨M, s * n, none⟩ = some u := ⟨_, zAA hw2 (List.getElem?_eq_getElem (by rw [length_splice _ _ _ (by rw [List.length_take, List.length_drop]; omega)]; omega))⟩
   have e3 : ∃ u, w2.cell? ⟨R, s, none⟩ = some u := ⟨_, zAA (hO2.heap hRr.out kE.out.2.2) (List.getElem?_eq_getElem zM.out)⟩
   obtain ⟨u2, e2⟩ := e2
   obtain ⟨u3, e3⟩ := e3
   have hd1 : (M = r) = False := by have := kE.out; simp; omega
   have hd2 : (M = R) = False := by have := kE.out; simp; omega
   have hd3 : (R = r) = False := by have := kE.out; simp; omega
   clear hw2 hO2
   go_enter Tryz.func219, Tryz.ntmps219
   go_wp2_with (first | (go_at_call 262; refine q1.out.mono ?_; rintro e w' ⟨rfl, rfl⟩) | (go_at_call 263; refine q2.out.mono ?_; rintro e w' ⟨rfl, rfl⟩) | (go_at_call 264; refine q3.out.mono ?_; rintro e w' ⟨rfl, rfl⟩))
   go_ret2
   exact ⟨rfl, jE.out w2 wZ.out kC.out⟩
