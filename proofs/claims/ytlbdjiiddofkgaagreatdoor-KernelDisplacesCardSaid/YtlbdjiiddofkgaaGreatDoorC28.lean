import Derived.Test.YtlbdjiiddofkgaaGreatDoorC27
import Derived.Test.YtlbdjiiddofkgaaGreatDoorC04
import Derived.Test.YtlbdjiiddofkgaaGreatDoorC24
import Derived.Test.YtlbdjiiddofkgaaGreatDoorC26
set_option maxRecDepth 100000
namespace Go.Proofs.YtlbdjiiddofkgaaGreatDoor
namespace Csh
open Go Go.RowKit
theorem access_any {w : World} {r R M S W : Nat} {G : Nat -> List Int} (h : CacheAt w r R M S W G) (b : Nat) (hb : b <= 255) : Calls Tryz.prog 219 #[.pointer (some ⟨r, 0, none⟩), .int .i64 b] w (AccEnd r R M S W G b w) := by
 by_cases hin : (b : Int) ∈ G (b % S)
 ·exact zHM h b hb hin
 ·exact zKV h b hb hin
def NewEnd (S W : Nat) (w : World) (e : Ending) (w' : World) : Prop :=
 ∃ r R M, e = .returned (.pointer (some ⟨r, 0, none⟩)) /\ w.heap.size <= r /\ w.heap.size <= R /\ w.heap.size <= M /\ CacheAt w' r R M S W (fun _ => []) /\ Only (fun _ => False) w w'
def fillL (M S W i : Nat) : List Value := (List.range S).map fun k => if k < i then rowV M W k 0 else .slice none 0 0
theorem zKW (M S W i : Nat) (hi : i < S) : (fillL M S W i).set i (rowV M W i 0) = fillL M S W (i + 1) := by
 unfold fillL
 apply List.ext_getElem?
 intro k
 by_cases hk : k < S
 ·by_cases hki : k = i
  ·subst hki
   rw [List.getElem?_set_self (by simpa using hk), List.getElem?_map, List.getElem?_range hk]
   simp
  ·rw [List.getElem?_set_ne (fun h => hki h.symm), List.getElem?_map, List.getElem?_map, List.getElem?_range hk]
   simp only [Option.map_some]
   congr 1
   by_cases h1 : k < i
   ·rw [if_pos h1, if_pos (by omega)]
   ·rw [if_neg h1, if_neg (by omega)]
 ·rw [List.getElem?_eq_none (by simp; omega), List.getElem?_eq_none (by simp; omega)]
theorem zKX (M S W : Nat) : fillL M S W 0 = List.replicate S (.slice none 0 0) := by
 unfold fillL
 apply List.ext_getElem?
 intro k
 by_cases hk : k < S
 ·rw [List.getElem?_map, List.getElem?_range hk, List.getElem?_replicate, if_pos hk]
  rfl
 ·rw [List.getElem?_eq_none (by simp; omega), List.getElem?_eq_none (by simp; omega)]
theorem zMJ (M S W : Nat) : fillL M S W S = rowsL M S W (fun _ => []) := by
 unfold fillL rowsL
 refine List.map_congr_left (fun k hk => ?_)
 rw [if_pos (List.mem_range.1 hk)]
 rfl
set_option maxHeartbeats 1000000 in
theorem new_any (w : World) (S W : Nat) (hS : 1 <= S /\ S <= 16) (hW : 1 <= W /\ W <= 4) : Calls Tryz.prog 49 #[.int .i64 S, .int .i64 W] w (NewEnd S W w) := by
 obtain ⟨T, hT⟩ : ∃ T, T = S * W := ⟨_, rfl⟩
 have jIp : T <= 64 := by rw [hT]; exact Nat.mul_le_mul hS.2 hW.2
 have hTm : (S : Int) * (W : Int) = (T : Int) := by rw [hT]; simp
 obtain ⟨hS1, hS2⟩ := hS
 obtain ⟨hW1, hW2⟩ := hW
 have hT' := zh hT
 clear hT
 have mk1 := zBL (P := Tryz.prog) w 24 3 (.int .i64 0) 8 Tryz.underlying24 (by kernel_rfl) rfl T (by omega) (by omega)
 have mk2 := fun W0 : World => zBL (P := Tryz.prog) W0 44 24 (.slice none 0 0) 24 Tryz.underlying44 (by kernel_rfl) rfl S (by omega) (by omega)
 go_enter Tryz.func49, Tryz.ntmps49
 go_wp2
 clear mk1 mk2
 obtain ⟨M, hM⟩ : ∃ M, M = w.heap.size := ⟨_, rfl⟩
 obtain ⟨R, hR⟩ : ∃ R, R = w.heap.size + 1 := ⟨_, rfl⟩
 have hbM := zh (show ((w.alloc (.cells (List.replicate T (.int .i64 0)).toArray 3)).alloc (.cells (List.replicate S (.slice none 0 0)).toArray 24)).heap[M]? = some (.cells (List.replicate T (Value.int .i64 0)).toArray 3 (0, 0)) from zAF (zAB w _ hM.symm) _)
 have hbR := zh (show ((w.alloc (.cells (List.replicate T (.int .i64 0)).toArray 3)).alloc (.cells (List.replicate S (.slice none 0 0)).toArray 24)).heap[R]? = some (.cells (fillL M S W 0).toArray 24 (0, 0)) from by rw [zKX]; exact zAB _ _ (by simp [hR]))
 have hO0 := zh (show Only (fun _ => False) w ((w.alloc (.cells (List.replicate T (.int .i64 0)).toArray 3)).alloc (.cells (List.replicate S (.slice none 0 0)).toArray 24)) from ((Only.refl _ w).alloc _).alloc _)
 rw [List.toArray_replicate, List.toArray_replicate] at hbM hbR hO0
 rw [<- hR, <- hM]
 have hMR := zh (And.intro hM hR)
 clear hM hR
 generalize World.alloc _ _ = W0 at hbM hbR hO0 ⊢
 go_loopw [31] (fun i wr => ∃ k : Nat, k <= S /\ i = .int .i64 k /\ Hid (wr.heap[M]? = some (.cells (Array.replicate T (Value.int .i64 0)) 3 (0, 0))) /\ Hid (wr.heap[R]? = some (.cells (fillL M S W k).toArray 24 (0, 0))) /\ Hid (Only (fun _ => False) w wr)) (fun i _ => S - (intOf i).toNat)
 case atStart => exact ⟨0, Nat.zero_le _, rfl, hbM, hbR, hO0⟩
 case round =>
  clear hbM hbR hO0
  obtain ⟨k, hk, rfl, hbM, hbR, hO⟩ := hrel
  obtain ⟨ws, hws⟩ : ∃ ws : World, ws = wr := ⟨_, rfl⟩
  subst hws
  by_cases hkS : k < S
  ·have jFr : (k : Int) < (S : Int) := by omega
   obtain ⟨a, ha⟩ : ∃ a, a = k * W := ⟨_, rfl⟩
   have haT : a + W <= T := by
    rw [hT'.out, ha]
    have := Nat.mul_le_mul_right W (show k + 1 <= S from hkS)
    rw [Nat.succ_mul] at this
    exact this
   have ham : (k : Int) * (W : Int) = (a : Int) := by rw [ha]; simp
   have ha' := zh ha
   have f0 := zAC hbR.out k
   obtain ⟨u, d0⟩ : ∃ u, ws.cell? ⟨R, k, none⟩ = some u := ⟨_, zAA hbR.out (List.getElem?_eq_getElem (show k < (fillL M S W k).length by unfold fillL; simpa using hkS))⟩
   have hnx := zh (zKW M S W k hkS)
   have jV := zh (zAE hbR.out k (rowV M W k 0))
   unfold rowV at jV hnx
   rw [<- ha] at jV hnx
   have hne := zh (show M ≠ R by have := hMR.out; omega)
   clear ha
   go_wp2
   go_roundw
   case rel =>
    refine ⟨k + 1, by omega, by go_num, zh (zAH hbM.out (by exact hne.out) _), zh ?_, zh ?_⟩
    ·rw [<- hnx.out]
     exact jV.out
    ·exact hO.out.trans ((Only.refl (fun x => x = R) ws).setCell (p := ⟨R, k, none⟩) (fun _ => rfl) _) (fun x hx e => by have := hMR.out; omega)
   case measure => simp [intOf]; omega
  ·obtain rfl : k = S := by omega
   have hall := zh (zMJ M k W)
   go_wp2
   go_ret
   refine ⟨ws.heap.size, R, M, rfl, hO.out.size, by have := hMR.out; omega, by have := hMR.out; omega, ⟨⟨hS1, hS2⟩, ⟨hW1, hW2⟩, zAB ws _ rfl, ?_, fun i hi => by simp, List.replicate T (.int .i64 0), ?_, by rw [List.length_replicate, hT'.out], fun i hi j x hx => by simp at hx⟩, hO.out.alloc _⟩
   ·rw [<- hall.out]
    exact zAF hbR.out _
   ·rw [List.toArray_replicate]
    exact zAF hbM.out _
def TwinEnd (S W : Nat) (G : Nat -> List Int) (w : World) (e : Ending) (w' : World) : Prop :=
 ∃ r R M, e = .returned (.pointer (some ⟨r, 0, none⟩)) /\ w.heap.size <= r /\ w.heap.size <= R /\ w.heap.size <= M /\ CacheAt w' r R M S W G /\ Only (fun _ => False) w w'
def part (G : Nat -> List Int) (i : Nat) : Nat -> List Int := fun k => if k < i then G k else []
theorem zMK (G : Nat -> List Int) (i : Nat) : upd (part G i) i (G i) = part G (i + 1) := by
 funext k
 unfold upd part
 by_cases h : k = i
 ·subst h
  rw [if_pos rfl, if_pos (by omega)]
 ·rw [if_neg h]
  by_cases h1 : k < i
  ·rw [if_pos h1, if_pos (by omega)]
  ·rw [if_neg h1, if_neg (by omega)]
theorem CacheAt.alike {w : World} {r R M S W : Nat} {G G' : Nat -> List Int} (h : CacheAt w r R M S W G) (hG : ∀ i, i < S -> G i = G' i) : CacheAt w r R M S W G' := by
 obtain ⟨L, hL, hl, hc⟩ := h.room
 refine ⟨h.hS, h.hW, h.root, ?_, fun i hi => by rw [<- hG i hi]; exact h.len i hi, L, hL, hl, fun i hi j x hx => hc i hi j x (by rw [hG i hi]; exact hx)⟩
 have : rowsL M S W G' = rowsL M S W G := by
  unfold rowsL
  refine List.map_congr_left (fun k hk => ?_)
  rw [hG k (List.mem_range.1 hk)]
 rw [this]
 exact h.rows
theorem zRJ {w w4 : World} {r R M S W i : Nat} {G : Nat -> List Int} {L : List Value} {g : List Int} (h : CacheAt w r R M S W G) (hi : i < S) (hg : g.length <= W) (h0 : G i = []) (hl : L.length = S * W) (hc : ∀ i, i < S -> ∀ j x, (G i)[j]? = some x -> L[i * W + j]? = some (.int .i64 x))
  (h4 : w4.heap[M]? = some (.cells (jK L (i * W) (g.map (Value.int .i64))).toArray 3 (0, 0))) (ho : Only (fun k => k = M) w w4) :
  CacheAt (w4.setCell ⟨R, i, none⟩ (rowV M W i g.length)) r R M S W (upd G i g) /\ Only (fun k => k = R ∨ k = M) w (w4.setCell ⟨R, i, none⟩ (rowV M W i g.length)) := by
 obtain ⟨n1, n2, n3⟩ := h.ne
 have hsw : i * W + W <= S * W := by
  have := Nat.mul_le_mul_right W (show i + 1 <= S from hi)
  rw [Nat.succ_mul] at this
  exact this
 have hR1 : w4.heap[R]? = some (.cells (rowsL M S W G).toArray 24 (0, 0)) := ho.heap h.rows (by exact n3)
 refine ⟨⟨h.hS, h.hW, zAH (ho.heap h.root (by exact n2)) (p := ⟨R, i, none⟩) (by exact n1) _, ?_, fun k hk => ?_, jK L (i * W) (g.map (Value.int .i64)), zAH h4 (p := ⟨R, i, none⟩) (by exact n3.symm) _, ?_, ?_⟩, ?_⟩
 ·rw [<- zJV M S W i G g hi]
  exact zAE hR1 i _
 ·unfold upd
  split
  ·exact hg
  ·exact h.len k hk
 ·rw [zAY, hl]
 ·intro k hk j x hx
  unfold upd at hx
  by_cases hki : k = i
  ·subst hki
   rw [if_pos rfl] at hx
   have hj := (List.getElem?_eq_some_iff.1 hx).1
   rw [zBC _ _ _ j (by simpa using hj) (by simp; omega), List.getElem?_map, hx]
   rfl
  ·rw [if_neg hki] at hx
   have hj : j < W := by have := (List.getElem?_eq_some_iff.1 hx).1; have := h.len k hk; omega
   rw [zA1]
   ·exact hc k hk j x hx
   ·by_cases h1 : k * W + j < i * W
    ·exact .inl h1
    ·by_cases h2 : i * W + (g.map (Value.int .i64)).length <= k * W + j
     ·exact .inr h2
     ·exfalso
      rw [List.length_map] at h2
      exact hki (zHL (k := k * W + j - i * W) hj (by omega) (by omega))
 ·exact (ho.mono (fun x _ hx => .inr hx)).setCell (p := ⟨R, i, none⟩) (fun _ => .inl rfl) _
set_option maxHeartbeats 1000000 in
theorem twin_any {w : World} {r R M S W : Nat} {G : Nat -> List Int} (h : CacheAt w r R M S W G) : Calls Tryz.prog 261 #[.pointer (some ⟨r, 0, none⟩)] w (TwinEnd S W G w) := by
 have q1 := zh (fun n => zGK (w := w.drewN n) (h.new ((Only.refl _ w).drewN n)))
 have q1b := zh (zGK h)
 have q2 := zh (fun W0 => new_any W0 S W h.hS h.hW)
 have hS1 := h.hS.1
 have hS2 := h.hS.2
 have hW1 := h.hW.1
 have hW2 := h.hW.2
 have hSz : ((S : Int) == 0) = false := by simp; omega
 have hS0 : (0 : Int) < (S : Int) := by omega
 have c0 := zAA h.root (i := 0) rfl
 have c1 := zAA h.rows (zCP M S W G 0 (by omega))
 unfold rowV at c1
 rw [Nat.zero_mul] at c1
 have h' := zh h
 clear h
 go_enter Tryz.func261, Tryz.ntmps261
 go_wp2_with (go_at_call 297; refine q1b.out.mono ?_; rintro e w' ⟨rfl, rfl⟩)
 refine zAD 9 (by kernel_rfl) (by kernel_rfl) ?_
 simp only [List.take_succ_cons, List.take_zero, List.drop_succ_cons, List.drop_zero]
 repeat (go_big_quiet_step (first | (go_at_call 297; exact (q1.out _).mono (fun _ _ h => ⟨h.1, _, h.2.symm⟩))))
 refine wpQuiet_nil ?_
 rintro _ ⟨nq, rfl⟩
 have hO0 := zh (show Only (fun _ => False) w (w.drewN nq) from (Only.refl _ w).drewN nq)
 go_wp2_with fail
 refine (q2.out _).mono ?_
 rintro e W1 ⟨r', R', M', rfl, g1, g2, g3, hC, hO1⟩
 have hW1 := zh (And.intro (hO0.out.trans' hO1) (And.intro (show w.heap.size <= r' from g1) (And.intro (show w.heap.size <= R' from g2) (show w.heap.size <= M' from g3))))
 have hC' := zh hC
 have d0 := zAA (hW1.out.1.heap h'.out.root id) (i := 0) rfl
 clear hC hO1 g1 g2 g3 c0 c1
 go_wp2
 clear d0
 go_loopw [24] (fun i wr => ∃ k : Nat, k <= S /\ i = .int .i64 k /\ Hid (CacheAt wr r' R' M' S W (part G k)) /\ Hid (Only (fun _ => False) w wr)) (fun i _ => S - (intOf i).toNat)
 case atStart => exact ⟨0, Nat.zero_le _, rfl, zh (hC'.out.alike (fun i hi => by simp [part])), zh hW1.out.1⟩
 case round =>
  clear hC'
  obtain ⟨k, hk, rfl, hC, hO⟩ := hrel
  obtain ⟨ws, hws⟩ : ∃ ws : World, ws = wr := ⟨_, rfl⟩
  subst hws
  by_cases hkS : k < S
  ·have jFr : (k : Int) < (S : Int) := by omega
   have hc := zh (h'.out.new hO.out)
   have c1 := zAA hc.out.rows (zCP M S W G k hkS)
   have d0 := zAA hC.out.root (i := 0) rfl
   have d1 := zAA hC.out.rows (zCP M' S W (part G k) k hkS)
   have hpe : part G k k = [] := by simp [part]
   rw [hpe] at d1
   unfold rowV at c1 d1
   obtain ⟨n, hn⟩ : ∃ n, n = (G k).length := ⟨_, rfl⟩
   obtain ⟨a, ha⟩ : ∃ a, a = k * W := ⟨_, rfl⟩
   have hnW : n <= W := by rw [hn]; exact hc.out.len k hkS
   rw [<- hn, <- ha] at c1
   rw [<- ha] at d1
   rw [List.length_nil] at d1
   obtain ⟨L, hL, hl, hLc⟩ := hC.out.room
   have haL : a + W <= L.length := by
    rw [hl, ha]
    have := Nat.mul_le_mul_right W (show k + 1 <= S from hkS)
    rw [Nat.succ_mul] at this
    exact this
   have g1 := zh (fun (W0 : World) (e : W0.heap = ws.heap) => show W0.heap[M']? = some (.cells L.toArray 3 (0, 0)) from by rw [e]; exact hL)
   have g2 := zh (fun (W0 : World) (e : W0.heap = ws.heap) => show ∀ j u, ((G k).map (Value.int .i64))[j]? = some u -> W0.cell? ((⟨M, a, none⟩ : Addr).add j) = some u from fun j u hu => by
    rw [cell_of_heap e, Addr.add_lit]
    rw [List.getElem?_map] at hu
    obtain ⟨x, hx, rfl⟩ := Option.map_eq_some_iff.1 hu
    rw [ha]
    exact hc.out.cell hkS hx)
   have g3 := zh (show ((G k).map (Value.int .i64)).length = n * 1 from by rw [List.length_map, hn, Nat.mul_one])
   have g4 := zh (show ∀ u ∈ (G k).map (Value.int .i64), u.oneCell' = true from fun u hu => by
    obtain ⟨x, _, rfl⟩ := List.mem_map.1 hu
    rfl)
   have g5 := zh (show a + 0 * 1 + ((G k).map (Value.int .i64)).length <= L.length from by rw [g3.out]; omega)
   have g6 := zh (fun (W0 w4 : World) (e : W0.heap = ws.heap) (ho : Only (fun k => k = M') W0 w4) => by
    have hne := hC.out.ne
    have b0 : w4.heap[r']? = _ := ho.heap (by rw [e]; exact hC.out.root) (by exact hne.2.1)
    have b1 : w4.heap[R']? = _ := ho.heap (by rw [e]; exact hC.out.rows) (by exact hne.2.2)
    exact And.intro (zAA b0 (i := 0) rfl) (And.intro (zAC b1 k) (zAA b1 (zCP M' S W (part G k) k hkS))))
   have jE := zh (show ∀ w4 : World, w4.heap[M']? = some (.cells (jK L (a + 0 * 1) ((G k).map (Value.int .i64))).toArray 3 (0, 0)) -> Only (fun k => k = M') ws.drew w4 ->
     CacheAt (w4.setCell ⟨R', k, none⟩ (.slice (some ⟨M', a, none⟩) n W)) r' R' M' S W (part G (k + 1)) /\ Only (fun _ => False) w (w4.setCell ⟨R', k, none⟩ (.slice (some ⟨M', a, none⟩) n W)) from fun w4 h4 ho => by
    rw [Nat.zero_mul, Nat.add_zero, ha] at h4
    obtain ⟨p1, p2⟩ := zRJ (g := G k) (hC.out.new ((Only.refl _ ws).drew)) hkS (hc.out.len k hkS) hpe hl hLc h4 ho
    rw [zMK] at p1
    rw [ha, hn]
    refine ⟨p1, (hO.out.drew).trans p2 (fun x hx e => ?_)⟩
    have := hW1.out.2
    rcases e with e | e <;> omega)
   clear hn ha hl hLc hpe hL
   go_wp2
   go_region_law (refine step_append_room rfl (.tmp 40) (.tmp 41) 24 rfl 3 1 Tryz.underlying24 (by kernel_rfl) M' a 0 W (by simp [Act.eval]) ⟨M, a, none⟩ n W (by simp [Act.eval]) L (g1.out _ rfl) ((G k).map (Value.int .i64)) g3.out (g2.out _ rfl) g4.out (by omega) g5.out ?_; intro w4 hw4 hO4; obtain ⟨e0, e1, e2⟩ := g6.out ws.drew w4 rfl hO4.out; have jFs := zh hw4.out)
   all_goals
    have hE := zh (jE.out w4 jFs.out hO4.out)
    go_wp2
    go_roundw
    case rel => exact ⟨k + 1, by omega, by go_num, zh hE.out.1, zh hE.out.2⟩
    case measure => simp [intOf]; omega
  ·obtain rfl : k = S := by omega
   have hal := zh (hC.out.alike (G' := G) (fun i hi => by simp [part, hi]))
   go_wp2
   go_ret
   exact ⟨r', R', M', rfl, hW1.out.2.1, hW1.out.2.2.1, hW1.out.2.2.2, hal.out, hO.out⟩
end Csh
end Go.Proofs.YtlbdjiiddofkgaaGreatDoor
namespace Go.Proofs.YtlbdjiiddofkgaaGreatDoor
namespace Krn
open Go Go.RowKit Go.Maps Ring Band
structure Rc where
 t : Int
 k : Int
 ta : Int
 jb : Int
 op : Int
 co : Int
 va : Int
def Rc.cells (r : Rc) : List Value := [.int .i64 r.t, .int .i64 r.k, .int .i64 r.ta, .int .i64 r.jb, .int .i64 r.op, .int .i64 r.co, .int .i64 r.va]
def Rc.val (r : Rc) : Value := .agg #[.int .i64 r.t, .int .i64 r.k, .int .i64 r.ta, .int .i64 r.jb, .int .i64 r.op, .int .i64 r.co, .int .i64 r.va]
def zrc : Rc := ⟨0, 0, 0, 0, 0, 0, 0⟩
theorem zJW (x : Rc) : x.cells.length = 7 := rfl
theorem zP6 (x : Rc) : ∀ u ∈ x.cells, u.oneCell' = true := by
 intro u hu
 simp only [Rc.cells, List.mem_cons, List.mem_nil_iff, or_false] at hu
 rcases hu with rfl | rfl | rfl | rfl | rfl | rfl | rfl <;> rfl
theorem zP7 : (Tryz.prog.info? 60).map (fun i => (i.zero, i.size, i.bytes)) = some (some zrc.val, 7, 56) := by kernel_rfl
structure Et where
 ta : Int
 jb : Int
 re : Int
 st : Int
 en : Int
 fa : Bool
 di : Int
 hi : Int
 mi : Int
 wi : Int
 ba : Int
 am : Int
 ac : Int
def Et.cells (x : Et) : List Value := [.int .i64 x.ta, .int .i64 x.jb, .int .i64 x.re, .int .i64 x.st, .int .i64 x.en, .bool x.fa, .int .i64 x.di, .int .i64 x.hi, .int .i64 x.mi, .int .i64 x.wi, .int .i64 x.ba, .int .i64 x.am, .int .i64 x.ac]
def Et.val (x : Et) : Value := .agg #[.int .i64 x.ta, .int .i64 x.jb, .int .i64 x.re, .int .i64 x.st, .int .i64 x.en, .bool x.fa, .int .i64 x.di, .int .i64 x.hi, .int .i64 x.mi, .int .i64 x.wi, .int .i64 x.ba, .int .i64 x.am, .int .i64 x.ac]
def zet : Et := ⟨0, 0, 0, 0, 0, false, 0, 0, 0, 0, 0, 0, 0⟩
theorem zFH (x : Et) : x.cells.length = 13 := rfl
theorem zS8 (x : Et) : ∀ u ∈ x.cells, u.oneCell' = true := by
 intro u hu
 simp only [Et.cells, List.mem_cons, List.mem_nil_iff, or_false] at hu
 rcases hu with rfl | rfl | rfl | rfl | rfl | rfl | rfl | rfl | rfl | rfl | rfl | rfl | rfl <;> rfl
theorem zRK : (Tryz.prog.info? 146).map (fun i => (i.zero, i.size, i.bytes)) = some (some zet.val, 13, 104) := by kernel_rfl
def jM (x : Jb) : Et := ⟨x.t, x.n, x.r, -1, -1, false, 0, 0, 0, 0, -1, 0, 0⟩
structure Bj where
 j : Jz
 p : Nat
 cov : Bool
structure Bm where
 b : Nat
 jb : Nat
 jo : Option Nat
def BjAt (w : World) (m : Bm) (x : Bj) : Prop := w.heap[m.b]? = some (.cells [.pointer (some ⟨m.jb, 0, none⟩), .int .i64 x.p, .bool x.cov].toArray 149 (0, 0)) /\ JbAt w m.jb m.jo x.j /\ x.j.Ok
def Bm.fp (m : Bm) (k : Nat) : Prop := k = m.b ∨ jfp m.jb m.jo k
theorem BjAt.kept {S : Nat -> Prop} {w w' : World} {m : Bm} {x : Bj} (h : BjAt w m x) (ho : Only S w w') (hS : ∀ k, m.fp k -> ¬ S k) : BjAt w' m x :=
 ⟨ho.heap h.1 (hS _ (.inl rfl)), h.2.1.kept ho (fun k hk => hS k (.inr hk)), h.2.2⟩
theorem BjAt.lt {w : World} {m : Bm} {x : Bj} (h : BjAt w m x) : ∀ k, m.fp k -> k < w.heap.size := by
 rintro k (rfl | hk)
 ·exact zAG h.1
 ·exact h.2.1.lt k hk
def PlAt (w : World) (b : Nat) (ps : List (Jb × Nat)) : Prop := ∃ es clock, w.heap[b]? = some (.map es clock) /\ es.toList.map (fun e => (e.key, e.val)) = ps.map fun p => (p.1.val, .int .i64 (p.2 : Int))
theorem PlAt.kept {S : Nat -> Prop} {w w' : World} {b : Nat} {ps : List (Jb × Nat)} (h : PlAt w b ps) (ho : Only S w w') (hS : ¬ S b) : PlAt w' b ps := by
 obtain ⟨es, c, h1, h2⟩ := h
 exact ⟨es, c, ho.heap h1 hS, h2⟩
structure KC where
 nb : Nat
 room : Nat -> Nat
 ng : Nat
 nc : Nat
 most : Nat -> Nat
 nl : Nat
 ceil : Nat -> Int
 s : Nat
 w : Nat
 h : Int
 mi : Int
 ts : List (jA × List Opn)
 li : List Int
 P : Nat -> Nat
structure KS where
 box : Nat -> List Int
 grp : Nat -> BitVec 8
 cnt : Nat -> Nat
 lkh : Nat -> Int
 lkd : Nat -> Bool
 lnm : Nat -> Bool
 lnl : Nat -> Bool
 ag : List Pil.En
 tn : Nat
 nx : Nat -> Nat
 q : Nat -> List (Jb × Nat)
 ps : List (Jb × Nat)
 jobs : List Bj
 fs : List Fr
 pk : Int
 cg : Nat -> List Int
 ents : List Et
 tr : List Rc
 now : Int
structure KM where
 B : Nat
 k : Nat
 b1 : Nat
 g1 : Nat
 r1 : Nat -> Nat
 o1 : Nat -> Option Nat
 b2 : Nat
 g2 : Nat
 b3 : Nat
 g3 : Nat
 b4 : Nat
 g4 : Nat
 ta : Sl
 tb : Option Nat
 tp : List (Option Nat)
 li : Sl
 lb : Option Nat
 b5 : Nat
 g5 : Nat
 b6 : Nat
 o6 : Option Nat
 r7 : Nat
 G7 : Nat
 s7 : Nat
 m7 : Nat
 ring : Nat -> Nat
 o7 : Nat -> Option Nat
 bits : BitVec 64
 b8 : Nat
 vj : Value
 oj : Option Nat
 js : List Bm
 b10 : Nat
 o10 : Option Nat
 r11 : Nat
 R11 : Nat
 M11 : Nat
 ve : Value
 oe : Option Nat
 vt : Value
 ot : Option Nat
def ptr (b : Nat) : Value := .pointer (some ⟨b, 0, none⟩)
def rootL (c : KC) (m : KM) (s : KS) : List Value := [ptr m.b1, ptr m.b2, ptr m.b3, ptr m.b4, .int .i64 c.s, .int .i64 c.w, .int .i64 c.h, .int .i64 c.mi, m.ta.val, m.li.val, ptr m.b5, ptr m.b6, ptr m.r7, .map (some m.b8), m.vj, ptr m.b10, ptr m.r11, m.ve, m.vt, .int .i64 s.now]
def qj (s : KS) (i : Nat) : List Jb := (s.q i).map Prod.fst
def OwnTs (w : World) (ts : List (jA × List Opn)) (tp : List (Option Nat)) : Prop := tp.length = ts.length /\ ∀ (i : Nat) t l o, ts[i]? = some (t, l) -> tp[i]? = some o -> Win w 94 3 t.o.val o l.length (jI l) /\ l.length = t.o.n
def JobsAt (w : World) (js : List Bm) (xs : List Bj) : Prop := js.length = xs.length /\ (∀ (i : Nat) m x, js[i]? = some m -> xs[i]? = some x -> BjAt w m x) /\ ∀ (i j : Nat) m n, js[i]? = some m -> js[j]? = some n -> i ≠ j -> ∀ k, m.fp k -> ¬ n.fp k
def bmV (m : Bm) : List Value := [ptr m.b]
def tkV (p : jA × List Opn) : List Value := p.1.cells
def part (c : KC) (m : KM) (s : KS) (w : World) : Nat -> Prop
 | 0 => w.heap[m.k]? = some (.cells (rootL c m s).toArray 123 (0, 0))
 | 1 => Mbx.BoxesAt w m.B m.b1 m.g1 c.nb m.r1 c.room m.o1 s.box
 | 2 => Flg.GroupsAt w m.b2 m.g2 c.ng s.grp
 | 3 => Cnt.CountsAt w m.b3 m.g3 c.nc s.cnt c.most
 | 4 => Lck.LkAt w m.b4 m.g4 c.nl c.ceil s.lkh s.lkd
 | 5 => Win w 63 7 m.ta.val m.tb c.ts.length (rowC tkV c.ts) /\ m.ta.n = c.ts.length /\ OwnTs w c.ts m.tp /\ ∀ o ∈ m.tp, o = none ∨ o ≠ m.tb
 | 6 => Win w 3 1 m.li.val m.lb c.li.length (c.li.map fun z => .int .i64 z) /\ m.li.n = c.li.length
 | 7 => Lin.LinesAt w m.b5 m.g5 c.li.length s.lnm s.lnl
 | 8 => Pil.Ag w m.b6 m.o6 s.tn s.ag
 | 9 => RdAt w m.B m.r7 m.G7 m.s7 m.m7 c.ts.length c.P s.nx m.ring m.o7 (qj s) m.bits /\ Bits c.ts.length c.P (qj s) m.bits
 | 10 => PlAt w m.b8 s.ps
 | 11 => Win w 141 1 m.vj m.oj s.jobs.length (rowC bmV m.js) /\ JobsAt w m.js s.jobs /\ ∀ (i : Nat) x, m.js[i]? = some x -> ∀ k, x.fp k -> m.oj ≠ some k
 | 12 => StAt w m.b10 m.o10 s.pk s.fs
 | 13 => Csh.CacheAt w m.r11 m.R11 m.M11 c.s c.w s.cg
 | 14 => Win w 146 13 m.ve m.oe s.ents.length (rowC Et.cells s.ents)
 | 15 => Win w 60 7 m.vt m.ot s.tr.length (rowC Rc.cells s.tr)
 | _ => True
def foot (c : KC) (m : KM) : Nat -> Nat -> Prop
 | 0, k => k = m.k
 | 1, k => Mbx.bfp m.b1 m.g1 c.nb m.r1 m.o1 k
 | 2, k => k = m.b2 ∨ k = m.g2
 | 3, k => k = m.b3 ∨ k = m.g3
 | 4, k => k = m.b4 ∨ k = m.g4
 | 5, k => m.tb = some k ∨ some k ∈ m.tp
 | 6, k => m.lb = some k
 | 7, k => k = m.b5 ∨ k = m.g5
 | 8, k => Pil.fp m.b6 m.o6 k
 | 9, k => rfp m.r7 m.G7 m.s7 m.m7 c.ts.length m.ring m.o7 k
 | 10, k => k = m.b8
 | 11, k => m.oj = some k ∨ ∃ x ∈ m.js, x.fp k
 | 12, k => ffp m.b10 m.o10 k
 | 13, k => k = m.r11 ∨ k = m.R11 ∨ k = m.M11
 | 14, k => m.oe = some k
 | 15, k => m.ot = some k
 | _, _ => False
def kfp (c : KC) (m : KM) (k : Nat) : Prop := ∃ i, foot c m i k
structure KAt (w : World) (c : KC) (m : KM) (s : KS) : Prop where
 p : ∀ i, part c m s w i
 ap : ∀ i j, i ≠ j -> ∀ k, foot c m i k -> ¬ foot c m j k
 lt : ∀ i k, foot c m i k -> k < w.heap.size /\ m.B <= k
section
variable {w w' : World} {c : KC} {m m' : KM} {s s' : KS}
theorem JobsAt.kept {S : Nat -> Prop} {js : List Bm} {xs : List Bj} (h : JobsAt w js xs) (ho : Only S w w') (hS : ∀ x ∈ js, ∀ k, x.fp k -> ¬ S k) : JobsAt w' js xs :=
 ⟨h.1, fun i m x hm hx => (h.2.1 i m x hm hx).kept ho (hS m (List.mem_of_getElem? hm)), h.2.2⟩
theorem OwnTs.kept {S : Nat -> Prop} {ts : List (jA × List Opn)} {tp : List (Option Nat)} (h : OwnTs w ts tp) (ho : Only S w w') (hS : ∀ k, some k ∈ tp -> ¬ S k) : OwnTs w' ts tp :=
 ⟨h.1, fun i t l o h1 h2 => ⟨(h.2 i t l o h1 h2).1.kept ho (fun k hk => hS k (hk ▸ List.mem_of_getElem? h2)), (h.2 i t l o h1 h2).2⟩⟩
theorem zCI {S : Nat -> Prop} (i : Nat) (h : part c m s w i) (ho : Only S w w') (hS : ∀ k, foot c m i k -> ¬ S k) : part c m s w' i := by
 match i, h, hS with
 | 0, h, hS => exact ho.heap h (hS _ rfl)
 | 1, h, hS => exact Mbx.BoxesAt.kept h ho hS
 | 2, h, hS => exact Flg.GroupsAt.kept h ho (hS _ (.inl rfl)) (hS _ (.inr rfl))
 | 3, h, hS => exact Cnt.CountsAt.kept h ho (hS _ (.inl rfl)) (hS _ (.inr rfl))
 | 4, h, hS => exact Lck.LkAt.kept h ho (hS _ (.inl rfl)) (hS _ (.inr rfl))
 | 5, h, hS => exact ⟨h.1.kept ho (fun k hk => hS k (.inl hk)), h.2.1, h.2.2.1.kept ho (fun k hk => hS k (.inr hk)), h.2.2.2⟩
 | 6, h, hS => exact ⟨h.1.kept ho hS, h.2⟩
 | 7, h, hS => exact Lin.LinesAt.kept h ho (hS _ (.inl rfl)) (hS _ (.inr rfl))
 | 8, h, hS => exact Pil.Ag.kept h ho hS
 | 9, h, hS => exact ⟨h.1.kept ho hS, h.2⟩
 | 10, h, hS => exact PlAt.kept h ho (hS _ rfl)
 | 11, h, hS => exact ⟨h.1.kept ho (fun k hk => hS k (.inl hk)), h.2.1.kept ho (fun x hx k hk => hS k (.inr ⟨x, hx, hk⟩)), h.2.2⟩
 | 12, h, hS => exact StAt.kept h ho hS
 | 13, h, hS => exact Csh.CacheAt.kept h ho (hS _ (.inl rfl)) (hS _ (.inr (.inl rfl))) (hS _ (.inr (.inr rfl)))
 | 14, h, hS => exact Win.kept h ho hS
 | 15, h, hS => exact Win.kept h ho hS
 | _ + 16, _, _ => trivial
theorem KAt.kept {S : Nat -> Prop} (h : KAt w c m s) (ho : Only S w w') (hS : ∀ k, kfp c m k -> ¬ S k) : KAt w' c m s :=
 ⟨fun i => zCI i (h.p i) ho (fun k hk => hS k ⟨i, hk⟩), h.ap, fun i k hk => ⟨Nat.lt_of_lt_of_le (h.lt i k hk).1 ho.size, (h.lt i k hk).2⟩⟩
theorem KAt.new (h : KAt w c m s) (ho : Only (fun _ => False) w w') : KAt w' c m s := h.kept ho (fun _ _ h => h)
theorem KAt.turn (h : KAt w c m s) (a : Nat) (ho : Only (fun k => k = m.k ∨ foot c m a k) w w')
  (hs : ∀ i, i ≠ 0 -> i ≠ a -> (part c m' s' w' i ↔ part c m s w' i) /\ ∀ k, foot c m' i k ↔ foot c m i k) (hk : m'.k = m.k) (hB : m'.B = m.B)
  (h0 : part c m' s' w' 0) (ha : part c m' s' w' a) (hn : ∀ k, foot c m' a k -> foot c m a k ∨ w.heap.size <= k) (hl : ∀ k, foot c m' a k -> k < w'.heap.size) : KAt w' c m' s' := by
 have hB0 : m.B <= w.heap.size := Nat.le_of_lt (Nat.lt_of_le_of_lt (h.lt 0 m.k rfl).2 (h.lt 0 m.k rfl).1)
 have hz : ∀ k, foot c m' 0 k ↔ foot c m 0 k := fun k => by show k = m'.k ↔ k = m.k; rw [hk]
 have hf : ∀ i, i ≠ a -> ∀ k, foot c m' i k ↔ foot c m i k := fun i hi k => by
  by_cases h0 : i = 0
  ·subst h0; exact hz k
  ·exact (hs i h0 hi).2 k
 refine ⟨fun i => ?_, fun i j hij k hik hjk => ?_, fun i k hk => ?_⟩
 ·by_cases hi0 : i = 0
  ·subst hi0; exact h0
  ·by_cases hia : i = a
   ·subst hia; exact ha
   ·refine (hs i hi0 hia).1.2 (zCI i (h.p i) ho fun k hk hS => ?_)
    rcases hS with rfl | hS
    ·exact h.ap i 0 hi0 _ hk rfl
    ·exact h.ap i a hia _ hk hS
 ·by_cases hia : i = a
  ·subst hia
   have jDt := (hf j (fun e => hij e.symm) k).1 hjk
   rcases hn k hik with h1 | h1
   ·exact h.ap i j hij k h1 jDt
   ·have := (h.lt j k jDt).1; omega
  ·have jAi := (hf i hia k).1 hik
   by_cases hja : j = a
   ·subst hja
    rcases hn k hjk with h1 | h1
    ·exact h.ap i j hij k jAi h1
    ·have := (h.lt i k jAi).1; omega
   ·exact h.ap i j hij k jAi ((hf j hja k).1 hjk)
 ·rw [hB]
  by_cases hia : i = a
  ·subst hia
   refine ⟨hl k hk, ?_⟩
   rcases hn k hk with h1 | h1
   ·exact (h.lt i k h1).2
   ·omega
  ·have := h.lt i k ((hf i hia k).1 hk)
   exact ⟨Nat.lt_of_lt_of_le this.1 ho.size, this.2⟩
end
