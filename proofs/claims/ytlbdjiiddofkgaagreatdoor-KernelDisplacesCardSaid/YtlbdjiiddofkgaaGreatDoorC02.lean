import Derived.Test.YtlbdjiiddofkgaaGreatDoorC01
namespace Go.Proofs.YtlbdjiiddofkgaaGreatDoor.RingI
open Go.RowKit
theorem zBZ {w : World} {r g first n i : Nat} (c0 : w.cell? ⟨r, 0, none⟩ = some (.slice (some ⟨g, 0, none⟩) n n)) (c1 : w.cell? ⟨r, 1, none⟩ = some (.int .i64 first)) (hn : 0 < n) (hm : n <= 4096) (hf : first < n) (hi : i <= 4096) :
  Calls Tryz.prog 299 #[.pointer (some ⟨r, 0, none⟩), .int .i64 i] w fun e w' => e = .returned (.int .i64 (((first + i) % n : Nat) : Int)) /\ ∃ m, w' = w.drewN m := by
 have hw : IntKind.i64.wrap ((first : Int) + (i : Int)) = (first : Int) + (i : Int) := IntWalk.i64_in _ (by omega)
 have hz : ((n : Int) == 0) = false := by simp; omega
 have hz' : ¬ (n : Int) = 0 := by omega
 go_enter Tryz.func299, Tryz.ntmps299
 go_wp2
 go_quiet (fail)
 go_wp2
 go_ret
 exact ⟨zQE (by simp), _, rfl⟩
theorem zFR {α : Type} {L q : List α} {first : Nat} (hf : first < L.length) (hq : q.length <= L.length) (h : ∀ i, i < q.length -> L[(first + i) % L.length]? = q[i]?) :
  (L.drop first).take q.length ++ L.take (q.length - (L.length - first)) = q := by
 apply List.ext_getElem?
 intro i
 by_cases hi : i < q.length
 ·rw [<- h i hi, List.getElem?_append]
  have hl : ((L.drop first).take q.length).length = min q.length (L.length - first) := by simp
  rw [hl]
  by_cases h1 : first + i < L.length
  ·rw [if_pos (by omega), List.getElem?_take, if_pos hi, List.getElem?_drop, Nat.mod_eq_of_lt h1]
  ·rw [if_neg (by omega), List.getElem?_take, if_pos (by omega), show (first + i) % L.length = i - min q.length (L.length - first) by
    rw [Nat.mod_eq_sub_mod (by omega), Nat.mod_eq_of_lt (by omega)]; omega]
 ·rw [List.getElem?_eq_none (by simp; omega), List.getElem?_eq_none (by omega)]
def Lay (h : Nat) (q : List Int) (D : List Value) (w : World) (e : Ending) (w' : World) : Prop :=
 e = .returned (.tuple #[]) /\ w'.heap[h]? = some (.cells (q.map mk ++ D.drop q.length).toArray 3 (0, 0)) /\ Only (fun k => k = h) w w'
theorem zFS {w : World} {r g h cap : Nat} {room : Nat} {q : List Int} {D : List Value} (hR : RingAt w r (some g) room q) (hD : w.heap[h]? = some (.cells D.toArray 3 (0, 0))) (hh : h ≠ g /\ h ≠ r) (hl : q.length <= D.length) (hc : q.length <= cap) (hc' : cap <= 4096) :
  Calls Tryz.prog 236 #[.pointer (some ⟨r, 0, none⟩), .slice (some ⟨h, 0, none⟩) q.length cap] w (Lay h q D w) := by
 obtain ⟨first, L, c0, c1, c2, c3, f0, f1, f2, f3, h1, h2, h3⟩ := hR.cells
 obtain ⟨hgr, hg, kV⟩ := h2 g rfl
 have hf : first < L.length := by
  rcases h3.place with h | ⟨rfl, _⟩
  ·exact h
  ·simp at kV
 have hle := h3.le
 have hm : L.length <= 4096 := Nat.le_trans h3.fits h3.most
 have wA := zFR hf hle h3.at_
 have kX : ((L.map mk).drop first).take q.length ++ ((L.map mk).drop 0).take (q.length - (L.length - first)) = q.map mk := by
  rw [<- List.map_drop, <- List.map_take, List.drop_zero, <- List.map_take, <- List.map_append, wA]
 have hLm : (L.map mk).length = L.length := by simp
 have xH : ∀ v ∈ L.map mk, v.oneCell' = true := by
  intro v hv
  obtain ⟨x, _, rfl⟩ := List.mem_map.1 hv
  rfl
 obtain ⟨n, hn⟩ : ∃ n, n = L.length := ⟨_, rfl⟩
 obtain ⟨m, hm'⟩ : ∃ m, m = q.length := ⟨_, rfl⟩
 obtain ⟨M, hM⟩ : ∃ M, M = L.map mk := ⟨_, rfl⟩
 simp only [sv] at c0
 rw [<- hn] at c0 hf hm hle kX hLm
 rw [<- hm'] at hc hl hle kX ⊢
 rw [<- hM] at hg kX hLm xH
 obtain ⟨s, hs⟩ : ∃ s, s = Nat.min (n - first) m := ⟨_, rfl⟩
 have hs1 : s <= m := by rw [hs]; exact Nat.min_le_right _ _
 have hs2 : m - (n - first) = m - s := by rw [hs]; show _ = m - min (n - first) m; omega
 rw [hs2] at kX
 obtain ⟨X, hX⟩ : ∃ X, X = (M.drop first).take m := ⟨_, rfl⟩
 obtain ⟨Y, hY⟩ : ∃ Y, Y = (M.drop 0).take (m - s) := ⟨_, rfl⟩
 have hXl : X.length = s := by rw [hX, hs]; simp [hLm]; exact Nat.min_comm _ _
 have hYl : Y.length = m - s := by rw [hY]; simp [hLm]; omega
 have hX1 : ∀ v ∈ X, v.oneCell' = true := fun v hv => xH v (List.mem_of_mem_drop (List.mem_of_mem_take (hX ▸ hv)))
 have hY1 : ∀ v ∈ Y, v.oneCell' = true := fun v hv => xH v (List.mem_of_mem_drop (List.mem_of_mem_take (hY ▸ hv)))
 rw [<- hX, <- hY] at kX
 have hend : splice (splice D 0 X) s Y = q.map mk ++ D.drop m := by
  have hXs : splice D 0 X = X ++ D.drop s := by simp [splice, hXl]
  rw [hXs, <- kX]
  unfold splice
  rw [List.take_append_of_le_length (by omega), List.take_of_length_le (by omega), List.append_assoc]
  congr 2
  rw [hYl, show s + (m - s) = m by omega, List.drop_append, hXl, List.drop_eq_nil_of_le (by omega), List.nil_append, List.drop_drop]
  congr 1
  omega
 have kY : ∀ W : World, W.heap[g]? = some (.cells M.toArray 3 (0, 0)) -> ∀ j v, X[j]? = some v -> W.cell? ((⟨g, first, none⟩ : Addr).add j) = some v := fun W hW => hX ▸ zDN hW first m
 have kZ : ∀ W : World, W.heap[g]? = some (.cells M.toArray 3 (0, 0)) -> ∀ j v, Y[j]? = some v -> W.cell? ((⟨g, 0, none⟩ : Addr).add j) = some v := fun W hW => hY ▸ zDN hW 0 (m - s)
 have hb : (first : Int) <= (n : Int) := by omega
 have hb2 : (s : Int) <= (m : Int) := by omega
 have H := zh (And.intro hs (And.intro hXl (And.intro hYl (And.intro hX1 (And.intro hY1 (And.intro hend (And.intro kY (And.intro kZ (And.intro hD hg)))))))))
 have hlD := zh (And.intro hl (And.intro hle hm'))
 have hh' := zh hh
 have jE6 := zh hgr
 clear hn hM hLm xH wA kX hX hY hX1 hY1 hend kY kZ hs hs2 hXl hYl hm' h3 h2 h1 hD hg hR c2 c3 kV hl hh hgr
 go_enter Tryz.func236, Tryz.ntmps236
 go_wp2
 refine zAD 10 (by kernel_rfl) (by kernel_rfl) ?_
 simp only [List.take_succ_cons, List.take_zero, List.drop_succ_cons, List.drop_zero]
 repeat (go_big_quiet_step (fail))
 refine wpQuiet_nil ?_
 rintro _ ⟨nq, rfl⟩
 obtain ⟨hs, hXl, hYl, hX1, hY1, hend, kY, kZ, hD, hg⟩ := H.out
 refine zBJ rfl (.tmp 5) (.tmp 14) 24 24 rfl 3 Tryz.underlying24 (by kernel_rfl) (some ⟨h, 0, none⟩) (some ⟨g, first, none⟩) m cap (n - first) (n - first) rfl rfl h 0 D 3 hD X (hXl.trans hs) (fun _ => ⟨rfl, _, rfl, kY _ hg⟩) (by have := hlD.out.1; omega) hX1 ?_
 intro w1 hw1 ho1
 rw [hXl]
 have c0' : w1.cell? ⟨r, 0, none⟩ = some (.slice (some ⟨g, 0, none⟩) n n) := ho1.cell (a := w.drewN nq) c0 (fun e => hh'.out.2 e.symm)
 have hg1 := zh (ho1.heap (a := w.drewN nq) hg (fun e => hh'.out.1 e.symm))
 have jAc := zh ho1
 clear hs hXl hYl hX1 hY1 hend kY kZ hD hg ho1 c0 c1
 by_cases xI : cap = s
 ·subst xI
  go_wp2
  refine zAD 7 (by kernel_rfl) (by kernel_rfl) ?_
  simp only [List.take_succ_cons, List.take_zero, List.drop_succ_cons, List.drop_zero]
  repeat (go_big_quiet_step (fail))
  refine wpQuiet_nil ?_
  rintro _ ⟨nq2, rfl⟩
  obtain ⟨hs, hXl, hYl, hX1, hY1, hend, kY, kZ, hD, hg⟩ := H.out
  refine zBJ rfl (.tmp 18) (.tmp 22) 24 24 rfl 3 Tryz.underlying24 (by kernel_rfl) _ (some ⟨g, 0, none⟩) _ _ n n rfl rfl h cap (splice D 0 X) 3 hw1.out Y (by rw [hYl]; show _ = min n _; omega) (fun h0 => by omega) (by rw [length_splice _ _ _ (by have := hlD.out.1; omega)]; have := hlD.out.1; omega) hY1 ?_
  intro w2 hw2 ho2
  go_wp2
  go_end0
  refine ⟨rfl, ?_, ?_⟩
  ·rw [hw2.out, hend, hlD.out.2.2]
  ·exact ((Only.refl _ w).drewN nq).trans' (jAc.out.trans' (((Only.refl _ w1).drewN nq2).trans' ho2))
 ·have jBy : (s : Int) < (cap : Int) := by omega
  go_wp2
  refine zAD 7 (by kernel_rfl) (by kernel_rfl) ?_
  simp only [List.take_succ_cons, List.take_zero, List.drop_succ_cons, List.drop_zero]
  repeat (go_big_quiet_step (fail))
  refine wpQuiet_nil ?_
  rintro _ ⟨nq2, rfl⟩
  obtain ⟨hs, hXl, hYl, hX1, hY1, hend, kY, kZ, hD, hg⟩ := H.out
  refine zBJ rfl (.tmp 18) (.tmp 22) 24 24 rfl 3 Tryz.underlying24 (by kernel_rfl) _ (some ⟨g, 0, none⟩) _ _ n n rfl rfl h s (splice D 0 X) 3 hw1.out Y (by rw [hYl]; show _ = min n _; omega) (fun _ => ⟨rfl, _, rfl, kZ _ hg1.out⟩) (by rw [length_splice _ _ _ (by have := hlD.out.1; omega)]; have := hlD.out.1; omega) hY1 ?_
  intro w2 hw2 ho2
  go_wp2
  go_end0
  refine ⟨rfl, ?_, ?_⟩
  ·rw [hw2.out, hend, hlD.out.2.2]
  ·exact ((Only.refl _ w).drewN nq).trans' (jAc.out.trans' (((Only.refl _ w1).drewN nq2).trans' ho2))
theorem zFT {w : World} {r h cap : Nat} (c0 : w.cell? ⟨r, 0, none⟩ = some (.slice none 0 0)) (c1 : w.cell? ⟨r, 1, none⟩ = some (.int .i64 0)) :
  Calls Tryz.prog 236 #[.pointer (some ⟨r, 0, none⟩), .slice (some ⟨h, 0, none⟩) 0 cap] w fun e w' => e = .returned (.tuple #[]) /\ ∃ n, w' = w.drewN n := by
 go_enter Tryz.func236, Tryz.ntmps236
 go_wp2
 refine zAD 10 (by kernel_rfl) (by kernel_rfl) ?_
 simp only [List.take_succ_cons, List.take_zero, List.drop_succ_cons, List.drop_zero]
 repeat (go_big_quiet_step (fail))
 refine wpQuiet_nil ?_
 rintro _ ⟨nq, rfl⟩
 refine wpList_copy_nothing rfl (.tmp 5) (.tmp 14) 24 24 rfl 3 Tryz.underlying24 (by kernel_rfl) _ _ _ _ _ _ rfl rfl rfl ?_
 go_wp2
 refine zAD 7 (by kernel_rfl) (by kernel_rfl) ?_
 simp only [List.take_succ_cons, List.take_zero, List.drop_succ_cons, List.drop_zero]
 repeat (go_big_quiet_step (fail))
 refine wpQuiet_nil ?_
 rintro _ ⟨nq2, rfl⟩
 refine wpList_copy_nothing rfl (.tmp 18) (.tmp 22) 24 24 rfl 3 Tryz.underlying24 (by kernel_rfl) _ _ _ _ _ _ rfl rfl rfl ?_
 go_wp2
 go_end0
 exact ⟨rfl, _, rfl⟩
theorem zNX : (Tryz.prog.info? 3).map (fun i => (i.zero, i.size, i.bytes)) = some (some (Value.int .i64 0), 1, 8) := by kernel_rfl
def Grown (w : World) (r room : Nat) (q : List Int) (e : Ending) (w' : World) : Prop :=
 e = .returned (.tuple #[]) /\ RingAt w' r (some w.heap.size) room q /\ (∃ n, q.length < n /\ w'.cell? ⟨r, 0, none⟩ = some (.slice (some ⟨w.heap.size, 0, none⟩) n n)) /\ Only (fun k => k = r) w w'
theorem zCB {w W2 : World} {r B k n room first : Nat} {o : Option Nat} {l : Nat} {q : List Int} {t : TypeId} (hn : n = q.length) (hB : B = w.heap.size) (hrB : r < B) (hk : n < k) (hk' : k <= room) (hm : room <= 4096)
  (hr : W2.heap[r]? = some (.cells #[sv o l, .int .i64 first, .int .i64 q.length, .int .i64 room] t (0, 0))) (hD : W2.heap[B]? = some (.cells (q.map mk ++ (List.replicate k (Value.int .i64 0)).drop q.length).toArray 3 (0, 0))) (ho : Only (fun x => x = r) w W2) :
  Grown w r room q (.returned (.tuple #[])) ((W2.setCell ⟨r, 0, none⟩ (.slice (some ⟨B, 0, none⟩) k k)).setCell ⟨r, 1, none⟩ (.int .i64 0)) := by
 subst hB
 subst hn
 have h1 := heap_setCell_same W2 r 0 _ t (.slice (some ⟨w.heap.size, 0, none⟩) k k) hr
 have h2 := heap_setCell_same _ r 1 _ t (.int .i64 0) h1
 have hL : (q ++ List.replicate (k - q.length) (0 : Int)).length = k := by simp; omega
 refine ⟨rfl, ⟨t, 0, q ++ List.replicate (k - q.length) (0 : Int), ?_, (fun h => by cases h), ?_, ?_⟩, ⟨k, hk, ?_⟩, ?_⟩
 ·rw [h2, hL]
  simp [sv]
 ·rintro g hg
  cases hg
  refine ⟨by omega, ?_, by omega⟩
  rw [Below.heap_setCell _ _ _ _ (by show _ ≠ r; omega), Below.heap_setCell _ _ _ _ (by show _ ≠ r; omega), hD]
  simp [mk]
 ·refine ⟨by omega, by omega, hm, .inl (by omega), fun i hi => ?_⟩
  rw [hL, Nat.zero_add, Nat.mod_eq_of_lt (by omega), List.getElem?_append_left hi]
 ·simp [World.cell?, h2]
 ·exact (ho.setCell (fun _ => rfl) _).setCell (fun _ => rfl) _
theorem zEC {w : World} {r g room : Nat} {q : List Int} (hR : RingAt w r (some g) room q) (hc : w.cell? ⟨r, 0, none⟩ = some (.slice (some ⟨g, 0, none⟩) q.length q.length)) (hlt : q.length < room) :
  Calls Tryz.prog 298 #[.pointer (some ⟨r, 0, none⟩)] w (Grown w r room q) := by
 obtain ⟨first, L, c0, c1, c2, c3, f0, f1, f2, f3, h1, h2, h3⟩ := hR.cells
 have hm := h3.most
 obtain ⟨n, hn⟩ : ∃ n, n = q.length := ⟨_, rfl⟩
 rw [<- hn] at hc hlt c2
 clear c0
 have w1 : IntKind.i64.wrap (2 * (n : Int)) = 2 * (n : Int) := IntWalk.i64_in _ (by omega)
 have w2 : IntKind.i64.wrap (2 * (n : Int) + 1) = 2 * (n : Int) + 1 := IntWalk.i64_in _ (by omega)
 obtain ⟨k, hk⟩ : ∃ k : Nat, (if (room : Int) < 2 * (n : Int) + 1 then (room : Int) else 2 * (n : Int) + 1) = (k : Int) := by
  by_cases h : (room : Int) < 2 * (n : Int) + 1
  ·exact ⟨room, by rw [if_pos h]⟩
  ·exact ⟨2 * n + 1, by rw [if_neg h]; omega⟩
 have hk1 : n < k /\ k <= room := by
  by_cases h : (room : Int) < 2 * (n : Int) + 1
  ·rw [if_pos h] at hk; omega
  ·rw [if_neg h] at hk; omega
 obtain ⟨hk2, hk3⟩ := hk1
 obtain ⟨B, hB⟩ : ∃ B, B = w.heap.size := ⟨_, rfl⟩
 have hrB : r < B := hB ▸ hR.lt r (.inl rfl)
 have hgB : g < B := hB ▸ hR.lt g (.inr rfl)
 have hn' := zh hn
 have hR' := zh hR
 have hB' := zh hB
 have h3' := zh h3
 clear hn hR h1 h2 h3 hB
 go_enter Tryz.func298, Tryz.ntmps298
 go_wp2
 refine zAD 12 (by kernel_rfl) (by kernel_rfl) ?_
 simp only [List.take_succ_cons, List.take_zero, List.drop_succ_cons, List.drop_zero]
 repeat (go_big_quiet_step (fail))
 refine wpQuiet_nil ?_
 rintro _ ⟨nq, rfl⟩
 refine zB7 rfl (.tmp 14) (.tmp 14) 24 rfl 3 (Value.int .i64 0) 8 Tryz.underlying24 zNX rfl .i64 .i64 k k k rfl rfl rfl rfl (by omega) (by omega) ?_
 have hsz : (w.drewN nq).heap.size = B := hB'.out.symm
 rw [hsz]
 have o0 : Only (fun _ => False) w ((w.drewN nq).alloc (.cells (List.replicate k (Value.int .i64 0)).toArray 3)) := ((Only.refl _ w).drewN nq).alloc _
 have hD : ((w.drewN nq).alloc (.cells (List.replicate k (Value.int .i64 0)).toArray 3)).heap[B]? = some (.cells (List.replicate k (Value.int .i64 0)).toArray 3 (0, 0)) := by rw [<- hsz]; exact heap_alloc_new _ _
 have yH : ((w.drewN nq).alloc (.cells (List.replicate k (Value.int .i64 0)).toArray 3)).heap.size = B + 1 := by rw [zAS, hsz]
 generalize ((w.drewN nq).alloc (.cells (List.replicate k (Value.int .i64 0)).toArray 3)) = W at o0 hD yH ⊢
 have hRW := hR'.out.kept o0 (fun _ _ h => h)
 have c2W := o0.cell c2 id
 have jAd := zh hRW
 have o0' := zh o0
 have hD' := zh hD
 have hsz' := zh yH
 clear hRW o0 hD yH hsz c1 c2 c3 hc f0 f1 f2 f3 w1 w2 hk
 have hk4 : (n : Int) <= (k : Int) := by omega
 have xJ := zFS (cap := k) jAd.out hD'.out ⟨by omega, by omega⟩ (by rw [List.length_replicate, <- hn'.out]; omega) (by rw [<- hn'.out]; omega) (by omega)
 rw [<- hn'.out] at xJ
 have yZ := zh xJ
 clear xJ
 go_wp2_with fail
 refine yZ.out.mono ?_
 rintro e W2 ⟨rfl, hD2, ho2⟩
 have hR2 := jAd.out.kept ho2 (by rintro x (rfl | hx) rfl <;> simp_all)
 obtain ⟨t, wU, L2, hr2, g1, g2, g3⟩ := hR2
 have c0 : W2.cell? ⟨r, 0, none⟩ = some (sv (some g) L2.length) := by simp [World.cell?, hr2]
 have c1 : W2.cell? ⟨r, 1, none⟩ = some (.int .i64 wU) := by simp [World.cell?, hr2]
 have f0 : W2.frozen? ⟨r, 0, none⟩ = false := by simp [World.frozen?, hr2]
 have f1 : W2.frozen? ⟨r, 1, none⟩ = false := by simp [World.frozen?, hr2]
 have zA := zh hr2
 have jBz := zh hD2
 have zB := zh ho2
 have g3' := zh g3
 clear hr2 hD2 ho2 g1 g2 g3 c2W
 go_wp2
 go_end0
 exact zCB hn'.out hB'.out hrB hk2 hk3 hm zA.out jBz.out ((o0'.out.mono (T := fun x => x = r) (fun _ _ h => h.elim)).trans zB.out (fun x hx e => by have := hB'.out; omega))
theorem zED {w : World} {r room : Nat} {q : List Int} (hR : RingAt w r none room q) (hlt : q.length < room) :
  Calls Tryz.prog 298 #[.pointer (some ⟨r, 0, none⟩)] w (Grown w r room q) := by
 have hrB := hR.lt r (.inl rfl)
 obtain ⟨t, first, L, hr, h1, h2, h3⟩ := hR
 obtain rfl := h1 rfl
 obtain rfl : q = [] := List.eq_nil_of_length_eq_zero (by have := h3.le; simpa using this)
 obtain rfl : first = 0 := by rcases h3.place with h | h <;> simp_all
 have hm := h3.most
 have c0 : w.cell? ⟨r, 0, none⟩ = some (.slice none 0 0) := by simp [World.cell?, hr, sv]
 have c1 : w.cell? ⟨r, 1, none⟩ = some (.int .i64 0) := by simp [World.cell?, hr]
 have c2 : w.cell? ⟨r, 2, none⟩ = some (.int .i64 0) := by simp [World.cell?, hr]
 have c3 : w.cell? ⟨r, 3, none⟩ = some (.int .i64 room) := by simp [World.cell?, hr]
 have kM : ¬ (room : Int) < 1 := by simp at hlt; omega
 obtain ⟨B, hB⟩ : ∃ B, B = w.heap.size := ⟨_, rfl⟩
 rw [<- hB] at hrB
 have hB' := zh hB
 have hr' := zh hr
 clear h1 h2 h3 hr hB
 go_enter Tryz.func298, Tryz.ntmps298
 go_wp2
 refine zAD 12 (by kernel_rfl) (by kernel_rfl) ?_
 simp only [List.take_succ_cons, List.take_zero, List.drop_succ_cons, List.drop_zero]
 repeat (go_big_quiet_step (fail))
 refine wpQuiet_nil ?_
 rintro _ ⟨nq, rfl⟩
 refine zB7 rfl (.tmp 14) (.tmp 14) 24 rfl 3 (Value.int .i64 0) 8 Tryz.underlying24 zNX rfl .i64 .i64 1 1 1 rfl rfl rfl rfl (by omega) (by omega) ?_
 have hsz : (w.drewN nq).heap.size = B := hB'.out.symm
 rw [hsz]
 have o0 : Only (fun x => x = r) w ((w.drewN nq).alloc (.cells (List.replicate 1 (Value.int .i64 0)).toArray 3)) := ((Only.refl _ w).drewN nq).alloc _
 have hD : ((w.drewN nq).alloc (.cells (List.replicate 1 (Value.int .i64 0)).toArray 3)).heap[B]? = some (.cells (List.replicate 1 (Value.int .i64 0)).toArray 3 (0, 0)) := by rw [<- hsz]; exact heap_alloc_new _ _
 have hr2 : ((w.drewN nq).alloc (.cells (List.replicate 1 (Value.int .i64 0)).toArray 3)).heap[r]? = some (.cells #[sv none 0, .int .i64 ((0 : Nat) : Int), .int .i64 (([] : List Int).length : Int), .int .i64 room] t (0, 0)) := zAF hr'.out _
 generalize ((w.drewN nq).alloc (.cells (List.replicate 1 (Value.int .i64 0)).toArray 3)) = W at o0 hD hr2 ⊢
 have d0 : W.cell? ⟨r, 0, none⟩ = some (.slice none 0 0) := by simp [World.cell?, hr2, sv]
 have d1 : W.cell? ⟨r, 1, none⟩ = some (.int .i64 0) := by simp [World.cell?, hr2]
 have d2 : W.cell? ⟨r, 2, none⟩ = some (.int .i64 0) := by simp [World.cell?, hr2]
 have f0 : W.frozen? ⟨r, 0, none⟩ = false := by simp [World.frozen?, hr2]
 have f1 : W.frozen? ⟨r, 1, none⟩ = false := by simp [World.frozen?, hr2]
 have o0' := zh o0
 have hD' := zh hD
 have zA := zh hr2
 clear o0 hD hr2 hsz c0 c1 c2 c3 kM
 go_wp2_with fail
 refine (zFT d0 d1).mono ?_
 rintro e _ ⟨rfl, m, rfl⟩
 go_wp2
 go_end0
 exact zCB (n := 0) rfl hB'.out hrB (by omega) (by simp at hlt; omega) hm (W2 := W.drewN m) zA.out hD'.out (o0'.out.drewN m)
def PutEnd (w : World) (r : Nat) (o : Option Nat) (room : Nat) (q : List Int) (x : Int) (e : Ending) (w' : World) : Prop :=
 e = .returned (.int .i64 0) /\ ∃ o', RingAt w' r o' room (q ++ [x]) /\ (o' = o ∨ o' = some w.heap.size) /\ Only (fp r o) w w'
theorem put_full {w : World} {r : Nat} {o : Option Nat} {room : Nat} {q : List Int} (hR : RingAt w r o room q) (hfull : q.length = room) (x : Int) :
  Calls Tryz.prog 268 #[.pointer (some ⟨r, 0, none⟩), mk x] w fun e w' => e = .returned (.int .i64 7) /\ ∃ n, w' = w.drewN n := by
 obtain ⟨first, L, c0, c1, c2, c3, f0, f1, f2, f3, h1, h2, h3⟩ := hR.cells
 rw [hfull] at c2
 clear h1 h2 h3 hR c0
 unfold mk
 go_enter Tryz.func268, Tryz.ntmps268
 go_wp2
 go_quiet (fail)
 go_wp2
 go_ret
 exact ⟨rfl, _, rfl⟩
theorem zEE {w : World} {r g room first n k : Nat} {q : List Int} {t : TypeId} {L : List Int} (x : Int) (hn : n = L.length) (hk : k = q.length) (hlt : k < n)
  (hr : w.heap[r]? = some (.cells #[.slice (some ⟨g, 0, none⟩) n n, .int .i64 first, .int .i64 k, .int .i64 room] t (0, 0))) (hgr : g ≠ r) (hg : w.heap[g]? = some (.cells (L.map mk).toArray 3 (0, 0))) (h3 : Laid L first room q) :
  RingAt ((w.setCell ⟨g, (first + k) % n, none⟩ (mk x)).setCell ⟨r, 2, none⟩ (.int .i64 ((k : Int) + 1))) r (some g) room (q ++ [x]) := by
 subst hn
 subst hk
 have h1 : (w.setCell ⟨g, (first + q.length) % L.length, none⟩ (mk x)).heap[r]? = _ := (Below.heap_setCell w ⟨g, (first + q.length) % L.length, none⟩ (mk x) r (fun e => hgr e.symm)).trans hr
 have h2 := heap_setCell_same _ r 2 _ t (.int .i64 ((q.length : Int) + 1)) h1
 have hg2 := zAE hg ((first + q.length) % L.length) (mk x)
 refine ⟨t, first, L.set ((first + q.length) % L.length) x, ?_, (fun h => by cases h), ?_, ?_⟩
 ·rw [h2]
  simp [sv]
 ·rintro g' hg'
  cases hg'
  refine ⟨hgr, ?_, by simp; omega⟩
  rw [Below.heap_setCell _ _ _ _ (by exact hgr), hg2]
  simp [List.map_set]
 ·have hf : first < L.length := by
   rcases h3.place with h | ⟨rfl, _⟩
   ·exact h
   ·simp at hlt
  refine ⟨by simp; omega, by simpa using h3.fits, h3.most, .inl (by simpa using hf), fun i hi => ?_⟩
  simp only [List.length_set]
  rw [List.getElem?_set]
  by_cases hiq : i = q.length
  ·subst hiq
   rw [if_pos rfl, if_pos (Nat.mod_lt _ (by omega))]
   simp
  ·have hi' : i < q.length := by simp at hi; omega
   rw [if_neg ?_, h3.at_ i hi', List.getElem?_append_left hi']
   intro he
   have e1 : (first + q.length) % L.length = if first + q.length < L.length then first + q.length else first + q.length - L.length := by
    split
    ·rw [Nat.mod_eq_of_lt (by omega)]
    ·rw [Nat.mod_eq_sub_mod (by omega), Nat.mod_eq_of_lt (by omega)]
   have e2 : (first + i) % L.length = if first + i < L.length then first + i else first + i - L.length := by
    split
    ·rw [Nat.mod_eq_of_lt (by omega)]
    ·rw [Nat.mod_eq_sub_mod (by omega), Nat.mod_eq_of_lt (by omega)]
   rw [e1, e2] at he
   split at he <;> split at he <;> omega
theorem zFU {w : World} {r g room n : Nat} {q : List Int} (hR : RingAt w r (some g) room q) (hc : w.cell? ⟨r, 0, none⟩ = some (.slice (some ⟨g, 0, none⟩) n n)) (hlt : q.length < n) (x : Int) :
  Calls Tryz.prog 268 #[.pointer (some ⟨r, 0, none⟩), mk x] w (PutEnd w r (some g) room q x) := by
 obtain ⟨t, first, L, hr, h1, h2, h3⟩ := hR
 obtain ⟨hgr, hg, kV⟩ := h2 g rfl
 have hm := h3.most
 have vL := h3.fits
 have hn : n = L.length := by
  have e : w.cell? ⟨r, 0, none⟩ = some (sv (some g) L.length) := by simp [World.cell?, hr]
  rw [hc] at e
  simpa [sv] using e
 obtain ⟨k, hk⟩ : ∃ k, k = q.length := ⟨_, rfl⟩
 simp only [sv] at hr
 rw [<- hn, <- hk] at hr
 rw [<- hk] at hlt
 rw [<- hn] at vL
 have hf : first < n := by
  rcases h3.place with h | ⟨rfl, _⟩
  ·rw [hn]; exact h
  ·simp at kV
 have c1 : w.cell? ⟨r, 1, none⟩ = some (.int .i64 first) := by simp [World.cell?, hr]
 have c2 : w.cell? ⟨r, 2, none⟩ = some (.int .i64 k) := by simp [World.cell?, hr]
 have c3 : w.cell? ⟨r, 3, none⟩ = some (.int .i64 room) := by simp [World.cell?, hr]
 have f2 : w.frozen? ⟨r, 2, none⟩ = false := by simp [World.frozen?, hr]
 have hj : (first + k) % n < n := Nat.mod_lt _ (by omega)
 obtain ⟨j, hj'⟩ : ∃ j, j = (first + k) % n := ⟨_, rfl⟩
 obtain ⟨u, hu⟩ : ∃ u, w.cell? ⟨g, j, none⟩ = some u := by
  exact ⟨(L.map mk)[j]'(by simp; omega), zAA hg (List.getElem?_eq_getElem _)⟩
 have fg : w.frozen? ⟨g, j, none⟩ = false := zAC hg _
 have kN : ∀ W : World, W.heap = w.heap -> Calls Tryz.prog 299 #[.pointer (some ⟨r, 0, none⟩), .int .i64 k] W fun e w' => e = .returned (.int .i64 (j : Int)) /\ ∃ m, w' = W.drewN m := by
  intro W hW
  rw [hj']
  exact zBZ ((cell_of_heap hW _).trans hc) ((cell_of_heap hW _).trans c1) (by omega) (by omega) hf (by omega)
 rw [<- hj'] at hj
 have hjn : (j : Int) < (n : Int) := by omega
 have hkr : ¬ (room : Int) <= (k : Int) := by omega
 have hkn : ((k : Int) == (n : Int)) = false := by simp; omega
 have hwr : IntKind.i64.wrap ((k : Int) + 1) = (k : Int) + 1 := IntWalk.i64_in _ (by omega)
 have hend := zEE x hn hk hlt (w := w) hr hgr hg h3
 rw [<- hj'] at hend
 have kO := zh hend
 have kH := zh kN
 have hrg : ¬ r = g := fun e => hgr e.symm
 have hn' := zh hn
 have hk' := zh hk
 have jB0 := zh hj'
 clear hr h1 h2 h3 hg hend kN hn hk hj'
 unfold mk
 go_enter Tryz.func268, Tryz.ntmps268
 go_wp2
 go_quiet (fail)
 go_wp2
 go_quiet (fail)
 go_wp2
 refine zAD 12 (by kernel_rfl) (by kernel_rfl) ?_
 simp only [List.take_succ_cons, List.take_zero, List.drop_succ_cons, List.drop_zero]
 repeat (go_big_quiet_step ((go_at_call 299; exact zAL (kH.out _ rfl))))
 refine wpQuiet_nil ?_
 rintro _ ⟨nq3, rfl⟩
 go_wp2
 go_ret
 refine ⟨rfl, some g, kO.out, .inl rfl, ?_⟩
 exact ((((Only.refl _ w).drewN _).setCell (fun _ => .inr rfl) _).setCell (fun _ => .inl rfl) _)
