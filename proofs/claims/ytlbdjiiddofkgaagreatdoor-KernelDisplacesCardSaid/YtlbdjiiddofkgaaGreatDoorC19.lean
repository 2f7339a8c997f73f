import Derived.Test.YtlbdjiiddofkgaaGreatDoorC18
set_option maxRecDepth 100000
namespace Go.Proofs.YtlbdjiiddofkgaaGreatDoor
open Go Go.RowKit
theorem zHF : (Tryz.prog.info? 3).map (fun i => (i.zero, i.size, i.bytes)) = some (some (Value.int .i64 0), 1, 8) := by kernel_rfl
theorem zB0 {w : World} {X : Nat} {L : List Value} {e : TypeId} (h : w.heap[X]? = some (.cells L.toArray e (0, 0))) : ∀ j u, L[j]? = some u -> w.cell? ((⟨X, 0, none⟩ : Addr).add j) = some u := fun j u hu => by
 rw [Addr.add_lit, Nat.zero_add]
 exact zAA (L := L) h hu
theorem zGE {w W w4 : World} {b2 b3 b4 : Nat} {h h4 : Option Nat} {s : NS} {v4 : Value} {a : Int} {n : Nat} (hN : NestAt w b2 b3 b4 h s) (hn : n = s.ls.length) (hW : Only (fun _ => False) w W)
  (h4w : Win w4 3 1 v4 h4 (n + 1) (s.ls.map mkI ++ [mkI a])) (h4o : Only (fun k => some k = h) W w4) (hh : h4 = h ∨ ∃ g, h4 = some g /\ W.heap.size <= g) :
  NestAt (w4.setCell ⟨b2, 0, none⟩ v4) b2 b3 b4 h4 ⟨s.r, s.ls ++ [a], s.p⟩ /\ (h4 = h ∨ ∃ g, h4 = some g /\ w.heap.size <= g) /\ Only (nfp b2 b3 b4 h) w (w4.setCell ⟨b2, 0, none⟩ v4) := by
 have hlt := hN.lt
 have hs := hW.size
 obtain ⟨v, e2, e3, e4, eW, hd, n23, n24, n34⟩ := hN.new hW
 have k2 := h4o.heap e2 (fun e => (hd b2 e.symm).1 rfl)
 have k3 := h4o.heap e3 (fun e => (hd b3 e.symm).2.1 rfl)
 have k4 := h4o.heap e4 (fun e => (hd b4 e.symm).2.2 rfl)
 have hne : ∀ k, h4 = some k -> k ≠ b2 /\ k ≠ b3 /\ k ≠ b4 := by
  rintro k rfl
  rcases hh with hh | ⟨g, hg, hge⟩
  ·exact hd k hh.symm
  ·cases hg
   have q2 := hlt b2 (.inl rfl)
   have q3 := hlt b3 (.inr (.inl rfl))
   have q4 := hlt b4 (.inr (.inr (.inl rfl)))
   omega
 have hO : Only (fun k => k = b2) w4 (w4.setCell ⟨b2, 0, none⟩ v4) := (Only.refl (fun k => k = b2) w4).setCell (p := ⟨b2, 0, none⟩) (fun _ => rfl) _
 refine ⟨⟨v4, zAE k2 0 v4, hO.heap k3 (fun e => n23 e.symm), hO.heap k4 (fun e => n24 e.symm), ?_, hne, n23, n24, n34⟩, ?_, ?_⟩
 ·simp only [List.length_append, List.map_append, List.length_cons, List.length_nil, List.map_cons, List.map_nil]
  rw [<- hn]
  exact h4w.kept hO (fun k hk e => (hne k hk).1 e)
 ·rcases hh with hh | ⟨g, hg, hge⟩
  ·exact .inl hh
  ·exact .inr ⟨g, hg, by omega⟩
 ·exact ((hW.mono (T := nfp b2 b3 b4 h) (fun _ _ h => h.elim)).trans h4o (fun k _ e => .inr (.inr (.inr e.symm)))).trans hO (fun k _ e => .inl e)
set_option maxHeartbeats 1000000 in
theorem zQ4 {w : World} {b2 b3 b4 : Nat} {h : Option Nat} {s : NS} (hN : NestAt w b2 b3 b4 h s) (hl : s.ls.length <= 100) (a b : Int) :
  Calls Tryz.prog 285 #[.agg #[.int .i64 5, .int .i64 a, .int .i64 b], .pointer (some ⟨b3, 0, none⟩), .pointer (some ⟨b2, 0, none⟩), .pointer (some ⟨b4, 0, none⟩)] w (StepEnd w b2 b3 b4 h (jO s 5 a)) := by
 have hN' := zh hN
 obtain ⟨v, h2, h3, h4, hW, hd, n23, n24, n34⟩ := hN
 obtain ⟨p0, cap, rfl, hnc, hcm⟩ := hW.form
 obtain ⟨n, hn⟩ : ∃ n, n = s.ls.length := ⟨_, rfl⟩
 rw [<- hn] at h2 hW hnc hl
 have c2 := zAA h2 (i := 0) rfl
 have l2 : b2 < w.heap.size := zAG h2
 obtain ⟨r, hr⟩ : ∃ r, r = s.r := ⟨_, rfl⟩
 obtain ⟨p, hp⟩ : ∃ p, p = s.p := ⟨_, rfl⟩
 have jC := zh (fun (W w4 : World) (hW : Only (fun _ => False) w W) (h4o : Only (fun k => some k = h) W w4) => by
  have e2 := h4o.heap (hW.heap h2 id) (fun e => (hd b2 e.symm).1 rfl)
  have e3 := h4o.heap (hW.heap h3 id) (fun e => (hd b3 e.symm).2.1 rfl)
  have e4 := h4o.heap (hW.heap h4 id) (fun e => (hd b4 e.symm).2.2 rfl)
  exact And.intro (zAA e2 (i := 0) rfl) (And.intro (zAC e2 0) (And.intro (zAA e3 (i := 0) rfl) (zAA e4 (i := 0) rfl))))
 unfold mkI at jC
 rw [<- hr, <- hp] at jC
 have m23 : b3 ≠ b2 := fun e => n23 e.symm
 have m24 : b4 ≠ b2 := fun e => n24 e.symm
 have hE := zh (And.intro hn (And.intro hr hp))
 cases hin : decide (a ∈ s.ls) with
 | true =>
  have hv := zh (zBO (s := s) (k := 5) (a := a) (by unfold jN; simp; exact of_decide_eq_true hin))
  have hc := zh (fun W (hO : Only (fun _ => False) w W) => zD3 (hW.kept hO (fun _ _ h => h)) hl a hin)
  clear h2 h3 h4 hW hd jC hin hn hr hp
  go_enter Tryz.func285, Tryz.ntmps285
  go_wp2_with (go_at_call 286; refine (hc.out _ ((Only.refl _ w).alloc _)).mono ?_; rintro e w' ⟨rfl, rfl⟩)
  go_ret
  rw [hv.out]
  exact ⟨rfl, (Only.refl (nfp b2 b3 b4 h) w).alloc _⟩
 | false =>
  have hm := zh (show jN s 5 a = some ⟨s.r, s.ls ++ [a], s.p⟩ by
   have : a ∉ s.ls := of_decide_eq_false hin
   unfold jN; simp [this])
  have hc := zh (fun W (hO : Only (fun _ => False) w W) => zD3 (hW.kept hO (fun _ _ h => h)) hl a hin)
  have hW' := zh (fun W (hO : Only (fun _ => False) w W) => hW.kept hO (fun _ _ h => h))
  clear h2 h3 h4 hW hd hin hn hr hp
  by_cases q1 : 0 <= r
  ·by_cases q2 : 0 <= p
   ·go_enter Tryz.func285, Tryz.ntmps285
    go_wp2_with (first | (go_at_call 286; refine (hc.out _ ((Only.refl _ w).alloc _)).mono ?_; rintro e w' ⟨rfl, rfl⟩) | (at_builtin; refine zAP rfl _ _ 24 rfl 3 (Value.int .i64 0) 1 8 Tryz.underlying24 zHF rfl (by decide) rfl (hW'.out _ (((Only.refl _ w).alloc _).alloc _)) _ 1 1 rfl [mkI a] rfl (fun _ => ⟨_, rfl, zB0 (zAB _ _ (by simp))⟩) (by simp [mkI, Value.oneCell']) (by unfold maxLen; omega) (by omega) ?_; intro v4 w4 h4 hW4 hO4 hh4; obtain ⟨p4, c4, rfl, _, _⟩ := hW4.out.form; obtain ⟨d2, f2, d3, d4⟩ := jC.out _ _ (((Only.refl _ w).alloc _).alloc _) hO4.out))
    go_ret
    obtain ⟨hn, hr, hp⟩ := hE.out
    have hv := zAT hm.out (by show 0 <= s.r; omega) (by show 0 <= s.p; omega)
    rw [hv]
    obtain ⟨z1, z2, z3⟩ := zGE hN'.out hn (((Only.refl _ w).alloc _).alloc _) hW4.out hO4.out hh4.out
    exact ⟨rfl, h4, z1, z2, z3⟩
   ·have q2' : p < 0 := by omega
    go_enter Tryz.func285, Tryz.ntmps285
    go_wp2_with (first | (go_at_call 286; refine (hc.out _ ((Only.refl _ w).alloc _)).mono ?_; rintro e w' ⟨rfl, rfl⟩) | (at_builtin; refine zAP rfl _ _ 24 rfl 3 (Value.int .i64 0) 1 8 Tryz.underlying24 zHF rfl (by decide) rfl (hW'.out _ (((Only.refl _ w).alloc _).alloc _)) _ 1 1 rfl [mkI a] rfl (fun _ => ⟨_, rfl, zB0 (zAB _ _ (by simp))⟩) (by simp [mkI, Value.oneCell']) (by unfold maxLen; omega) (by omega) ?_; intro v4 w4 h4 hW4 hO4 hh4; obtain ⟨p4, c4, rfl, _, _⟩ := hW4.out.form; obtain ⟨d2, f2, d3, d4⟩ := jC.out _ _ (((Only.refl _ w).alloc _).alloc _) hO4.out))
    go_ret
    obtain ⟨hn, hr, hp⟩ := hE.out
    have hv := zAN hm.out (.inr (by show s.p < 0; omega))
    rw [hv]
    obtain ⟨z1, z2, z3⟩ := zGE hN'.out hn (((Only.refl _ w).alloc _).alloc _) hW4.out hO4.out hh4.out
    exact ⟨by first | exact rfl | exact zAJ (by simp; omega), z3⟩
  ·have q1' : r < 0 := by omega
   go_enter Tryz.func285, Tryz.ntmps285
   go_wp2_with (first | (go_at_call 286; refine (hc.out _ ((Only.refl _ w).alloc _)).mono ?_; rintro e w' ⟨rfl, rfl⟩) | (at_builtin; refine zAP rfl _ _ 24 rfl 3 (Value.int .i64 0) 1 8 Tryz.underlying24 zHF rfl (by decide) rfl (hW'.out _ (((Only.refl _ w).alloc _).alloc _)) _ 1 1 rfl [mkI a] rfl (fun _ => ⟨_, rfl, zB0 (zAB _ _ (by simp))⟩) (by simp [mkI, Value.oneCell']) (by unfold maxLen; omega) (by omega) ?_; intro v4 w4 h4 hW4 hO4 hh4; obtain ⟨p4, c4, rfl, _, _⟩ := hW4.out.form; obtain ⟨d2, f2, d3, d4⟩ := jC.out _ _ (((Only.refl _ w).alloc _).alloc _) hO4.out))
   go_ret
   obtain ⟨hn, hr, hp⟩ := hE.out
   have hv := zAN hm.out (.inl (by show s.r < 0; omega))
   rw [hv]
   obtain ⟨z1, z2, z3⟩ := zGE hN'.out hn (((Only.refl _ w).alloc _).alloc _) hW4.out hO4.out hh4.out
   exact ⟨by first | exact rfl | exact zAJ (by simp; omega), z3⟩
theorem zKM {w W : World} {b2 b3 b4 m cap : Nat} {h : Option Nat} {s : NS} {ls : List Int} {x : Int} {p0 : Option Addr} (hN : NestAt w b2 b3 b4 h s) (hls : s.ls = ls ++ [x]) (hm : ls.length = m) (hW : Only (fun _ => False) w W) (c2 : w.cell? ⟨b2, 0, none⟩ = some (.slice p0 (m + 1) cap)) :
  NestAt (W.setCell ⟨b2, 0, none⟩ (.slice p0 m cap)) b2 b3 b4 h ⟨s.r, ls, s.p⟩ /\ Only (nfp b2 b3 b4 h) w (W.setCell ⟨b2, 0, none⟩ (.slice p0 m cap)) := by
 obtain ⟨v, e2, e3, e4, eW, hd, n23, n24, n34⟩ := hN
 have hv : v = .slice p0 (m + 1) cap := by
  have := zAA e2 (i := 0) (v := v) rfl
  rw [this] at c2
  exact Option.some.inj c2
 subst hv
 have hO : Only (fun k => k = b2) W (W.setCell ⟨b2, 0, none⟩ (.slice p0 m cap)) := (Only.refl (fun k => k = b2) W).setCell (p := ⟨b2, 0, none⟩) (fun _ => rfl) _
 have hlen : s.ls.length = m + 1 := by rw [hls]; simp [hm]
 rw [hlen] at eW
 have ht := eW.take (k := m) (by omega)
 rw [hls, List.map_append, List.take_left' (by simp [hm])] at ht
 refine ⟨⟨_, zAE (hW.heap e2 id) 0 _, hO.heap (hW.heap e3 id) (fun e => n23 e.symm), hO.heap (hW.heap e4 id) (fun e => n24 e.symm), ?_, hd, n23, n24, n34⟩, ?_⟩
 ·subst hm
  exact (ht.kept hW (fun _ _ h => h)).kept hO (fun k hk e => (hd k hk).1 e)
 ·exact (hW.mono (T := nfp b2 b3 b4 h) (fun _ _ h => h.elim)).trans hO (fun k _ e => .inl e)
set_option maxHeartbeats 1000000 in
theorem zQ5 {w : World} {b2 b3 b4 : Nat} {h : Option Nat} {s : NS} (hN : NestAt w b2 b3 b4 h s) (hl : s.ls.length <= 100) (a b : Int) :
  Calls Tryz.prog 285 #[.agg #[.int .i64 6, .int .i64 a, .int .i64 b], .pointer (some ⟨b3, 0, none⟩), .pointer (some ⟨b2, 0, none⟩), .pointer (some ⟨b4, 0, none⟩)] w (StepEnd w b2 b3 b4 h (jO s 6 a)) := by
 have hN' := zh hN
 obtain ⟨v, h2, h3, h4, hW, hd, n23, n24, n34⟩ := hN
 obtain ⟨p0, cap, rfl, hnc, hcm⟩ := hW.form
 obtain ⟨n, hn⟩ : ∃ n, n = s.ls.length := ⟨_, rfl⟩
 rw [<- hn] at h2 hW hnc hl
 have c2 := zAA h2 (i := 0) rfl
 have f2 := zAC h2 0
 have c3 := zAA h3 (i := 0) rfl
 have c4 := zAA h4 (i := 0) rfl
 unfold mkI at c3 c4
 have l2 : b2 < w.heap.size := zAG h2
 have l3 : b3 < w.heap.size := zAG h3
 have l4 : b4 < w.heap.size := zAG h4
 obtain ⟨r, hr⟩ : ∃ r, r = s.r := ⟨_, rfl⟩
 obtain ⟨p, hp⟩ : ∃ p, p = s.p := ⟨_, rfl⟩
 rw [<- hr] at c3
 rw [<- hp] at c4
 have m23 : b3 ≠ b2 := fun e => n23 e.symm
 have m24 : b4 ≠ b2 := fun e => n24 e.symm
 have hE := zh (And.intro hr hp)
 rcases List.eq_nil_or_concat s.ls with hnil | ⟨ls, x, hls⟩
 ·have hv := zh (zBO (s := s) (k := 6) (a := a) (by unfold jN; simp [hnil]))
  have hn0 : n = 0 := by rw [hn, hnil]; rfl
  subst hn0
  clear h2 h3 h4 hW hd hnil hr hp hn
  go_enter Tryz.func285, Tryz.ntmps285
  go_wp2
  go_quiet (fail)
  go_wp2
  go_ret
  rw [hv.out]
  exact ⟨rfl, ((Only.refl (nfp b2 b3 b4 h) w).alloc _).drewN _⟩
 ·rw [List.concat_eq_append] at hls
  obtain ⟨m, hm⟩ : ∃ m, ls.length = m := ⟨_, rfl⟩
  have hnm : n = m + 1 := by rw [hn, hls]; simp [hm]
  obtain ⟨g, off, cap', ho, hv, _, _, hg, hc, _⟩ := hW.at_ (by omega)
  cases hv
  have x0 : w.cell? ⟨g, off + m, none⟩ = some (.int .i64 x) := by
   refine hc m _ ?_
   rw [hls, List.map_append, List.getElem?_append_right (by simp [hm])]
   simp [hm, mkI]
  have hL1 : (n : Int) - 1 = (m : Int) := by omega
  have hm0 : (0 : Int) <= (m : Int) := by omega
  have hm1 : (m : Int) < (n : Int) := by omega
  have hm2 : (m : Int) <= (cap : Int) := by omega
  have hm3 : m <= 100 := by omega
  have hmd : decide ((m : Int) < 0) = false := by simp
  by_cases hxa : x = a
  ·have e1 : (x == a) = true := by simpa using hxa
   have e2 : (x != a) = false := by simpa using hxa
   have hmv := zh (show jN s 6 a = some ⟨s.r, ls, s.p⟩ by unfold jN; simp [hls, hxa])
   have hend := zh (fun W (hO : Only (fun _ => False) w W) => zKM (W := W) (p0 := some ⟨g, off, none⟩) (cap := cap) hN'.out hls hm hO (by rw [<- hnm]; exact c2))
   clear h2 h3 h4 hW hd hr hp hc hls hnm hm hn ho hxa hnc
   by_cases q1 : 0 <= r
   ·by_cases q2 : 0 <= p
    ·go_enter Tryz.func285, Tryz.ntmps285
     go_wp2
     go_quiet (fail)
     go_wp2
     go_ret
     obtain ⟨hr, hp⟩ := hE.out
     have hv := zAT hmv.out (by show 0 <= s.r; omega) (by show 0 <= s.p; omega)
     rw [hv]
     obtain ⟨z1, z3⟩ := hend.out _ (((Only.refl _ w).alloc _).drewN nq)
     exact ⟨rfl, h, z1, .inl rfl, z3⟩
    ·have q2' : p < 0 := by omega
     go_enter Tryz.func285, Tryz.ntmps285
     go_wp2
     go_quiet (fail)
     go_wp2
     go_ret
     obtain ⟨hr, hp⟩ := hE.out
     have hv := zAN hmv.out (.inr (by show s.p < 0; omega))
     rw [hv]
     obtain ⟨z1, z3⟩ := hend.out _ (((Only.refl _ w).alloc _).drewN nq)
     exact ⟨by first | exact rfl | exact zAJ (by simp; omega), z3⟩
   ·have q1' : r < 0 := by omega
    go_enter Tryz.func285, Tryz.ntmps285
    go_wp2
    go_quiet (fail)
    go_wp2
    go_ret
    obtain ⟨hr, hp⟩ := hE.out
    have hv := zAN hmv.out (.inl (by show s.r < 0; omega))
    rw [hv]
    obtain ⟨z1, z3⟩ := hend.out _ (((Only.refl _ w).alloc _).drewN nq)
    exact ⟨by first | exact rfl | exact zAJ (by simp; omega), z3⟩
  ·have e1 : (x == a) = false := by simpa using hxa
   have e2 : (x != a) = true := by simpa using hxa
   have hv := zh (zBO (s := s) (k := 6) (a := a) (by unfold jN; simp [hls, hxa]))
   clear h2 h3 h4 hW hd hr hp hc hls hnm hm hn ho hxa hnc
   go_enter Tryz.func285, Tryz.ntmps285
   go_wp2
   go_quiet (fail)
   go_wp2
   go_ret
   rw [hv.out]
   exact ⟨rfl, ((Only.refl (nfp b2 b3 b4 h) w).alloc _).drewN _⟩
theorem zLZ {w : World} {b2 b3 b4 : Nat} {h : Option Nat} {s : NS} (hN : NestAt w b2 b3 b4 h s) (hl : s.ls.length <= 100) (hr : -1000 <= s.r /\ s.r <= 1000) (hp : -1000000 <= s.p /\ s.p <= 1000000) (o : Opn) (hk : ¬ (o.k < 1 ∨ 15 < o.k)) (ha : 0 <= o.a /\ o.a <= 5000) :
  Calls Tryz.prog 285 #[o.val, .pointer (some ⟨b3, 0, none⟩), .pointer (some ⟨b2, 0, none⟩), .pointer (some ⟨b4, 0, none⟩)] w (StepEnd w b2 b3 b4 h (jO s o.k o.a)) := by
 obtain ⟨k, a, b⟩ := o
 rcases kinds hk with e | e | e | e | e | e | e | e | e | e | e | e | e | e | e
 all_goals
  simp only at e ha
  subst e
 ·exact zQ1 hN hr hp a b ha
 ·exact zQ2 hN hr hp a b ha
 ·exact zQX hN hr hp a b ha
 ·exact zQY hN hr hp a b ha
 ·exact zQ4 hN hl a b
 ·exact zQ5 hN hl a b
 ·exact zQZ hN hr hp a b ha
 ·exact zQ0 hN hr hp a b ha
 ·exact zQ3 hN hr hp a b ha
 ·exact zOM hN hr hp a b ha
 ·exact zON hN hr hp a b ha
 ·exact zOO hN hr hp a b ha
 ·exact zOP hN hr hp a b ha
 ·exact zOQ hN hr hp a b ha
 ·exact zOR hN hr hp a b ha
def doneB (s : NS) : Bool := decide (s.r = 0) && decide (s.ls = [])
theorem zKN {w : World} {b2 b3 b4 : Nat} {h : Option Nat} {s : NS} (hN : NestAt w b2 b3 b4 h s) (hl : s.ls.length <= 100) : Calls Tryz.prog 287 #[.pointer (some ⟨b3, 0, none⟩), .pointer (some ⟨b2, 0, none⟩)] w (RetB (doneB s) w) := by
 obtain ⟨v, h2, h3, h4, hW, hd, n23, n24, n34⟩ := hN
 obtain ⟨p0, cap, rfl, hnc, hcm⟩ := hW.form
 obtain ⟨n, hn⟩ : ∃ n, n = s.ls.length := ⟨_, rfl⟩
 obtain ⟨r, hr⟩ : ∃ r, r = s.r := ⟨_, rfl⟩
 have c2 := zAA h2 (i := 0) rfl
 have c3 := zAA h3 (i := 0) rfl
 unfold mkI at c3
 rw [<- hn] at c2 hl
 rw [<- hr] at c3
 have hz : decide (s.ls = []) = decide (n = 0) := by
  rw [hn]
  exact decide_eq_decide.2 ⟨fun h => by rw [h]; rfl, fun h => List.eq_nil_of_length_eq_zero h⟩
 by_cases q : r = 0
 ·by_cases q2 : n = 0
  ·have hv := zh (show true = doneB s by unfold doneB; rw [hz, <- hr]; simp [q, q2])
   subst q
   subst q2
   clear h2 h3 h4 hW hd hnc hn hr hz
   go_enter Tryz.func287, Tryz.ntmps287
   go_wp2
   go_ret
   exact ⟨zAJ hv.out, rfl⟩
  ·have hv := zh (show false = doneB s by unfold doneB; rw [hz, <- hr]; simp [q2])
   have q3 : ((n : Int) == 0) = false := by simpa using q2
   subst q
   clear h2 h3 h4 hW hd hnc hn hr hz q2
   go_enter Tryz.func287, Tryz.ntmps287
   go_wp2
   go_ret
   exact ⟨zAJ hv.out, rfl⟩
 ·have hv := zh (show false = doneB s by unfold doneB; rw [hz, <- hr]; simp [q])
  have q3 : (r == 0) = false := by simpa using q
  clear h2 h3 h4 hW hd hnc hn hr hz q
  go_enter Tryz.func287, Tryz.ntmps287
  go_wp2
  go_ret
  exact ⟨zAJ hv.out, rfl⟩
def NestingEnd (w : World) (e : Ending) (w' : World) : Prop :=
 ∃ b2 b3 b4, e = .returned (.tuple #[.func (.func 285) #[] #[.pointer (some ⟨b3, 0, none⟩), .pointer (some ⟨b2, 0, none⟩), .pointer (some ⟨b4, 0, none⟩)], .func (.func 287) #[] #[.pointer (some ⟨b3, 0, none⟩), .pointer (some ⟨b2, 0, none⟩)]]) /\
  NestAt w' b2 b3 b4 none ns0 /\ w.heap.size <= b2 /\ w.heap.size <= b3 /\ w.heap.size <= b4 /\ Only (fun _ => False) w w'
theorem zIM (w : World) : Calls Tryz.prog 247 #[] w (NestingEnd w) := by
 have hmf : ∀ (fn : Fn) (first cap : Array Value) (w : World), (Instr.makeFunc fn first cap).run Tryz.prog w = .ok (.func fn first cap) w := fun _ _ _ _ => rfl
 go_enter Tryz.func247, Tryz.ntmps247
 go_wp2
 go_ret2
 refine ⟨w.heap.size, w.heap.size + 1, w.heap.size + 1 + 1, rfl, ⟨.slice none 0 0, zAF (zAF (zAB _ _ rfl) _) _, zAF (zAB _ _ (by simp)) _, zAB _ _ (by simp), Win.nil _ _ _, (fun k hk => by cases hk), by omega, by omega, by omega⟩, by omega, by omega, by omega, (((Only.refl _ w).alloc _).alloc _).alloc _⟩
def vI : List Opn -> NS -> jF -> Int
 | [], s, _ => if doneB s = true then 0 else 9
 | o :: l, s, r => if opZ o r = 0 then (match jO s o.k o.a with
   | none => 9
   | some t => vI l t r) else opZ o r
def checkZ (l : List Opn) (r : jF) : Int := if l.length = 0 then 1 else if 64 < l.length then 4 else vI l ns0 r
theorem zQ6 {lo hi a : Int} : inB lo hi a = true ↔ lo <= a /\ a <= hi := by unfold inB; simp
theorem zD8 {o : Opn} {r : jF} (hr : r.ok) (h : opZ o r = 0) : ¬ (o.k < 1 ∨ 15 < o.k) /\ 0 <= o.a /\ o.a <= 5000 := by
 unfold opZ at h
 by_cases hk : o.k < 1 ∨ 15 < o.k
 ·rw [if_pos hk] at h
  cases h
 ·rw [if_neg hk] at h
  refine ⟨hk, ?_⟩
  unfold opV at h
  by_cases hc : inB (loA o.k.toNat) (hiA o.k.toNat r) o.a = true /\ inB 0 (hiB o.k.toNat) o.b = true
  ·have := zQ6.1 hc.1
   obtain ⟨⟨m1, m2⟩, ⟨g1, g2⟩, ⟨c1, c2⟩, l1, l2⟩ := hr
   rcases kinds hk with e | e | e | e | e | e | e | e | e | e | e | e | e | e | e
   all_goals
    rw [e] at this
    simp [loA, hiA] at this
    omega
  ·rw [if_neg hc] at h
   cases h
theorem zEL {s t : NS} {k a : Int} (h : jO s k a = some t) (ha : 0 <= a /\ a <= 5000) : (t.r <= s.r + 1 /\ s.r - 1 <= t.r) /\ (t.p <= s.p + 5000 /\ s.p - 5000 <= t.p) /\ t.ls.length <= s.ls.length + 1 := by
 unfold jO at h
 split at h
 ·cases h
 ·rename_i t' ht'
  split at h
  ·cases h
   unfold jN at ht'
   split at ht'
   ·cases ht'; refine ⟨⟨?_, ?_⟩, ⟨?_, ?_⟩, ?_⟩ <;> simp only <;> omega
   split at ht'
   ·cases ht'; refine ⟨⟨?_, ?_⟩, ⟨?_, ?_⟩, ?_⟩ <;> simp only <;> omega
   split at ht'
   ·split at ht'
    ·cases ht'
    ·cases ht'; refine ⟨⟨?_, ?_⟩, ⟨?_, ?_⟩, ?_⟩ <;> simp
     all_goals omega
   split at ht'
   ·split at ht'
    ·cases ht'; refine ⟨⟨?_, ?_⟩, ⟨?_, ?_⟩, ?_⟩ <;> simp
     all_goals omega
    ·cases ht'
   split at ht'
   ·cases ht'; refine ⟨⟨?_, ?_⟩, ⟨?_, ?_⟩, ?_⟩ <;> simp only <;> omega
   split at ht'
   ·cases ht'; refine ⟨⟨?_, ?_⟩, ⟨?_, ?_⟩, ?_⟩ <;> simp only <;> omega
   ·cases ht'; refine ⟨⟨?_, ?_⟩, ⟨?_, ?_⟩, ?_⟩ <;> omega
  ·cases h
def OpnCells (w : World) (g off : Nat) (x : Opn) : Prop :=
 w.cell? ⟨g, off, none⟩ = some (.int .i64 x.k) /\ w.cell? ⟨g, off + 1, none⟩ = some (.int .i64 x.a) /\ w.cell? ⟨g, off + 2, none⟩ = some (.int .i64 x.b)
def OpnRow (w : World) (A : Option Addr) (l : List Opn) : Prop :=
 ∀ k x, l[k]? = some x -> ∃ b off, A = some ⟨b, off, none⟩ /\ b < w.heap.size /\ OpnCells w b (off + k * 3) x
theorem OpnRow.only {S : Nat -> Prop} {w w' : World} {A : Option Addr} {l : List Opn} (h : OpnRow w A l) (ho : Only S w w') (hS : ∀ k, S k -> w.heap.size <= k) : OpnRow w' A l := fun k x hx => by
 obtain ⟨b, off, rfl, hb, h0, h1, h2⟩ := h k x hx
 have hn : ¬ S b := fun hs => by have := hS b hs; omega
 exact ⟨b, off, rfl, Nat.lt_of_lt_of_le hb ho.size, ho.cell h0 hn, ho.cell h1 hn, ho.cell h2 hn⟩
theorem OpnRow.new {w w' : World} {A : Option Addr} {l : List Opn} (h : OpnRow w A l) (ho : Only (fun _ => False) w w') : OpnRow w' A l := h.only ho (fun _ h => h.elim)
def CkRel (w : World) (b2 b3 b4 : Nat) (l : List Opn) (r : jF) (k : Nat) (w' : World) : Prop :=
 ∃ h s, NestAt w' b2 b3 b4 h s /\ vI l ns0 r = vI (l.drop k) s r /\ (-(k : Int) <= s.r /\ s.r <= k) /\ (-(5000 * (k : Int)) <= s.p /\ s.p <= 5000 * (k : Int)) /\ s.ls.length <= k /\ (∀ g, h = some g -> w.heap.size < g) /\ Only (fun _ => False) w w'
theorem zL0 {l : List Opn} {k : Nat} {x : Opn} {s : NS} {r : jF} (hx : l[k]? = some x) (hz : opZ x r ≠ 0) : vI (l.drop k) s r = opZ x r := by
 obtain ⟨hk, rfl⟩ := List.getElem?_eq_some_iff.1 hx
 rw [List.drop_eq_getElem_cons hk, vI, if_neg hz]
theorem zD9 {l : List Opn} {k : Nat} {x : Opn} {s : NS} {r : jF} (hx : l[k]? = some x) (hz : opZ x r = 0) : vI (l.drop k) s r = match jO s x.k x.a with
  | none => 9
  | some t => vI (l.drop (k + 1)) t r := by
 obtain ⟨hk, rfl⟩ := List.getElem?_eq_some_iff.1 hx
 rw [List.drop_eq_getElem_cons hk, vI, if_pos hz] <;> rfl
theorem zL1 (w : World) (A : Option Addr) (n cap : Nat) (r : jF) (h : n = 0 ∨ 64 < n) : Calls Tryz.prog 202 #[.slice A n cap, r.val] w (GrowI (if n = 0 then 1 else 4) w) := by
 unfold jF.val
 by_cases h0 : n = 0
 ·have hv := zh (show (1 : Int) = (if n = 0 then 1 else 4) by rw [if_pos h0])
  obtain ⟨v, hvv⟩ : ∃ v : Int, v = (if n = 0 then 1 else 4) := ⟨_, rfl⟩
  rw [<- hvv] at hv ⊢
  subst h0
  clear h hvv
  go_enter Tryz.func202, Tryz.ntmps202
  go_wp2
  go_ret
  exact ⟨zAI hv.out, (Only.refl _ w).alloc _⟩
 ·have h1 : 64 < n := by omega
  have hv := zh (show (4 : Int) = (if n = 0 then 1 else 4) by rw [if_neg h0])
  obtain ⟨v, hvv⟩ : ∃ v : Int, v = (if n = 0 then 1 else 4) := ⟨_, rfl⟩
  rw [<- hvv] at hv ⊢
  have h2 : (64 : Int) < (n : Int) := by omega
  have h3 : ((n : Int) == 0) = false := by simpa using h0
  clear h hvv
  go_enter Tryz.func202, Tryz.ntmps202
  go_wp2
  go_ret
  exact ⟨zAI hv.out, (Only.refl _ w).alloc _⟩
set_option maxHeartbeats 2000000 in
theorem zKO {w : World} (hw : Words w) {A : Option Addr} {n cap : Nat} {l : List Opn} (hl : OpnRow w A l) (hn : l.length = n) (r : jF) (hr : r.ok) (h0 : n ≠ 0) (h1 : n <= 64) : Calls Tryz.prog 202 #[.slice A n cap, r.val] w (GrowI (vI l ns0 r) w) := by
 have hw' := zh hw
 have hl' := zh hl
 have hn' := zh hn
 have hr' := zh hr
 have h2 : ¬ (64 : Int) < (n : Int) := by omega
 have h3 : ((n : Int) == 0) = false := by simpa using h0
 have hrv := zh (show r.val = .agg #[.int .i64 r.m, .int .i64 r.g, .int .i64 r.c, .int .i64 r.l] from rfl)
 rw [hrv.out]
 clear hw hl hn hr h0
 go_enter Tryz.func202, Tryz.ntmps202
 go_wp2_with fail
 refine (zIM _).mono ?_
 rintro e w1 ⟨b2, b3, b4, rfl, hN, g2, g3, g4, hO1⟩
 have vB := zh hO1
 have hst := zh (show CkRel w b2 b3 b4 l r 0 w1 from ⟨none, ns0, hN, rfl, by simp [ns0], by simp [ns0], by simp [ns0], (fun g hg => by cases hg), ((Only.refl _ w).alloc _).trans' hO1⟩)
 have wJ := zh (show w1.heap[w.heap.size]? = some (.cells [.int .i64 r.m, .int .i64 r.g, .int .i64 r.c, .int .i64 r.l].toArray 300 (0, 0)) from hO1.heap (zAB _ _ rfl) id)
 have hg := zh (show w.heap.size < b2 /\ w.heap.size < b3 /\ w.heap.size < b4 from by
  rw [zAS] at g2 g3 g4
  omega)
 clear hN g2 g3 g4 hO1
 go_wp2
 go_loopw [24] (fun i wr => ∃ k : Nat, k <= n /\ i = .int .i64 k /\ CkRel w b2 b3 b4 l r k wr /\ wr.heap[w.heap.size]? = some (.cells [.int .i64 r.m, .int .i64 r.g, .int .i64 r.c, .int .i64 r.l].toArray 300 (0, 0))) (fun i _ => n - (intOf i).toNat)
 case atStart => exact ⟨0, Nat.zero_le _, rfl, hst.out, wJ.out⟩
 case round =>
  obtain ⟨k, hk, rfl, hrel, hbx⟩ := hrel
  obtain ⟨ws, hws⟩ : ∃ ws : World, ws = wr := ⟨_, rfl⟩
  subst hws
  obtain ⟨h, s, hN, hrun, hsr, hsp, hsl, hh, hO⟩ := hrel
  by_cases hkn : k < n
  ·have vR : (k : Int) < (n : Int) := by omega
   obtain ⟨x, hx⟩ : ∃ x, l[k]? = some x := ⟨l[k]'(by have := hn'.out; omega), List.getElem?_eq_getElem _⟩
   obtain ⟨bb, off, hA, hbb, q0, q1, q2⟩ := (hl'.out.new hO) k x hx
   subst hA
   have r0 := zAA hbx (i := 0) rfl
   have r1 := zAA hbx (i := 1) rfl
   have r2 := zAA hbx (i := 2) rfl
   have r3 := zAA hbx (i := 3) rfl
   have lsz : w.heap.size < ws.heap.size := zAG hbx
   have hop := zh (fun W (hW : Only (fun _ => False) ws W) => zSV (hw'.out.new (hO.trans' hW)) x r hr'.out)
   rw [hrv.out] at hop
   rw [show x.val = .agg #[.int .i64 x.k, .int .i64 x.a, .int .i64 x.b] from rfl] at hop
   have hS := zh (And.intro hN (And.intro hrun (And.intro hsr (And.intro hsp (And.intro hsl (And.intro hh (And.intro hO (And.intro hx hbx))))))))
   by_cases hz : opZ x r = 0
   ·have hz' := zh hz
    have hne : ∀ z : Int, z = opZ x r -> (z != 0) = false := fun z e => by simp [e, hz]
    rw [hz] at hop
    have kW := zh (fun W (hW : Only (fun _ => False) ws W) => zLZ (hN.new hW) (by omega) (by omega) (by omega) x (zD8 hr'.out hz).1 (zD8 hr'.out hz).2)
    rw [show x.val = .agg #[.int .i64 x.k, .int .i64 x.a, .int .i64 x.b] from rfl] at kW
    clear hN hrun hsr hsp hsl hh hO hx hbx hz hne
    go_wp2_with fail
    refine (hop.out _ ((Only.refl _ ws).alloc _)).mono ?_
    rintro e W2 ⟨rfl, hO2⟩
    have hblk := hO2.heap (zAB ws (.cells [.int .i64 x.k, .int .i64 x.a, .int .i64 x.b].toArray 94) rfl) id
    have z0 := zAA hblk (i := 0) rfl
    have z1 := zAA hblk (i := 1) rfl
    have z2 := zAA hblk (i := 2) rfl
    have kC := zh (((Only.refl (fun _ => False) ws).alloc (.cells [.int .i64 x.k, .int .i64 x.a, .int .i64 x.b].toArray 94)).trans' hO2)
    clear hO2 hblk q0 q1 q2 r0 r1 r2 r3
    cases hstep : jO s x.k x.a with
    | none =>
     have hnv := zh (kW.out W2 kC.out)
     rw [hstep] at hnv
     have vC := zh hstep
     clear hstep
     go_wp2_with fail
     refine hnv.out.mono ?_
     rintro e W3 ⟨rfl, hO3⟩
     have vT := zh hO3
     clear hO3
     go_wp2
     go_ret
     obtain ⟨hN, hrun, hsr, hsp, hsl, hh, hO, hx, hbx⟩ := hS.out
     refine ⟨zAI (by rw [hrun, zD9 hx hz'.out, vC.out]), (hO.trans' kC.out).trans vT.out (fun y hy e => ?_)⟩
     have hgg := hg.out
     rcases e with rfl | rfl | rfl | e
     ·omega
     ·omega
     ·omega
     ·have := hh y e; omega
    | some t =>
     have hnv := zh (kW.out W2 kC.out)
     rw [hstep] at hnv
     have vC := zh hstep
     clear hstep
     go_wp2_with fail
     refine hnv.out.mono ?_
     rintro e W3 ⟨rfl, h', hN3, hh3, hO3⟩
     have vT := zh (And.intro hN3 (And.intro hh3 hO3))
     clear hO3 hN3 hh3
     go_wp2
     go_roundw
     case rel =>
      obtain ⟨hN, hrun, hsr, hsp, hsl, hh, hO, hx, hbx⟩ := hS.out
      obtain ⟨hN3, hh3, hO3⟩ := vT.out
      have hgg := hg.out
      obtain ⟨y1, y2, y3⟩ := zEL vC.out (zD8 hr'.out hz'.out).2
      have hno : ∀ y, nfp b2 b3 b4 h y -> w.heap.size < y := by
       rintro y (rfl | rfl | rfl | e)
       ·omega
       ·omega
       ·omega
       ·exact hh y e
      refine ⟨k + 1, by omega, by go_num, ⟨h', t, hN3, by rw [hrun, zD9 hx hz'.out, vC.out], ⟨by omega, by omega⟩, ⟨by omega, by omega⟩, by omega, ?_, (hO.trans' kC.out).trans hO3 (fun y hy e => by have := hno y e; omega)⟩, ?_⟩
      ·rintro g rfl
       rcases hh3 with hh3 | ⟨g', hg', hge⟩
       ·exact hh g hh3.symm
       ·cases hg'
        have := kC.out.size
        omega
      ·exact hO3.heap (kC.out.heap hbx id) (fun e => by have := hno _ e; omega)
     case measure => simp [intOf]; omega
   ·obtain ⟨z, hzz⟩ : ∃ z, z = opZ x r := ⟨_, rfl⟩
    rw [<- hzz] at hop hz
    have hz0 : (z == 0) = false := by simpa using hz
    have hz1 : (z != 0) = true := by simpa using hz
    have zK := zh (And.intro hzz hz)
    clear hN hrun hsr hsp hsl hh hO hx hbx hz hzz
    go_wp2_with fail
    refine (hop.out _ ((Only.refl _ ws).alloc _)).mono ?_
    rintro e W2 ⟨rfl, hO2⟩
    have kC := zh (((Only.refl (fun _ => False) ws).alloc (.cells [.int .i64 x.k, .int .i64 x.a, .int .i64 x.b].toArray 94)).trans' hO2)
    clear hO2 q0 q1 q2 r0 r1 r2 r3
    go_wp2
    go_ret
    obtain ⟨hN, hrun, hsr, hsp, hsl, hh, hO, hx, hbx⟩ := hS.out
    exact ⟨zAI (by rw [hrun, zL0 hx (by rw [<- zK.out.1]; exact zK.out.2)]; exact zK.out.1), hO.trans' kC.out⟩
  ·obtain rfl : k = n := by omega
   have hd : l.drop k = [] := List.drop_of_length_le (by have := hn'.out; omega)
   rw [hd] at hrun
   have hcl := zh (zKN hN (by omega))
   have hO' := zh hO
   have hrun' := zh hrun
   clear hN hrun hsr hsp hsl hh hO hbx hd
   cases hdn : doneB s with
   | true =>
    rw [hdn] at hcl
    have hv := zh (show (0 : Int) = vI l ns0 r by rw [hrun'.out, vI, if_pos hdn])
    clear hdn
    go_wp2_with fail
    refine hcl.out.mono ?_
    rintro e W2 ⟨rfl, rfl⟩
    go_wp2
    go_ret
    exact ⟨zAI hv.out, hO'.out⟩
   | false =>
    rw [hdn] at hcl
    have hv := zh (show (9 : Int) = vI l ns0 r by rw [hrun'.out, vI, if_neg (by rw [hdn]; simp)])
    clear hdn
    go_wp2_with fail
    refine hcl.out.mono ?_
    rintro e W2 ⟨rfl, rfl⟩
    go_wp2
    go_ret
    exact ⟨zAI hv.out, hO'.out⟩
theorem check_any {w : World} (hw : Words w) {A : Option Addr} {cap : Nat} {l : List Opn} (hl : OpnRow w A l) (r : jF) (hr : r.ok) : Calls Tryz.prog 202 #[.slice A l.length cap, r.val] w (GrowI (checkZ l r) w) := by
 by_cases h0 : l.length = 0 ∨ 64 < l.length
 ·have := zL1 w A l.length cap r h0
  rwa [show checkZ l r = (if l.length = 0 then 1 else 4) by
   unfold checkZ
   by_cases h : l.length = 0
   ·rw [if_pos h, if_pos h]
   ·rw [if_neg h, if_neg h, if_pos (by omega)]]
 ·have := zKO hw (cap := cap) hl rfl r hr (by omega) (by omega)
  rwa [show checkZ l r = vI l ns0 r by unfold checkZ; rw [if_neg (by omega), if_neg (by omega)]]
