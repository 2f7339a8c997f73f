import Derived.Test.YtlbdjiiddofkgaaGreatDoorC17
set_option maxRecDepth 100000
namespace Go.Proofs.YtlbdjiiddofkgaaGreatDoor
open Go Go.RowKit
theorem zAT {s t : NS} {k a : Int} (h : jN s k a = some t) (h1 : 0 <= t.r) (h2 : 0 <= t.p) : jO s k a = some t := by
 unfold jO
 rw [h]
 simp [xQ, h1, h2]
theorem zAN {s t : NS} {k a : Int} (h : jN s k a = some t) (h1 : t.r < 0 ∨ t.p < 0) : jO s k a = none := by
 unfold jO
 rw [h]
 have : xQ t = false := by unfold xQ; exact decide_eq_false (by omega)
 simp [this]
theorem zBO {s : NS} {k a : Int} (h : jN s k a = none) : jO s k a = none := by
 unfold jO
 rw [h]
set_option maxHeartbeats 1000000 in
theorem zQX {w : World} {b2 b3 b4 : Nat} {h : Option Nat} {s : NS} (hN : NestAt w b2 b3 b4 h s) (hr : -1000 <= s.r /\ s.r <= 1000) (hp : -1000000 <= s.p /\ s.p <= 1000000) (a b : Int) (ha : 0 <= a /\ a <= 5000) :
  Calls Tryz.prog 285 #[.agg #[.int .i64 3, .int .i64 a, .int .i64 b], .pointer (some ⟨b3, 0, none⟩), .pointer (some ⟨b2, 0, none⟩), .pointer (some ⟨b4, 0, none⟩)] w (StepEnd w b2 b3 b4 h (jO s 3 a)) := by
 have hm : jN s 3 a = some ⟨s.r + 1, s.ls, s.p⟩ := rfl
 have hlt := hN.lt
 obtain ⟨v, h2, h3, h4, hW, hd, n23, n24, n34⟩ := hN
 obtain ⟨r, ls, p⟩ := s
 obtain ⟨hr1, hr2⟩ := hr
 obtain ⟨hp1, hp2⟩ := hp
 obtain ⟨ha1, ha2⟩ := ha
 simp only at hr1 hr2 hp1 hp2 hm h3 h4 hW
 have c3 := zAA h3 (i := 0) rfl
 have c4 := zAA h4 (i := 0) rfl
 have f3 := zAC h3 0
 have f4 := zAC h4 0
 unfold mkI at c3 c4
 have m34 : b4 ≠ b3 := fun e => n34 e.symm
 have l3 : b3 < w.heap.size := zAG h3
 have l4 : b4 < w.heap.size := zAG h4
 have hblk := zh (And.intro h2 (And.intro h3 (And.intro h4 (And.intro hW (And.intro hd (And.intro n23 (And.intro n24 n34)))))))
 clear h2 h3 h4 hW hd hlt
 by_cases q1 : 0 <= r + 1
 ·by_cases q2 : 0 <= p
  ·have hv := zh (zAT hm q1 q2)
   clear hm
   go_enter Tryz.func285, Tryz.ntmps285
   go_wp2
   go_ret
   rw [hv.out]
   obtain ⟨h2, h3, h4, hW, hd, n23, n24, n34⟩ := hblk.out
   refine ⟨by first | exact rfl | exact zAJ (by simp; omega), h, ?_, .inl rfl, ?_⟩
   ·have hs : Only (fun k => k = b3) w (w.setCell ⟨b3, 0, none⟩ (.int .i64 (r + 1))) := (Only.refl (fun k => k = b3) w).setCell (p := ⟨b3, 0, none⟩) (fun _ => rfl) _
    refine NestAt.new (w := w.setCell ⟨b3, 0, none⟩ (.int .i64 (r + 1))) ?_ ((Only.refl _ _).alloc _)
    exact ⟨v, hs.heap h2 n23, zAE h3 0 _, hs.heap h4 m34, hW.kept hs (fun k hk => (hd k hk).2.1), hd, n23, n24, n34⟩
   ·exact (((Only.refl (nfp b2 b3 b4 h) w).setCell (p := ⟨b3, 0, none⟩) (fun _ => .inr (.inl rfl)) _).alloc _)
  ·have hv := zh (zAN hm (.inr (by simp only; omega)))
   have q2' : (p) < 0 := by omega
   clear hm
   go_enter Tryz.func285, Tryz.ntmps285
   go_wp2
   go_ret
   rw [hv.out]
   exact ⟨by first | exact rfl | exact zAJ (by simp; omega), (((Only.refl (nfp b2 b3 b4 h) w).setCell (p := ⟨b3, 0, none⟩) (fun _ => .inr (.inl rfl)) _).alloc _)⟩
 ·have hv := zh (zAN hm (.inl (by simp only; omega)))
  have q1' : (r + 1) < 0 := by omega
  clear hm
  go_enter Tryz.func285, Tryz.ntmps285
  go_wp2
  go_ret
  rw [hv.out]
  exact ⟨rfl, (((Only.refl (nfp b2 b3 b4 h) w).setCell (p := ⟨b3, 0, none⟩) (fun _ => .inr (.inl rfl)) _).alloc _)⟩
set_option maxHeartbeats 1000000 in
theorem zQY {w : World} {b2 b3 b4 : Nat} {h : Option Nat} {s : NS} (hN : NestAt w b2 b3 b4 h s) (hr : -1000 <= s.r /\ s.r <= 1000) (hp : -1000000 <= s.p /\ s.p <= 1000000) (a b : Int) (ha : 0 <= a /\ a <= 5000) :
  Calls Tryz.prog 285 #[.agg #[.int .i64 4, .int .i64 a, .int .i64 b], .pointer (some ⟨b3, 0, none⟩), .pointer (some ⟨b2, 0, none⟩), .pointer (some ⟨b4, 0, none⟩)] w (StepEnd w b2 b3 b4 h (jO s 4 a)) := by
 have hm : jN s 4 a = some ⟨s.r - 1, s.ls, s.p⟩ := rfl
 have hlt := hN.lt
 obtain ⟨v, h2, h3, h4, hW, hd, n23, n24, n34⟩ := hN
 obtain ⟨r, ls, p⟩ := s
 obtain ⟨hr1, hr2⟩ := hr
 obtain ⟨hp1, hp2⟩ := hp
 obtain ⟨ha1, ha2⟩ := ha
 simp only at hr1 hr2 hp1 hp2 hm h3 h4 hW
 have c3 := zAA h3 (i := 0) rfl
 have c4 := zAA h4 (i := 0) rfl
 have f3 := zAC h3 0
 have f4 := zAC h4 0
 unfold mkI at c3 c4
 have m34 : b4 ≠ b3 := fun e => n34 e.symm
 have l3 : b3 < w.heap.size := zAG h3
 have l4 : b4 < w.heap.size := zAG h4
 have hblk := zh (And.intro h2 (And.intro h3 (And.intro h4 (And.intro hW (And.intro hd (And.intro n23 (And.intro n24 n34)))))))
 clear h2 h3 h4 hW hd hlt
 by_cases q1 : 0 <= r - 1
 ·by_cases q2 : 0 <= p
  ·have hv := zh (zAT hm q1 q2)
   clear hm
   go_enter Tryz.func285, Tryz.ntmps285
   go_wp2
   go_ret
   rw [hv.out]
   obtain ⟨h2, h3, h4, hW, hd, n23, n24, n34⟩ := hblk.out
   refine ⟨by first | exact rfl | exact zAJ (by simp; omega), h, ?_, .inl rfl, ?_⟩
   ·have hs : Only (fun k => k = b3) w (w.setCell ⟨b3, 0, none⟩ (.int .i64 (r - 1))) := (Only.refl (fun k => k = b3) w).setCell (p := ⟨b3, 0, none⟩) (fun _ => rfl) _
    refine NestAt.new (w := w.setCell ⟨b3, 0, none⟩ (.int .i64 (r - 1))) ?_ ((Only.refl _ _).alloc _)
    exact ⟨v, hs.heap h2 n23, zAE h3 0 _, hs.heap h4 m34, hW.kept hs (fun k hk => (hd k hk).2.1), hd, n23, n24, n34⟩
   ·exact (((Only.refl (nfp b2 b3 b4 h) w).setCell (p := ⟨b3, 0, none⟩) (fun _ => .inr (.inl rfl)) _).alloc _)
  ·have hv := zh (zAN hm (.inr (by simp only; omega)))
   have q2' : (p) < 0 := by omega
   clear hm
   go_enter Tryz.func285, Tryz.ntmps285
   go_wp2
   go_ret
   rw [hv.out]
   exact ⟨by first | exact rfl | exact zAJ (by simp; omega), (((Only.refl (nfp b2 b3 b4 h) w).setCell (p := ⟨b3, 0, none⟩) (fun _ => .inr (.inl rfl)) _).alloc _)⟩
 ·have hv := zh (zAN hm (.inl (by simp only; omega)))
  have q1' : (r - 1) < 0 := by omega
  clear hm
  go_enter Tryz.func285, Tryz.ntmps285
  go_wp2
  go_ret
  rw [hv.out]
  exact ⟨rfl, (((Only.refl (nfp b2 b3 b4 h) w).setCell (p := ⟨b3, 0, none⟩) (fun _ => .inr (.inl rfl)) _).alloc _)⟩
set_option maxHeartbeats 1000000 in
theorem zQZ {w : World} {b2 b3 b4 : Nat} {h : Option Nat} {s : NS} (hN : NestAt w b2 b3 b4 h s) (hr : -1000 <= s.r /\ s.r <= 1000) (hp : -1000000 <= s.p /\ s.p <= 1000000) (a b : Int) (ha : 0 <= a /\ a <= 5000) :
  Calls Tryz.prog 285 #[.agg #[.int .i64 7, .int .i64 a, .int .i64 b], .pointer (some ⟨b3, 0, none⟩), .pointer (some ⟨b2, 0, none⟩), .pointer (some ⟨b4, 0, none⟩)] w (StepEnd w b2 b3 b4 h (jO s 7 a)) := by
 have hm : jN s 7 a = some ⟨s.r, s.ls, s.p + a⟩ := rfl
 have hlt := hN.lt
 obtain ⟨v, h2, h3, h4, hW, hd, n23, n24, n34⟩ := hN
 obtain ⟨r, ls, p⟩ := s
 obtain ⟨hr1, hr2⟩ := hr
 obtain ⟨hp1, hp2⟩ := hp
 obtain ⟨ha1, ha2⟩ := ha
 simp only at hr1 hr2 hp1 hp2 hm h3 h4 hW
 have c3 := zAA h3 (i := 0) rfl
 have c4 := zAA h4 (i := 0) rfl
 have f3 := zAC h3 0
 have f4 := zAC h4 0
 unfold mkI at c3 c4
 have m34 : b4 ≠ b3 := fun e => n34 e.symm
 have l3 : b3 < w.heap.size := zAG h3
 have l4 : b4 < w.heap.size := zAG h4
 have hblk := zh (And.intro h2 (And.intro h3 (And.intro h4 (And.intro hW (And.intro hd (And.intro n23 (And.intro n24 n34)))))))
 clear h2 h3 h4 hW hd hlt
 by_cases q1 : 0 <= r
 ·by_cases q2 : 0 <= p + a
  ·have hv := zh (zAT hm q1 q2)
   clear hm
   go_enter Tryz.func285, Tryz.ntmps285
   go_wp2
   go_ret
   rw [hv.out]
   obtain ⟨h2, h3, h4, hW, hd, n23, n24, n34⟩ := hblk.out
   refine ⟨by first | exact rfl | exact zAJ (by simp; omega), h, ?_, .inl rfl, ?_⟩
   ·have hs : Only (fun k => k = b4) w (w.setCell ⟨b4, 0, none⟩ (.int .i64 (p + a))) := (Only.refl (fun k => k = b4) w).setCell (p := ⟨b4, 0, none⟩) (fun _ => rfl) _
    refine NestAt.new (w := w.setCell ⟨b4, 0, none⟩ (.int .i64 (p + a))) ?_ ((Only.refl _ _).alloc _)
    exact ⟨v, hs.heap h2 n24, hs.heap h3 n34, zAE h4 0 _, hW.kept hs (fun k hk => (hd k hk).2.2), hd, n23, n24, n34⟩
   ·exact (((Only.refl (nfp b2 b3 b4 h) w).setCell (p := ⟨b4, 0, none⟩) (fun _ => .inr (.inr (.inl rfl))) _).alloc _)
  ·have hv := zh (zAN hm (.inr (by simp only; omega)))
   have q2' : (p + a) < 0 := by omega
   clear hm
   go_enter Tryz.func285, Tryz.ntmps285
   go_wp2
   go_ret
   rw [hv.out]
   exact ⟨by first | exact rfl | exact zAJ (by simp; omega), (((Only.refl (nfp b2 b3 b4 h) w).setCell (p := ⟨b4, 0, none⟩) (fun _ => .inr (.inr (.inl rfl))) _).alloc _)⟩
 ·have hv := zh (zAN hm (.inl (by simp only; omega)))
  have q1' : (r) < 0 := by omega
  clear hm
  go_enter Tryz.func285, Tryz.ntmps285
  go_wp2
  go_ret
  rw [hv.out]
  exact ⟨rfl, (((Only.refl (nfp b2 b3 b4 h) w).setCell (p := ⟨b4, 0, none⟩) (fun _ => .inr (.inr (.inl rfl))) _).alloc _)⟩
set_option maxHeartbeats 1000000 in
theorem zQ0 {w : World} {b2 b3 b4 : Nat} {h : Option Nat} {s : NS} (hN : NestAt w b2 b3 b4 h s) (hr : -1000 <= s.r /\ s.r <= 1000) (hp : -1000000 <= s.p /\ s.p <= 1000000) (a b : Int) (ha : 0 <= a /\ a <= 5000) :
  Calls Tryz.prog 285 #[.agg #[.int .i64 8, .int .i64 a, .int .i64 b], .pointer (some ⟨b3, 0, none⟩), .pointer (some ⟨b2, 0, none⟩), .pointer (some ⟨b4, 0, none⟩)] w (StepEnd w b2 b3 b4 h (jO s 8 a)) := by
 have hm : jN s 8 a = some ⟨s.r, s.ls, s.p - a⟩ := rfl
 have hlt := hN.lt
 obtain ⟨v, h2, h3, h4, hW, hd, n23, n24, n34⟩ := hN
 obtain ⟨r, ls, p⟩ := s
 obtain ⟨hr1, hr2⟩ := hr
 obtain ⟨hp1, hp2⟩ := hp
 obtain ⟨ha1, ha2⟩ := ha
 simp only at hr1 hr2 hp1 hp2 hm h3 h4 hW
 have c3 := zAA h3 (i := 0) rfl
 have c4 := zAA h4 (i := 0) rfl
 have f3 := zAC h3 0
 have f4 := zAC h4 0
 unfold mkI at c3 c4
 have m34 : b4 ≠ b3 := fun e => n34 e.symm
 have l3 : b3 < w.heap.size := zAG h3
 have l4 : b4 < w.heap.size := zAG h4
 have hblk := zh (And.intro h2 (And.intro h3 (And.intro h4 (And.intro hW (And.intro hd (And.intro n23 (And.intro n24 n34)))))))
 clear h2 h3 h4 hW hd hlt
 by_cases q1 : 0 <= r
 ·by_cases q2 : 0 <= p - a
  ·have hv := zh (zAT hm q1 q2)
   clear hm
   go_enter Tryz.func285, Tryz.ntmps285
   go_wp2
   go_ret
   rw [hv.out]
   obtain ⟨h2, h3, h4, hW, hd, n23, n24, n34⟩ := hblk.out
   refine ⟨by first | exact rfl | exact zAJ (by simp; omega), h, ?_, .inl rfl, ?_⟩
   ·have hs : Only (fun k => k = b4) w (w.setCell ⟨b4, 0, none⟩ (.int .i64 (p - a))) := (Only.refl (fun k => k = b4) w).setCell (p := ⟨b4, 0, none⟩) (fun _ => rfl) _
    refine NestAt.new (w := w.setCell ⟨b4, 0, none⟩ (.int .i64 (p - a))) ?_ ((Only.refl _ _).alloc _)
    exact ⟨v, hs.heap h2 n24, hs.heap h3 n34, zAE h4 0 _, hW.kept hs (fun k hk => (hd k hk).2.2), hd, n23, n24, n34⟩
   ·exact (((Only.refl (nfp b2 b3 b4 h) w).setCell (p := ⟨b4, 0, none⟩) (fun _ => .inr (.inr (.inl rfl))) _).alloc _)
  ·have hv := zh (zAN hm (.inr (by simp only; omega)))
   have q2' : (p - a) < 0 := by omega
   clear hm
   go_enter Tryz.func285, Tryz.ntmps285
   go_wp2
   go_ret
   rw [hv.out]
   exact ⟨by first | exact rfl | exact zAJ (by simp; omega), (((Only.refl (nfp b2 b3 b4 h) w).setCell (p := ⟨b4, 0, none⟩) (fun _ => .inr (.inr (.inl rfl))) _).alloc _)⟩
 ·have hv := zh (zAN hm (.inl (by simp only; omega)))
  have q1' : (r) < 0 := by omega
  clear hm
  go_enter Tryz.func285, Tryz.ntmps285
  go_wp2
  go_ret
  rw [hv.out]
  exact ⟨rfl, (((Only.refl (nfp b2 b3 b4 h) w).setCell (p := ⟨b4, 0, none⟩) (fun _ => .inr (.inr (.inl rfl))) _).alloc _)⟩
set_option maxHeartbeats 1000000 in
theorem zQ1 {w : World} {b2 b3 b4 : Nat} {h : Option Nat} {s : NS} (hN : NestAt w b2 b3 b4 h s) (hr : -1000 <= s.r /\ s.r <= 1000) (hp : -1000000 <= s.p /\ s.p <= 1000000) (a b : Int) (ha : 0 <= a /\ a <= 5000) :
  Calls Tryz.prog 285 #[.agg #[.int .i64 1, .int .i64 a, .int .i64 b], .pointer (some ⟨b3, 0, none⟩), .pointer (some ⟨b2, 0, none⟩), .pointer (some ⟨b4, 0, none⟩)] w (StepEnd w b2 b3 b4 h (jO s 1 a)) := by
 have hm : jN s 1 a = some s := rfl
 have hlt := hN.lt
 obtain ⟨v, h2, h3, h4, hW, hd, n23, n24, n34⟩ := hN
 obtain ⟨r, ls, p⟩ := s
 obtain ⟨hr1, hr2⟩ := hr
 obtain ⟨hp1, hp2⟩ := hp
 obtain ⟨ha1, ha2⟩ := ha
 simp only at hr1 hr2 hp1 hp2 hm h3 h4 hW
 have c3 := zAA h3 (i := 0) rfl
 have c4 := zAA h4 (i := 0) rfl
 have f3 := zAC h3 0
 have f4 := zAC h4 0
 unfold mkI at c3 c4
 have m34 : b4 ≠ b3 := fun e => n34 e.symm
 have l3 : b3 < w.heap.size := zAG h3
 have l4 : b4 < w.heap.size := zAG h4
 have hblk := zh (And.intro h2 (And.intro h3 (And.intro h4 (And.intro hW (And.intro hd (And.intro n23 (And.intro n24 n34)))))))
 clear h2 h3 h4 hW hd hlt
 by_cases q1 : 0 <= r
 ·by_cases q2 : 0 <= p
  ·have hv := zh (zAT hm q1 q2)
   clear hm
   go_enter Tryz.func285, Tryz.ntmps285
   go_wp2
   go_ret
   rw [hv.out]
   obtain ⟨h2, h3, h4, hW, hd, n23, n24, n34⟩ := hblk.out
   refine ⟨by first | exact rfl | exact zAJ (by simp; omega), h, ?_, .inl rfl, ?_⟩
   ·exact NestAt.new (w := w) ⟨v, h2, h3, h4, hW, hd, n23, n24, n34⟩ ((Only.refl _ w).alloc _)
   ·exact ((Only.refl (nfp b2 b3 b4 h) w).alloc _)
  ·have hv := zh (zAN hm (.inr (by simp only; omega)))
   have q2' : (p) < 0 := by omega
   clear hm
   go_enter Tryz.func285, Tryz.ntmps285
   go_wp2
   go_ret
   rw [hv.out]
   exact ⟨by first | exact rfl | exact zAJ (by simp; omega), ((Only.refl (nfp b2 b3 b4 h) w).alloc _)⟩
 ·have hv := zh (zAN hm (.inl (by simp only; omega)))
  have q1' : (r) < 0 := by omega
  clear hm
  go_enter Tryz.func285, Tryz.ntmps285
  go_wp2
  go_ret
  rw [hv.out]
  exact ⟨rfl, ((Only.refl (nfp b2 b3 b4 h) w).alloc _)⟩
set_option maxHeartbeats 1000000 in
theorem zQ2 {w : World} {b2 b3 b4 : Nat} {h : Option Nat} {s : NS} (hN : NestAt w b2 b3 b4 h s) (hr : -1000 <= s.r /\ s.r <= 1000) (hp : -1000000 <= s.p /\ s.p <= 1000000) (a b : Int) (ha : 0 <= a /\ a <= 5000) :
  Calls Tryz.prog 285 #[.agg #[.int .i64 2, .int .i64 a, .int .i64 b], .pointer (some ⟨b3, 0, none⟩), .pointer (some ⟨b2, 0, none⟩), .pointer (some ⟨b4, 0, none⟩)] w (StepEnd w b2 b3 b4 h (jO s 2 a)) := by
 have hm : jN s 2 a = some s := rfl
 have hlt := hN.lt
 obtain ⟨v, h2, h3, h4, hW, hd, n23, n24, n34⟩ := hN
 obtain ⟨r, ls, p⟩ := s
 obtain ⟨hr1, hr2⟩ := hr
 obtain ⟨hp1, hp2⟩ := hp
 obtain ⟨ha1, ha2⟩ := ha
 simp only at hr1 hr2 hp1 hp2 hm h3 h4 hW
 have c3 := zAA h3 (i := 0) rfl
 have c4 := zAA h4 (i := 0) rfl
 have f3 := zAC h3 0
 have f4 := zAC h4 0
 unfold mkI at c3 c4
 have m34 : b4 ≠ b3 := fun e => n34 e.symm
 have l3 : b3 < w.heap.size := zAG h3
 have l4 : b4 < w.heap.size := zAG h4
 have hblk := zh (And.intro h2 (And.intro h3 (And.intro h4 (And.intro hW (And.intro hd (And.intro n23 (And.intro n24 n34)))))))
 clear h2 h3 h4 hW hd hlt
 by_cases q1 : 0 <= r
 ·by_cases q2 : 0 <= p
  ·have hv := zh (zAT hm q1 q2)
   clear hm
   go_enter Tryz.func285, Tryz.ntmps285
   go_wp2
   go_ret
   rw [hv.out]
   obtain ⟨h2, h3, h4, hW, hd, n23, n24, n34⟩ := hblk.out
   refine ⟨by first | exact rfl | exact zAJ (by simp; omega), h, ?_, .inl rfl, ?_⟩
   ·exact NestAt.new (w := w) ⟨v, h2, h3, h4, hW, hd, n23, n24, n34⟩ ((Only.refl _ w).alloc _)
   ·exact ((Only.refl (nfp b2 b3 b4 h) w).alloc _)
  ·have hv := zh (zAN hm (.inr (by simp only; omega)))
   have q2' : (p) < 0 := by omega
   clear hm
   go_enter Tryz.func285, Tryz.ntmps285
   go_wp2
   go_ret
   rw [hv.out]
   exact ⟨by first | exact rfl | exact zAJ (by simp; omega), ((Only.refl (nfp b2 b3 b4 h) w).alloc _)⟩
 ·have hv := zh (zAN hm (.inl (by simp only; omega)))
  have q1' : (r) < 0 := by omega
  clear hm
  go_enter Tryz.func285, Tryz.ntmps285
  go_wp2
  go_ret
  rw [hv.out]
  exact ⟨rfl, ((Only.refl (nfp b2 b3 b4 h) w).alloc _)⟩
set_option maxHeartbeats 1000000 in
theorem zQ3 {w : World} {b2 b3 b4 : Nat} {h : Option Nat} {s : NS} (hN : NestAt w b2 b3 b4 h s) (hr : -1000 <= s.r /\ s.r <= 1000) (hp : -1000000 <= s.p /\ s.p <= 1000000) (a b : Int) (ha : 0 <= a /\ a <= 5000) :
  Calls Tryz.prog 285 #[.agg #[.int .i64 9, .int .i64 a, .int .i64 b], .pointer (some ⟨b3, 0, none⟩), .pointer (some ⟨b2, 0, none⟩), .pointer (some ⟨b4, 0, none⟩)] w (StepEnd w b2 b3 b4 h (jO s 9 a)) := by
 have hm : jN s 9 a = some s := rfl
 have hlt := hN.lt
 obtain ⟨v, h2, h3, h4, hW, hd, n23, n24, n34⟩ := hN
 obtain ⟨r, ls, p⟩ := s
 obtain ⟨hr1, hr2⟩ := hr
 obtain ⟨hp1, hp2⟩ := hp
 obtain ⟨ha1, ha2⟩ := ha
 simp only at hr1 hr2 hp1 hp2 hm h3 h4 hW
 have c3 := zAA h3 (i := 0) rfl
 have c4 := zAA h4 (i := 0) rfl
 have f3 := zAC h3 0
 have f4 := zAC h4 0
 unfold mkI at c3 c4
 have m34 : b4 ≠ b3 := fun e => n34 e.symm
 have l3 : b3 < w.heap.size := zAG h3
 have l4 : b4 < w.heap.size := zAG h4
 have hblk := zh (And.intro h2 (And.intro h3 (And.intro h4 (And.intro hW (And.intro hd (And.intro n23 (And.intro n24 n34)))))))
 clear h2 h3 h4 hW hd hlt
 by_cases q1 : 0 <= r
 ·by_cases q2 : 0 <= p
  ·have hv := zh (zAT hm q1 q2)
   clear hm
   go_enter Tryz.func285, Tryz.ntmps285
   go_wp2
   go_ret
   rw [hv.out]
   obtain ⟨h2, h3, h4, hW, hd, n23, n24, n34⟩ := hblk.out
   refine ⟨by first | exact rfl | exact zAJ (by simp; omega), h, ?_, .inl rfl, ?_⟩
   ·exact NestAt.new (w := w) ⟨v, h2, h3, h4, hW, hd, n23, n24, n34⟩ ((Only.refl _ w).alloc _)
   ·exact ((Only.refl (nfp b2 b3 b4 h) w).alloc _)
  ·have hv := zh (zAN hm (.inr (by simp only; omega)))
   have q2' : (p) < 0 := by omega
   clear hm
   go_enter Tryz.func285, Tryz.ntmps285
   go_wp2
   go_ret
   rw [hv.out]
   exact ⟨by first | exact rfl | exact zAJ (by simp; omega), ((Only.refl (nfp b2 b3 b4 h) w).alloc _)⟩
 ·have hv := zh (zAN hm (.inl (by simp only; omega)))
  have q1' : (r) < 0 := by omega
  clear hm
  go_enter Tryz.func285, Tryz.ntmps285
  go_wp2
  go_ret
  rw [hv.out]
  exact ⟨rfl, ((Only.refl (nfp b2 b3 b4 h) w).alloc _)⟩
set_option maxHeartbeats 1000000 in
theorem zOM {w : World} {b2 b3 b4 : Nat} {h : Option Nat} {s : NS} (hN : NestAt w b2 b3 b4 h s) (hr : -1000 <= s.r /\ s.r <= 1000) (hp : -1000000 <= s.p /\ s.p <= 1000000) (a b : Int) (ha : 0 <= a /\ a <= 5000) :
  Calls Tryz.prog 285 #[.agg #[.int .i64 10, .int .i64 a, .int .i64 b], .pointer (some ⟨b3, 0, none⟩), .pointer (some ⟨b2, 0, none⟩), .pointer (some ⟨b4, 0, none⟩)] w (StepEnd w b2 b3 b4 h (jO s 10 a)) := by
 have hm : jN s 10 a = some s := rfl
 have hlt := hN.lt
 obtain ⟨v, h2, h3, h4, hW, hd, n23, n24, n34⟩ := hN
 obtain ⟨r, ls, p⟩ := s
 obtain ⟨hr1, hr2⟩ := hr
 obtain ⟨hp1, hp2⟩ := hp
 obtain ⟨ha1, ha2⟩ := ha
 simp only at hr1 hr2 hp1 hp2 hm h3 h4 hW
 have c3 := zAA h3 (i := 0) rfl
 have c4 := zAA h4 (i := 0) rfl
 have f3 := zAC h3 0
 have f4 := zAC h4 0
 unfold mkI at c3 c4
 have m34 : b4 ≠ b3 := fun e => n34 e.symm
 have l3 : b3 < w.heap.size := zAG h3
 have l4 : b4 < w.heap.size := zAG h4
 have hblk := zh (And.intro h2 (And.intro h3 (And.intro h4 (And.intro hW (And.intro hd (And.intro n23 (And.intro n24 n34)))))))
 clear h2 h3 h4 hW hd hlt
 by_cases q1 : 0 <= r
 ·by_cases q2 : 0 <= p
  ·have hv := zh (zAT hm q1 q2)
   clear hm
   go_enter Tryz.func285, Tryz.ntmps285
   go_wp2
   go_ret
   rw [hv.out]
   obtain ⟨h2, h3, h4, hW, hd, n23, n24, n34⟩ := hblk.out
   refine ⟨by first | exact rfl | exact zAJ (by simp; omega), h, ?_, .inl rfl, ?_⟩
   ·exact NestAt.new (w := w) ⟨v, h2, h3, h4, hW, hd, n23, n24, n34⟩ ((Only.refl _ w).alloc _)
   ·exact ((Only.refl (nfp b2 b3 b4 h) w).alloc _)
  ·have hv := zh (zAN hm (.inr (by simp only; omega)))
   have q2' : (p) < 0 := by omega
   clear hm
   go_enter Tryz.func285, Tryz.ntmps285
   go_wp2
   go_ret
   rw [hv.out]
   exact ⟨by first | exact rfl | exact zAJ (by simp; omega), ((Only.refl (nfp b2 b3 b4 h) w).alloc _)⟩
 ·have hv := zh (zAN hm (.inl (by simp only; omega)))
  have q1' : (r) < 0 := by omega
  clear hm
  go_enter Tryz.func285, Tryz.ntmps285
  go_wp2
  go_ret
  rw [hv.out]
  exact ⟨rfl, ((Only.refl (nfp b2 b3 b4 h) w).alloc _)⟩
set_option maxHeartbeats 1000000 in
theorem zON {w : World} {b2 b3 b4 : Nat} {h : Option Nat} {s : NS} (hN : NestAt w b2 b3 b4 h s) (hr : -1000 <= s.r /\ s.r <= 1000) (hp : -1000000 <= s.p /\ s.p <= 1000000) (a b : Int) (ha : 0 <= a /\ a <= 5000) :
  Calls Tryz.prog 285 #[.agg #[.int .i64 11, .int .i64 a, .int .i64 b], .pointer (some ⟨b3, 0, none⟩), .pointer (some ⟨b2, 0, none⟩), .pointer (some ⟨b4, 0, none⟩)] w (StepEnd w b2 b3 b4 h (jO s 11 a)) := by
 have hm : jN s 11 a = some s := rfl
 have hlt := hN.lt
 obtain ⟨v, h2, h3, h4, hW, hd, n23, n24, n34⟩ := hN
 obtain ⟨r, ls, p⟩ := s
 obtain ⟨hr1, hr2⟩ := hr
 obtain ⟨hp1, hp2⟩ := hp
 obtain ⟨ha1, ha2⟩ := ha
 simp only at hr1 hr2 hp1 hp2 hm h3 h4 hW
 have c3 := zAA h3 (i := 0) rfl
 have c4 := zAA h4 (i := 0) rfl
 have f3 := zAC h3 0
 have f4 := zAC h4 0
 unfold mkI at c3 c4
 have m34 : b4 ≠ b3 := fun e => n34 e.symm
 have l3 : b3 < w.heap.size := zAG h3
 have l4 : b4 < w.heap.size := zAG h4
 have hblk := zh (And.intro h2 (And.intro h3 (And.intro h4 (And.intro hW (And.intro hd (And.intro n23 (And.intro n24 n34)))))))
 clear h2 h3 h4 hW hd hlt
 by_cases q1 : 0 <= r
 ·by_cases q2 : 0 <= p
  ·have hv := zh (zAT hm q1 q2)
   clear hm
   go_enter Tryz.func285, Tryz.ntmps285
   go_wp2
   go_ret
   rw [hv.out]
   obtain ⟨h2, h3, h4, hW, hd, n23, n24, n34⟩ := hblk.out
   refine ⟨by first | exact rfl | exact zAJ (by simp; omega), h, ?_, .inl rfl, ?_⟩
   ·exact NestAt.new (w := w) ⟨v, h2, h3, h4, hW, hd, n23, n24, n34⟩ ((Only.refl _ w).alloc _)
   ·exact ((Only.refl (nfp b2 b3 b4 h) w).alloc _)
  ·have hv := zh (zAN hm (.inr (by simp only; omega)))
   have q2' : (p) < 0 := by omega
   clear hm
   go_enter Tryz.func285, Tryz.ntmps285
   go_wp2
   go_ret
   rw [hv.out]
   exact ⟨by first | exact rfl | exact zAJ (by simp; omega), ((Only.refl (nfp b2 b3 b4 h) w).alloc _)⟩
 ·have hv := zh (zAN hm (.inl (by simp only; omega)))
  have q1' : (r) < 0 := by omega
  clear hm
  go_enter Tryz.func285, Tryz.ntmps285
  go_wp2
  go_ret
  rw [hv.out]
  exact ⟨rfl, ((Only.refl (nfp b2 b3 b4 h) w).alloc _)⟩
set_option maxHeartbeats 1000000 in
theorem zOO {w : World} {b2 b3 b4 : Nat} {h : Option Nat} {s : NS} (hN : NestAt w b2 b3 b4 h s) (hr : -1000 <= s.r /\ s.r <= 1000) (hp : -1000000 <= s.p /\ s.p <= 1000000) (a b : Int) (ha : 0 <= a /\ a <= 5000) :
  Calls Tryz.prog 285 #[.agg #[.int .i64 12, .int .i64 a, .int .i64 b], .pointer (some ⟨b3, 0, none⟩), .pointer (some ⟨b2, 0, none⟩), .pointer (some ⟨b4, 0, none⟩)] w (StepEnd w b2 b3 b4 h (jO s 12 a)) := by
 have hm : jN s 12 a = some s := rfl
 have hlt := hN.lt
 obtain ⟨v, h2, h3, h4, hW, hd, n23, n24, n34⟩ := hN
 obtain ⟨r, ls, p⟩ := s
 obtain ⟨hr1, hr2⟩ := hr
 obtain ⟨hp1, hp2⟩ := hp
 obtain ⟨ha1, ha2⟩ := ha
 simp only at hr1 hr2 hp1 hp2 hm h3 h4 hW
 have c3 := zAA h3 (i := 0) rfl
 have c4 := zAA h4 (i := 0) rfl
 have f3 := zAC h3 0
 have f4 := zAC h4 0
 unfold mkI at c3 c4
 have m34 : b4 ≠ b3 := fun e => n34 e.symm
 have l3 : b3 < w.heap.size := zAG h3
 have l4 : b4 < w.heap.size := zAG h4
 have hblk := zh (And.intro h2 (And.intro h3 (And.intro h4 (And.intro hW (And.intro hd (And.intro n23 (And.intro n24 n34)))))))
 clear h2 h3 h4 hW hd hlt
 by_cases q1 : 0 <= r
 ·by_cases q2 : 0 <= p
  ·have hv := zh (zAT hm q1 q2)
   clear hm
   go_enter Tryz.func285, Tryz.ntmps285
   go_wp2
   go_ret
   rw [hv.out]
   obtain ⟨h2, h3, h4, hW, hd, n23, n24, n34⟩ := hblk.out
   refine ⟨by first | exact rfl | exact zAJ (by simp; omega), h, ?_, .inl rfl, ?_⟩
   ·exact NestAt.new (w := w) ⟨v, h2, h3, h4, hW, hd, n23, n24, n34⟩ ((Only.refl _ w).alloc _)
   ·exact ((Only.refl (nfp b2 b3 b4 h) w).alloc _)
  ·have hv := zh (zAN hm (.inr (by simp only; omega)))
   have q2' : (p) < 0 := by omega
   clear hm
   go_enter Tryz.func285, Tryz.ntmps285
   go_wp2
   go_ret
   rw [hv.out]
   exact ⟨by first | exact rfl | exact zAJ (by simp; omega), ((Only.refl (nfp b2 b3 b4 h) w).alloc _)⟩
 ·have hv := zh (zAN hm (.inl (by simp only; omega)))
  have q1' : (r) < 0 := by omega
  clear hm
  go_enter Tryz.func285, Tryz.ntmps285
  go_wp2
  go_ret
  rw [hv.out]
  exact ⟨rfl, ((Only.refl (nfp b2 b3 b4 h) w).alloc _)⟩
set_option maxHeartbeats 1000000 in
theorem zOP {w : World} {b2 b3 b4 : Nat} {h : Option Nat} {s : NS} (hN : NestAt w b2 b3 b4 h s) (hr : -1000 <= s.r /\ s.r <= 1000) (hp : -1000000 <= s.p /\ s.p <= 1000000) (a b : Int) (ha : 0 <= a /\ a <= 5000) :
  Calls Tryz.prog 285 #[.agg #[.int .i64 13, .int .i64 a, .int .i64 b], .pointer (some ⟨b3, 0, none⟩), .pointer (some ⟨b2, 0, none⟩), .pointer (some ⟨b4, 0, none⟩)] w (StepEnd w b2 b3 b4 h (jO s 13 a)) := by
 have hm : jN s 13 a = some s := rfl
 have hlt := hN.lt
 obtain ⟨v, h2, h3, h4, hW, hd, n23, n24, n34⟩ := hN
 obtain ⟨r, ls, p⟩ := s
 obtain ⟨hr1, hr2⟩ := hr
 obtain ⟨hp1, hp2⟩ := hp
 obtain ⟨ha1, ha2⟩ := ha
 simp only at hr1 hr2 hp1 hp2 hm h3 h4 hW
 have c3 := zAA h3 (i := 0) rfl
 have c4 := zAA h4 (i := 0) rfl
 have f3 := zAC h3 0
 have f4 := zAC h4 0
 unfold mkI at c3 c4
 have m34 : b4 ≠ b3 := fun e => n34 e.symm
 have l3 : b3 < w.heap.size := zAG h3
 have l4 : b4 < w.heap.size := zAG h4
 have hblk := zh (And.intro h2 (And.intro h3 (And.intro h4 (And.intro hW (And.intro hd (And.intro n23 (And.intro n24 n34)))))))
 clear h2 h3 h4 hW hd hlt
 by_cases q1 : 0 <= r
 ·by_cases q2 : 0 <= p
  ·have hv := zh (zAT hm q1 q2)
   clear hm
   go_enter Tryz.func285, Tryz.ntmps285
   go_wp2
   go_ret
   rw [hv.out]
   obtain ⟨h2, h3, h4, hW, hd, n23, n24, n34⟩ := hblk.out
   refine ⟨by first | exact rfl | exact zAJ (by simp; omega), h, ?_, .inl rfl, ?_⟩
   ·exact NestAt.new (w := w) ⟨v, h2, h3, h4, hW, hd, n23, n24, n34⟩ ((Only.refl _ w).alloc _)
   ·exact ((Only.refl (nfp b2 b3 b4 h) w).alloc _)
  ·have hv := zh (zAN hm (.inr (by simp only; omega)))
   have q2' : (p) < 0 := by omega
   clear hm
   go_enter Tryz.func285, Tryz.ntmps285
   go_wp2
   go_ret
   rw [hv.out]
   exact ⟨by first | exact rfl | exact zAJ (by simp; omega), ((Only.refl (nfp b2 b3 b4 h) w).alloc _)⟩
 ·have hv := zh (zAN hm (.inl (by simp only; omega)))
  have q1' : (r) < 0 := by omega
  clear hm
  go_enter Tryz.func285, Tryz.ntmps285
  go_wp2
  go_ret
  rw [hv.out]
  exact ⟨rfl, ((Only.refl (nfp b2 b3 b4 h) w).alloc _)⟩
set_option maxHeartbeats 1000000 in
theorem zOQ {w : World} {b2 b3 b4 : Nat} {h : Option Nat} {s : NS} (hN : NestAt w b2 b3 b4 h s) (hr : -1000 <= s.r /\ s.r <= 1000) (hp : -1000000 <= s.p /\ s.p <= 1000000) (a b : Int) (ha : 0 <= a /\ a <= 5000) :
  Calls Tryz.prog 285 #[.agg #[.int .i64 14, .int .i64 a, .int .i64 b], .pointer (some ⟨b3, 0, none⟩), .pointer (some ⟨b2, 0, none⟩), .pointer (some ⟨b4, 0, none⟩)] w (StepEnd w b2 b3 b4 h (jO s 14 a)) := by
 have hm : jN s 14 a = some s := rfl
 have hlt := hN.lt
 obtain ⟨v, h2, h3, h4, hW, hd, n23, n24, n34⟩ := hN
 obtain ⟨r, ls, p⟩ := s
 obtain ⟨hr1, hr2⟩ := hr
 obtain ⟨hp1, hp2⟩ := hp
 obtain ⟨ha1, ha2⟩ := ha
 simp only at hr1 hr2 hp1 hp2 hm h3 h4 hW
 have c3 := zAA h3 (i := 0) rfl
 have c4 := zAA h4 (i := 0) rfl
 have f3 := zAC h3 0
 have f4 := zAC h4 0
 unfold mkI at c3 c4
 have m34 : b4 ≠ b3 := fun e => n34 e.symm
 have l3 : b3 < w.heap.size := zAG h3
 have l4 : b4 < w.heap.size := zAG h4
 have hblk := zh (And.intro h2 (And.intro h3 (And.intro h4 (And.intro hW (And.intro hd (And.intro n23 (And.intro n24 n34)))))))
 clear h2 h3 h4 hW hd hlt
 by_cases q1 : 0 <= r
 ·by_cases q2 : 0 <= p
  ·have hv := zh (zAT hm q1 q2)
   clear hm
   go_enter Tryz.func285, Tryz.ntmps285
   go_wp2
   go_ret
   rw [hv.out]
   obtain ⟨h2, h3, h4, hW, hd, n23, n24, n34⟩ := hblk.out
   refine ⟨by first | exact rfl | exact zAJ (by simp; omega), h, ?_, .inl rfl, ?_⟩
   ·exact NestAt.new (w := w) ⟨v, h2, h3, h4, hW, hd, n23, n24, n34⟩ ((Only.refl _ w).alloc _)
   ·exact ((Only.refl (nfp b2 b3 b4 h) w).alloc _)
  ·have hv := zh (zAN hm (.inr (by simp only; omega)))
   have q2' : (p) < 0 := by omega
   clear hm
   go_enter Tryz.func285, Tryz.ntmps285
   go_wp2
   go_ret
   rw [hv.out]
   exact ⟨by first | exact rfl | exact zAJ (by simp; omega), ((Only.refl (nfp b2 b3 b4 h) w).alloc _)⟩
 ·have hv := zh (zAN hm (.inl (by simp only; omega)))
  have q1' : (r) < 0 := by omega
  clear hm
  go_enter Tryz.func285, Tryz.ntmps285
  go_wp2
  go_ret
  rw [hv.out]
  exact ⟨rfl, ((Only.refl (nfp b2 b3 b4 h) w).alloc _)⟩
set_option maxHeartbeats 1000000 in
theorem zOR {w : World} {b2 b3 b4 : Nat} {h : Option Nat} {s : NS} (hN : NestAt w b2 b3 b4 h s) (hr : -1000 <= s.r /\ s.r <= 1000) (hp : -1000000 <= s.p /\ s.p <= 1000000) (a b : Int) (ha : 0 <= a /\ a <= 5000) :
  Calls Tryz.prog 285 #[.agg #[.int .i64 15, .int .i64 a, .int .i64 b], .pointer (some ⟨b3, 0, none⟩), .pointer (some ⟨b2, 0, none⟩), .pointer (some ⟨b4, 0, none⟩)] w (StepEnd w b2 b3 b4 h (jO s 15 a)) := by
 have hm : jN s 15 a = some s := rfl
 have hlt := hN.lt
 obtain ⟨v, h2, h3, h4, hW, hd, n23, n24, n34⟩ := hN
 obtain ⟨r, ls, p⟩ := s
 obtain ⟨hr1, hr2⟩ := hr
 obtain ⟨hp1, hp2⟩ := hp
 obtain ⟨ha1, ha2⟩ := ha
 simp only at hr1 hr2 hp1 hp2 hm h3 h4 hW
 have c3 := zAA h3 (i := 0) rfl
 have c4 := zAA h4 (i := 0) rfl
 have f3 := zAC h3 0
 have f4 := zAC h4 0
 unfold mkI at c3 c4
 have m34 : b4 ≠ b3 := fun e => n34 e.symm
 have l3 : b3 < w.heap.size := zAG h3
 have l4 : b4 < w.heap.size := zAG h4
 have hblk := zh (And.intro h2 (And.intro h3 (And.intro h4 (And.intro hW (And.intro hd (And.intro n23 (And.intro n24 n34)))))))
 clear h2 h3 h4 hW hd hlt
 by_cases q1 : 0 <= r
 ·by_cases q2 : 0 <= p
  ·have hv := zh (zAT hm q1 q2)
   clear hm
   go_enter Tryz.func285, Tryz.ntmps285
   go_wp2
   go_ret
   rw [hv.out]
   obtain ⟨h2, h3, h4, hW, hd, n23, n24, n34⟩ := hblk.out
   refine ⟨by first | exact rfl | exact zAJ (by simp; omega), h, ?_, .inl rfl, ?_⟩
   ·exact NestAt.new (w := w) ⟨v, h2, h3, h4, hW, hd, n23, n24, n34⟩ ((Only.refl _ w).alloc _)
   ·exact ((Only.refl (nfp b2 b3 b4 h) w).alloc _)
  ·have hv := zh (zAN hm (.inr (by simp only; omega)))
   have q2' : (p) < 0 := by omega
   clear hm
   go_enter Tryz.func285, Tryz.ntmps285
   go_wp2
   go_ret
   rw [hv.out]
   exact ⟨by first | exact rfl | exact zAJ (by simp; omega), ((Only.refl (nfp b2 b3 b4 h) w).alloc _)⟩
 ·have hv := zh (zAN hm (.inl (by simp only; omega)))
  have q1' : (r) < 0 := by omega
  clear hm
  go_enter Tryz.func285, Tryz.ntmps285
  go_wp2
  go_ret
  rw [hv.out]
  exact ⟨rfl, ((Only.refl (nfp b2 b3 b4 h) w).alloc _)⟩
