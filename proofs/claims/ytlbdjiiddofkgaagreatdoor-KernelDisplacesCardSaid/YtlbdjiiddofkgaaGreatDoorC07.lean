import Derived.Test.YtlbdjiiddofkgaaGreatDoorC06
import Derived.Deep.DrawnRows
set_option maxRecDepth 100000
namespace Go.Proofs.YtlbdjiiddofkgaaGreatDoor
namespace Pil
open Go Go.RowKit
def zen : Value := .agg #[.int .i64 0, .int .i64 0, .int .i64 0, .int .i64 0, .int .i64 0, .int .u64 0]
def zev : Value := .agg #[.int .i64 0, .int .i64 0, .int .i64 0, .int .i64 0, .int .i64 0]
theorem zSP : (Tryz.prog.info? 310).map (fun i => (i.zero, i.size, i.bytes)) = some (some zen, 6, 48) := by kernel_rfl
theorem zSQ : (Tryz.prog.info? 40).map (fun i => (i.zero, i.size, i.bytes)) = some (some zev, 5, 40) := by kernel_rfl
theorem zB0 {w : World} {X : Nat} {L : List Value} {e : TypeId} (h : w.heap[X]? = some (.cells L.toArray e (0, 0))) : ∀ j u, L[j]? = some u -> w.cell? ((⟨X, 0, none⟩ : Addr).add j) = some u := fun j u hu => by
 rw [Addr.add_lit, Nat.zero_add]
 exact zAA (L := L) h hu
theorem zTY (x : En) : ∀ u ∈ x.cells, u.oneCell' = true := by
 intro u hu
 simp only [En.cells, List.mem_cons, List.mem_nil_iff, or_false] at hu
 rcases hu with rfl | rfl | rfl | rfl | rfl | rfl <;> rfl
theorem zTZ (x : Ev) : ∀ u ∈ x.cells, u.oneCell' = true := by
 intro u hu
 simp only [Ev.cells, List.mem_cons, List.mem_nil_iff, or_false] at hu
 rcases hu with rfl | rfl | rfl | rfl | rfl <;> rfl
theorem zCW (a b : List En) : jJ (a ++ b) = jJ a ++ jJ b := by simp [jJ]
theorem zFA (a b : List Ev) : evCells (a ++ b) = evCells a ++ evCells b := by simp [evCells]
theorem zIE (x : En) : jJ [x] = x.cells := by simp [jJ]
theorem zIF (x : Ev) : evCells [x] = x.cells := by simp [evCells]
theorem AgAt.block {w : World} {r T : Nat} {o : Option Nat} {es : List En} (h : AgAt w r o T es) : ∃ p cap, es.length <= cap /\ cap <= maxLen /\ w.heap[r]? = some (.cells [.slice p es.length cap, .int .u64 T].toArray 194 (0, 0)) /\ Win w 310 6 (.slice p es.length cap) o es.length (jJ es) /\ ∀ k, o = some k -> k ≠ r := by
 obtain ⟨v, h1, h2, h3⟩ := h
 obtain ⟨p, cap, rfl, h4, h5⟩ := h2.form
 exact ⟨p, cap, h4, h5, h1, h2, h3⟩
def LayEnd (w : World) (r : Nat) (o : Option Nat) (T : Nat) (es : List En) (x : En) (e : Ending) (w' : World) : Prop :=
 e = .returned (.tuple #[]) /\ ∃ o', AgAt w' r o' (T + 1) (es ++ [x]) /\ (o' = o ∨ ∃ g, o' = some g /\ w.heap.size <= g) /\ Only (fp r o) w w'
theorem zQL {w W w4 : World} {p : Option Addr} {cap r T n : Nat} {o h4 : Option Nat} {v4 : Value} {es : List En} {x : En} (hb : w.heap[r]? = some (.cells [.slice p es.length cap, .int .u64 T].toArray 194 (0, 0))) (ho : ∀ k, o = some k -> k ≠ r) (hn : n = es.length) (hW : Only (fun _ => False) w W)
  (h4w : Win w4 310 6 v4 h4 (n + 1) (jJ es ++ x.cells)) (h4o : Only (fun k => some k = o) W w4) (hh : h4 = o ∨ ∃ g, h4 = some g /\ W.heap.size <= g) (c : Int) (hc : c = ((T + 1 : Nat) : Int)) :
  ∃ o', AgAt ((w4.setCell ⟨r, 0, none⟩ v4).setCell ⟨r, 1, none⟩ (.int .u64 c)) r o' (T + 1) (es ++ [x]) /\ (o' = o ∨ ∃ g, o' = some g /\ w.heap.size <= g) /\ Only (fp r o) w ((w4.setCell ⟨r, 0, none⟩ v4).setCell ⟨r, 1, none⟩ (.int .u64 c)) := by
 have hr := zAG hb
 have hs := hW.size
 have b4 := h4o.heap (hW.heap hb id) (fun e => ho r e.symm rfl)
 have hne : ∀ k, h4 = some k -> k ≠ r := by
  rintro k rfl
  rcases hh with hh | ⟨g, hg, hge⟩
  ·exact ho k hh.symm
  ·cases hg; omega
 have hO : Only (fun k => k = r) w4 ((w4.setCell ⟨r, 0, none⟩ v4).setCell ⟨r, 1, none⟩ (.int .u64 c)) := ((Only.refl (fun k => k = r) w4).setCell (p := ⟨r, 0, none⟩) (fun _ => rfl) _).setCell (p := ⟨r, 1, none⟩) (fun _ => rfl) _
 subst hc
 subst hn
 refine ⟨h4, ⟨v4, ?_, ?_, hne⟩, ?_, ?_⟩
 ·exact zAE (zAE b4 0 v4) 1 _
 ·rw [List.length_append, zCW, zIE]
  exact h4w.kept hO (fun k hk e => hne k hk e)
 ·rcases hh with hh | ⟨g, hg, hge⟩
  ·exact .inl hh
  ·exact .inr ⟨g, hg, by omega⟩
 ·exact ((hW.mono (T := fp r o) (fun _ _ h => h.elim)).trans h4o (fun k _ hk => .inr hk.symm)).trans hO (fun k _ hk => .inl hk)
set_option maxHeartbeats 400000 in
theorem zLL {w : World} {r T : Nat} {o : Option Nat} {es : List En} (h : AgAt w r o T es) (hn : es.length <= 1000) (hT : T <= 1000000) (x : Ev) : Calls Tryz.prog 146 #[.pointer (some ⟨r, 0, none⟩), x.val] w (LayEnd w r o T es ⟨x, T⟩) := by
 obtain ⟨p, cap, h1, h2, hb, h3, h4⟩ := h.block
 obtain ⟨n, hn'⟩ : ∃ n, n = es.length := ⟨_, rfl⟩
 have hr := zAG hb
 have c0 := zAA hb (i := 0) rfl
 have c1 := zAA hb (i := 1) rfl
 have hE := zh (And.intro hb (And.intro h4 hn'))
 have hk := zh (fun (W w4 : World) (hW : Only (fun _ => False) w W) (h4o : Only (fun k => some k = o) W w4) => by
  have b4 := h4o.heap (hW.heap hb id) (fun e => h4 r e.symm rfl)
  exact And.intro (zAA b4 (i := 0) rfl) (And.intro (zAA b4 (i := 1) rfl) (And.intro (zAC b4 0) (zAC b4 1))))
 have h3' := zh h3
 rw [<- hn'] at c0 h3' hk hn
 have hwr : IntKind.u64.wrap ((T : Int) + 1) = (T : Int) + 1 := IntWalk.u64_in _ (by omega)
 clear h h1 h2 h3 h4 hb hn'
 unfold Ev.val
 go_enter Tryz.func146, Tryz.ntmps146
 go_wp2
 go_region_law (refine zBE rfl (.tmp 8) (.tmp 15) 189 rfl 310 zen 6 48 Tryz.underlying189 zSP rfl (by decide) (v := .slice p n cap) (by simp [Act.eval]) (h3'.out.kept (by first | exact (((Only.refl (fun _ => False) w).alloc _).alloc _).drew | exact (((Only.refl (fun _ => False) w).alloc _).drew).alloc _) (fun _ _ h => h)) (some ⟨w.heap.size + 1, 0, none⟩) 1 1 (by simp [Act.eval]) (En.cells ⟨x, T⟩) rfl (fun _ => ⟨_, rfl, zB0 (zAB _ _ (by simp))⟩) (zTY _) (by unfold maxLen; omega) (by omega) ?_; intro v4 w4 h4 hW4 hO4 hh4; obtain ⟨p4, c4, rfl, _⟩ := hW4.out.form; obtain ⟨d0, d1, d2, d3⟩ := hk.out _ _ (by first | exact (((Only.refl (fun _ => False) w).alloc _).alloc _).drew | exact (((Only.refl (fun _ => False) w).alloc _).drew).alloc _) hO4.out)
 all_goals
  go_wp2
  go_end0
  exact ⟨rfl, zQL (x := ⟨x, T⟩) hE.out.1 hE.out.2.1 hE.out.2.2 (by first | exact (((Only.refl (fun _ => False) w).alloc _).alloc _).drew | exact (((Only.refl (fun _ => False) w).alloc _).drew).alloc _) hW4.out hO4.out hh4.out _ (by omega)⟩
def PopEnd (w : World) (r : Nat) (o : Option Nat) (T : Nat) (es : List En) (x : En) (e : Ending) (w' : World) : Prop :=
 e = .returned (.iface 40 x.e.val) /\ AgAt w' r o T es /\ Only (fun k => k = r) w w'
set_option maxHeartbeats 400000 in
theorem pop_any {w : World} {r T : Nat} {o : Option Nat} {es : List En} {x : En} (h : AgAt w r o T (es ++ [x])) (hn : es.length <= 1000) : Calls Tryz.prog 356 #[.pointer (some ⟨r, 0, none⟩)] w (fun e w' => PopEnd w r o T es x e w') := by
 obtain ⟨p, cap, h1, h2, hb, h3, h4⟩ := h.block
 obtain ⟨n, hn'⟩ : ∃ n, n = es.length := ⟨_, rfl⟩
 have hl : (es ++ [x]).length = n + 1 := by simp [hn']
 obtain ⟨L, hL⟩ : ∃ L, L = n + 1 := ⟨_, rfl⟩
 rw [hl, <- hL] at h1 hb h3
 obtain ⟨g, off, cap', ho, hv, h5, h6, h7, h8, h9⟩ := zG8 h3 (by omega)
 cases hv
 have hr := zAG hb
 have c0 := zAA hb (i := 0) rfl
 have f0 := zAC hb 0
 obtain ⟨a0, a1, a2, a3, a4, a5⟩ := h8 n x (by simp [hn'])
 have hL1 : (L : Int) - 1 = (n : Int) := by omega
 have hcn : (n : Int) <= (cap : Int) := by omega
 have hn1 : (n : Int) < (L : Int) := by omega
 have hn2 : (0 : Int) <= (n : Int) := by omega
 have hn3 : n <= 1000 := by omega
 have hb' := zh hb
 have hE := zh (fun W (hW : W.heap[r]? = some (.cells [.slice (some ⟨g, off, none⟩) n cap, .int .u64 T].toArray 194 (0, 0)) /\ Only (fun k => k = r) w W) => show AgAt W r o T es from by
  have ht := h3.take (k := n) (by omega)
  rw [zCW, List.take_left' (by rw [zA9, hn'])] at ht
  subst hn'
  exact ⟨_, hW.1, ht.kept hW.2 (fun k hk e => h4 k hk e), h4⟩)
 clear h h1 h2 h3 h4 hb hn' hl h5 h6 h8 h9 ho hL
 go_enter Tryz.func356, Tryz.ntmps356
 go_wp2
 go_ret
 refine ⟨rfl, hE.out _ ⟨zAF (zAE hb'.out 0 _) _, ((Only.refl (fun k => k = r) w).setCell (p := ⟨r, 0, none⟩) (fun _ => rfl) _).alloc _⟩, ?_⟩
 exact ((Only.refl (fun k => k = r) w).setCell (p := ⟨r, 0, none⟩) (fun _ => rfl) _).alloc _
theorem ta1 (v : Value) (w : World) : (Instr.typeAssert (.iface 40 v) 20 40 true).run Tryz.prog w = .ok (.tuple #[v, .bool true]) w := by kernel_rfl
theorem ta2 (v : Value) (w : World) : (Instr.typeAssert (.iface 28 v) 20 40 true).run Tryz.prog w = .ok (.tuple #[zev, .bool false]) w := by kernel_rfl
theorem ta3 (v : Value) (w : World) : (Instr.typeAssert (.iface 28 v) 20 28 true).run Tryz.prog w = .ok (.tuple #[v, .bool true]) w := by kernel_rfl
theorem ta4 (v : Value) (w : World) : (Instr.typeAssert (.iface 40 v) 20 40 false).run Tryz.prog w = .ok v w := by kernel_rfl
theorem zSR (a : Addr) (w : World) : (method 529 197 (.pointer (some a)) "Less").run Tryz.prog w = .ok (355, .pointer (some a)) w := by kernel_rfl
theorem zQM (a : Addr) (w : World) : (method 529 197 (.pointer (some a)) "Swap").run Tryz.prog w = .ok (357, .pointer (some a)) w := by kernel_rfl
theorem mLen (a : Addr) (w : World) : (method 529 197 (.pointer (some a)) "Len").run Tryz.prog w = .ok (98, .pointer (some a)) w := by kernel_rfl
theorem zT0 (a : Addr) (w : World) : (method 529 197 (.pointer (some a)) "Push").run Tryz.prog w = .ok (96, .pointer (some a)) w := by kernel_rfl
theorem mPop (a : Addr) (w : World) : (method 529 197 (.pointer (some a)) "Pop").run Tryz.prog w = .ok (356, .pointer (some a)) w := by kernel_rfl
theorem LayEnd.old {w W : World} {r T : Nat} {o : Option Nat} {es : List En} {x : En} {e : Ending} {w' : World} (hW : Only (fun _ => False) w W) (h : LayEnd W r o T es x e w') : LayEnd w r o T es x e w' := by
 obtain ⟨he, o', h1, h2, h3⟩ := h
 refine ⟨he, o', h1, ?_, (hW.mono (T := fp r o) (fun _ _ h => h.elim)).trans' h3⟩
 rcases h2 with h2 | ⟨g, hg, hge⟩
 ·exact .inl h2
 ·exact .inr ⟨g, hg, Nat.le_trans hW.size hge⟩
set_option maxHeartbeats 400000 in
theorem push_any {w : World} {r T : Nat} {o : Option Nat} {es : List En} (h : AgAt w r o T es) (hn : es.length <= 1000) (hT : T <= 1000000) (x : Ev) : Calls Tryz.prog 96 #[.pointer (some ⟨r, 0, none⟩), .iface 40 x.val] w (LayEnd w r o T es ⟨x, T⟩) := by
 have hl := zh (fun (W : World) (hW : Only (fun _ => False) w W) => zLL (h.new hW) hn hT x)
 have t1 := ta1
 clear h hn hT
 unfold Ev.val at *
 go_enter Tryz.func96, Tryz.ntmps96
 go_wp2_with fail
 refine (hl.out _ ((Only.refl _ w).alloc _)).mono ?_
 rintro e w' he
 have he' := zh (he.old ((Only.refl _ w).alloc _))
 obtain ⟨rfl, -⟩ := he
 go_wp2
 go_end0
 exact he'.out
def Heaped (w : World) (r : Nat) (o : Option Nat) (T : Nat) (es : List En) (i0 n : Nat) (w' : World) : Prop :=
 ∃ es', AgAt w' r o T es' /\ List.Perm es' es /\ HeapFrom es' i0 n /\ (∀ k, n <= k -> es'[k]? = es[k]?) /\ Only (fun k => o = some k) w w'
def UpEnd (w : World) (r : Nat) (o : Option Nat) (T : Nat) (es : List En) (n : Nat) (e : Ending) (w' : World) : Prop := e = .returned (.tuple #[]) /\ Heaped w r o T es 0 n w'
def UpRel (w : World) (r : Nat) (o : Option Nat) (T : Nat) (es : List En) (n j : Nat) (w' : World) : Prop :=
 ∃ es', AgAt w' r o T es' /\ List.Perm es' es /\ UpInv es' n j /\ j < n /\ (∀ k, n <= k -> es'[k]? = es[k]?) /\ Only (fun k => o = some k) w w'
theorem zIG {w w1 w2 : World} {r T n i j : Nat} {o : Option Nat} {es es1 : List En} {x y : En} (hA : AgAt w2 r o T (sw es1 i j x y)) (hp : List.Perm es1 es) (hu : UpInv es1 n j) (hj : j < n) (hj0 : 0 < j) (hi : i = (j - 1) / 2) (hx : es1[i]? = some x) (hy : es1[j]? = some y) (hn : n <= es1.length) (hlt : ltB y x = true) (hk : ∀ k, n <= k -> es1[k]? = es[k]?) (h1 : Only (fun k => o = some k) w w1) (h2 : Only (fun k => o = some k) w1 w2) : UpRel w r o T es n i w2 := by
 refine ⟨_, hA, (zID hx hy).trans hp, zQK hu hn hj0 hj hi hx hlt, by omega, fun k hk' => ?_, h1.trans' h2⟩
 rw [zHA (by omega) (by omega), if_neg (by omega), if_neg (by omega)]
 exact hk k hk'
set_option maxHeartbeats 400000 in
theorem zSS {w : World} {r T : Nat} {o : Option Nat} {es : List En} (h : AgAt w r o T es) (n j : Nat) (hn : n <= es.length) (hb : n <= 1000) (hj : j < n) (hu : UpInv es n j) : Calls Tryz.prog 148 #[.iface 197 (.pointer (some ⟨r, 0, none⟩)), .int .i64 j] w (UpEnd w r o T es n) := by
 have ml := zSR
 have ms := zQM
 have hs := zh (show UpRel w r o T es n j w from ⟨es, h, List.Perm.refl _, hu, hj, fun _ _ => rfl, Only.refl _ _⟩)
 have hn' := zh hn
 clear h hn hu
 go_enter Tryz.func148, Tryz.ntmps148
 go_wp2
 go_loopw [1] (fun v wr => ∃ k : Nat, v = .int .i64 k /\ k < n /\ UpRel w r o T es n k wr) (fun v _ => (intOf v).toNat)
 case atStart => exact ⟨j, rfl, hj, hs.out⟩
 case round =>
  obtain ⟨k, rfl, hk, hrel⟩ := hrel
  obtain ⟨ws, hws⟩ : ∃ ws : World, ws = wr := ⟨_, rfl⟩
  subst hws
  obtain ⟨es1, hA, hp, hu, _, ho, hO⟩ := hrel
  have hlen : n <= es1.length := by rw [hp.length_eq]; exact hn'.out
  by_cases h0 : k = 0
  ·subst h0
   have hE := zh (show UpEnd w r o T es n (.returned (.tuple #[])) ws from ⟨rfl, es1, hA, hp, zLH hu (.inl rfl), ho, hO⟩)
   clear hA hp hu ho hO hlen
   go_wp2
   go_end0
   exact hE.out
  ·obtain ⟨i, hi⟩ : ∃ i, i = (k - 1) / 2 := ⟨_, rfl⟩
   obtain ⟨x, hx⟩ : ∃ x, es1[i]? = some x := ⟨es1[i]'(by omega), List.getElem?_eq_getElem _⟩
   obtain ⟨y, hy⟩ : ∃ y, es1[k]? = some y := ⟨es1[k]'(by omega), List.getElem?_eq_getElem _⟩
   have hik : i < k := by omega
   have hq : ((k : Int) - 1) / 2 = (i : Int) := by omega
   have hne : ((i : Int) == (k : Int)) = false := by simp; omega
   have hk1 : 1 <= (k : Int) := by omega
   have vM := zh (zDC hA k i y x hy hx)
   cases hlt : ltB y x with
   | false =>
    have hE := zh (show ∀ W, Only (fun _ => False) ws W -> UpEnd w r o T es n (.returned (.tuple #[])) W from fun W hW => ⟨rfl, es1, hA.new hW, hp, zLH hu (.inr (fun a b ha hb => by
     rw [<- hi] at ha
     rw [hx] at ha; rw [hy] at hb
     cases ha; cases hb
     exact zLG hlt)), ho, hO.trans' (hW.mono (fun _ _ h => h.elim))⟩)
    have kM := zh hlt
    clear hA hp hu ho hO hlen hx hy hi hlt
    go_wp2_with fail
    refine vM.out.mono ?_
    rintro e W ⟨rfl, hW⟩
    rw [kM.out]
    have hE' := zh (hE.out W hW)
    clear hW
    go_wp2
    go_end0
    exact hE'.out
   | true =>
    have hsw := zh (fun W (hW : Only (fun _ => False) ws W) => zDD (hA.new hW) i k x y hx hy (by omega))
    have hE := zh (show ∀ W W', Only (fun _ => False) ws W -> AgAt W' r o T (sw es1 i k x y) -> Only (fun k => o = some k) W W' -> UpRel w r o T es n i W' from fun W W' hW hA' hO' =>
     zIG hA' hp hu hk (by omega) hi hx hy hlen hlt ho hO ((hW.mono (fun _ _ h => h.elim)).trans' hO'))
    have kM := zh hlt
    clear hA hp hu ho hO hlen hx hy hi hlt
    go_wp2_with fail
    refine vM.out.mono ?_
    rintro e W ⟨rfl, hW⟩
    rw [kM.out]
    have hW' := zh hW
    clear hW
    go_wp2_with fail
    refine (hsw.out W hW'.out).mono ?_
    rintro e W' ⟨rfl, hA', hO'⟩
    have hE' := zh (hE.out W W' hW'.out hA' hO')
    clear hA' hO'
    go_wp2
    go_roundw
    case rel => exact ⟨i, rfl, by omega, hE'.out⟩
    case measure => simp [intOf]; omega
def DownEnd (w : World) (r : Nat) (o : Option Nat) (T : Nat) (es : List En) (i0 n : Nat) (e : Ending) (w' : World) : Prop := (∃ b, e = .returned (.bool b)) /\ Heaped w r o T es i0 n w'
def DownRel (w : World) (r : Nat) (o : Option Nat) (T : Nat) (es : List En) (i0 n i : Nat) (w' : World) : Prop :=
 ∃ es', AgAt w' r o T es' /\ List.Perm es' es /\ DownInv es' i0 n i /\ i0 <= i /\ (∀ k, n <= k -> es'[k]? = es[k]?) /\ Only (fun k => o = some k) w w'
theorem zB1 {w w1 w2 : World} {r T n i0 i j : Nat} {o : Option Nat} {es es1 : List En} {x y : En} (hA : AgAt w2 r o T (sw es1 i j x y)) (hp : List.Perm es1 es) (hu : DownInv es1 i0 n i) (hk : Kid es1 n i j) (hi0 : i0 <= i) (hij : i < j) (hx : es1[i]? = some x) (hy : es1[j]? = some y) (hn : n <= es1.length) (hlt : ltB y x = true) (ho : ∀ k, n <= k -> es1[k]? = es[k]?) (h1 : Only (fun k => o = some k) w w1) (h2 : Only (fun k => o = some k) w1 w2) : DownRel w r o T es i0 n j w2 := by
 have hjn := hk.2.1
 refine ⟨_, hA, (zID hx hy).trans hp, zLK hu hk hn hi0 hx hy hlt, by omega, fun k hk' => ?_, h1.trans' h2⟩
 rw [zHA (by omega) (by omega), if_neg (by omega), if_neg (by omega)]
 exact ho k hk'
theorem zDO {w ws W : World} {r T n i0 i j : Nat} {o : Option Nat} {es es1 : List En} {x y : En} (hA : AgAt ws r o T es1) (hp : List.Perm es1 es) (hu : DownInv es1 i0 n i) (hk : Kid es1 n i j) (hx : es1[i]? = some x) (hy : es1[j]? = some y) (hn : n <= es1.length) (hlt : ltB y x = false) (ho : ∀ k, n <= k -> es1[k]? = es[k]?) (h1 : Only (fun k => o = some k) w ws) (hW : Only (fun _ => False) ws W) : Heaped w r o T es i0 n W :=
 ⟨es1, hA.new hW, hp, zLJ hu hk (fun a b ha hb => by
  rw [hx] at ha; rw [hy] at hb
  cases ha; cases hb
  exact zLG hlt) hn, ho, h1.trans' (hW.mono (fun _ _ h => h.elim))⟩
theorem zHB {es : List En} {n i j1 : Nat} {c1 : En} (h1 : j1 = 2 * i + 1) (h2 : j1 < n) (hc : es[j1]? = some c1) (h : j1 + 1 < n -> ∃ c2, es[j1 + 1]? = some c2 /\ ltB c2 c1 = false) : Kid es n i j1 :=
 ⟨by omega, h2, by omega, fun k k1 k2 k3 a b ha hb => by
  rw [hc] at ha
  cases ha
  by_cases hk : k = j1
  ·subst hk
   rw [hc] at hb
   cases hb
   exact le_refl _
  ·obtain rfl : k = j1 + 1 := by omega
   obtain ⟨c2, e2, e3⟩ := h k2
   rw [e2] at hb
   cases hb
   exact zLG e3⟩
theorem zKG {es : List En} {n i j1 : Nat} {c1 c2 : En} (h1 : j1 = 2 * i + 1) (h2 : j1 + 1 < n) (hc : es[j1]? = some c1) (hd : es[j1 + 1]? = some c2) (h : ltB c2 c1 = true) : Kid es n i (j1 + 1) :=
 ⟨by omega, h2, by omega, fun k k1 k2 k3 a b ha hb => by
  rw [hd] at ha
  cases ha
  by_cases hk : k = j1
  ·subst hk
   rw [hc] at hb
   cases hb
   exact zQJ h
  ·obtain rfl : k = j1 + 1 := by omega
   rw [hd] at hb
   cases hb
   exact le_refl _⟩
set_option maxHeartbeats 2000000 in
theorem zJM {w : World} {r T : Nat} {o : Option Nat} {es : List En} (h : AgAt w r o T es) (i0 n : Nat) (hn : n <= es.length) (hb : n <= 1000) (hi0 : i0 <= 1000) (hu : HeapFrom es (i0 + 1) n) : Calls Tryz.prog 147 #[.iface 197 (.pointer (some ⟨r, 0, none⟩)), .int .i64 i0, .int .i64 n] w (DownEnd w r o T es i0 n) := by
 have ml := zSR
 have ms := zQM
 have hs := zh (show DownRel w r o T es i0 n i0 w from ⟨es, h, List.Perm.refl _, zKF hu, Nat.le_refl _, fun _ _ => rfl, Only.refl _ _⟩)
 have hn' := zh hn
 clear h hn hu
 go_enter Tryz.func147, Tryz.ntmps147
 go_wp2
 go_loopw [7] (fun v wr => ∃ k : Nat, v = .int .i64 k /\ k <= 1000 /\ DownRel w r o T es i0 n k wr) (fun v _ => 1000 - (intOf v).toNat)
 case atStart => exact ⟨i0, rfl, hi0, hs.out⟩
 case round =>
  obtain ⟨k, rfl, hk, hrel⟩ := hrel
  obtain ⟨ws, hws⟩ : ∃ ws : World, ws = wr := ⟨_, rfl⟩
  subst hws
  obtain ⟨es1, hA, hp, hu, hik, ho, hO⟩ := hrel
  have hlen : n <= es1.length := by rw [hp.length_eq]; exact hn'.out
  obtain ⟨j1, hj1⟩ : ∃ j1, j1 = 2 * k + 1 := ⟨_, rfl⟩
  have hJ1 : 2 * (k : Int) + 1 = (j1 : Int) := by omega
  have hjb : j1 <= 2001 := by omega
  by_cases h1 : n <= j1
  ·have h1' : (n : Int) <= (j1 : Int) := by omega
   have hE := zh (show Heaped w r o T es i0 n ws from ⟨es1, hA, hp, zLI hu (by omega), ho, hO⟩)
   have jE9 := zh hj1
   clear hA hp hu ho hO hlen hj1
   go_wp2
   go_ret
   exact ⟨⟨_, rfl⟩, hE.out⟩
  ·have h1' : ¬ (n : Int) <= (j1 : Int) := by omega
   obtain ⟨x, hx⟩ : ∃ x, es1[k]? = some x := ⟨es1[k]'(by omega), List.getElem?_eq_getElem _⟩
   obtain ⟨c1, hc1⟩ : ∃ c1, es1[j1]? = some c1 := ⟨es1[j1]'(by omega), List.getElem?_eq_getElem _⟩
   have hjz : ¬ (j1 : Int) < 0 := by omega
   have jE9 := zh hj1
   obtain ⟨j2, hj2⟩ : ∃ j2, j2 = j1 + 1 := ⟨_, rfl⟩
   have hJ2 : (j1 : Int) + 1 = (j2 : Int) := by omega
   have jIf := zh hj2
   have hkj : k < j1 := by omega
   by_cases h2 : j2 < n
   ·have h2' : (j2 : Int) < (n : Int) := by omega
    obtain ⟨c2, hc2⟩ : ∃ c2, es1[j1 + 1]? = some c2 := ⟨es1[j1 + 1]'(by omega), List.getElem?_eq_getElem _⟩
    have hl2 := zh (zDC hA j2 j1 c2 c1 (hj2 ▸ hc2) hc1)
    cases hlt2 : ltB c2 c1 with
    | true =>
     have wH := zKG (es := es1) (n := n) (i := k) hj1 (by omega) hc1 hc2 hlt2
     rw [<- hj2] at wH hc2
     have vM := zh (fun V (hV : Only (fun _ => False) ws V) => zDC (hA.new hV) j2 k c2 x hc2 hx)
     cases hlt : ltB c2 x with
     | false =>
      have hE := zh (fun W (hW : Only (fun _ => False) ws W) => zDO hA hp hu wH hx hc2 hlen hlt ho hO hW)
      have kM := zh hlt
      have wI := zh hlt2
      clear hA hp hu ho hO hlen hx hc1 hc2 hj1 hj2 wH hlt hlt2
      go_wp2_with fail
      refine hl2.out.mono ?_
      rintro e V ⟨rfl, hV⟩
      rw [wI.out]
      have hV' := zh hV
      clear hV
      go_wp2_with fail
      refine (vM.out _ hV'.out).mono ?_
      rintro e W ⟨rfl, hW⟩
      rw [kM.out]
      have hE' := zh (hE.out W (hV'.out.trans' hW))
      clear hW
      go_wp2
      go_ret
      exact ⟨⟨_, rfl⟩, hE'.out⟩
     | true =>
      have hsw := zh (fun W (hW : Only (fun _ => False) ws W) => zDD (hA.new hW) k j2 x c2 hx hc2 (by omega))
      have hE := zh (show ∀ W W', Only (fun _ => False) ws W -> AgAt W' r o T (sw es1 k j2 x c2) -> Only (fun k => o = some k) W W' -> DownRel w r o T es i0 n j2 W' from fun W W' hW hA' hO' =>
       zB1 (i := k) (j := j2) hA' hp hu wH hik (by omega) hx hc2 hlen hlt ho hO ((hW.mono (fun _ _ h => h.elim)).trans' hO'))
      have kM := zh hlt
      have wI := zh hlt2
      clear hA hp hu ho hO hlen hx hc1 hc2 hj1 hj2 wH hlt hlt2
      go_wp2_with fail
      refine hl2.out.mono ?_
      rintro e V ⟨rfl, hV⟩
      rw [wI.out]
      have hV' := zh hV
      clear hV
      go_wp2_with fail
      refine (vM.out _ hV'.out).mono ?_
      rintro e W ⟨rfl, hW⟩
      rw [kM.out]
      have hW' := zh (hV'.out.trans' hW)
      clear hW
      go_wp2_with fail
      refine (hsw.out W hW'.out).mono ?_
      rintro e W' ⟨rfl, hA', hO'⟩
      have hE' := zh (hE.out W W' hW'.out hA' hO')
      clear hA' hO'
      go_wp2
      go_roundw
      case rel => exact ⟨j2, rfl, by omega, hE'.out⟩
      case measure => simp [intOf]; omega
    | false =>
     have wH := zHB (es := es1) (n := n) (i := k) hj1 (by omega) hc1 (fun _ => ⟨c2, hc2, hlt2⟩)
     have vM := zh (fun V (hV : Only (fun _ => False) ws V) => zDC (hA.new hV) j1 k c1 x hc1 hx)
     cases hlt : ltB c1 x with
     | false =>
      have hE := zh (fun W (hW : Only (fun _ => False) ws W) => zDO hA hp hu wH hx hc1 hlen hlt ho hO hW)
      have kM := zh hlt
      have wI := zh hlt2
      clear hA hp hu ho hO hlen hx hc1 hc2 hj1 hj2 wH hlt hlt2
      go_wp2_with fail
      refine hl2.out.mono ?_
      rintro e V ⟨rfl, hV⟩
      rw [wI.out]
      have hV' := zh hV
      clear hV
      go_wp2_with fail
      refine (vM.out _ hV'.out).mono ?_
      rintro e W ⟨rfl, hW⟩
      rw [kM.out]
      have hE' := zh (hE.out W (hV'.out.trans' hW))
      clear hW
      go_wp2
      go_ret
      exact ⟨⟨_, rfl⟩, hE'.out⟩
     | true =>
      have hsw := zh (fun W (hW : Only (fun _ => False) ws W) => zDD (hA.new hW) k j1 x c1 hx hc1 (by omega))
      have hE := zh (show ∀ W W', Only (fun _ => False) ws W -> AgAt W' r o T (sw es1 k j1 x c1) -> Only (fun k => o = some k) W W' -> DownRel w r o T es i0 n j1 W' from fun W W' hW hA' hO' =>
       zB1 (i := k) (j := j1) hA' hp hu wH hik (by omega) hx hc1 hlen hlt ho hO ((hW.mono (fun _ _ h => h.elim)).trans' hO'))
      have kM := zh hlt
      have wI := zh hlt2
      clear hA hp hu ho hO hlen hx hc1 hc2 hj1 hj2 wH hlt hlt2
      go_wp2_with fail
      refine hl2.out.mono ?_
      rintro e V ⟨rfl, hV⟩
      rw [wI.out]
      have hV' := zh hV
      clear hV
      go_wp2_with fail
      refine (vM.out _ hV'.out).mono ?_
      rintro e W ⟨rfl, hW⟩
      rw [kM.out]
      have hW' := zh (hV'.out.trans' hW)
      clear hW
      go_wp2_with fail
      refine (hsw.out W hW'.out).mono ?_
      rintro e W' ⟨rfl, hA', hO'⟩
      have hE' := zh (hE.out W W' hW'.out hA' hO')
      clear hA' hO'
      go_wp2
      go_roundw
      case rel => exact ⟨j1, rfl, by omega, hE'.out⟩
      case measure => simp [intOf]; omega
   ·have h2' : ¬ (j2 : Int) < (n : Int) := by omega
    have wH := zHB (es := es1) (n := n) (i := k) hj1 (by omega) hc1 (fun h => absurd h (by omega))
    have vM := zh (fun V (hV : Only (fun _ => False) ws V) => zDC (hA.new hV) j1 k c1 x hc1 hx)
    cases hlt : ltB c1 x with
    | false =>
     have hE := zh (fun W (hW : Only (fun _ => False) ws W) => zDO hA hp hu wH hx hc1 hlen hlt ho hO hW)
     have kM := zh hlt
     clear hA hp hu ho hO hlen hx hc1 hj1 hj2 wH hlt
     go_wp2_with fail
     refine (vM.out _ (Only.refl _ ws)).mono ?_
     rintro e W ⟨rfl, hW⟩
     rw [kM.out]
     have hE' := zh (hE.out W ((Only.refl _ ws).trans' hW))
     clear hW
     go_wp2
     go_ret
     exact ⟨⟨_, rfl⟩, hE'.out⟩
    | true =>
     have hsw := zh (fun W (hW : Only (fun _ => False) ws W) => zDD (hA.new hW) k j1 x c1 hx hc1 (by omega))
     have hE := zh (show ∀ W W', Only (fun _ => False) ws W -> AgAt W' r o T (sw es1 k j1 x c1) -> Only (fun k => o = some k) W W' -> DownRel w r o T es i0 n j1 W' from fun W W' hW hA' hO' =>
      zB1 (i := k) (j := j1) hA' hp hu wH hik (by omega) hx hc1 hlen hlt ho hO ((hW.mono (fun _ _ h => h.elim)).trans' hO'))
     have kM := zh hlt
     clear hA hp hu ho hO hlen hx hc1 hj1 hj2 wH hlt
     go_wp2_with fail
     refine (vM.out _ (Only.refl _ ws)).mono ?_
     rintro e W ⟨rfl, hW⟩
     rw [kM.out]
     have hW' := zh ((Only.refl _ ws).trans' hW)
     clear hW
     go_wp2_with fail
     refine (hsw.out W hW'.out).mono ?_
     rintro e W' ⟨rfl, hA', hO'⟩
     have hE' := zh (hE.out W W' hW'.out hA' hO')
     clear hA' hO'
     go_wp2
     go_roundw
     case rel => exact ⟨j1, rfl, by omega, hE'.out⟩
     case measure => simp [intOf]; omega
def HPushEnd (w : World) (r : Nat) (o : Option Nat) (T : Nat) (es : List En) (x : Ev) (e : Ending) (w' : World) : Prop :=
 e = .returned (.tuple #[]) /\ ∃ o' es', AgAt w' r o' (T + 1) es' /\ List.Perm es' (es ++ [⟨x, T⟩]) /\ HeapFrom es' 0 es'.length /\ (o' = o ∨ ∃ g, o' = some g /\ w.heap.size <= g) /\ Only (fp r o) w w'
theorem zN6 {es : List En} {x : En} (h : HeapFrom es 0 es.length) : UpInv (es ++ [x]) (es.length + 1) es.length := by
 refine ⟨fun k h1 h2 h3 a b ha hb => ?_, fun k h1 h2 h3 h4 => by omega⟩
 rw [List.getElem?_append_left (by omega)] at ha hb
 exact h k h1 (by omega) (by omega) _ _ ha hb
theorem zQN {w W w' : World} {r : Nat} {o o' : Option Nat} (h1 : Only (fp r o) w W) (ho : o' = o ∨ ∃ g, o' = some g /\ w.heap.size <= g) (h2 : Only (fun k => o' = some k) W w') : Only (fp r o) w w' :=
 h1.trans h2 (fun k hk e => by
  rcases ho with rfl | ⟨g, rfl, hg⟩
  ·exact .inr e
  ·cases e; omega)
set_option maxHeartbeats 400000 in
theorem zLM {w : World} {r T : Nat} {o : Option Nat} {es : List En} (h : AgAt w r o T es) (hh : HeapFrom es 0 es.length) (hn : es.length <= 900) (hT : T <= 1000000) (x : Ev) : Calls Tryz.prog 99 #[.iface 197 (.pointer (some ⟨r, 0, none⟩)), .iface 40 x.val] w (HPushEnd w r o T es x) := by
 have mp := zT0
 have ml := mLen
 have hl := zh (push_any h (by omega) (by omega) x)
 have hu := zh (zN6 (x := ⟨x, T⟩) hh)
 obtain ⟨n, hn'⟩ : ∃ n, n = es.length := ⟨_, rfl⟩
 have hE := zh hn'
 rw [<- hn'] at hn
 have hlen : ∀ y : En, (es ++ [y]).length = n + 1 := fun y => by rw [hn']; simp
 have hlen' := zh hlen
 clear h hh hn' hlen
 go_enter Tryz.func99, Tryz.ntmps99
 go_wp2_with fail
 refine hl.out.mono ?_
 rintro e W ⟨rfl, o', hA, hoo, hO⟩
 have zD := len_any hA
 have hup := zSS hA (n + 1) n (by rw [hlen'.out]; exact Nat.le_refl _) (by omega) (by omega) (by rw [hE.out]; exact hu.out)
 rw [hlen'.out] at zD
 have yJ := zh zD
 have jFa := zh hup
 have hR := zh (And.intro hoo hO)
 have hq : ((n + 1 : Nat) : Int) - 1 = (n : Int) := by omega
 obtain ⟨L, hL⟩ : ∃ L, L = n + 1 := ⟨_, rfl⟩
 rw [<- hL] at hq yJ
 have hL' : (L : Int) <= 1000 := by omega
 have hL1 : 1 <= (L : Int) := by omega
 have jIg := zh hL
 clear zD hup hA hoo hO hL
 go_wp2_with fail
 refine yJ.out.mono ?_
 rintro e W1 ⟨rfl, rfl⟩
 go_wp2_with fail
 refine jFa.out.mono ?_
 rintro e W2 ⟨rfl, es', hA', hp, hf, -, hO'⟩
 have hR' := zh (And.intro hA' (And.intro hp (And.intro hf hO')))
 clear hA' hp hf hO'
 go_wp2
 go_end0
 obtain ⟨hA', hp, hf, hO'⟩ := hR'.out
 refine ⟨rfl, o', es', hA', hp, ?_, hR.out.1, zQN hR.out.2 hR.out.1 hO'⟩
 rw [hp.length_eq, hlen'.out]
 exact hf
def HPopEnd (w : World) (r : Nat) (o : Option Nat) (T : Nat) (es : List En) (x : En) (e : Ending) (w' : World) : Prop :=
 e = .returned (.iface 40 x.e.val) /\ ∃ es', AgAt w' r o T es' /\ List.Perm (es' ++ [x]) es /\ HeapFrom es' 0 es'.length /\ Only (fp r o) w w'
theorem zLN {w : World} {r T : Nat} {o : Option Nat} {es : List En} (h : AgAt w r o T es) (n : Nat) (hn : es.length = n + 1) (x y : En) (hx : es[0]? = some x) (hy : es[n]? = some y) : Calls Tryz.prog 357 #[.pointer (some ⟨r, 0, none⟩), .int .i64 0, .int .i64 n] w (SwapEnd w r o T (sw es 0 n x y)) := by
 by_cases h0 : n = 0
 ·subst h0
  rw [hx] at hy
  cases hy
  exact zLF h 0 x hx
 ·exact zDD h 0 n x y hx hy (by omega)
theorem zLO {es : List En} {n : Nat} {x y : En} (hh : HeapFrom es 0 es.length) (hn : es.length = n + 1) : HeapFrom (sw es 0 n x y) (0 + 1) n := by
 intro k h1 h2 h3 a b ha hb
 rw [zHA (by omega) (by omega)] at ha hb
 rw [if_neg (by omega), if_neg (by omega)] at ha hb
 exact hh k h1 (by omega) (by omega) _ _ ha hb
theorem zKH {es : List En} {n : Nat} {x : En} (hn : es.length = n + 1) (hx : es[n]? = some x) : es = es.take n ++ [x] := by
 have h1 := List.take_add_one (l := es) (i := n)
 rw [hx] at h1
 rw [List.take_of_length_le (by omega)] at h1
 exact h1
theorem zLP {es : List En} {n : Nat} (h : HeapFrom es 0 n) (hn : n <= es.length) : HeapFrom (es.take n) 0 (es.take n).length := by
 have hl : (es.take n).length = n := by rw [List.length_take]; omega
 rw [hl]
 intro k h1 h2 h3 a b ha hb
 rw [List.getElem?_take, if_pos (by omega)] at ha hb
 exact h k h1 h2 h3 _ _ ha hb
set_option maxHeartbeats 400000 in
theorem zN7 {w : World} {r T : Nat} {o : Option Nat} {es : List En} (h : AgAt w r o T es) (hh : HeapFrom es 0 es.length) (hn : es.length <= 1000) (x : En) (hx : es[0]? = some x) : Calls Tryz.prog 208 #[.iface 197 (.pointer (some ⟨r, 0, none⟩))] w (HPopEnd w r o T es x) := by
 have mp := mPop
 have ml := mLen
 have ms := zQM
 obtain ⟨kV, -⟩ := List.getElem?_eq_some_iff.1 hx
 obtain ⟨n, hn'⟩ : ∃ n, es.length = n + 1 := ⟨es.length - 1, by omega⟩
 have hlen := len_any h
 obtain ⟨y, hy⟩ : ∃ y, es[n]? = some y := ⟨es[n]'(by omega), List.getElem?_eq_getElem _⟩
 have hsw := zh (zLN h n hn' x y hx hy)
 have hst := zh (And.intro (zLO (x := x) (y := y) hh hn') (And.intro hn' (And.intro hx hy)))
 obtain ⟨L, hL⟩ : ∃ L, L = es.length := ⟨_, rfl⟩
 rw [<- hL] at hlen
 have hq : (L : Int) - 1 = (n : Int) := by omega
 have hL' : (L : Int) <= 1000 := by omega
 have hL1 : 1 <= (L : Int) := by omega
 have hnb : n <= 1000 := by omega
 have hlen' := zh hlen
 clear h hh hn hx kV hn' hlen hy hL
 go_enter Tryz.func208, Tryz.ntmps208
 go_wp2_with fail
 refine hlen'.out.mono ?_
 rintro e W1 ⟨rfl, rfl⟩
 go_wp2_with fail
 refine hsw.out.mono ?_
 rintro e W ⟨rfl, hA, hO⟩
 obtain ⟨hs1, hs2, hs3, hs4⟩ := hst.out
 have hd := zh (zJM hA 0 n (by rw [zG9]; omega) hnb (by omega) hs1)
 have hO' := zh hO
 clear hA hO hs1 hs2 hs3 hs4
 go_wp2_with fail
 refine hd.out.mono ?_
 rintro e W2 ⟨⟨b, rfl⟩, es2, hA2, hp2, hf2, hk2, hO2⟩
 obtain ⟨hs1, hs2, hs3, hs4⟩ := hst.out
 have hl2 : es2.length = n + 1 := by rw [hp2.length_eq, zG9]; exact hs2
 have hx2 : es2[n]? = some x := by
  rw [hk2 n (Nat.le_refl _), zHA (by omega) (by omega), if_pos rfl]
 have hsp := zKH hl2 hx2
 have jB3 := hA2
 rw [hsp] at jB3
 have xK := zh (pop_any jB3 (by rw [List.length_take]; omega))
 have hE := zh (And.intro (zLP hf2 (by omega)) (And.intro (hsp ▸ hp2.trans (zID hs3 hs4)) hO2))
 clear hs1 hs2 hs3 hs4 hA2 hp2 hf2 hk2 hO2 hl2 hx2 hsp jB3
 go_wp2_with fail
 refine xK.out.mono ?_
 rintro e W3 ⟨rfl, hA3, hO3⟩
 have hF := zh (And.intro hA3 hO3)
 clear hA3 hO3
 go_wp2
 go_ret
 refine ⟨rfl, _, hF.out.1, hE.out.2.1, hE.out.1, ?_⟩
 exact ((hO'.out.trans' hE.out.2.2).mono (T := fp r o) (fun _ _ h => .inr h)).trans hF.out.2 (fun _ _ h => .inl h)
