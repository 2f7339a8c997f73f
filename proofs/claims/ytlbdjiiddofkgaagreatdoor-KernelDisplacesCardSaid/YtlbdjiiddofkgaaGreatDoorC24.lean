import Derived.Test.YtlbdjiiddofkgaaGreatDoorC12
import Derived.Test.YtlbdjiiddofkgaaGreatDoorC23
set_option maxRecDepth 100000
namespace Go.Proofs.YtlbdjiiddofkgaaGreatDoor
open Go Go.RowKit Go.Maps Ring Band
structure xR (c : jD) (pl : Tks) : Prop where
 n8 : c.ta.n <= 8
 n1 : 1 <= c.ta.n
 pr : ∀ (i : Nat) t, i < c.ta.n -> pl.ts[i]? = some t -> 0 <= t.p /\ t.p <= 63
 inj : ∀ (i j : Nat) t u, i < c.ta.n -> j < c.ta.n -> pl.ts[i]? = some t -> pl.ts[j]? = some u -> t.p = u.p -> i = j
theorem zC4 {f : Nat -> Int} {n : Nat} (h : firstNZ f n = 0) : ∀ j, j < n -> f j = 0 := by
 induction n with
 | zero => intro j hj; omega
 | succ n ih =>
  unfold firstNZ at h
  by_cases h0 : firstNZ f n ≠ 0
  ·rw [if_pos h0] at h
   exact absurd h h0
  ·rw [if_neg h0] at h
   intro j hj
   by_cases hjn : j = n
   ·subst hjn; exact h
   ·exact ih (Classical.byContradiction h0) j (by omega)
theorem zQ8 {c : jD} {d : jL} {pl : Tks} (h : confZ c d pl = 0) : xR c pl := by
 unfold confZ at h
 split at h
 ·simp at h
 ·split at h
  ·simp at h
  ·rename_i hm
   split at h
   ·simp at h
   ·rename_i h1
    split at h
    ·simp at h
    ·have hall := zC4 h
     have hm' : ¬ (8 : Int) < c.ta.n := by
      simp only [kQ, decide_eq_true_eq] at hm
      omega
     have get : ∀ (i : Nat) t, i < c.ta.n -> pl.ts[i]? = some t -> t.okB = true /\ (pl.ts.take i).any (fun u => decide (u.p = t.p)) = false := fun i t hi ht => by
      have hz := hall i hi
      unfold Tks.ts at ht
      rw [List.getElem?_map] at ht
      obtain ⟨⟨t', l⟩, hp, he⟩ := Option.map_eq_some_iff.1 ht
      subst he
      rw [zB3 hp] at hz
      unfold taskZ at hz
      split at hz
      ·simp at hz
      ·rename_i hok
       split at hz
       ·contradiction
       ·split at hz
        ·simp at hz
        ·split at hz
         ·simp at hz
         ·rename_i jFn
          exact ⟨by simpa using hok, by simpa using jFn⟩
     refine ⟨by omega, by omega, fun i t hi ht => ?_, ?_⟩
     ·have := (get i t hi ht).1
      unfold jA.okB taskB at this
      simp only [Bool.and_eq_true] at this
      have h0 := this.1.1.1.1.1
      unfold inB at h0
      simp at h0
      exact h0
     ·have key : ∀ (i j : Nat) t u, i < c.ta.n -> j < i -> pl.ts[i]? = some t -> pl.ts[j]? = some u -> t.p = u.p -> False := fun i j t u hi hj ht hu he => by
       have := (get i t hi ht).2
       rw [List.any_eq_false] at this
       have hm2 : u ∈ pl.ts.take i := List.mem_of_getElem? (i := j) (by rw [List.getElem?_take, if_pos hj]; exact hu)
       have := this u hm2
       simp at this
       exact this he.symm
      intro i j t u hi hj ht hu he
      rcases Nat.lt_trichotomy i j with h | h | h
      ·exact (key j i u t hj h hu ht he.symm).elim
      ·exact h
      ·exact (key i j t u hi h ht hu he).elim
def pN (ts : List jA) (i : Nat) : Nat := ((List.map (fun t : jA => t.p) ts).getD i 0).toNat
theorem zHJ {ts : List jA} {i : Nat} {t : jA} (h : ts[i]? = some t) : pN ts i = t.p.toNat := by
 unfold pN
 rw [List.getD_eq_getElem?_getD, List.getElem?_map, h]
 rfl
theorem xR.small {c : jD} {pl : Tks} (h : xR c pl) (hl : pl.ts.length = c.ta.n) : (∀ i, i < c.ta.n -> pN pl.ts i < 64) /\ ∀ i j, i < c.ta.n -> j < c.ta.n -> pN pl.ts i = pN pl.ts j -> i = j := by
 have get : ∀ i, i < c.ta.n -> ∃ t, pl.ts[i]? = some t := fun i hi => ⟨_, List.getElem?_eq_getElem (by omega)⟩
 refine ⟨fun i hi => ?_, fun i j hi hj e => ?_⟩
 ·obtain ⟨t, ht⟩ := get i hi
  have := h.pr i t hi ht
  rw [zHJ ht]
  omega
 ·obtain ⟨t, ht⟩ := get i hi
  obtain ⟨u, hu⟩ := get j hj
  have h1 := h.pr i t hi ht
  have h2 := h.pr j u hj hu
  rw [zHJ ht, zHJ hu] at e
  exact h.inj i j t u hi hj ht hu (by omega)
def zF (_ j : Nat) : Value := if j = 2 then .pointer none else .int .i64 0
def mF (P ring : Nat -> Nat) (k i j : Nat) : Value := if i < k then qF P (fun _ => 0) ring i j else zF i j
structure NAt (w0 w : World) (r G bs bm n k m : Nat) (P ring : Nat -> Nat) : Prop where
 root : w.heap[r]? = some (.cells #[.slice (some ⟨G, 0, none⟩) n n, .pointer (some ⟨bs, 0, none⟩), .map (some bm)] 174 (0, 0))
 rows : w.heap[G]? = some (.cells (trip (mF P ring k) n).toArray 180 (0, 0))
 band : BandAt w bs 0#64
 map : Looks w bm m P
 rings : ∀ i, i < k -> RingAt w (ring i) none 4 [] /\ w0.heap.size <= ring i
 apart : ∀ i j, i < k -> j < k -> i ≠ j -> ring i ≠ ring j
 base : w0.heap.size <= r /\ w0.heap.size <= G /\ w0.heap.size <= bs /\ w0.heap.size <= bm
 only : Only (fun _ => False) w0 w
theorem NAt.new {w w1 w2 : World} {r G bs bm n k m : Nat} {P ring : Nat -> Nat} (h : NAt w w1 r G bs bm n k m P ring) (ho : Only (fun _ => False) w1 w2) : NAt w w2 r G bs bm n k m P ring :=
 ⟨ho.heap h.root id, ho.heap h.rows id, h.band.new ho, h.map.kept ho id, fun i hi => ⟨(h.rings i hi).1.new ho, (h.rings i hi).2⟩, h.apart, h.base, h.only.trans' ho⟩
theorem NAt.done {w0 w : World} {r G bs bm n : Nat} {P ring : Nat -> Nat} (h : NAt w0 w r G bs bm n n n P ring) (hp : ∀ i, i < n -> P i < 64) (hi : ∀ i j, i < n -> j < n -> P i = P j -> i = j) :
  RdAt w w0.heap.size r G bs bm n P (fun _ => 0) ring (fun _ => none) (fun _ => []) 0#64 /\ Bits n P (fun _ => []) 0#64 := by
 refine ⟨⟨h.root, ?_, h.band, h.map, fun i hi => (h.rings i hi).1, fun i j hi hj hij k hk hk' => ?_, fun i hi k hk => ?_, h.base, hp, hi⟩, fun p hp => ?_⟩
 ·have := h.rows
  have e : trip (mF P ring n) n = trip (qF P (fun _ => 0) ring) n := by
   unfold trip
   refine List.map_congr_left fun k hk => ?_
   have := List.mem_range.1 hk
   unfold mF
   rw [if_pos (by omega)]
  rwa [e] at this
 ·rcases hk with rfl | hk
  ·rcases hk' with hk' | hk'
   ·exact h.apart i j hi hj hij hk'
   ·cases hk'
  ·cases hk
 ·rcases hk with rfl | hk
  ·exact (h.rings i hi).2
  ·cases hk
 ·constructor
  ·intro hb; simp at hb
  ·rintro ⟨_, _, _, hq⟩; exact absurd rfl hq
theorem zFF {f g : Nat -> Nat -> Value} (n : Nat) (h : ∀ a b, b < 3 -> f a b = g a b) : trip f n = trip g n := by
 unfold trip
 exact List.map_congr_left fun k _ => h _ _ (Nat.mod_lt _ (by omega))
theorem looks_at {w : World} {bm : Nat} {P : Nat -> Nat} (h : w.heap[bm]? = some (.map #[] 0)) : Looks w bm 0 P := by
 obtain ⟨es, clock, hb, hr⟩ := World.ownsMap_made (H := Unit) w Tryz.prog 3 (plainElem Tryz.prog 3)
 have e := zAB w (.map #[] 0) rfl
 rw [e] at hb
 cases hb
 exact ⟨0, .map [], Nat.le_refl _, ⟨_, _, h, hr⟩, fun i hi => absurd hi (by omega), fun x _ => rfl⟩
theorem nat0 {w w2 W : World} {r G bs bm n : Nat} {P : Nat -> Nat} (h1 : Only (fun _ => False) w w2) (h2 : Only (fun _ => False) w2 W) (hr : W.heap[r]? = some (.cells #[.slice (some ⟨G, 0, none⟩) n n, .pointer (some ⟨bs, 0, none⟩), .map (some bm)] 174 (0, 0)))
  (hG : W.heap[G]? = some (.cells (trip zF n).toArray 180 (0, 0))) (hb : BandAt W bs 0#64) (hm : W.heap[bm]? = some (.map #[] 0)) (l : w2.heap.size <= r /\ w2.heap.size <= G /\ w2.heap.size <= bs /\ w2.heap.size <= bm) : NAt w W r G bs bm n 0 0 P (fun _ => 0) := by
 have hs := h1.size
 refine ⟨hr, ?_, hb, looks_at hm, fun i hi => absurd hi (by omega), fun i j hi => absurd hi (by omega), by omega, h1.trans' h2⟩
 rw [hG, zFF n fun a b hb => ?_]
 unfold mF
 rw [if_neg (by omega)]
theorem zQ9 (P ring : Nat -> Nat) (k x : Nat) : (fun a b => if a = k /\ b = 2 then Value.pointer (some ⟨x, 0, none⟩) else (if a = k /\ b = 1 then .int .i64 0 else (if a = k /\ b = 0 then .int .i64 (P k) else mF P ring k a b))) = fun a b => if b < 3 then mF P (upd ring k x) (k + 1) a b else (if a = k /\ b = 2 then Value.pointer (some ⟨x, 0, none⟩) else mF P ring k a b) := by
 funext a b
 by_cases hb : b < 3
 ·rw [if_pos hb]
  unfold mF qF zF
  have hb' : b = 0 ∨ b = 1 ∨ b = 2 := by omega
  by_cases ha : a = k
  ·subst ha
   rcases hb' with rfl | rfl | rfl <;> simp [upd_self]
  ·have h1 : (a < k + 1) = (a < k) := by rw [eq_iff_iff]; omega
   rcases hb' with rfl | rfl | rfl <;> simp [ha, h1, upd_ne _ _ ha]
 ·rw [if_neg hb]
  by_cases ha : a = k
  ·subst ha
   rw [if_neg (by omega), if_neg (by omega), if_neg (by omega), if_neg (by omega)]
  ·simp [ha]
theorem zL6 (P ring : Nat -> Nat) (n k x : Nat) : (((trip (mF P ring k) n).set (k * 3) (.int .i64 (P k))).set (k * 3 + 1) (.int .i64 0)).set (k * 3 + 2) (.pointer (some ⟨x, 0, none⟩)) = trip (mF P (upd ring k x) (k + 1)) n := by
 have e0 := zD6 (mF P ring k) (n := n) (i := k) (j := 0) (by decide) (.int .i64 (P k))
 rw [Nat.add_zero] at e0
 rw [e0, zD6 _ (by decide), zD6 _ (by decide), zQ9]
 exact zFF n fun a b hb => by rw [if_pos hb]
theorem zKR {w w' : World} {bm k m : Nat} {P : Nat -> Nat} {D : DataW Unit} (hm : m <= k) (hown : w.ownsMap Tryz.prog 3 (plainElem Tryz.prog 3) bm m D) (h1 : ∀ i, i < k -> Maps.has D (.int .i64 (P i)) = true /\ ∀ z, D.atKey (.int .i64 (P i)) z = .lit (.int .i64 i)) (h2 : ∀ x : Int, (∀ i, i < k -> x ≠ P i) -> Maps.has D (.int .i64 x) = false)
  (hne : ∀ i, i < k -> P i ≠ P k) (hown' : w'.ownsMap Tryz.prog 3 (plainElem Tryz.prog 3) bm (m + 1) (D.put (.int .i64 (P k)) (.lit (.int .i64 k)))) : Looks w' bm (k + 1) P := by
 have ht := hown.tidy zJN
 have hkey : ∀ x : Int, WideAt.IsKeyLit (.int .i64 x) := fun x => by simp [WideAt.IsKeyLit]
 have jDr : ∀ i, i < k -> (Lit.int .i64 (P i)) ≠ Lit.int .i64 (P k) := fun i hi e => by
  simp only [Lit.int.injEq, true_and] at e
  exact hne i hi (by omega)
 refine ⟨m + 1, _, by omega, hown', fun i hi => ?_, fun x hx => ?_⟩
 ·by_cases hik : i = k
  ·subst hik
   exact ⟨has_put_same ht.isMap (hkey _) _, fun z => atKey_put_same ht.isMap (hkey _) _ z⟩
  ·have hi' : i < k := by omega
   exact ⟨by rw [has_put_other (jDr i hi')]; exact (h1 i hi').1, fun z => by rw [atKey_put_other (jDr i hi')]; exact (h1 i hi').2 z⟩
 ·have hxk : (Lit.int .i64 x) ≠ Lit.int .i64 (P k) := fun e => by
   simp only [Lit.int.injEq, true_and] at e
   exact hx k (by omega) e
  rw [has_put_other hxk]
  exact h2 x (fun i hi => hx i (by omega))
theorem NAt.store {w W1 W3 : World} {r G bs bm n k x : Nat} {P ring : Nat -> Nat} (h : NAt w W1 r G bs bm n k k P ring) (hx : x = W1.heap.size) (hR : RingAt W3 x none 4 []) (ho : Only (fun _ => False) W1 W3) :
  NAt w (((W3.setCell ⟨G, k * 3, none⟩ (.int .i64 (P k : Int))).setCell ⟨G, k * 3 + 1, none⟩ (.int .i64 0)).setCell ⟨G, k * 3 + 2, none⟩ (.pointer (some ⟨x, 0, none⟩))) r G bs bm n (k + 1) k P (upd ring k x) := by
 have h3 := h.new ho
 have hs := ho.size
 have hlG := lt_of_block h.rows
 have oG : Only (fun y => y = G) W3 (((W3.setCell ⟨G, k * 3, none⟩ (.int .i64 (P k : Int))).setCell ⟨G, k * 3 + 1, none⟩ (.int .i64 0)).setCell ⟨G, k * 3 + 2, none⟩ (.pointer (some ⟨x, 0, none⟩))) :=
  Only.setCell (S := fun y => y = G) (Only.setCell (S := fun y => y = G) (Only.setCell (S := fun y => y = G) (Only.refl _ W3) (p := ⟨G, k * 3, none⟩) (fun _ => rfl) _) (p := ⟨G, k * 3 + 1, none⟩) (fun _ => rfl) _) (p := ⟨G, k * 3 + 2, none⟩) (fun _ => rfl) _
 obtain ⟨_, _, hmb⟩ := h3.map.block
 have nr : r ≠ G := zBH h3.root h3.rows (by decide)
 have nb : bs ≠ G := zBH h3.band h3.rows (by decide)
 have nm : bm ≠ G := fun e => zDE h3.rows hmb e.symm
 have jCd : ∀ y, RingAt W3 y none 4 [] -> y ≠ G := fun y hy e => by
  obtain ⟨c, t, hc, ht⟩ := zCE hy (k := y) (.inl rfl)
  exact zBH hc h3.rows (by rcases ht with rfl | rfl <;> decide) e
 have jC : ∀ y, RingAt W3 y none 4 [] -> RingAt (((W3.setCell ⟨G, k * 3, none⟩ (.int .i64 (P k : Int))).setCell ⟨G, k * 3 + 1, none⟩ (.int .i64 0)).setCell ⟨G, k * 3 + 2, none⟩ (.pointer (some ⟨x, 0, none⟩))) y none 4 [] := fun y hy =>
  hy.kept oG (fun k hk e => by
   rcases hk with rfl | hk
   ·exact jCd _ hy e
   ·cases hk)
 have hlt : ∀ i, i < k -> ring i < W1.heap.size := fun i hi => (h.rings i hi).1.lt _ (.inl rfl)
 refine ⟨oG.heap h3.root nr, ?_, h3.band.kept oG nb, h3.map.kept oG nm, fun i hi => ?_, fun i j hi hj hij => ?_, h.base, h3.only.trans oG (fun y hy e => by subst e; have := h.base; omega)⟩
 ·have := zAE (zAE (zAE h3.rows (k * 3) (.int .i64 (P k : Int))) (k * 3 + 1) (.int .i64 0)) (k * 3 + 2) (.pointer (some ⟨x, 0, none⟩))
  rw [zL6] at this
  exact this
 ·by_cases hik : i = k
  ·subst hik
   rw [upd_self]
   exact ⟨jC _ hR, by rw [hx]; exact h.only.size⟩
  ·rw [upd_ne _ _ hik]
   exact ⟨jC _ (h3.rings i (by omega)).1, (h3.rings i (by omega)).2⟩
 ·by_cases hik : i = k
  ·subst hik
   rw [upd_self, upd_ne _ _ (fun e => hij e.symm)]
   have := hlt j (by omega)
   omega
  ·rw [upd_ne _ _ hik]
   by_cases hjk : j = k
   ·subst hjk
    rw [upd_self]
    have := hlt i (by omega)
    omega
   ·rw [upd_ne _ _ hjk]
    exact h.apart i j (by omega) (by omega) hij
theorem NAt.look {w W w' : World} {r G bs bm n k m : Nat} {P ring : Nat -> Nat} {D : DataW Unit} (h : NAt w W r G bs bm n (k + 1) k P ring) (hm : m <= k) (hown : W.ownsMap Tryz.prog 3 (plainElem Tryz.prog 3) bm m D)
  (h1 : ∀ i, i < k -> Maps.has D (.int .i64 (P i)) = true /\ ∀ z, D.atKey (.int .i64 (P i)) z = .lit (.int .i64 i)) (h2 : ∀ x : Int, (∀ i, i < k -> x ≠ P i) -> Maps.has D (.int .i64 x) = false)
  (hne : ∀ i, i < k -> P i ≠ P k) (hown' : w'.ownsMap Tryz.prog 3 (plainElem Tryz.prog 3) bm (m + 1) (D.put (.int .i64 (P k)) (.lit (.int .i64 k)))) (hg : W.grownBy w' (some bm)) : NAt w w' r G bs bm n (k + 1) (k + 1) P ring := by
 have oM : Only (fun x => x = bm) W w' := (Only.refl _ W).grown hg (fun x hx _ => (Option.some.inj hx).symm)
 obtain ⟨_, _, hmb⟩ := h.map.block
 refine ⟨oM.heap h.root (zDE h.root hmb), oM.heap h.rows (zDE h.rows hmb), h.band.kept oM (zDE h.band hmb), zKR hm hown h1 h2 hne hown', fun i hi => ⟨(h.rings i hi).1.kept oM (fun y hy e => ?_), (h.rings i hi).2⟩, h.apart, h.base, h.only.trans oM (fun y hy e => by subst e; have := h.base; omega)⟩
 obtain ⟨c, t, hc, _⟩ := zCE (h.rings i hi).1 hy
 exact zDE hc hmb e
theorem zIP (n : Nat) : madeCells #[Value.int .i64 0, Value.int .i64 0, Value.pointer none] (n * 3) = (trip zF n).toArray := by
 unfold madeCells trip
 apply Array.ext_getElem?
 intro j
 simp only [Array.getElem?_map, Array.getElem?_range, List.getElem?_toArray, List.getElem?_map]
 by_cases h : j < n * 3
 ·rw [if_pos h, List.getElem?_range h]
  have : j % 3 = 0 ∨ j % 3 = 1 ∨ j % 3 = 2 := by omega
  rcases this with h2 | h2 | h2 <;> simp [zF, h2]
 ·rw [if_neg h, List.getElem?_eq_none (by simp; omega)]
  rfl
theorem zEN (w : World) (n : Nat) (hn : n <= 8) : (Instr.makeSlice 169 (.int .i64 (n : Int)) (.int .i64 (n : Int))).run Tryz.prog w = .ok (.slice (some ⟨w.heap.size, 0, none⟩) n n) (w.alloc (.cells (trip zF n).toArray 180)) := by
 have kF : (Tryz.prog.info? 180).map (fun i => (i.zero, i.size, i.bytes)) = some (some (.agg #[.int .i64 0, .int .i64 0, .pointer none]), 3, 24) := by kernel_rfl
 obtain ⟨i, hi, hzz⟩ := Option.map_eq_some_iff.1 kF
 simp only [Prod.mk.injEq] at hzz
 obtain ⟨hz, hs, hb⟩ := hzz
 have hr := run_make (P := Tryz.prog) w 169 180 i _ Tryz.underlying169 hi hz .i64 .i64 n n (by omega) (Int.le_refl _) (by rw [hb]; omega) (by omega)
 simp only [Int.toNat_natCast, hs] at hr
 rw [hr]
 have := zIP n
 show Result.ok _ (w.alloc (.cells (madeCells #[Value.int .i64 0, Value.int .i64 0, Value.pointer none] (n * 3)) 180)) = _
 rw [this]
theorem zD5 (w : World) (n : Nat) : (Instr.makeMap 172 (some (.int .i64 (n : Int)))).run Tryz.prog w = .ok (.map (some w.heap.size)) (w.alloc (.map #[] 0)) := by
 simp [Instr.makeMap, run_underlying (P := Tryz.prog) Tryz.underlying172, Result.andThen, Sem.run_bind, go_sem]
def RNewOk (w : World) (n : Nat) (P : Nat -> Nat) (e : Ending) (w' : World) : Prop :=
 ∃ r G bs bm ring, e = .returned (.tuple #[.pointer (some ⟨r, 0, none⟩), .int .i64 0]) /\ RdAt w' w.heap.size r G bs bm n P (fun _ => 0) ring (fun _ => none) (fun _ => []) 0#64 /\ Bits n P (fun _ => []) 0#64 /\ Only (fun _ => False) w w'
def RNewEnd (w : World) (z : Int) (n : Nat) (P : Nat -> Nat) (e : Ending) (w' : World) : Prop :=
 if z = 0 then RNewOk w n P e w' else e = .returned (.tuple #[.pointer none, .int .i64 z]) /\ Only (fun _ => False) w w'
def findAfter (n : Nat) : Code -> Option Code
 | .seq (.region m _ _) c => if m = n then some c else findAfter n c
 | .seq a b => match findAfter n a with
  | some c => some c
  | none => findAfter n b
 | .loop c => findAfter n c
 | .scope c => findAfter n c
 | .block _ c => findAfter n c
 | .cond _ a b => match findAfter n a with
  | some c => some c
  | none => findAfter n b
 | _ => none
noncomputable def jCe : Code := ((Tryz.f42.body.bind (findAfter 4)).getD .skip)
set_option maxHeartbeats 4000000 in
theorem zL7 {w W : World} {pl : Tks} {q : Nat} {s wy h mi g : Int} {mA cA eA tA lA : Option Addr} {mn mc cn cc en ec n tc ln lc : Nat} {G bs bm r : Nat} (hT : Hid (TasksAt w ⟨tA, n, tc⟩ pl.ts)) (hn8 : n <= 8)
  (hf' : Hid (xR ⟨s, wy, h, mi, ⟨mA, mn, mc⟩, g, ⟨cA, cn, cc⟩, ⟨eA, en, ec⟩, ⟨tA, n, tc⟩, ⟨lA, ln, lc⟩⟩ pl)) (e8 : W.cell? ⟨q, 8, none⟩ = some (.slice tA n tc)) (hN : NAt w W r G bs bm n 0 0 (pN pl.ts) (fun _ => 0)) :
  Code.wp Tryz.prog jCe (bodyPost Tryz.prog Tryz.f42 (RNewOk w n (pN pl.ts))) { tmps := #[.agg #[.int .i64 s, .int .i64 wy, .int .i64 h, .int .i64 mi, .slice mA mn mc, .int .i64 g, .slice cA cn cc, .slice eA en ec, .slice tA n tc, .slice lA ln lc], .pointer (some ⟨q, 0, none⟩), .pointer none, .int .i64 0, .int .i64 0, .pointer (some ⟨r, 0, none⟩), undef, undef, .agg #[.int .i64 s, .int .i64 wy, .int .i64 h, .int .i64 mi, .slice mA mn mc, .int .i64 g, .slice cA cn cc, .slice eA en ec, .slice tA n tc, .slice lA ln lc], .int .i64 0, .int .i64 0, .bool false, undef, .pointer (some ⟨q, 8, none⟩), .slice tA n tc, .int .i64 n, .slice (some ⟨G, 0, none⟩) n n, .pointer (some ⟨bs, 0, none⟩), .pointer (some ⟨q, 8, none⟩), .slice tA n tc, .int .i64 n, .map (some bm), .agg #[.slice (some ⟨G, 0, none⟩) n n, .pointer (some ⟨bs, 0, none⟩), .map (some bm)], .pointer (some ⟨r, 0, none⟩), undef, undef, undef, undef, undef, undef, undef, undef, undef, undef, undef, undef, undef, undef, undef, undef, undef, undef, undef, undef, undef, undef, undef, undef, undef, undef, undef], defers := [] } W := by
 conv => arg 2; whnf
 have hN' := zh hN
 clear hN
 go_wp2
 go_loopw [6, 7, 27] (fun _ _ i wr => ∃ (k : Nat) (ring : Nat -> Nat), k <= n /\ i = .int .i64 k /\ NAt w wr r G bs bm n k k (pN pl.ts) ring) (fun _ _ i _ => n - (intOf i).toNat)
 case atStart => exact ⟨0, _, Nat.zero_le _, rfl, hN'.out⟩
 case round =>
  obtain ⟨k, ring, hk, rfl, hR⟩ := hrel
  obtain ⟨ws, hws⟩ : ∃ ws : World, ws = wr := ⟨_, rfl⟩
  subst hws
  clear hN' e8
  by_cases hlt : k < n
  ·have kM : (k : Int) < (n : Int) := by omega
   obtain ⟨t, ht⟩ : ∃ t, pl.ts[k]? = some t := ⟨_, List.getElem?_eq_getElem (by have := hT.out.len; simp only at this; omega)⟩
   obtain ⟨bb, off, hA, hb, hC⟩ := hT.out.at_ k t ht
   simp only at hA
   subst hA
   obtain ⟨c0, c1, c2, c3, c4, c5, c6⟩ := hC.new hR.only
   have hb3 := Nat.lt_of_lt_of_le hb hR.only.size
   have hpr := hf'.out.pr k t hlt ht
   have hpk : t.p = (pN pl.ts k : Int) := by rw [zHJ ht]; omega
   have hPk := zh (show pN pl.ts k < 64 by rw [zHJ ht]; omega)
   have jDs := zh (show ∀ i, i < k -> pN pl.ts i ≠ pN pl.ts k from fun i hi e => by
    have := (hf'.out.small hT.out.len).2 i k (by show i < n; omega) hlt e
    omega)
   rw [hpk] at c0
   obtain ⟨P, hP⟩ : ∃ P, P = pN pl.ts := ⟨_, rfl⟩
   rw [<- hP] at c0 hPk jDs hR ⊢
   have hP' := zh hP
   have ht' := zh ht
   have r0 := zAA (L := [_, _, _]) hR.root (i := 0) rfl
   have r1 := zAA (L := [_, _, _]) hR.root (i := 2) rfl
   have hrl := lt_of_block hR.root
   have hR' := zh hR
   clear hR hC hb ht hpr hpk hP
   obtain ⟨tp, tth, tpe, tde, tfr, tfl, ⟨oA, on, oc⟩⟩ := t
   simp only at *
   have hw2 := zh (fun W (hW : Only (fun _ => False) (ws.alloc (.cells #[.int .i64 (P k : Int), .int .i64 tth, .int .i64 tpe, .int .i64 tde, .int .i64 tfr, .int .i64 tfl, .slice oA on oc] 63)) W) => show NAt w W r G bs bm n k k P ring /\ W.heap[ws.heap.size]? = some (.cells #[.int .i64 (P k : Int), .int .i64 tth, .int .i64 tpe, .int .i64 tde, .int .i64 tfr, .int .i64 tfl, .slice oA on oc] 63 (0, 0)) /\ ws.heap.size < W.heap.size from
    ⟨hR'.out.new (((Only.refl _ ws).alloc _).trans' hW), hW.heap (zAB ws _ rfl) id, Nat.lt_of_lt_of_le (by simp) hW.size⟩)
   go_wp2
   clear c0 c1 c2 c3 c4 c5 c6 r0 r1 hrl hb3
   obtain ⟨B, hBe⟩ : ∃ B, B = ws.heap.size := ⟨_, rfl⟩
   rw [<- hBe] at hw2 ⊢
   obtain ⟨W1, hW1⟩ : ∃ W1, W1 = ws.alloc (.cells #[.int .i64 (P k : Int), .int .i64 tth, .int .i64 tpe, .int .i64 tde, .int .i64 tfr, .int .i64 tfl, .slice oA on oc] 63) := ⟨_, rfl⟩
   rw [<- hW1] at hw2 ⊢
   clear hBe hW1 hR'
   have hall := zh (fun W (hW : Only (fun _ => False) W1 W) => show W.cell? ⟨r, 0, none⟩ = some (.slice (some ⟨G, 0, none⟩) n n) /\ W.cell? ⟨B, 0, none⟩ = some (.int .i64 (P k)) /\ r < W.heap.size /\ B < W.heap.size /\ W.cell? ⟨G, k * 3, none⟩ = some (.int .i64 0) /\ W.cell? ⟨G, k * 3 + 1, none⟩ = some (.int .i64 0) /\ W.cell? ⟨G, k * 3 + 2, none⟩ = some (.pointer none) /\ W.frozen? ⟨G, k * 3, none⟩ = false /\ W.frozen? ⟨G, k * 3 + 1, none⟩ = false /\ W.frozen? ⟨G, k * 3 + 2, none⟩ = false from by
    obtain ⟨hN, hd, hBl⟩ := hw2.out W hW
    have e : ∀ j, j < 3 -> (trip (mF P ring k) n)[k * 3 + j]? = some (zF k j) := fun j hj => by rw [zGB _ hlt hj]; unfold mF; rw [if_neg (by omega)]
    exact ⟨zAA (L := [_, _, _]) hN.root (i := 0) rfl, zAA (L := [_, _, _, _, _, _, _]) hd (i := 0) rfl, lt_of_block hN.root, hBl, zAA hN.rows (e 0 (by omega)), zAA hN.rows (e 1 (by omega)), zAA hN.rows (e 2 (by omega)), zAC hN.rows _, zAC hN.rows _, zAC hN.rows _⟩)
   obtain ⟨a0, a1, a2, a3, a4, a5, a6, a7, a8, a9⟩ := hall.out W1 (Only.refl _ _)
   rename_i K2 hK2
   have hnr := zh (fun W (hW : Only (fun _ => False) W1 W) => (Ring.new_ok 4 W (by omega)).mono (fun e w' h => And.intro h.1 (And.intro h.2.1 (And.intro (hW.trans' h.2.2) (zh (And.intro hW h.2.2))))))
   go_region_law (refine zCF rfl Tryz.func89 (by kernel_rfl) rfl _ _ rfl [.int .i64 4] rfl (hnr.out _ (by repeat (first | exact Only.refl _ _ | refine Only.drew ?_ | refine Only.alloc ?_ _))) ?_; rintro e W3 ⟨rfl, hR3, ho3, hx3⟩; obtain ⟨b0, b1, b2, b3, b4, b5, b6, b7, b8, b9⟩ := hall.out W3 ho3; have hst := zh (And.intro ((hw2.out W1 (Only.refl _ _)).1.store rfl hR3 ho3) (hw2.out W3 ho3)); clear hR3 ho3; refine ⟨_, rfl, ?_⟩)
   all_goals
    clear a0 a1 a2 a3 a4 a5 a6 a7 a8 a9 b0 b1 b2 b3 b4 b5 b6 b7 b8 b9
    refine hK2 _ _ ?_
    clear hK2 K2
    obtain ⟨W4, hW4⟩ : ∃ W4, W4 = (((W3.setCell ⟨G, k * 3, none⟩ (.int .i64 (P k : Int))).setCell ⟨G, k * 3 + 1, none⟩ (.int .i64 0)).setCell ⟨G, k * 3 + 2, none⟩ (.pointer (some ⟨W1.heap.size, 0, none⟩))) := ⟨_, rfl⟩
    obtain ⟨hn4, hn3, hB3, hBl⟩ := hst.out
    have d0 : W4.cell? ⟨B, 0, none⟩ = some (.int .i64 (P k)) := by
     rw [hW4]
     have hne : B ≠ G := zBH hB3 hn3.rows (by decide)
     exact zAA (L := [_, _, _, _, _, _, _]) (zAH (zAH (zAH hB3 hne _) hne _) hne _) (i := 0) rfl
    rw [<- hW4] at hn4 ⊢
    clear hn3 hst hB3 hBl
    have d1 := zAA (L := [_, _, _]) hn4.root (i := 2) rfl
    have d2 := lt_of_block hn4.root
    have jFo := zh hn4
    clear hn4 hW4
    refine zAD 7 (by kernel_rfl) (by kernel_rfl) ?_
    simp only [List.take_succ_cons, List.take_zero, List.drop_succ_cons, List.drop_zero]
    repeat (go_big_quiet_step (fail))
    refine wpQuiet_nil ?_
    rintro _ ⟨nq, rfl⟩
    have hn5 := zh (jFo.out.new ((Only.refl _ W4).drewN nq))
    obtain ⟨m, D, hm, hown, h1, h2⟩ := hn5.out.map.ex
    refine wpList_mapUpdate_own _ rfl _ _ _ 172 rfl 3 3 zJN Tryz.underlying172 (plainElem Tryz.prog 3) bm m D rfl hown (by unfold maxLen; omega) _ _ (.int .i64 (P k)) rfl rfl (keyOf_int_mk Tryz.underlying3 (wfI (by omega) (by have := hPk.out; omega))) (.lit (.int .i64 k)) [] (plainElem_int Tryz.underlying3 (wfI (by omega) (by omega))) ?_
    intro w6 hown6 hg6
    have hn6 := zh (hn5.out.look hm hown h1 h2 jDs.out hown6 hg6)
    clear hown h1 h2 hown6 hg6 d0 d1 d2 hm
    go_wp2
    go_roundw
    case rel => exact ⟨k + 1, _, by omega, by go_num, hn6.out⟩
    case measure => simp [intOf]; omega
  ·obtain rfl : k = n := by omega
   have hR' := zh hR
   clear hR
   go_wp2
   go_ret2
   have hd := hR'.out.done (fun i hi => ?_) (fun i j hi hj he => ?_)
   ·exact ⟨r, G, bs, bm, ring, rfl, hd.1, hd.2, hR'.out.only⟩
   ·exact (hf'.out.small hT.out.len).1 i hi
   ·exact (hf'.out.small hT.out.len).2 i j hi hj he
set_option maxHeartbeats 4000000 in
theorem zJR {w : World} (hw : Words w) {c : jD} {d : jL} {pl : Tks} (hc : ConfAt w c d pl) : Calls Tryz.prog 42 #[c.val] w (RNewEnd w (confZ c d pl) c.ta.n (pN pl.ts)) := by
 have hO := (Only.refl (fun _ => False) w).alloc (.cells c.cells.toArray 27)
 have hB := zAB w (.cells c.cells.toArray 27) rfl
 obtain ⟨W1, hW1⟩ : ∃ W1, W1 = w.alloc (.cells c.cells.toArray 27) := ⟨_, rfl⟩
 obtain ⟨q, hq⟩ : ∃ q, q = w.heap.size := ⟨_, rfl⟩
 rw [<- hW1, <- hq] at hB
 rw [<- hW1] at hO
 have e0 := zAA hB (i := 0) rfl
 have e1 := zAA hB (i := 1) rfl
 have e2 := zAA hB (i := 2) rfl
 have e3 := zAA hB (i := 3) rfl
 have e4 := zAA hB (i := 4) rfl
 have e5 := zAA hB (i := 5) rfl
 have e6 := zAA hB (i := 6) rfl
 have e7 := zAA hB (i := 7) rfl
 have e8 := zAA hB (i := 8) rfl
 have e9 := zAA hB (i := 9) rfl
 have hql := zAG hB
 have qc := zGG (w := W1) (fun k s n h1 h2 => ⟨hO.cell (hw k s n h1 h2).1 id, hO.cell (hw k s n h1 h2).2 id⟩) (hc.new hO)
 have hT := zh hc.t
 have zL := zh (fun h => zQ8 (c := c) (d := d) (pl := pl) h)
 obtain ⟨Z, hZ⟩ : ∃ Z, Z = confZ c d pl := ⟨_, rfl⟩
 rw [<- hZ] at qc zL ⊢
 have qc' := zh qc
 unfold jD.cells at hW1
 rw [show c.val = .agg #[.int .i64 c.s, .int .i64 c.wy, .int .i64 c.h, .int .i64 c.mi, .slice c.mb.A c.mb.n c.mb.cap, .int .i64 c.g, .slice c.cn.A c.cn.n c.cn.cap, .slice c.ce.A c.ce.n c.ce.cap, .slice c.ta.A c.ta.n c.ta.cap, .slice c.li.A c.li.n c.li.cap] from rfl] at qc' ⊢
 obtain ⟨s, wy, h, mi, ⟨mA, mn, mc⟩, g, ⟨cA, cn, cc⟩, ⟨eA, en, ec⟩, ⟨tA, n, tc⟩, ⟨lA, ln, lc⟩⟩ := c
 simp only at *
 have wX := zh hW1
 have hO' := zh hO
 have hq' := zh hq
 have hB' := zh hB
 clear hB hW1 hO hq hc hw qc hZ
 by_cases hz : Z = 0
 ·subst hz
  refine (show Calls Tryz.prog 42 _ w (RNewOk w n (pN pl.ts)) from ?_).mono (fun e w' h => by unfold RNewEnd; rw [if_pos rfl]; exact h)
  have hf := zL.out rfl
  have hn8 : n <= 8 := hf.n8
  have mk := fun W0 : World => zEN W0 n hn8
  have hmk := fun W0 : World => zD5 W0 n
  have hf' := zh hf
  clear hf zL
  go_enter Tryz.func42, Tryz.ntmps42
  go_wp2_with fail
  rw [<- wX.out, <- hq'.out]
  refine qc'.out.mono ?_
  rintro e W2 ⟨rfl, ho2⟩
  have zB := zh ho2
  replace e8 := ho2.cell e8 id
  replace hql := Nat.lt_of_lt_of_le hql ho2.size
  have qn := zh (fun W (hW : Only (fun _ => False) W2 W) => (zOE W).mono (fun e w' (h : NewEnd W e w') => And.intro h.1 (And.intro h.2.1 (And.intro (hW.trans' h.2.2) (zh (And.intro hW h.2.2))))))
  clear ho2 e0 e1 e2 e3 e4 e5 e6 e7 e9
  go_wp2
  rename_i K hK
  have key : ∀ (G bs bm r : Nat) (W : World), NAt w W r G bs bm n 0 0 (pN pl.ts) (fun _ => 0) -> Only (fun _ => False) W2 W -> K { tmps := #[.agg #[.int .i64 s, .int .i64 wy, .int .i64 h, .int .i64 mi, .slice mA mn mc, .int .i64 g, .slice cA cn cc, .slice eA en ec, .slice tA n tc, .slice lA ln lc], .pointer (some ⟨q, 0, none⟩), .pointer none, .int .i64 0, .int .i64 0, .pointer (some ⟨r, 0, none⟩), undef, undef, .agg #[.int .i64 s, .int .i64 wy, .int .i64 h, .int .i64 mi, .slice mA mn mc, .int .i64 g, .slice cA cn cc, .slice eA en ec, .slice tA n tc, .slice lA ln lc], .int .i64 0, .int .i64 0, .bool false, undef, .pointer (some ⟨q, 8, none⟩), .slice tA n tc, .int .i64 n, .slice (some ⟨G, 0, none⟩) n n, .pointer (some ⟨bs, 0, none⟩), .pointer (some ⟨q, 8, none⟩), .slice tA n tc, .int .i64 n, .map (some bm), .agg #[.slice (some ⟨G, 0, none⟩) n n, .pointer (some ⟨bs, 0, none⟩), .map (some bm)], .pointer (some ⟨r, 0, none⟩), undef, undef, undef, undef, undef, undef, undef, undef, undef, undef, undef, undef, undef, undef, undef, undef, undef, undef, undef, undef, undef, undef, undef, undef, undef, undef, undef], defers := [] } W := fun G bs bm r W hN hWW => hK _ _ (zL7 hT hn8 hf' (hWW.cell e8 id) hN)
  clear hK
  go_region_law (refine zCF rfl Tryz.func88 (by kernel_rfl) rfl _ _ rfl [.slice none 0 0] rfl (qn.out _ (by repeat (first | exact Only.refl _ _ | refine Only.drew ?_ | refine Only.alloc ?_ _))) ?_; rintro e W ⟨rfl, hb3, ho3, hx3⟩; have e8' := ho3.cell e8 id; have jIn := Nat.lt_of_lt_of_le hql ho3.size; refine ⟨_, rfl, ?_⟩)
  all_goals
   obtain ⟨hx1, hx2⟩ := hx3.out
   have hl1 := hx1.size
   have hl2 := hx2.size
   simp only [World.drew, zAS] at hl1 hl2
   simp only [World.drew, zAS] at hb3
   refine key _ _ _ _ _ (nat0 (hO'.out.trans' zB.out) (by repeat (first | exact ho3 | refine Only.drew ?_ | refine Only.alloc ?_ _)) (zAB _ _ (by simp)) ?_ (hb3.new (by repeat (first | exact Only.refl _ _ | refine Only.alloc ?_ _))) ?_ (by omega)) (by repeat (first | exact ho3 | refine Only.drew ?_ | refine Only.alloc ?_ _))
   all_goals
    repeat (first | exact zAB _ _ (by first | rfl | (simp; done)) | refine zAF ?_ _ | refine hx2.heap ?_ id)
 ·refine (show Calls Tryz.prog 42 _ w (fun e w' => e = .returned (.tuple #[.pointer none, .int .i64 Z]) /\ Only (fun _ => False) w w') from ?_).mono (fun e w' h => by unfold RNewEnd; rw [if_neg hz]; exact h)
  have hne : (Z != 0) = true := by simpa using hz
  go_enter Tryz.func42, Tryz.ntmps42
  go_wp2_with fail
  rw [<- wX.out]
  refine qc'.out.mono ?_
  rintro e W2 ⟨rfl, ho2⟩
  have zB := zh (hO'.out.trans' ho2)
  clear ho2
  go_wp2
  go_ret2
  exact ⟨rfl, zB.out⟩
