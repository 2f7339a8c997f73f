import Derived.Test.YtkggimgechhjnaaGreatDoorC41
namespace Go.Proofs.YtkggimgechhjnaaGreatDoor
namespace Krn
open Go Go.RowKit Go.Maps Ring Band
def CloneEnd (w : World) (t : TypeId) (sz : Nat) (n : Nat) (xs : List Value) (e : Ending) (w' : World) : Prop :=
 ∃ v h, e = .returned v /\ Win w' t sz v h n xs /\ (∀ k, h = some k -> w.heap.size <= k) /\ Only (fun _ => False) w w'
theorem zPJ {w : World} {v : Value} {h : Option Nat} {n : Nat} {xs : List Value} (hW : Win w 60 7 v h n xs) (h1 : ∀ u ∈ xs, u.oneCell' = true) (hn : n <= 1000000000) : Calls Tryz.prog 69 #[v] w (CloneEnd w 60 7 n xs) := by
 have hxl : xs.length = n * 7 := hW.1
 obtain ⟨p, cap, rfl, h2, h3⟩ := hW.form
 cases p with
 | none =>
  have h0 : n = 0 := by
   by_cases hc : 0 < n
   ·obtain ⟨_, _, _, _, e, _⟩ := hW.at_ hc
    cases e
   ·omega
  subst h0
  obtain rfl : xs = [] := List.eq_nil_of_length_eq_zero (by omega)
  have hnil : Sem.run Tryz.prog (binOp .eql 49 (.slice none 0 cap) (.slice none 0 0)) w = .ok (.bool true) w := by kernel_rfl
  clear h1 h2 h3 hW hn hxl
  go_enter Tryz.func69, Tryz.ntmps69
  go_wp2
  go_ret
  exact ⟨_, none, rfl, Win.nil _ _ _, fun k hk => (by cases hk), Only.refl _ _⟩
 | some a =>
  have hW' := Lib.hid hW
  have hx' := Lib.hid hxl
  have hnil : Sem.run Tryz.prog (binOp .eql 49 (.slice (some a) n cap) (.slice none 0 0)) w = .ok (.bool false) w := by kernel_rfl
  clear hW hxl
  go_enter Tryz.func69, Tryz.ntmps69
  go_wp2_with (at_builtin; refine zAO rfl _ _ 49 rfl 60 zrc.val 7 56 Tryz.underlying49 zP6 rfl (by decide) rfl (Win.empty (w.alloc (.cells #[] 60)) 60 7 (some ⟨w.heap.size, 0, none⟩)) (some a) n cap rfl xs hx'.out ((hW'.out.kept ((Only.refl (fun _ => False) w).alloc _) (fun _ _ h => h)).src) h1 (by unfold maxLen; omega) (by omega) ?_; intro v' w4 h4 hW4 hO4 hh4)
  go_ret
  refine ⟨v', h4, rfl, ?_, ?_, ?_⟩
  ·have := hW4.out
   rwa [Nat.zero_add, List.nil_append] at this
  ·intro k hk
   rcases hh4.out with rfl | ⟨g, rfl, hg⟩
   ·cases hk
   ·cases hk
    simp at hg
    omega
  ·exact ((Only.refl (fun _ => False) w).alloc _).trans hO4.out (fun _ _ e => by cases e)
theorem zM2 {α : Type} {f : α -> List Value} (hf : ∀ x, ∀ u ∈ f x, u.oneCell' = true) (l : List α) : ∀ u ∈ rowC f l, u.oneCell' = true := by
 intro u hu
 obtain ⟨x, _, hx⟩ := List.mem_flatMap.1 hu
 exact hf x u hx
section
variable {w w' : World} {c : KC} {m : KM} {s : KS}
theorem zPK (h : KAt w c m s) : Calls Tryz.prog 19 #[ptr m.k] w (GrowV (.int .i64 s.now) w) := by
 have c19 := zAA h.root (i := 19) rfl
 have hlt := (h.lt 0 m.k rfl).1
 unfold ptr
 clear h
 go_enter Tryz.func19, Tryz.ntmps19
 go_wp2
 go_ret
 exact ⟨rfl, Only.refl _ _⟩
theorem zM3 (h : KAt w c m s) : Calls Tryz.prog 28 #[ptr m.k] w (GrowV (.int .i64 s.pk) w) := by
 have c15 := zAA h.root (i := 15) rfl
 have hlt := (h.lt 0 m.k rfl).1
 have hp := Lib.hid (zOR (show StAt w m.b10 m.o10 s.pk s.fs from h.p 12))
 unfold ptr at *
 clear h
 go_enter Tryz.func28, Tryz.ntmps28
 go_wp2_with fail
 refine hp.out.mono ?_
 rintro e w1 ⟨rfl, rfl⟩
 go_wp2
 go_ret
 exact ⟨rfl, Only.refl _ _⟩
theorem zI0 (h : KAt w c m s) (hn : s.fs.length <= 1000) : Calls Tryz.prog 27 #[ptr m.k] w (FAllEnd w s.fs) := by
 have c15 := zAA h.root (i := 15) rfl
 have hlt := (h.lt 0 m.k rfl).1
 have hp := Lib.hid (zOS (show StAt w m.b10 m.o10 s.pk s.fs from h.p 12) hn)
 unfold ptr at *
 clear h
 go_enter Tryz.func27, Tryz.ntmps27
 go_wp2_with fail
 refine hp.out.mono ?_
 rintro e w1 he
 have he' := Lib.hid he
 obtain ⟨v, g, rfl, -⟩ := he
 go_wp2
 go_ret
 exact he'.out
theorem zKX (h : KAt w c m s) (hn : s.tr.length <= 1000000000) : Calls Tryz.prog 21 #[ptr m.k] w (CloneEnd w 60 7 s.tr.length (rowC Rc.cells s.tr)) := by
 have c18 := zAA h.root (i := 18) rfl
 have hlt := (h.lt 0 m.k rfl).1
 have hp := Lib.hid (zPJ (show Win w 60 7 m.vt m.ot s.tr.length (rowC Rc.cells s.tr) from h.p 15) (zM2 zP5 _) hn)
 obtain ⟨p, cap, hv, -, -⟩ := Win.form (show Win w 60 7 m.vt m.ot s.tr.length (rowC Rc.cells s.tr) from h.p 15)
 obtain ⟨xs, hxs⟩ : ∃ xs, xs = rowC Rc.cells s.tr := ⟨_, rfl⟩
 obtain ⟨n, hnn⟩ : ∃ n, n = s.tr.length := ⟨_, rfl⟩
 rw [hv, <- hnn] at c18
 rw [hv, <- hxs, <- hnn] at hp
 rw [<- hxs, <- hnn]
 unfold ptr at *
 clear h hn hv hxs hnn
 go_enter Tryz.func21, Tryz.ntmps21
 go_wp2_with fail
 refine hp.out.mono ?_
 rintro e w1 he
 have he' := Lib.hid he
 obtain ⟨v, g, rfl, -⟩ := he
 go_wp2
 go_ret
 exact he'.out
end
def repC (x : Et) : List Value := [.int .i64 x.ta, .int .i64 x.jb, .int .i64 x.re, .int .i64 x.st, .int .i64 x.en, .bool x.fa, .int .i64 x.di, .int .i64 x.hi, .int .i64 x.mi, .int .i64 x.wi, .int .i64 x.ba]
def repZ : Value := .agg #[.int .i64 0, .int .i64 0, .int .i64 0, .int .i64 0, .int .i64 0, .bool false, .int .i64 0, .int .i64 0, .int .i64 0, .int .i64 0, .int .i64 0]
theorem zCO (x : Et) : (repC x).length = 11 := rfl
theorem zTH : (Tryz.prog.info? 65).map (fun i => (i.zero, i.size, i.bytes)) = some (some repZ, 11, 88) := by kernel_rfl
theorem zM4 (n : Nat) : madeCells repZ.cells (n * 11) = (rowC repC (List.replicate n zet)).toArray := by
 show madeCells #[Value.int .i64 0, Value.int .i64 0, Value.int .i64 0, Value.int .i64 0, Value.int .i64 0, Value.bool false, Value.int .i64 0, Value.int .i64 0, Value.int .i64 0, Value.int .i64 0, Value.int .i64 0] (n * 11) = _
 unfold madeCells
 apply Array.ext_getElem?
 intro j
 simp only [Array.getElem?_map, Array.getElem?_range, List.getElem?_toArray]
 by_cases h : j < n * 11
 ·rw [if_pos h]
  have hj : j = j / 11 * 11 + j % 11 := by omega
  have hm : j % 11 < 11 := Nat.mod_lt _ (by omega)
  have h1 : (List.replicate n zet)[j / 11]? = some zet := by rw [List.getElem?_replicate, if_pos (by omega)]
  have h2 := zB6 zCO _ _ _ h1 (j % 11) hm
  rw [<- hj] at h2
  rw [h2]
  have : j % 11 = 0 ∨ j % 11 = 1 ∨ j % 11 = 2 ∨ j % 11 = 3 ∨ j % 11 = 4 ∨ j % 11 = 5 ∨ j % 11 = 6 ∨ j % 11 = 7 ∨ j % 11 = 8 ∨ j % 11 = 9 ∨ j % 11 = 10 := by omega
  rcases this with h3 | h3 | h3 | h3 | h3 | h3 | h3 | h3 | h3 | h3 | h3 <;> simp [zet, repC, h3]
 ·rw [if_neg h, List.getElem?_eq_none (by rw [zCI zCO, List.length_replicate]; omega)]
  rfl
theorem zGL (w : World) (n : Nat) (hn : n <= 1000000000) : Sem.run Tryz.prog (Instr.makeSlice 48 (.int .i64 (n : Int)) (.int .i64 (n : Int))) w = .ok (.slice (some ⟨w.heap.size, 0, none⟩) n n) (w.alloc (.cells (rowC repC (List.replicate n zet)).toArray 65)) := by
 obtain ⟨i, hi, hzz⟩ := Option.map_eq_some_iff.1 zTH
 simp only [Prod.mk.injEq] at hzz
 obtain ⟨hz, hs, hb⟩ := hzz
 have hr := run_make (P := Tryz.prog) w 48 65 i _ Tryz.underlying48 hi hz .i64 .i64 n n (by omega) (Int.le_refl _) (by rw [hb]; omega) (by omega)
 simp only [Int.toNat_natCast, hs] at hr
 rw [zM4] at hr
 exact hr
theorem zHT {α : Type} {f : α -> List Value} {sz : Nat} (h0 : 0 < sz) (hf : ∀ x, (f x).length = sz) (l : List α) (i : Nat) (y : α) (hi : i < l.length) : rowC f (l.set i y) = setList (rowC f l) (i * sz) (f y) := by
 have hln := zCI hf l
 have hfy := hf y
 have hle : i * sz + sz <= l.length * sz := by
  have := Nat.mul_le_mul_right sz (show i + 1 <= l.length from hi)
  rw [Nat.add_mul, Nat.one_mul] at this
  exact this
 apply List.ext_getElem?
 intro k
 by_cases hk : k < l.length * sz
 ·have hq : k / sz < l.length := Nat.div_lt_of_lt_mul (by rw [Nat.mul_comm]; exact hk)
  have hm : k % sz < sz := Nat.mod_lt _ h0
  have hkk : k = k / sz * sz + k % sz := by rw [Nat.mul_comm]; exact (Nat.div_add_mod k sz).symm
  by_cases he : k / sz = i
  ·have h1 : (l.set i y)[k / sz]? = some y := by rw [he]; exact List.getElem?_set_self hi
   have h2 := zB6 hf _ _ _ h1 (k % sz) hm
   rw [<- hkk] at h2
   have h3 := zBC (f y) (i * sz) (rowC f l) (k % sz) (by omega) (by omega)
   rw [<- he, <- hkk] at h3
   rw [h2, <- he, h3]
  ·have h1 : (l.set i y)[k / sz]? = some l[k / sz] := by rw [List.getElem?_set_ne (fun e => he e.symm)]; exact List.getElem?_eq_getElem hq
   have h2 := zB6 hf _ _ _ h1 (k % sz) hm
   have h3 := zB6 hf l _ _ (List.getElem?_eq_getElem hq) (k % sz) hm
   rw [<- hkk] at h2 h3
   have hout : k < i * sz ∨ i * sz + (f y).length <= k := by
    rcases Nat.lt_or_gt_of_ne he with h | h
    ·left
     have := Nat.mul_le_mul_right sz (show k / sz + 1 <= i from h)
     rw [Nat.add_mul, Nat.one_mul] at this
     omega
    ·right
     have := Nat.mul_le_mul_right sz (show i + 1 <= k / sz from h)
     rw [Nat.add_mul, Nat.one_mul] at this
     omega
   rw [h2, zA0 _ _ _ _ hout, h3]
 ·rw [List.getElem?_eq_none (by rw [zCI hf, List.length_set]; omega), List.getElem?_eq_none (by rw [zAX]; omega)]
def mixE (l : List Et) (k : Nat) : List Et := l.take k ++ List.replicate (l.length - k) zet
theorem zGM (l : List Et) {k : Nat} (h : k <= l.length) : (mixE l k).length = l.length := by
 unfold mixE
 rw [List.length_append, List.length_take, List.length_replicate]
 omega
theorem zPL (l : List Et) : mixE l l.length = l := by
 unfold mixE
 rw [List.take_length, Nat.sub_self]
 simp
theorem zM5 {l : List Et} {k : Nat} {x : Et} (h : l[k]? = some x) : mixE l (k + 1) = (mixE l k).set k x := by
 have hk := (List.getElem?_eq_some_iff.1 h).1
 apply List.ext_getElem?
 intro i
 have hl1 := zGM l (show k + 1 <= l.length from hk)
 have hl2 := zGM l (show k <= l.length by omega)
 by_cases hi : i = k
 ·subst hi
  rw [List.getElem?_set_self (by omega)]
  unfold mixE
  rw [List.getElem?_append_left (by rw [List.length_take]; omega), List.getElem?_take, if_pos (by omega), h]
 ·rw [List.getElem?_set_ne (fun e => hi e.symm)]
  unfold mixE
  by_cases h2 : i < k
  ·rw [List.getElem?_append_left (by rw [List.length_take]; omega), List.getElem?_append_left (by rw [List.length_take]; omega), List.getElem?_take, List.getElem?_take, if_pos (by omega), if_pos h2]
  ·rw [List.getElem?_append_right (by rw [List.length_take]; omega), List.getElem?_append_right (by rw [List.length_take]; omega), List.getElem?_replicate, List.getElem?_replicate, List.length_take, List.length_take]
   have : min (k + 1) l.length = k + 1 := by omega
   have : min k l.length = k := by omega
   by_cases h3 : i < l.length
   ·rw [if_pos (by omega), if_pos (by omega)]
   ·rw [if_neg (by omega), if_neg (by omega)]
section
variable {w w' : World} {c : KC} {m : KM} {s : KS}
theorem zHU (h : KAt w c m s) (hn : s.ents = []) : Calls Tryz.prog 22 #[ptr m.k] w (GrowV (.slice none 0 0) w) := by
 have c17 := zAA h.root (i := 17) rfl
 have hlt := (h.lt 0 m.k rfl).1
 obtain ⟨p, cap, hv, -, -⟩ := Win.form (show Win w 146 13 m.ve m.oe s.ents.length (rowC Et.cells s.ents) from h.p 14)
 rw [hv, hn] at c17
 simp only [List.length_nil] at c17
 unfold ptr
 clear h hv hn
 go_enter Tryz.func22, Tryz.ntmps22
 go_wp2
 go_ret
 exact ⟨rfl, Only.refl _ _⟩
set_option maxRecDepth 100000 in
set_option maxHeartbeats 1000000 in
theorem zI1 (h : KAt w c m s) (h0 : 0 < s.ents.length) (hl : s.ents.length <= 1000000000) : Calls Tryz.prog 22 #[ptr m.k] w (CloneEnd w 65 11 s.ents.length (rowC repC s.ents)) := by
 have c17 := zAA h.root (i := 17) rfl
 have hlt := (h.lt 0 m.k rfl).1
 have hrow := Lib.hid (fun (k : Nat) (x : Et) (hx : s.ents[k]? = some x) => h.entry hx)
 obtain ⟨g, off, cap, hg0, hv, -, -, -, hgl, -, hgf⟩ := zBI zFG (show Win w 146 13 m.ve m.oe s.ents.length (rowC Et.cells s.ents) from h.p 14) (List.getElem?_eq_getElem h0)
 have hcell := Lib.hid (fun (k : Nat) (x : Et) (hx : s.ents[k]? = some x) => show ∀ j u, x.cells[j]? = some u -> w.cell? ⟨g, off + k * 13 + j, none⟩ = some u from by
  obtain ⟨g', off', cap', n', q1, q2, -, -, -, -, -, q8, -⟩ := h.entry hx
  rw [hv] at q2
  cases q2
  exact q8)
 obtain ⟨n, hn⟩ : ∃ n, n = s.ents.length := ⟨_, rfl⟩
 obtain ⟨l, hll⟩ : ∃ l, l = s.ents := ⟨_, rfl⟩
 rw [hv, <- hn] at c17
 rw [<- hll] at hn hcell h0 hl ⊢
 rw [<- hn] at h0 hl ⊢
 have hn' := Lib.hid hn
 have hmake := zGL w n hl
 have hn1 : ¬ (n : Int) = 0 := by omega
 have hgk : g ≠ w.heap.size := by
  have := hgl
  omega
 unfold ptr
 clear h hrow hv hn hll hg0 hgf
 go_enter Tryz.func22, Tryz.ntmps22
 go_wp2_with fail
 have hG0 : (w.alloc (.cells (rowC repC (List.replicate n zet)).toArray 65)).heap[w.heap.size]? = some (.cells (rowC repC (List.replicate n zet)).toArray 65 (0, 0)) := zAB _ _ rfl
 have hO0 : Only (fun _ => False) w (w.alloc (.cells (rowC repC (List.replicate n zet)).toArray 65)) := (Only.refl _ w).alloc _
 obtain ⟨G, hG⟩ : ∃ G, G = w.heap.size := ⟨_, rfl⟩
 rw [<- hG] at hG0 hgk ⊢
 obtain ⟨W1, hW1⟩ : ∃ W1, W1 = w.alloc (.cells (rowC repC (List.replicate n zet)).toArray 65) := ⟨_, rfl⟩
 rw [<- hW1] at hG0 hO0 ⊢
 have hW1' := Lib.hid hW1
 have hG' := Lib.hid hG
 have hst := Lib.hid hG0
 clear hmake c17 hlt hG0 hW1 hG
 go_loopw [27] (fun i wr => ∃ k : Nat, k <= n /\ i = .int .i64 k /\ wr.heap[G]? = some (.cells (rowC repC (mixE l k)).toArray 65 (0, 0)) /\ Only (fun x => x = G) W1 wr) (fun i _ => n - (intOf i).toNat)
 case atStart =>
  refine ⟨0, Nat.zero_le _, rfl, ?_, Only.refl _ _⟩
  have := hst.out
  unfold mixE
  rw [List.take_zero, List.nil_append, Nat.sub_zero, <- hn'.out]
  exact this
 case round =>
  obtain ⟨k, hk, rfl, hR, hO⟩ := hrel
  by_cases hkn : k < n
  ·have hkn' : (k : Int) < (n : Int) := by omega
   obtain ⟨x, hx⟩ : ∃ x, l[k]? = some x := ⟨_, List.getElem?_eq_getElem (by have := hn'.out; omega)⟩
   have hc : ∀ j u, x.cells[j]? = some u -> wr.cell? ⟨g, off + k * 13 + j, none⟩ = some u := fun j u hu => hO.cell (hO0.cell (hcell.out k x hx j u hu) (fun h => h)) hgk
   have hgw : g < wr.heap.size := Nat.lt_of_lt_of_le (Nat.lt_of_lt_of_le hgl hO0.size) hO.size
   have hGw : G < wr.heap.size := zAG hR
   have hfin : ((wr.setCells G (k * 11) (repC x)).alloc (.cells x.cells.toArray 146)).heap[G]? = some (.cells (rowC repC (mixE l (k + 1))).toArray 65 (0, 0)) /\ Only (fun x => x = G) W1 ((wr.setCells G (k * 11) (repC x)).alloc (.cells x.cells.toArray 146)) := by
    constructor
    ·rw [zM5 hx, zHT (by decide) zCO _ _ _ (by rw [zGM l (by have := hn'.out; omega)]; have := hn'.out; omega)]
     exact zAF (zA1 _ _ _ _ hR) _
    ·exact (hO.trans' (zA2 _ _ _)).alloc _
   have f : ∀ j, wr.frozen? ⟨G, j, none⟩ = false := fun j => zAC hR j
   have hz : (mixE l k)[k]? = some zet := by
    unfold mixE
    rw [List.getElem?_append_right (by rw [List.length_take]; omega), List.getElem?_replicate, List.length_take, if_pos (by have := hn'.out; omega)]
   have y := fun j (hj : j < 11) => (zB6 zCO (mixE l k) k zet hz j hj)
   have z0 := zAA hR ((y 0 (by decide)).trans rfl)
   have z1 := zAA hR ((y 1 (by decide)).trans rfl)
   have z2 := zAA hR ((y 2 (by decide)).trans rfl)
   have z3 := zAA hR ((y 3 (by decide)).trans rfl)
   have z4 := zAA hR ((y 4 (by decide)).trans rfl)
   have z5 := zAA hR ((y 5 (by decide)).trans rfl)
   have z6 := zAA hR ((y 6 (by decide)).trans rfl)
   have z7 := zAA hR ((y 7 (by decide)).trans rfl)
   have z8 := zAA hR ((y 8 (by decide)).trans rfl)
   have z9 := zAA hR ((y 9 (by decide)).trans rfl)
   have z10 := zAA hR ((y 10 (by decide)).trans rfl)
   rw [Nat.add_zero] at z0
   have hGne : G ≠ wr.heap.size := by omega
   obtain ⟨ta, jb, re, st, en, fa, di, hi, mi, wi, ba, am, ac⟩ := x
   unfold repC Et.cells at hfin
   unfold Et.cells at hc
   have x0 := hc 0 _ rfl
   have x1 := hc 1 _ rfl
   have x2 := hc 2 _ rfl
   have x3 := hc 3 _ rfl
   have x4 := hc 4 _ rfl
   have x5 := hc 5 _ rfl
   have x6 := hc 6 _ rfl
   have x7 := hc 7 _ rfl
   have x8 := hc 8 _ rfl
   have x9 := hc 9 _ rfl
   have x10 := hc 10 _ rfl
   have x11 := hc 11 _ rfl
   have x12 := hc 12 _ rfl
   rw [Nat.add_zero] at x0
   dsimp only at hfin x0 x1 x2 x3 x4 x5 x6 x7 x8 x9 x10 x11 x12
   have hfin' := Lib.hid hfin
   clear hfin hc hR hO hx hO0 hst hcell y hz
   go_wp2
   go_roundw
   case rel => exact ⟨k + 1, by omega, by go_num, hfin'.out.1, hfin'.out.2⟩
   case measure => simp [intOf]; omega
  ·obtain rfl : k = n := by omega
   have hall : mixE l k = l := by rw [hn'.out]; exact zPL l
   rw [hall] at hR
   have hend := Lib.hid (show CloneEnd w 65 11 k (rowC repC l) (.returned (.slice (some ⟨G, 0, none⟩) k k)) wr from by
    have hlen : (rowC repC l).length = k * 11 := by rw [zCI zCO, hn'.out]
    exact ⟨_, some G, rfl, Win.of_row hR hlen (by unfold maxLen; omega), fun j hj => by cases hj; rw [hG'.out]; exact Nat.le_refl _, hO0.trans hO (fun x hx e => by have := hG'.out; omega)⟩)
   clear hR hO hst hcell hO0
   go_wp2
   go_ret
   exact hend.out
end
def ztask : Value := .agg #[.int .i64 0, .int .i64 0, .int .i64 0, .int .i64 0, .int .i64 0, .int .i64 0, .slice none 0 0]
theorem zTI : (Tryz.prog.info? 63).map (fun i => (i.zero, i.size, i.bytes)) = some (some ztask, 7, 72) := by kernel_rfl
theorem zG8 : (Tryz.prog.info? 3).map (fun i => (i.zero, i.size, i.bytes)) = some (some (.int .i64 0), 1, 8) := by kernel_rfl
theorem zDK {w w' : World} (h : Only (fun _ => False) w w') {a : Addr} {u : Value} (hc : w.cell? a = some u) : w'.cell? a = some u := h.cell hc (fun h => h)
theorem zKY {w : World} {A : Option Addr} {n cap : Nat} {xs : List Value} (hxl : xs.length = n * 1) (hsrc : 0 < n -> ∃ ad, A = some ad /\ ∀ j u, xs[j]? = some u -> w.cell? (ad.add j) = some u) (h1 : ∀ u ∈ xs, u.oneCell' = true) (hn : n <= 1000000000) : Calls Tryz.prog 45 #[.slice A n cap] w (CloneEnd w 3 1 n xs) := by
 cases A with
 | none =>
  have h0 : n = 0 := by
   by_cases hc : 0 < n
   ·obtain ⟨_, e, _⟩ := hsrc hc
    cases e
   ·omega
  subst h0
  obtain rfl : xs = [] := List.eq_nil_of_length_eq_zero (by omega)
  have hnil : Sem.run Tryz.prog (binOp .eql 24 (.slice none 0 cap) (.slice none 0 0)) w = .ok (.bool true) w := by kernel_rfl
  clear h1 hsrc hn hxl
  go_enter Tryz.func45, Tryz.ntmps45
  go_wp2
  go_ret
  exact ⟨_, none, rfl, Win.nil _ _ _, fun k hk => (by cases hk), Only.refl _ _⟩
 | some a =>
  have hs' := Lib.hid (fun (h0 : 0 < n) => show ∃ ad, (some a : Option Addr) = some ad /\ ∀ j u, xs[j]? = some u -> (w.alloc (.cells #[] 3)).cell? (ad.add j) = some u from by
   obtain ⟨ad, q1, q2⟩ := hsrc h0
   exact ⟨ad, q1, fun j u hu => zDK ((Only.refl (fun _ => False) w).alloc _) (q2 j u hu)⟩)
  have hx' := Lib.hid hxl
  have hnil : Sem.run Tryz.prog (binOp .eql 24 (.slice (some a) n cap) (.slice none 0 0)) w = .ok (.bool false) w := by kernel_rfl
  clear hsrc hxl
  go_enter Tryz.func45, Tryz.ntmps45
  go_wp2_with (at_builtin; refine zAO rfl _ _ 24 rfl 3 (.int .i64 0) 1 8 Tryz.underlying24 zG8 rfl (by decide) rfl (Win.empty (w.alloc (.cells #[] 3)) 3 1 (some ⟨w.heap.size, 0, none⟩)) (some a) n cap rfl xs hx'.out hs'.out h1 (by unfold maxLen; omega) (by omega) ?_; intro v' w4 h4 hW4 hO4 hh4)
  go_ret
  refine ⟨v', h4, rfl, ?_, ?_, ?_⟩
  ·have := hW4.out
   rwa [Nat.zero_add, List.nil_append] at this
  ·intro k hk
   rcases hh4.out with rfl | ⟨g, rfl, hg⟩
   ·cases hk
   ·cases hk
    simp at hg
    omega
  ·exact ((Only.refl (fun _ => False) w).alloc _).trans hO4.out (fun _ _ e => by cases e)
theorem zKZ {w : World} {A : Option Addr} {n cap : Nat} {xs : List Value} (hxl : xs.length = n * 7) (hsrc : 0 < n -> ∃ ad, A = some ad /\ ∀ j u, xs[j]? = some u -> w.cell? (ad.add j) = some u) (h1 : ∀ u ∈ xs, u.oneCell' = true) (hn : n <= 1000000000) : Calls Tryz.prog 94 #[.slice A n cap] w (CloneEnd w 63 7 n xs) := by
 cases A with
 | none =>
  have h0 : n = 0 := by
   by_cases hc : 0 < n
   ·obtain ⟨_, e, _⟩ := hsrc hc
    cases e
   ·omega
  subst h0
  obtain rfl : xs = [] := List.eq_nil_of_length_eq_zero (by omega)
  have hnil : Sem.run Tryz.prog (binOp .eql 25 (.slice none 0 cap) (.slice none 0 0)) w = .ok (.bool true) w := by kernel_rfl
  clear h1 hsrc hn hxl
  go_enter Tryz.func94, Tryz.ntmps94
  go_wp2
  go_ret
  exact ⟨_, none, rfl, Win.nil _ _ _, fun k hk => (by cases hk), Only.refl _ _⟩
 | some a =>
  have hs' := Lib.hid (fun (h0 : 0 < n) => show ∃ ad, (some a : Option Addr) = some ad /\ ∀ j u, xs[j]? = some u -> (w.alloc (.cells #[] 63)).cell? (ad.add j) = some u from by
   obtain ⟨ad, q1, q2⟩ := hsrc h0
   exact ⟨ad, q1, fun j u hu => zDK ((Only.refl (fun _ => False) w).alloc _) (q2 j u hu)⟩)
  have hx' := Lib.hid hxl
  have hnil : Sem.run Tryz.prog (binOp .eql 25 (.slice (some a) n cap) (.slice none 0 0)) w = .ok (.bool false) w := by kernel_rfl
  clear hsrc hxl
  go_enter Tryz.func94, Tryz.ntmps94
  go_wp2_with (at_builtin; refine zAO rfl _ _ 25 rfl 63 ztask 7 72 Tryz.underlying25 zTI rfl (by decide) rfl (Win.empty (w.alloc (.cells #[] 63)) 63 7 (some ⟨w.heap.size, 0, none⟩)) (some a) n cap rfl xs hx'.out hs'.out h1 (by unfold maxLen; omega) (by omega) ?_; intro v' w4 h4 hW4 hO4 hh4)
  go_ret
  refine ⟨v', h4, rfl, ?_, ?_, ?_⟩
  ·have := hW4.out
   rwa [Nat.zero_add, List.nil_append] at this
  ·intro k hk
   rcases hh4.out with rfl | ⟨g, rfl, hg⟩
   ·cases hk
   ·cases hk
    simp at hg
    omega
  ·exact ((Only.refl (fun _ => False) w).alloc _).trans hO4.out (fun _ _ e => by cases e)
end Krn
end Go.Proofs.YtkggimgechhjnaaGreatDoor
