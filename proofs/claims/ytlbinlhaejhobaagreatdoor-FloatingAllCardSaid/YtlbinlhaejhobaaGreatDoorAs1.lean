/- Which thresholds and which floats pass, of numbers alone. -/
import Derived.Test.YtlbinlhaejhobaaGreatDoorRef8
namespace Go.Proofs.YtlbinlhaejhobaaGreatDoor
namespace Asn
open Go Go.RowKit Rca Sct Lin Lck Cst Rld Pre Adm
open Bch (U sA sC sM sA_le sC_le sM_le Ld LB orU IsWin)

/-! Where things lie doesn't matter. -/
def keyT (x : TaskV × List Opn) : TaskV × List Opn := ({ x.1 with o := ⟨none, 0, 0⟩ }, x.2)
def keyC (c : ConfV) : ConfV := { c with mb := ⟨none, c.mb.n, 0⟩, cn := ⟨none, c.cn.n, 0⟩, ce := ⟨none, c.ce.n, 0⟩, ta := ⟨none, c.ta.n, 0⟩, li := ⟨none, c.li.n, 0⟩ }
def keyP (pl : Tks) : Tks := pl.map keyT
theorem keyP_at (pl : Tks) (k : Nat) : (keyP pl)[k]? = (pl[k]?).map keyT := by unfold keyP; rw [List.getElem?_map]
theorem keyP_num (pl : Tks) (f : TaskV → Int) (hf : ∀ t o, f { t with o := o } = f t) : (keyP pl).ts.map f = pl.ts.map f := by
  unfold keyP Tks.ts
  rw [List.map_map, List.map_map, List.map_map]
  refine List.map_congr_left (fun x _ => ?_)
  exact hf x.1 _
theorem prio_key (pl : Tks) : prio (keyP pl).ts = prio pl.ts := by funext k; unfold prio; rw [keyP_num pl (·.p) (fun _ _ => rfl)]
theorem perI_key (pl : Tks) : perI (keyP pl) = perI pl := by funext k; unfold perI per; rw [keyP_num pl (·.pe) (fun _ _ => rfl)]
theorem dedI_key (pl : Tks) : dedI (keyP pl) = dedI pl := by funext k; unfold dedI; rw [keyP_num pl (·.de) (fun _ _ => rfl)]
theorem cosI_key (c : ConfV) (pl : Tks) : cosI (keyC c) (keyP pl) = cosI c pl := by
  funext k
  unfold cosI
  rw [keyP_at]
  cases pl[k]? <;> rfl
theorem ldL_key (c : ConfV) (pl : Tks) : ldL (keyC c) (keyP pl) = ldL c pl := by
  funext own
  have e : ldI (keyC c) (keyP pl) = ldI c pl := by funext k; unfold ldI; rw [cosI_key, perI_key]
  unfold ldL thoseU
  rw [e, prio_key]
  rfl
theorem blkI_key (c : ConfV) (d : ConfL) (pl : Tks) : blkI (keyC c) d (keyP pl) = blkI c d pl := by
  funext own k
  unfold blkI
  rw [keyP_at]
  cases pl[k]? <;> rfl
theorem lateI_key (c : ConfV) (d : ConfL) (pl : Tks) : lateI (keyC c) d (keyP pl) = lateI c d pl := by
  funext i
  have e : winI (keyC c) d (keyP pl) i = winI c d pl i := by
    unfold winI dlyI thoseU
    rw [ldL_key, blkI_key, prio_key]
    rfl
  have e1 : (lineI (keyC c) d (keyP pl) i).re = orU (winI (keyC c) d (keyP pl) i) := rfl
  have e2 : (lineI c d pl i).re = orU (winI c d pl i) := rfl
  unfold lateI
  rw [e1, e2, e, dedI_key]
theorem any_key (pl : Tks) (i : Nat) (q : Int) : ((keyP pl).ts.take i).any (fun u => decide (u.p = q)) = (pl.ts.take i).any (fun u => decide (u.p = q)) := by
  have h : ∀ l : List TaskV, l.any (fun u => decide (u.p = q)) = (l.map (·.p)).any (fun z => decide (z = q)) := fun l => by rw [List.any_map]; rfl
  rw [h, h, List.map_take, List.map_take, keyP_num pl (·.p) (fun _ _ => rfl)]
theorem confZ_key (c : ConfV) (d : ConfL) (pl : Tks) : confZ (keyC c) d (keyP pl) = confZ c d pl := by
  have e : taskAt (keyC c).room d.ce (keyP pl) = taskAt c.room d.ce pl := by
    funext i
    unfold taskAt
    rw [keyP_at]
    cases h : pl[i]? with
    | none => rfl
    | some x =>
      obtain ⟨t, l⟩ := x
      show taskZ _ _ (keyP pl).ts i _ l = taskZ _ _ pl.ts i t l
      unfold taskZ
      have := any_key pl i t.p
      unfold TaskV.okB
      show (if taskB t.p t.th t.pe t.de t.fr t.fl = false then _ else if checkZ l c.room ≠ 0 then _ else if l.any (lowB d.ce t.p) = true then _ else if ((keyP pl).ts.take i).any (fun u => decide (u.p = t.p)) = true then _ else _) = _
      rw [this]
      rfl
  unfold confZ
  rw [e]
  rfl
theorem admB_key (c : ConfV) (d : ConfL) (pl : Tks) : admB (keyC c) d (keyP pl) = admB c d pl := by
  unfold admB lateB
  rw [confZ_key, lateI_key]
  rfl
theorem confZ_same {c c' : ConfV} {d : ConfL} {pl pl' : Tks} (h1 : keyC c' = keyC c) (h2 : keyP pl' = keyP pl) : confZ c' d pl' = confZ c d pl := by rw [← confZ_key c', h1, h2, confZ_key]
theorem admB_same {c c' : ConfV} {d : ConfL} {pl pl' : Tks} (h1 : keyC c' = keyC c) (h2 : keyP pl' = keyP pl) : admB c' d pl' = admB c d pl := by rw [← admB_key c', h1, h2, admB_key]

/-! Tasks with other numbers. -/
def chg (f : Nat → TaskV → TaskV) (pl : Tks) : Tks := pl.mapIdx (fun i x => (f i x.1, x.2))
theorem chg_at (f : Nat → TaskV → TaskV) (pl : Tks) (i : Nat) : (chg f pl)[i]? = (pl[i]?).map (fun x => (f i x.1, x.2)) := by unfold chg; rw [List.getElem?_mapIdx]
theorem chg_len (f : Nat → TaskV → TaskV) (pl : Tks) : (chg f pl).length = pl.length := by unfold chg; rw [List.length_mapIdx]
theorem chg_num (g : TaskV → Int) {f : Nat → TaskV → TaskV} (hf : ∀ i t, g (f i t) = g t) (pl : Tks) : (chg f pl).ts.map g = pl.ts.map g := by
  refine List.ext_getElem? (fun i => ?_)
  unfold Tks.ts
  rw [List.getElem?_map, List.getElem?_map, List.getElem?_map, List.getElem?_map, chg_at]
  cases pl[i]? with
  | none => rfl
  | some x => show some _ = some _; rw [hf]
structure Keeps (f : Nat → TaskV → TaskV) : Prop where
  p : ∀ i t, (f i t).p = t.p
  pe : ∀ i t, (f i t).pe = t.pe
  de : ∀ i t, (f i t).de = t.de
  fr : ∀ i t, (f i t).fr = t.fr
def thF (T : Nat → Int) (i : Nat) (t : TaskV) : TaskV := { t with th := T i }
def flF (k : Nat) (x : Int) (i : Nat) (t : TaskV) : TaskV := if i = k then { t with fl := x } else t
theorem thF_keeps (T : Nat → Int) : Keeps (thF T) := ⟨fun _ _ => rfl, fun _ _ => rfl, fun _ _ => rfl, fun _ _ => rfl⟩
theorem flF_keeps (k : Nat) (x : Int) : Keeps (flF k x) := by
  refine ⟨fun i t => ?_, fun i t => ?_, fun i t => ?_, fun i t => ?_⟩ <;> · unfold flF; split <;> rfl
theorem prio_chg {f : Nat → TaskV → TaskV} (h : Keeps f) (pl : Tks) : prio (chg f pl).ts = prio pl.ts := by funext k; unfold prio; rw [chg_num (·.p) h.p]
theorem perI_chg {f : Nat → TaskV → TaskV} (h : Keeps f) (pl : Tks) : perI (chg f pl) = perI pl := by funext k; unfold perI per; rw [chg_num (·.pe) h.pe]
theorem dedI_chg {f : Nat → TaskV → TaskV} (h : Keeps f) (pl : Tks) : dedI (chg f pl) = dedI pl := by funext k; unfold dedI; rw [chg_num (·.de) h.de]
theorem cosI_chg (c : ConfV) (f : Nat → TaskV → TaskV) (pl : Tks) : cosI c (chg f pl) = cosI c pl := by
  funext k
  unfold cosI
  rw [chg_at]
  cases pl[k]? <;> rfl
theorem ldL_chg {f : Nat → TaskV → TaskV} (h : Keeps f) (c : ConfV) (pl : Tks) : ldL c (chg f pl) = ldL c pl := by
  funext own
  have e : ldI c (chg f pl) = ldI c pl := by funext k; unfold ldI; rw [cosI_chg, perI_chg h]
  unfold ldL thoseU
  rw [e, prio_chg h]
theorem any_chg {f : Nat → TaskV → TaskV} (hk : Keeps f) (pl : Tks) (i : Nat) (q : Int) : ((chg f pl).ts.take i).any (fun u => decide (u.p = q)) = (pl.ts.take i).any (fun u => decide (u.p = q)) := by
  have h : ∀ l : List TaskV, l.any (fun u => decide (u.p = q)) = (l.map (·.p)).any (fun z => decide (z = q)) := fun l => by rw [List.any_map]; rfl
  rw [h, h, List.map_take, List.map_take, chg_num (·.p) hk.p]

/-! Who is late, by its delay. -/
def lat (c : ConfV) (pl : Tks) (i x : Nat) : Bool := decide (ofU (dedI pl i) < orU (Bch.win (Bch.dem x (ldL c pl (prio pl.ts i))) 16777216))
theorem lateI_lat (c : ConfV) (d : ConfL) (pl : Tks) (i : Nat) : lateI c d pl i = lat c pl i (dlyI c d pl i) := rfl
theorem lat_chg {f : Nat → TaskV → TaskV} (h : Keeps f) (c : ConfV) (pl : Tks) : lat c (chg f pl) = lat c pl := by
  funext i x
  unfold lat
  rw [dedI_chg h, ldL_chg h, prio_chg h]
theorem sA_mono {a b z : Nat} (h : a ≤ b) : sA a z ≤ sA b z := by unfold sA; split <;> split <;> omega
theorem dem_mono (x : Nat) : ∀ (l : List Ld) {a b : Nat}, a ≤ b → Bch.dem a l x ≤ Bch.dem b l x
  | [], _, _, h => h
  | y :: l, a, b, h => by
    show Bch.dem (sA a (sM y.1 (sC x y.2))) l x ≤ Bch.dem (sA b (sM y.1 (sC x y.2))) l x
    exact dem_mono x l (sA_mono h)
theorem win_up {D E : Nat → Nat} {m : Nat} (h : ∀ x, x ≤ m → D x ≤ E x) (hm : m ≤ 18446744073709551615) : orU (Bch.win D m) ≤ orU (Bch.win E m) := by
  have hd := Bch.win_is D m
  have he := Bch.win_is E m
  generalize Bch.win D m = a at *
  generalize Bch.win E m = b at *
  unfold orU
  rcases hd with ⟨rfl, h1⟩ | ⟨h1, h2, h3, h4⟩ <;> rcases he with ⟨rfl, k1⟩ | ⟨k1, k2, k3, k4⟩
  · simp
  · have := h1 b k1 k2
    have := h b k2
    omega
  · rw [if_neg (by omega)]
    simp
    omega
  · rw [if_neg (by omega), if_neg (by omega)]
    rcases Nat.lt_or_ge b a with hh | hh
    · have := h4 b k1 hh
      have := h b k2
      omega
    · exact hh
theorem lat_mono {c : ConfV} {pl : Tks} {i x y : Nat} (h : x ≤ y) (hy : lat c pl i y = false) : lat c pl i x = false := by
  unfold lat at *
  have := win_up (D := Bch.dem x (ldL c pl (prio pl.ts i))) (E := Bch.dem y (ldL c pl (prio pl.ts i))) (m := 16777216) (fun z _ => dem_mono z _ h) (by omega)
  simp only [decide_eq_false_iff_not] at *
  omega
theorem lat_max {c : ConfV} {pl : Tks} {i x y : Nat} : lat c pl i (max x y) = false ↔ lat c pl i x = false ∧ lat c pl i y = false := by
  refine ⟨fun h => ⟨lat_mono (by omega) h, lat_mono (by omega) h⟩, fun ⟨h1, h2⟩ => ?_⟩
  by_cases h : x ≤ y
  · rw [Nat.max_eq_right h]; exact h2
  · rw [Nat.max_eq_left (by omega)]; exact h1
theorem lat_dly (c : ConfV) (pl : Tks) (i : Nat) (g : Nat → Nat) (L : List Nat) : lat c pl i (dlyU g L) = false ↔ lat c pl i 0 = false ∧ ∀ k ∈ L, lat c pl i (g k) = false := by
  have key : ∀ (L : List Nat) (s : Nat), lat c pl i (L.foldl (fun a x => max a (g x)) s) = false ↔ lat c pl i s = false ∧ ∀ k ∈ L, lat c pl i (g k) = false := by
    intro L
    induction L with
    | nil => intro s; simp
    | cons x L ih =>
      intro s
      rw [List.foldl_cons, ih, lat_max]
      simp [and_assoc]
  exact key L 0
theorem lateB_iff (c : ConfV) (d : ConfL) (pl : Tks) : lateB c d pl c.ta.n = false ↔ ∀ i, i < c.ta.n → lat c pl i 0 = false ∧ ∀ k, k < c.ta.n → prio pl.ts k < prio pl.ts i → lat c pl i (blkI c d pl (prio pl.ts i) k) = false := by
  have hm : ∀ own k, k ∈ thoseU Pre.lowB pl.ts own c.ta.n ↔ k < c.ta.n ∧ prio pl.ts k < own := fun own k => by
    unfold thoseU Pre.lowB
    rw [List.mem_filter, List.mem_range]
    simp
  unfold lateB
  rw [List.any_eq_false]
  constructor
  · intro h i hi
    have h1 := h i (List.mem_range.2 hi)
    rw [lateI_lat] at h1
    have h4 : lat c pl i (dlyI c d pl i) = false := by simpa using h1
    unfold dlyI at h4
    obtain ⟨h2, h3⟩ := (lat_dly _ _ _ _ _).1 h4
    exact ⟨h2, fun k hk hp => h3 k ((hm _ _).2 ⟨hk, hp⟩)⟩
  · intro h i hi
    obtain ⟨h2, h3⟩ := h i (List.mem_range.1 hi)
    rw [lateI_lat]
    have := (lat_dly c pl i (blkI c d pl (prio pl.ts i)) (thoseU Pre.lowB pl.ts (prio pl.ts i) c.ta.n)).2 ⟨h2, fun k hk => by
      obtain ⟨q1, q2⟩ := (hm _ _).1 hk
      exact h3 k q1 q2⟩
    unfold dlyI
    rw [this]
    simp

/-! What may be. -/
theorem zero_of {c : ConfV} {d : ConfL} {pl : Tks} (h : Fin0.Fine c d pl) : confZ c d pl = 0 := by
  have h1 := h.mach
  have h2 := h.many
  have h3 := h.n0
  have h4 := h.g0
  have h5 := h.obj
  unfold confZ
  rw [if_neg (by simp [h1]), if_neg (by simp [h2]), if_neg (by omega), if_neg (by simp [h5])]
  refine firstNZ_zero (fun j hj => ?_)
  cases hp : pl[j]? with
  | none => unfold taskAt; rw [hp]
  | some x =>
    obtain ⟨t, l⟩ := x
    rw [taskAt_some hp]
    obtain ⟨q1, q2, q3, q4⟩ := h.task j t l hj hp
    unfold taskZ
    rw [if_neg (by simp [q1]), if_neg (by simp [q2]), if_neg (by simp [q3]), if_neg (by simp [q4])]
theorem fine_iff {c : ConfV} {d : ConfL} {pl : Tks} : confZ c d pl = 0 ↔ Fin0.Fine c d pl := ⟨Fin0.of_zero, zero_of⟩
/-- All of a check but one number of each task. -/
structure Rest (B : Nat → TaskV → Bool) (c : ConfV) (d : ConfL) (pl : Tks) : Prop where
  mach : machB c.s c.wy c.h c.mi = true
  many : manyB c = false
  n0 : 0 < c.ta.n
  g0 : 0 ≤ c.g
  obj : objB c d = true
  task : ∀ (i : Nat) t l, i < c.ta.n → pl[i]? = some (t, l) → B i t = true ∧ checkZ l c.room = 0 ∧ l.any (lowB d.ce t.p) = false ∧ (pl.ts.take i).any (fun u => decide (u.p = t.p)) = false
theorem fine_chg {f : Nat → TaskV → TaskV} (hk : Keeps f) (c : ConfV) (d : ConfL) (pl : Tks) : Fin0.Fine c d (chg f pl) ↔ Rest (fun i t => (f i t).okB) c d pl := by
  constructor
  · intro h
    refine ⟨h.mach, h.many, h.n0, h.g0, h.obj, fun i t l hi hp => ?_⟩
    have h1 := h.task i (f i t) l hi (by rw [chg_at, hp]; rfl)
    rw [any_chg hk, hk.p] at h1
    exact h1
  · intro h
    refine ⟨h.mach, h.many, h.n0, h.g0, h.obj, fun i t l hi hp => ?_⟩
    rw [chg_at] at hp
    cases hq : pl[i]? with
    | none => rw [hq] at hp; simp at hp
    | some x =>
      obtain ⟨t0, l0⟩ := x
      rw [hq] at hp
      obtain ⟨rfl, rfl⟩ : f i t0 = t ∧ l0 = l := by simpa using hp
      rw [any_chg hk, hk.p]
      exact h.task i t0 l0 hi hq
theorem Rest.to {B B' : Nat → TaskV → Bool} {c : ConfV} {d : ConfL} {pl : Tks} (h : Rest B c d pl) (hb : ∀ (i : Nat) t l, i < c.ta.n → pl[i]? = some (t, l) → B i t = true → B' i t = true) : Rest B' c d pl :=
  ⟨h.mach, h.many, h.n0, h.g0, h.obj, fun i t l hi hp => ⟨hb i t l hi hp (h.task i t l hi hp).1, (h.task i t l hi hp).2⟩⟩
theorem prio_at' {pl : Tks} {k : Nat} {t : TaskV} {l : List Opn} (h : pl[k]? = some (t, l)) : prio pl.ts k = t.p := prio_at (ts_some h)
theorem inB_iff (lo hi z : Int) : inB lo hi z = true ↔ lo ≤ z ∧ z ≤ hi := by unfold inB; simp

/-! Thresholds. -/
def passT (c : ConfV) (d : ConfL) (pl : Tks) (T : Nat → Int) : Bool := admB c d (chg (thF T) pl)
theorem fine_th {c : ConfV} {d : ConfL} {pl : Tks} (hl : pl.length = c.ta.n) (T : Nat → Int) : Fin0.Fine c d (chg (thF T) pl) ↔ Fin0.Fine c d (chg (thF (prio pl.ts)) pl) ∧ ∀ k, k < c.ta.n → prio pl.ts k ≤ T k ∧ T k ≤ 63 := by
  rw [fine_chg (thF_keeps _), fine_chg (thF_keeps _)]
  have hB : ∀ (S : Nat → Int) i (t : TaskV), (thF S i t).okB = true ↔ (0 ≤ t.p ∧ t.p ≤ 63) ∧ (t.p ≤ S i ∧ S i ≤ 63) ∧ (inB 1 1048576 t.pe && inB 1 t.pe t.de && inB 0 4096 t.fr && inB 0 1048576 t.fl) = true := fun S i t => by
    show (inB 0 63 t.p && inB t.p 63 (S i) && inB 1 1048576 t.pe && inB 1 t.pe t.de && inB 0 4096 t.fr && inB 0 1048576 t.fl) = true ↔ _
    simp only [Bool.and_eq_true, inB_iff]
    constructor
    · rintro ⟨⟨⟨⟨⟨a, b⟩, e⟩, f⟩, g⟩, h⟩; exact ⟨a, b, ⟨⟨e, f⟩, g⟩, h⟩
    · rintro ⟨a, b, ⟨⟨e, f⟩, g⟩, h⟩; exact ⟨⟨⟨⟨⟨a, b⟩, e⟩, f⟩, g⟩, h⟩
  constructor
  · intro h
    refine ⟨h.to (fun i t l hi hp hb => ?_), fun k hk => ?_⟩
    · obtain ⟨q1, -, q3⟩ := (hB _ _ _).1 hb
      refine (hB _ _ _).2 ⟨q1, ?_, q3⟩
      rw [prio_at' hp]
      omega
    · obtain ⟨⟨t, l⟩, hp⟩ : ∃ x, pl[k]? = some x := ⟨_, List.getElem?_eq_getElem (by omega)⟩
      obtain ⟨-, q2, -⟩ := (hB _ _ _).1 (h.task k t l hk hp).1
      rw [prio_at' hp]
      exact q2
  · rintro ⟨h, h2⟩
    refine h.to (fun i t l hi hp hb => ?_)
    obtain ⟨q1, -, q3⟩ := (hB _ _ _).1 hb
    refine (hB _ _ _).2 ⟨q1, ?_, q3⟩
    have := h2 i hi
    rw [prio_at' hp] at this
    exact this
/-- How long task k, with threshold x, delays task i. -/
def bkT (c : ConfV) (d : ConfL) (pl : Tks) (i k : Nat) (x : Int) : Nat :=
  match pl[k]? with
  | some (t, l) => blkU (wrsZ l c.h c.mi).toNat (lonZ x (ceZ d.ce) c.ce.n l c.h c.mi (prio pl.ts i)).toNat x t.fl (prio pl.ts i)
  | none => 0
def okT (c : ConfV) (d : ConfL) (pl : Tks) (k : Nat) (x : Int) : Prop := ∀ i, i < c.ta.n → prio pl.ts k < prio pl.ts i → lat c pl i (bkT c d pl i k x) = false
theorem blkI_th (c : ConfV) (d : ConfL) (pl : Tks) (T : Nat → Int) (i k : Nat) : blkI c d (chg (thF T) pl) (prio pl.ts i) k = bkT c d pl i k (T k) := by
  unfold blkI bkT
  rw [chg_at]
  cases pl[k]? <;> rfl
theorem passT_iff {c : ConfV} {d : ConfL} {pl : Tks} (hl : pl.length = c.ta.n) (T : Nat → Int) : passT c d pl T = true ↔
    Fin0.Fine c d (chg (thF (prio pl.ts)) pl) ∧ (∀ i, i < c.ta.n → lat c pl i 0 = false) ∧ ∀ k, k < c.ta.n → prio pl.ts k ≤ T k ∧ T k ≤ 63 ∧ okT c d pl k (T k) := by
  unfold passT admB
  rw [Bool.and_eq_true, decide_eq_true_eq, Bool.not_eq_true', fine_iff, fine_th hl, lateB_iff, prio_chg (thF_keeps _), lat_chg (thF_keeps _)]
  constructor
  · rintro ⟨⟨h1, h2⟩, h3⟩
    refine ⟨h1, fun i hi => (h3 i hi).1, fun k hk => ⟨(h2 k hk).1, (h2 k hk).2, fun i hi hp => ?_⟩⟩
    have := (h3 i hi).2 k hk hp
    rwa [blkI_th] at this
  · rintro ⟨h1, h2, h3⟩
    refine ⟨⟨h1, fun k hk => ⟨(h3 k hk).1, (h3 k hk).2.1⟩⟩, fun i hi => ⟨h2 i hi, fun k hk hp => ?_⟩⟩
    rw [blkI_th]
    exact (h3 k hk).2.2 i hi hp
theorem lonU_cong {LV LW co : Nat → Int} {lev : Int} (h : ∀ k, LV k < lev ↔ LW k < lev) : ∀ k, lonU LV co lev k = lonU LW co lev k
  | 0 => rfl
  | k + 1 => by
    have h1 := h k
    have h2 := h (k + 1)
    unfold lonU
    rw [lonU_cong h k]
    by_cases q : max (LV k) (LV (k + 1)) < lev
    · rw [if_pos q, if_pos (by omega)]
    · rw [if_neg q, if_neg (by omega)]
theorem lev_lt {x y lev : Int} (hx : x < lev) (hy : y < lev) (z : Nat → Int) (p : Nat → Bool) : ∀ k, Lck.lev x z p k < lev ↔ Lck.lev y z p k < lev
  | 0 => ⟨fun _ => hy, fun _ => hx⟩
  | k + 1 => by
    have ih := lev_lt hx hy z p k
    unfold Lck.lev
    split <;> omega
theorem lonZ_cong {x y lev : Int} (hx : x < lev) (hy : y < lev) (z : Nat → Int) (n : Nat) (l : List Opn) (h mi : Int) : lonZ x z n l h mi lev = lonZ y z n l h mi lev := by
  unfold lonZ
  rw [lonU_cong (fun k => ?_)]
  unfold levK levS
  split
  · exact Iff.rfl
  · exact lev_lt hx hy _ _ _
theorem bkT_all {c : ConfV} {d : ConfL} {pl : Tks} {i k : Nat} {x y : Int} (hx : prio pl.ts i ≤ x) (hy : prio pl.ts i ≤ y) : bkT c d pl i k x = bkT c d pl i k y := by
  unfold bkT
  cases pl[k]? with
  | none => rfl
  | some u => show blkU _ _ _ _ _ = blkU _ _ _ _ _; unfold blkU; rw [if_pos hx, if_pos hy]
theorem bkT_low {c : ConfV} {d : ConfL} {pl : Tks} {i k : Nat} {x y : Int} (hx : x < prio pl.ts i) (hy : y < prio pl.ts i) : bkT c d pl i k x = bkT c d pl i k y := by
  unfold bkT
  cases pl[k]? with
  | none => rfl
  | some u => show blkU _ _ _ _ _ = blkU _ _ _ _ _; unfold blkU; rw [if_neg (by omega), if_neg (by omega), lonZ_cong hx hy]
theorem bkT_mono {c : ConfV} {d : ConfL} {pl : Tks} {i k : Nat} {x y : Int} (h : x ≤ y) : bkT c d pl i k x ≤ bkT c d pl i k y := by
  by_cases hy : prio pl.ts i ≤ y
  · by_cases hx : prio pl.ts i ≤ x
    · rw [bkT_all hx hy]; exact Nat.le_refl _
    · unfold bkT
      cases pl[k]? with
      | none => exact Nat.le_refl _
      | some u => show blkU _ _ _ _ _ ≤ blkU _ _ _ _ _; unfold blkU; rw [if_neg hx, if_pos hy]; exact Nat.min_le_left _ _
  · rw [bkT_low (x := x) (y := y) (by omega) (by omega)]; exact Nat.le_refl _
theorem okT_down {c : ConfV} {d : ConfL} {pl : Tks} {k : Nat} {x y : Int} (h : x ≤ y) (hy : okT c d pl k y) : okT c d pl k x := fun i hi hp => lat_mono (bkT_mono h) (hy i hi hp)
/-- P29.1: below one that passes. -/
theorem passT_lower {c : ConfV} {d : ConfL} {pl : Tks} (hl : pl.length = c.ta.n) {S T : Nat → Int} (h : passT c d pl T = true) (h1 : ∀ k, k < c.ta.n → prio pl.ts k ≤ S k ∧ S k ≤ T k) : passT c d pl S = true := by
  obtain ⟨q1, q2, q3⟩ := (passT_iff hl T).1 h
  refine (passT_iff hl S).2 ⟨q1, q2, fun k hk => ?_⟩
  obtain ⟨a, b, e⟩ := q3 k hk
  obtain ⟨f, g⟩ := h1 k hk
  exact ⟨f, by omega, okT_down g e⟩
theorem passT_none {c : ConfV} {d : ConfL} {pl : Tks} (hl : pl.length = c.ta.n) {T : Nat → Int} (h : passT c d pl (prio pl.ts) = false) : passT c d pl T = false := by
  cases hT : passT c d pl T with
  | false => rfl
  | true =>
    have := passT_lower hl (S := prio pl.ts) hT (fun k hk => ⟨Int.le_refl _, (((passT_iff hl T).1 hT).2.2 k hk).1⟩)
    rw [this] at h
    cases h
/-- One task's threshold raised above the least ones. -/
def rais (pl : Tks) (k : Nat) (x : Int) (j : Nat) : Int := if j = k then x else prio pl.ts j
theorem passT_rais {c : ConfV} {d : ConfL} {pl : Tks} (hl : pl.length = c.ta.n) (h : passT c d pl (prio pl.ts) = true) {k : Nat} (hk : k < c.ta.n) {x : Int} (hx : prio pl.ts k ≤ x) (hx2 : x ≤ 63) : passT c d pl (rais pl k x) = true ↔ okT c d pl k x := by
  obtain ⟨q1, q2, q3⟩ := (passT_iff hl _).1 h
  rw [passT_iff hl]
  constructor
  · rintro ⟨-, -, h3⟩
    have := (h3 k hk).2.2
    unfold rais at this
    rwa [if_pos rfl] at this
  · intro ho
    refine ⟨q1, q2, fun j hj => ?_⟩
    unfold rais
    by_cases e : j = k
    · subst e
      rw [if_pos rfl]
      exact ⟨hx, hx2, ho⟩
    · rw [if_neg e]
      exact q3 j hj
/-- The greatest of one task. -/
def Hi (c : ConfV) (d : ConfL) (pl : Tks) (k : Nat) (x : Int) : Prop := prio pl.ts k ≤ x ∧ x ≤ 63 ∧ okT c d pl k x ∧ ∀ y, x < y → y ≤ 63 → ¬ okT c d pl k y
theorem hi_stop {c : ConfV} {d : ConfL} {pl : Tks} {k : Nat} {p : Int} (h0 : okT c d pl k (prio pl.ts k)) (hp : prio pl.ts k < p) (hp2 : p ≤ 63) (hn : ¬ okT c d pl k p) (hall : ∀ i, i < c.ta.n → prio pl.ts k < prio pl.ts i → prio pl.ts i < p → okT c d pl k (prio pl.ts i)) : Hi c d pl k (p - 1) := by
  refine ⟨by omega, by omega, fun i hi hpi => ?_, fun y h1 h2 hy => hn (okT_down (by omega) hy)⟩
  by_cases hq : prio pl.ts i < p
  · rw [bkT_all (y := prio pl.ts i) (by omega) (Int.le_refl _)]
    exact hall i hi hpi hq i hi hpi
  · rw [bkT_low (y := prio pl.ts k) (by omega) hpi]
    exact h0 i hi hpi
theorem hi_all {c : ConfV} {d : ConfL} {pl : Tks} {k : Nat} (hP : ∀ i, i < c.ta.n → prio pl.ts i ≤ 63) (hk : k < c.ta.n) (hall : ∀ i, i < c.ta.n → prio pl.ts k < prio pl.ts i → okT c d pl k (prio pl.ts i)) : Hi c d pl k 63 := by
  refine ⟨hP k hk, Int.le_refl _, fun i hi hpi => ?_, fun y h1 h2 => by omega⟩
  rw [bkT_all (y := prio pl.ts i) (hP i hi) (Int.le_refl _)]
  exact hall i hi hpi i hi hpi
theorem best_pass {c : ConfV} {d : ConfL} {pl : Tks} (hl : pl.length = c.ta.n) (h : passT c d pl (prio pl.ts) = true) {B : Nat → Int} (hB : ∀ k, k < c.ta.n → Hi c d pl k (B k)) : passT c d pl B = true := by
  obtain ⟨q1, q2, -⟩ := (passT_iff hl _).1 h
  exact (passT_iff hl _).2 ⟨q1, q2, fun k hk => ⟨(hB k hk).1, (hB k hk).2.1, (hB k hk).2.2.1⟩⟩
theorem best_most {c : ConfV} {d : ConfL} {pl : Tks} (hl : pl.length = c.ta.n) {B T : Nat → Int} (hB : ∀ k, k < c.ta.n → Hi c d pl k (B k)) (h : passT c d pl T = true) {k : Nat} (hk : k < c.ta.n) : T k ≤ B k := by
  obtain ⟨-, -, q3⟩ := (passT_iff hl _).1 h
  obtain ⟨a, b, e⟩ := q3 k hk
  refine Int.not_lt.1 (fun hlt => (hB k hk).2.2.2 _ hlt b e)

/-! Floats. -/
def passF (c : ConfV) (d : ConfL) (pl : Tks) (k : Nat) (x : Int) : Bool := admB c d (chg (flF k x) pl)
theorem fine_fl {c : ConfV} {d : ConfL} {pl : Tks} {k : Nat} {x y : Int} (h : Fin0.Fine c d (chg (flF k x) pl)) (hy : 0 ≤ y ∧ y ≤ 1048576) : Fin0.Fine c d (chg (flF k y) pl) := by
  rw [fine_chg (flF_keeps _ _)] at h ⊢
  refine h.to (fun i t l hi hp hb => ?_)
  unfold flF at *
  by_cases e : i = k
  · rw [if_pos e] at *
    unfold TaskV.okB taskB at *
    simp only [Bool.and_eq_true, inB_iff] at *
    exact ⟨hb.1, hy⟩
  · rw [if_neg e] at *
    exact hb
theorem fine_fl_in {c : ConfV} {d : ConfL} {pl : Tks} {k : Nat} (hk : k < c.ta.n) (hl : pl.length = c.ta.n) {x : Int} (h : Fin0.Fine c d (chg (flF k x) pl)) : 0 ≤ x ∧ x ≤ 1048576 := by
  rw [fine_chg (flF_keeps _ _)] at h
  obtain ⟨⟨t, l⟩, hp⟩ : ∃ y, pl[k]? = some y := ⟨_, List.getElem?_eq_getElem (by omega)⟩
  have hb := (h.task k t l hk hp).1
  unfold flF at hb
  rw [if_pos rfl] at hb
  unfold TaskV.okB taskB at hb
  simp only [Bool.and_eq_true, inB_iff] at hb
  exact hb.2
theorem kepU_mono {s : Nat} {x y : Int} (_h0 : 0 ≤ x) (h : x ≤ y) (hy : y ≤ 1048576) (hs : s ≤ 18446744073709551615) : kepU s x ≤ kepU s y := by
  have ex : ofU x = x.toNat := by have := ofU_eq x; rw [IntKind.wrap_u64] at this; omega
  have ey : ofU y = y.toNat := by have := ofU_eq y; rw [IntKind.wrap_u64] at this; omega
  unfold kepU sA
  rw [ex, ey]
  repeat' split
  all_goals omega
theorem passF_lower {c : ConfV} {d : ConfL} {pl : Tks} {k : Nat} (hk : k < c.ta.n) (hl : pl.length = c.ta.n) {x y : Int} (h0 : 0 ≤ x) (hxy : x ≤ y) (h : passF c d pl k y = true) : passF c d pl k x = true := by
  unfold passF admB at *
  rw [Bool.and_eq_true, decide_eq_true_eq, Bool.not_eq_true', fine_iff, lateB_iff, prio_chg (flF_keeps _ _), lat_chg (flF_keeps _ _)] at *
  obtain ⟨h1, h2⟩ := h
  have hy := fine_fl_in hk hl h1
  refine ⟨fine_fl h1 ⟨h0, by omega⟩, fun i hi => ⟨(h2 i hi).1, fun j hj hp => lat_mono ?_ ((h2 i hi).2 j hj hp)⟩⟩
  unfold blkI
  rw [chg_at, chg_at]
  have hw9 : ∀ t l, pl[j]? = some (t, l) → (lonZ t.th (ceZ d.ce) c.ce.n l c.h c.mi (prio pl.ts i)).toNat ≤ 18446744073709551615 := fun t l hp => by
    have h9 : l.length ≤ 64 := (h1.prog hj (by rw [chg_at, hp]; rfl)).2.1
    have := (lonU_bound (LV := levK t.th (ceZ d.ce) c.ce.n l) (lev := prio pl.ts i) (costK_le l c.h c.mi) l.length).1
    unfold lonZ
    omega
  cases hq : pl[j]? with
  | none => exact Nat.le_refl _
  | some u =>
    obtain ⟨t, l⟩ := u
    have h9 := hw9 t l hq
    show blkU _ (lonZ (flF k x j t).th _ _ l _ _ _).toNat (flF k x j t).th (flF k x j t).fl _ ≤ blkU _ (lonZ (flF k y j t).th _ _ l _ _ _).toNat (flF k y j t).th (flF k y j t).fl _
    unfold flF
    by_cases e : j = k
    · rw [if_pos e, if_pos e]
      show blkU _ (lonZ t.th _ _ l _ _ _).toNat t.th x _ ≤ blkU _ (lonZ t.th _ _ l _ _ _).toNat t.th y _
      unfold blkU
      split
      · exact Nat.le_refl _
      · have := kepU_mono (s := (lonZ t.th (ceZ d.ce) c.ce.n l c.h c.mi (prio pl.ts i)).toNat) h0 hxy hy.2 h9
        omega
    · rw [if_neg e, if_neg e]
      exact Nat.le_refl _
/-- The greatest float of a task, or that there is none. -/
def Mo (c : ConfV) (d : ConfL) (pl : Tks) (k : Nat) (n : Int) (ok : Bool) : Prop :=
  (ok = false ∧ n = 0 ∧ passF c d pl k 0 = false) ∨ (ok = true ∧ 0 ≤ n ∧ n ≤ 1048576 ∧ passF c d pl k n = true ∧ (n < 1048576 → passF c d pl k (n + 1) = false))
theorem Mo.uniq {c : ConfV} {d : ConfL} {pl : Tks} {k : Nat} (hk : k < c.ta.n) (hl : pl.length = c.ta.n) {n m : Int} {a b : Bool} (h : Mo c d pl k n a) (g : Mo c d pl k m b) : n = m ∧ a = b := by
  rcases h with ⟨rfl, rfl, h⟩ | ⟨rfl, h1, h2, h3, h4⟩ <;> rcases g with ⟨rfl, rfl, g⟩ | ⟨rfl, g1, g2, g3, g4⟩
  · exact ⟨rfl, rfl⟩
  · rw [passF_lower hk hl (Int.le_refl _) g1 g3] at h; cases h
  · rw [passF_lower hk hl (Int.le_refl _) h1 h3] at g; cases g
  · refine ⟨?_, rfl⟩
    rcases Int.lt_trichotomy n m with q | q | q
    · have := passF_lower hk hl (x := n + 1) (by omega) (by omega) g3
      rw [h4 (by omega)] at this
      cases this
    · exact q
    · have := passF_lower hk hl (x := m + 1) (by omega) (by omega) h3
      rw [g4 (by omega)] at this
      cases this
end Asn
end Go.Proofs.YtlbinlhaejhobaaGreatDoor
