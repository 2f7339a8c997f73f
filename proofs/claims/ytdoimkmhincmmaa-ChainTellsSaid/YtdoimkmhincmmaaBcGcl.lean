/- chain: which group bears a task. -/
import Derived.Test.YtdoimkmhincmmaaBcGrp
namespace Go.Proofs.Ytdoimkmhincmmaa
namespace Bch
open Go Go.RowKit Go.Maps Go.Shelf
/-- The boxes that the closures look into. -/
structure Boxes (W : World) (c : ConfV) (ts : List TaskV) (qc qx x : Nat) : Prop where
  t : TasksAt W c.ta ts
  c : W.heap[qc]? = some (.cells c.cells.toArray 27 (0, 0))
  x : W.heap[qx]? = some (.cells [Value.int .i64 (x : Int)].toArray 3 (0, 0))
theorem Boxes.new {W W' : World} {c : ConfV} {ts : List TaskV} {qc qx x : Nat} (h : Boxes W c ts qc qx x) (ho : Only (fun _ => False) W W') : Boxes W' c ts qc qx x := ⟨h.t.new ho, ho.heap h.c (fun h => h), ho.heap h.x (fun h => h)⟩
theorem canZ_in {ts : List TaskV} {i k : Nat} (hi : i < ts.length) (hk : k < ts.length) : canZ ts (i : Int) (k : Int) = canB ts i k := by
  unfold canZ inZ
  rw [decide_eq_true (by omega), decide_eq_true (by omega)]
  rfl
set_option maxRecDepth 100000 in
theorem cl40 {W : World} {c : ConfV} {ts : List TaskV} {qc qx x : Nat} (hB : Boxes W c ts qc qx x) (hn : c.ta.n ≤ 9223372036854775807) {i : Nat} (hi : i < ts.length) (hx' : x < ts.length) : Calls Try.prog 45 #[.int .i64 (i : Int), .pointer (some ⟨qc, 0, none⟩), .pointer (some ⟨qx, 0, none⟩)] W (GrowB (clash ts i x) W) := by
  have q1 := can_any hB.t hn (i : Int) (x : Int)
  rw [canZ_in hi hx'] at q1
  have q2 : ∀ W', Only (fun _ => False) W W' → Calls Try.prog 42 #[c.val, .int .i64 (x : Int), .int .i64 (i : Int)] W' (GrowB (canB ts x i) W') := fun W' ho => by
    have := can_any (hB.t.new ho) hn (x : Int) (i : Int)
    rw [canZ_in hx' hi] at this
    exact this
  have hd := fun W' (ho : Only (fun _ => False) W W') (k : Nat) (v : Value) (hv : c.cells[k]? = some v) => row_cell (ho.heap hB.c (fun h => h)) hv
  have hdx := Lib.hid (fun W' (ho : Only (fun _ => False) W W') => row_cell (ho.heap hB.x (fun h => h)) (i := 0) rfl)
  have hl := Lib.hid (fun W' (ho : Only (fun _ => False) W W') => show qc < W'.heap.size ∧ qx < W'.heap.size from ⟨row_lt (ho.heap hB.c (fun h => h)), row_lt (ho.heap hB.x (fun h => h))⟩)
  have hd' := Lib.hid hd
  obtain ⟨V1, hV1⟩ : ∃ V, V = canB ts i x := ⟨_, rfl⟩
  obtain ⟨V2, hV2⟩ : ∃ V, V = canB ts x i := ⟨_, rfl⟩
  have hcl : clash ts i x = (V1 || V2) := by rw [clash, hV1, hV2]
  rw [hcl]
  rw [← hV1] at q1
  rw [← hV2] at q2
  have q1' := Lib.hid q1
  have q2' := Lib.hid q2
  unfold ConfV.val at q1' q2'
  obtain ⟨l1, l2⟩ := hl.out W (Only.refl _ W)
  have dx := hdx.out W (Only.refl _ W)
  have d0 := hd W (Only.refl _ W) 0 _ rfl
  have d1 := hd W (Only.refl _ W) 1 _ rfl
  have d2 := hd W (Only.refl _ W) 2 _ rfl
  have d3 := hd W (Only.refl _ W) 3 _ rfl
  have d4 := hd W (Only.refl _ W) 4 _ rfl
  have d5 := hd W (Only.refl _ W) 5 _ rfl
  have d6 := hd W (Only.refl _ W) 6 _ rfl
  have d7 := hd W (Only.refl _ W) 7 _ rfl
  have d8 := hd W (Only.refl _ W) 8 _ rfl
  have d9 := hd W (Only.refl _ W) 9 _ rfl
  clear hd q1 q2 hB hcl hV1 hV2 hn hi hx'
  go_enter Try.func45, Try.ntmps45
  go_wp2_with fail
  refine q1'.out.mono ?_
  rintro e w1 ⟨rfl, ho⟩
  have hv := Lib.hid ho
  clear ho l1 l2 dx d0 d1 d2 d3 d4 d5 d6 d7 d8 d9
  cases V1
  · obtain ⟨l1, l2⟩ := hl.out w1 hv.out
    have dx := hdx.out w1 hv.out
    have d0 := hd'.out w1 hv.out 0 _ rfl
    have d1 := hd'.out w1 hv.out 1 _ rfl
    have d2 := hd'.out w1 hv.out 2 _ rfl
    have d3 := hd'.out w1 hv.out 3 _ rfl
    have d4 := hd'.out w1 hv.out 4 _ rfl
    have d5 := hd'.out w1 hv.out 5 _ rfl
    have d6 := hd'.out w1 hv.out 6 _ rfl
    have d7 := hd'.out w1 hv.out 7 _ rfl
    have d8 := hd'.out w1 hv.out 8 _ rfl
    have d9 := hd'.out w1 hv.out 9 _ rfl
    go_wp2_with fail
    refine (q2'.out w1 hv.out).mono ?_
    rintro e w2 ⟨rfl, ho⟩
    have hv2 := Lib.hid (hv.out.trans' ho)
    clear ho l1 l2 dx d0 d1 d2 d3 d4 d5 d6 d7 d8 d9
    go_wp2
    go_ret
    exact ⟨rfl, hv2.out⟩
  · go_wp2
    go_ret
    exact ⟨rfl, hv.out⟩
set_option maxRecDepth 100000 in
theorem idx57 {w : World} {c : ConfV} {ts : List TaskV} {qc qx x : Nat} (hB : Boxes w c ts qc qx x) (hn : c.ta.n ≤ 9223372036854775807) (hx' : x < ts.length) {A : Option Addr} {n cap : Nat} {h : Option Nat} {L : List Nat} (hW : Win w 3 1 (.slice A n cap) h n (dat L)) (hl : L.length = n) (h9 : n ≤ 1000000) (hL : ∀ i ∈ L, i < ts.length) :
    Calls Try.prog 67 #[.slice A n cap, .func (.func 45) #[] #[.pointer (some ⟨qc, 0, none⟩), .pointer (some ⟨qx, 0, none⟩)]] w (IdxEnd (meetsB ts x L) w) := by
  have q := Lib.hid (fun (W : World) (ho : Only (fun _ => False) w W) (i : Nat) (hi : i < ts.length) => cl40 (hB.new ho) hn hi hx')
  have hW' := Lib.hid hW
  have hl' := Lib.hid hl
  have hL' := Lib.hid hL
  clear hB hW hL hx' hl hn
  go_enter Try.func67, Try.ntmps67
  go_wp2
  go_loopw [8] (fun i wr => ∃ k : Nat, k ≤ n ∧ i = .int .i64 k ∧ Hid (∀ (j : Nat) t, j < k → L[j]? = some t → clash ts t x = false) ∧ Hid (Only (fun _ => False) w wr)) (fun i _ => n - (intOf i).toNat)
  case atStart => exact ⟨0, Nat.zero_le _, rfl, Lib.hid (fun j z hj => by omega), Lib.hid (Only.refl _ w)⟩
  case round =>
    obtain ⟨k, hk, rfl, hall, hO⟩ := hrel
    by_cases hkn : k < n
    · have hkn' : (k : Int) < (n : Int) := by omega
      obtain ⟨t, ht⟩ : ∃ t, L[k]? = some t := ⟨_, List.getElem?_eq_getElem (by have := hl'.out; omega)⟩
      obtain ⟨g, off, cp, _, hv, _, _, hgl, hc, _⟩ := (hW'.out.kept hO.out (fun _ _ h => h)).at_ (by omega)
      simp only [Value.slice.injEq, true_and] at hv
      obtain ⟨rfl, rfl⟩ := hv
      have cx := hc k _ (dat_at ht)
      have hq := q.out _ hO.out t (hL'.out t (List.mem_of_getElem? ht))
      have ht' := Lib.hid ht
      obtain ⟨v, hv⟩ : ∃ v, v = clash ts t x := ⟨_, rfl⟩
      rw [← hv] at hq
      have hv' := Lib.hid hv
      have hq' := Lib.hid hq
      clear hc ht hv hq
      go_wp2_with fail
      refine (hq'.out).mono ?_
      rintro e w1 ⟨rfl, hO1⟩
      have hO2 := Lib.hid (hO.out.trans' hO1)
      clear hO1 hq' cx hgl
      cases v
      rotate_left
      · have hz := Lib.hid (any_yes (l := L) (f := fun i => clash ts i x) ht'.out hv'.out.symm)
        go_wp2
        go_ret
        exact ⟨_, rfl, by rw [meetsB, hz.out]; simp, by omega, by omega, hO2.out⟩
      · have hnx := Lib.hid (show ∀ (j : Nat) y, j < k + 1 → L[j]? = some y → clash ts y x = false from fun j y hj hy => by
          by_cases hjk : j < k
          · exact hall.out j y hjk hy
          · obtain rfl : j = k := by omega
            rw [ht'.out] at hy
            cases hy
            exact hv'.out.symm)
        go_wp2
        go_roundw
        case rel => exact ⟨k + 1, by omega, by go_num, hnx, hO2⟩
        case measure => simp [intOf]; omega
    · obtain rfl : k = n := by omega
      have hz := Lib.hid (any_not (l := L) (f := fun i => clash ts i x) (fun j z hz => hall.out j z (by have := (List.getElem?_eq_some_iff.1 hz).1; have := hl'.out; omega) hz))
      go_wp2
      go_ret
      exact ⟨_, rfl, by rw [meetsB, hz.out]; simp, by omega, by omega, hO.out⟩
theorem con43 {w : World} {c : ConfV} {ts : List TaskV} {qc qx x : Nat} (hB : Boxes w c ts qc qx x) (hn : c.ta.n ≤ 9223372036854775807) (hx' : x < ts.length) {A : Option Addr} {n cap : Nat} {h : Option Nat} {L : List Nat} (hW : Win w 3 1 (.slice A n cap) h n (dat L)) (hl : L.length = n) (h9 : n ≤ 1000000) (hL : ∀ i ∈ L, i < ts.length) :
    Calls Try.prog 48 #[.slice A n cap, .func (.func 45) #[] #[.pointer (some ⟨qc, 0, none⟩), .pointer (some ⟨qx, 0, none⟩)]] w (GrowB (meetsB ts x L) w) := by
  have q := Lib.hid (idx57 hB hn hx' hW hl h9 hL)
  obtain ⟨v, hv⟩ : ∃ v, v = meetsB ts x L := ⟨_, rfl⟩
  rw [← hv] at q ⊢
  clear hB hn hx' hW hl hL hv
  go_enter Try.func48, Try.ntmps48
  go_wp2_with fail
  refine (q.out).mono ?_
  rintro e w1 ⟨z, rfl, hz, h1, h2, hO⟩
  have hz' := Lib.hid hz
  have hO' := Lib.hid hO
  clear hz hO q
  by_cases h0 : 0 ≤ z
  · have hv := Lib.hid (hz'.out.1 h0)
    go_wp2
    go_ret
    exact retg_bool (by first | exact hv.out.symm | (rw [hv.out]; simp [h0])) hO'.out
  · have hv := Lib.hid (show v = false by have := fun h => h0 (hz'.out.2 h); simpa using this)
    go_wp2
    go_ret
    exact retg_bool (by rw [hv.out]; first | rfl | simp [h0]) hO'.out
theorem cl42 {w : World} {c : ConfV} {ts : List TaskV} {qc qx qm x : Nat} (hB : Boxes w c ts qc qx x) (hn : c.ta.n ≤ 9223372036854775807) (hx' : x < ts.length) (hm : w.heap[qm]? = some (.cells [Value.func (.func 45) #[] #[.pointer (some ⟨qc, 0, none⟩), .pointer (some ⟨qx, 0, none⟩)]].toArray 66 (0, 0)))
    {A : Option Addr} {n cap : Nat} {h : Option Nat} {L : List Nat} (hW : Win w 3 1 (.slice A n cap) h n (dat L)) (hl : L.length = n) (h9 : n ≤ 1000000) (hL : ∀ i ∈ L, i < ts.length) :
    Calls Try.prog 47 #[.slice A n cap, .pointer (some ⟨qm, 0, none⟩)] w (GrowB (!(meetsB ts x L)) w) := by
  have q := Lib.hid (con43 hB hn hx' hW hl h9 hL)
  have dm := row_cell hm (i := 0) rfl
  have lm := row_lt hm
  obtain ⟨v, hv⟩ : ∃ v, v = meetsB ts x L := ⟨_, rfl⟩
  rw [← hv] at q ⊢
  clear hB hn hx' hW hl hL hv hm
  go_enter Try.func47, Try.ntmps47
  go_wp2_with fail
  refine (q.out).mono ?_
  rintro e w1 ⟨rfl, hO⟩
  have hO' := Lib.hid hO
  clear hO q
  cases v
  · go_wp2
    go_ret
    exact ⟨rfl, hO'.out⟩
  · go_wp2
    go_ret
    exact ⟨rfl, hO'.out⟩
/-- The first group that bears the task. -/
def FindEnd (ts : List TaskV) (x : Nat) (gs : List (List Nat)) (w : World) (e : Ending) (w' : World) : Prop :=
  Only (fun _ => False) w w' ∧ ((e = .returned (.int .i64 (-1)) ∧ ∀ (j : Nat) M, gs[j]? = some M → meetsB ts x M = true) ∨
    ∃ (j : Nat) (L : List Nat), e = .returned (.int .i64 (j : Int)) ∧ gs[j]? = some L ∧ meetsB ts x L = false ∧ ∀ (k : Nat) M, k < j → gs[k]? = some M → meetsB ts x M = true)
set_option maxRecDepth 100000 in
theorem idx41 {w : World} {c : ConfV} {ts : List TaskV} {qc qx qm x : Nat} (hB : Boxes w c ts qc qx x) (hn : c.ta.n ≤ 9223372036854775807) (hx' : x < ts.length) (hm : w.heap[qm]? = some (.cells [Value.func (.func 45) #[] #[.pointer (some ⟨qc, 0, none⟩), .pointer (some ⟨qx, 0, none⟩)]].toArray 66 (0, 0)))
    {base : Nat} {p : Option Addr} {n cap : Nat} {ho : Option Nat} {V : List Value} {H : Nat → Option Nat} {gs : List (List Nat)} (hG : GrpAt w base p cap ho V H gs) (hgn : gs.length = n) (h9 : n ≤ 1000000) (hL : ∀ M ∈ gs, M.length ≤ 1000000 ∧ ∀ i ∈ M, i < ts.length) :
    Calls Try.prog 46 #[.slice p n cap, .func (.func 47) #[] #[.pointer (some ⟨qm, 0, none⟩)]] w (FindEnd ts x gs w) := by
  subst hgn
  have q := Lib.hid (fun (W : World) (hO : Only (fun _ => False) w W) (j : Nat) (M : List Nat) (A : Option Addr) (cp : Nat) (hj : gs[j]? = some M) (hW : Win w 3 1 (.slice A M.length cp) (H j) M.length (dat M)) =>
    cl42 (hB.new hO) hn hx' (hO.heap hm (fun h => h)) (hW.kept hO (fun _ _ h => h)) rfl (hL M (List.mem_of_getElem? hj)).1 (hL M (List.mem_of_getElem? hj)).2)
  have hG' := Lib.hid hG
  obtain ⟨n, hnl⟩ : ∃ n, n = gs.length := ⟨_, rfl⟩
  have hn' := Lib.hid hnl
  rw [← hnl] at h9 ⊢
  obtain ⟨Z, hZ⟩ : ∃ Z, Z = FindEnd ts x gs w := ⟨_, rfl⟩
  rw [← hZ]
  have hZ' := Lib.hid hZ
  clear hB hG hL hx' hn hm hnl hZ
  go_enter Try.func46, Try.ntmps46
  go_wp2
  go_loopw [5, 8] (fun _ i wr => ∃ k : Nat, k ≤ n ∧ i = .int .i64 k ∧ Hid (∀ (j : Nat) M, j < k → gs[j]? = some M → meetsB ts x M = true) ∧ Hid (Only (fun _ => False) w wr)) (fun _ i _ => n - (intOf i).toNat)
  case atStart => exact ⟨0, Nat.zero_le _, rfl, Lib.hid (fun j z hj => by omega), Lib.hid (Only.refl _ w)⟩
  case round =>
    obtain ⟨k, hk, rfl, hall, hO⟩ := hrel
    by_cases hkn : k < n
    · have hkn' : (k : Int) < (n : Int) := by omega
      obtain ⟨M, hM⟩ : ∃ t, gs[k]? = some t := ⟨_, List.getElem?_eq_getElem (by have := hn'.out; omega)⟩
      obtain ⟨A, cp, hV, hWk⟩ := hG'.out.row k M hM
      have ho := hG'.out.o
      rw [← hn'.out] at ho
      obtain ⟨g, off, cc, _, hv, _, _, hgl, hc, _⟩ := (ho.kept hO.out (fun _ _ h => h)).at_ (by omega)
      simp only [Value.slice.injEq, true_and] at hv
      obtain ⟨rfl, rfl⟩ := hv
      have cx := hc k _ hV
      have hq := q.out _ hO.out k M A cp hM hWk
      have hM' := Lib.hid hM
      obtain ⟨v, hv⟩ : ∃ v, v = meetsB ts x M := ⟨_, rfl⟩
      rw [← hv] at hq
      have hv' := Lib.hid hv
      have hq' := Lib.hid hq
      clear hc hM hv hq ho hV hWk
      go_wp2_with fail
      refine (hq'.out).mono ?_
      rintro e w1 ⟨rfl, hO1⟩
      have hO2 := Lib.hid (hO.out.trans' hO1)
      clear hO1 hq' cx hgl
      cases v
      · go_wp2
        rw [hZ'.out]
        exact ⟨hO2.out, .inr ⟨k, M, rfl, hM'.out, hv'.out.symm, hall.out⟩⟩
      · have hnx := Lib.hid (show ∀ (j : Nat) y, j < k + 1 → gs[j]? = some y → meetsB ts x y = true from fun j y hj hy => by
          by_cases hjk : j < k
          · exact hall.out j y hjk hy
          · obtain rfl : j = k := by omega
            rw [hM'.out] at hy
            cases hy
            exact hv'.out.symm)
        go_wp2
        go_roundw
        case rel => exact ⟨k + 1, by omega, by go_num, hnx, hO2⟩
        case measure => simp [intOf]; omega
    · obtain rfl : k = n := by omega
      have hz := Lib.hid (fun (j : Nat) M (hM : gs[j]? = some M) => hall.out j M (by have := (List.getElem?_eq_some_iff.1 hM).1; have := hn'.out; omega) hM)
      go_wp2
      rw [hZ'.out]
      exact ⟨hO.out, .inl ⟨rfl, hz.out⟩⟩
end Bch
end Go.Proofs.Ytdoimkmhincmmaa
