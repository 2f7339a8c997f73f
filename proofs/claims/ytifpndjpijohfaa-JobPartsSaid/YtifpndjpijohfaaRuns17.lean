/- What a run through a program comes to. -/
import Derived.Test.YtifpndjpijohfaaWay17
namespace Go.Proofs.Ytifpndjpijohfaa
open Go Go.RowKit

/-- What an operation adds to the open regions. -/
def opD (x : Opn) : Int := if x.k = 3 then 1 else if x.k = 4 then -1 else 0
def opens (l : List Opn) (k : Nat) : Int := ((l.take k).map opD).sum
theorem opens_zero (l : List Opn) : opens l 0 = 0 := rfl
theorem opens_next {l : List Opn} {k : Nat} {x : Opn} (hx : l[k]? = some x) : opens l (k + 1) = opens l k + opD x := by
  unfold opens
  rw [List.take_add_one, hx]
  simp
theorem opD_in (x : Opn) : -1 ≤ opD x ∧ opD x ≤ 1 := by
  unfold opD
  split
  · omega
  · split <;> omega
theorem opens_in (l : List Opn) (k : Nat) : -(k : Int) ≤ opens l k ∧ opens l k ≤ k := by
  induction k with
  | zero => rw [opens_zero]; omega
  | succ k ih =>
    cases hx : l[k]? with
    | none =>
      have : opens l (k + 1) = opens l k := by
        unfold opens
        rw [List.take_add_one, hx]
        simp
      omega
    | some x =>
      have := opens_next hx
      have := opD_in x
      omega

/-- Behind k operations, without a fault. -/
structure RunSt (l : List Opn) (k : Nat) (j : Jb) : Prop where
  ops : j.ops = l
  at_ : j.at_ = k
  rest : j.rest = 0
  fault : j.fault = false
  armed : j.armed = false
  reg : j.regions = opens l k
section
variable {l : List Opn} {k : Nat} {j : Jb} {x : Opn} {cost : Int}
theorem RunSt.op (h : RunSt l k j) (hx : l[k]? = some x) : opOf j = some x := by
  unfold opOf
  rw [if_pos ⟨h.rest, h.fault⟩, h.ops, h.at_, hx]
theorem doF_reg (h : RunSt l k j) (hx : l[k]? = some x) (h0 : 0 ≤ opens l k) (h1 : 0 ≤ opens l (k + 1)) (hk : k ≤ 1000) : (doF j x).1.regions = opens l (k + 1) := by
  have hn := opens_next hx
  have hb := opens_in l k
  have hr := h.reg
  rw [hn] at h1 ⊢
  unfold opD at h1 ⊢
  unfold doF
  by_cases h3 : x.k = 3
  · rw [if_pos h3, if_pos h3]
    show IntKind.i64.wrap (j.regions + 1) = _
    rw [hr, IntWalk.i64_in _ (by omega)]
  · rw [if_neg h3] at h1
    rw [if_neg h3, if_neg h3]
    by_cases h4 : x.k = 4
    · rw [if_pos h4] at h1
      rw [if_pos h4, if_pos h4]
      show max (IntKind.i64.wrap (j.regions - 1)) 0 = _
      rw [hr, IntWalk.i64_in _ (by omega)]
      omega
    · rw [if_neg h4, if_neg h4]
      rw [Int.add_zero, ← hr]
      split
      · rfl
      · split <;> rfl
theorem RunSt.step (h : RunSt l k j) (hx : l[k]? = some x) (h0 : 0 ≤ opens l k) (h1 : 0 ≤ opens l (k + 1)) (hk : k ≤ 1000) (hd : (doF j x).2 = true) (hc : 1 ≤ cost) :
    ∃ j1 j2, beginF j x cost = (j1, 0) ∧ j1.rest = cost ∧ goneF j1 cost = cost ∧ burnF j1 cost = j2 ∧ j2.at_ = k + 1 ∧ RunSt l (k + 1) j2 := by
  have hreg := doF_reg h hx h0 h1 hk
  obtain ⟨s1, s2, s3, s4, s5, s6, s7⟩ := doF_same j x
  have hb : beginF j x cost = ({ (doF j x).1 with rest := cost }, 0) := by
    unfold beginF
    rw [if_pos hd, show max cost 1 = cost by omega]
  have hg : goneF { (doF j x).1 with rest := cost } cost = cost := by
    unfold goneF
    simp only
    omega
  refine ⟨_, _, hb, rfl, hg, rfl, ?_, ?_⟩
  · unfold burnF
    rw [hg, if_neg (by omega)]
    simp only
    rw [if_pos (by omega), s3, h.at_]
  · unfold burnF
    rw [hg, if_neg (by omega)]
    refine ⟨s1.trans h.ops, ?_, by simp only; omega, s7.trans h.fault, s6.trans h.armed, hreg⟩
    simp only
    rw [if_pos (by omega), s3, h.at_]
theorem RunSt.fail (_ : RunSt l k j) (hd : (doF j x).2 = false) :
    ∃ j1 j2, beginF j x cost = (j1, 11) ∧ j1.rest = 1 ∧ goneF j1 1 = 1 ∧ burnF j1 1 = j2 ∧ overB j2 = true ∧ j2.fault = true := by
  have hb : beginF j x cost = ({ (doF j x).1 with fault := true, rest := 1 }, 11) := by
    unfold beginF
    rw [if_neg (by rw [hd]; simp)]
  have hg : goneF { (doF j x).1 with fault := true, rest := 1 } 1 = 1 := by
    unfold goneF
    simp only
    omega
  refine ⟨_, _, hb, rfl, hg, rfl, ?_, ?_⟩
  · unfold burnF overB
    rw [hg, if_neg (by omega)]
    simp
  · unfold burnF
    rw [hg, if_neg (by omega)]
theorem RunSt.first (t : TaskV) (l : List Opn) : RunSt l 0 (newJ t l) := ⟨rfl, rfl, rfl, rfl, rfl, rfl⟩
theorem RunSt.over (h : RunSt l l.length j) : overB j = true := by
  unfold overB
  rw [h.rest, h.fault, h.at_, h.ops]
  simp
end

/-- The task, laid in a block of its own. -/
def TkAt (w : World) (X : Nat) (t : TaskV) : Prop := w.heap[X]? = some (.cells t.cells.toArray 24 (0, 0))
theorem TkAt.new {w w' : World} {X : Nat} {t : TaskV} (h : TkAt w X t) (ho : Only (fun _ => False) w w') : TkAt w' X t := ho.heap h (fun h => h)
theorem TkAt.kept {S : Nat → Prop} {w w' : World} {X : Nat} {t : TaskV} (h : TkAt w X t) (ho : Only S w w') (hX : ¬ S X) : TkAt w' X t := ho.heap h hX
set_option maxRecDepth 100000 in
theorem runs_not {w : World} {t : TaskV} {l : List Opn} (hl : OpnRow w t.o.A l) (hn : l.length = t.o.n) (hmax : t.o.n ≤ 9223372036854775807) (hf : fewB l = false) (A : Option Addr) (m cap : Nat) :
    Calls Try.prog 4 #[t.val, .slice A m cap] w fun e w' => e = .returned (.bool true) ∧ Below w.heap.size w w' := by
  have q := Lib.hid (fun W (hW : Only (fun _ => False) w W) => few_any (hl.new hW) hn hmax)
  rw [hf] at q
  obtain ⟨pr, th, pe, de, fr, fl, ⟨P, n, cp⟩⟩ := t
  unfold TaskV.val at q ⊢
  dsimp only at q ⊢
  have hT := Lib.hid (show TkAt (w.alloc (.cells #[.int .i64 pr, .int .i64 th, .int .i64 pe, .int .i64 de, .int .i64 fr, .int .i64 fl, .slice P n cp] 24)) w.heap.size ⟨pr, th, pe, de, fr, fl, ⟨P, n, cp⟩⟩ from heap_new_at _ _ rfl)
  have hO0 := Lib.hid ((Only.refl (fun _ => False) w).alloc (.cells #[.int .i64 pr, .int .i64 th, .int .i64 pe, .int .i64 de, .int .i64 fr, .int .i64 fl, .slice P n cp] 24))
  obtain ⟨B, hB⟩ : ∃ B, B = w.heap.size := ⟨_, rfl⟩
  rw [← hB]
  have hBw := Lib.hid (Nat.le_of_eq hB)
  clear hl hn hmax hf
  go_enter Try.func4, Try.ntmps4
  go_wp2_with fail
  refine (fixed17_any _).mono ?_
  rintro e w1 ⟨rfl, hb1⟩
  have h1 := Lib.hid (hO0.out.trans' (Only.of_new hb1 (fun _ => False)))
  have hT1 := Lib.hid (hT.out.new (Only.of_new hb1 (fun _ => False)))
  clear hb1
  rw [← hB] at hT1 ⊢
  have d0 := row_cell hT1.out (i := 0) rfl
  have d1 := row_cell hT1.out (i := 1) rfl
  have d2 := row_cell hT1.out (i := 2) rfl
  have d3 := row_cell hT1.out (i := 3) rfl
  have d4 := row_cell hT1.out (i := 4) rfl
  have d5 := row_cell hT1.out (i := 5) rfl
  have d6 := row_cell hT1.out (i := 6) rfl
  have hBl := row_lt hT1.out
  clear hB
  go_wp2_with fail
  refine (q.out _ h1.out).mono ?_
  rintro e w2 ⟨rfl, ho2⟩
  have h2 := Lib.hid (h1.out.trans' ho2)
  clear ho2
  go_wp2
  go_ret
  exact ⟨rfl, h2.out.below hBw.out (fun k h => h.elim)⟩

set_option maxRecDepth 100000 in
set_option maxHeartbeats 4000000 in
theorem runs_any {w : World} {t : TaskV} {l : List Opn} (hl : OpnRow w t.o.A l) (hn : l.length = t.o.n) (hmax : t.o.n ≤ 9223372036854775807) (hfl : t.fl ≤ 9223372036854775807) (hf : fewB l = true) (A : Option Addr) (m cap : Nat) (z : Nat → Int) (hA : IntRow .u8 w A m z) :
    Calls Try.prog 4 #[t.val, .slice A m cap] w fun e w' => e = .returned (.bool true) ∧ Below w.heap.size w w' := by
  have hA' := Lib.hid hA.row
  have hz := Lib.hid (fun i (hi : i < m) => bounds_u8 (hA.wf hi))
  have q := Lib.hid (fun W (hW : Only (fun _ => False) w W) => few_any (hl.new hW) hn hmax)
  rw [hf] at q
  have h80 := (few_in hf).1
  have hnew := Lib.hid (fun W (hW : Only (fun _ => False) w W) => jnew_any (hl.new hW) hn (by omega))
  have hl' := Lib.hid hl
  obtain ⟨pr, th, pe, de, fr, fl, ⟨P, n, cp⟩⟩ := t
  unfold TaskV.val at q ⊢
  dsimp only at q ⊢
  have hT := Lib.hid (show TkAt (w.alloc (.cells #[.int .i64 pr, .int .i64 th, .int .i64 pe, .int .i64 de, .int .i64 fr, .int .i64 fl, .slice P n cp] 24)) w.heap.size ⟨pr, th, pe, de, fr, fl, ⟨P, n, cp⟩⟩ from heap_new_at _ _ rfl)
  have hO0 := Lib.hid ((Only.refl (fun _ => False) w).alloc (.cells #[.int .i64 pr, .int .i64 th, .int .i64 pe, .int .i64 de, .int .i64 fr, .int .i64 fl, .slice P n cp] 24))
  obtain ⟨B, hB⟩ : ∃ B, B = w.heap.size := ⟨_, rfl⟩
  rw [← hB]
  have hBw := Lib.hid (Nat.le_of_eq hB)
  dsimp only at hn hl' hfl hnew
  have hn' := Lib.hid hn
  have hn80 : n ≤ 80 := by omega
  have hfl' := Lib.hid hfl
  unfold TaskV.val at hnew
  dsimp only at hnew
  clear hl hn hmax hf hA h80 hfl
  go_enter Try.func4, Try.ntmps4
  go_wp2_with fail
  refine (fixed17_any _).mono ?_
  rintro e w1 ⟨rfl, hb1⟩
  have h1 := Lib.hid (hO0.out.trans' (Only.of_new hb1 (fun _ => False)))
  have hT1 := Lib.hid (hT.out.new (Only.of_new hb1 (fun _ => False)))
  clear hb1
  rw [← hB] at hT1 ⊢
  have d0 := row_cell hT1.out (i := 0) rfl
  have d1 := row_cell hT1.out (i := 1) rfl
  have d2 := row_cell hT1.out (i := 2) rfl
  have d3 := row_cell hT1.out (i := 3) rfl
  have d4 := row_cell hT1.out (i := 4) rfl
  have d5 := row_cell hT1.out (i := 5) rfl
  have d6 := row_cell hT1.out (i := 6) rfl
  have hBl := row_lt hT1.out
  clear hB
  go_wp2_with fail
  refine (q.out _ h1.out).mono ?_
  rintro e w2 ⟨rfl, ho2⟩
  have h2 := Lib.hid (h1.out.trans' ho2)
  have hT2 := Lib.hid (hT1.out.new ho2)
  clear ho2 d0 d1 d2 d3 d4 d5 d6 q h1 hO0 hT
  have d6 := row_cell hT2.out (i := 6) rfl
  have hBl := row_lt hT2.out
  clear hT1
  go_wp2
  go_loopw [5, 7, 20] (fun s _ i wr => ∃ k : Nat, k ≤ n ∧ i = .int .i64 k ∧ s = .int .i64 (opens l k) ∧ (∀ j, j ≤ k → 0 ≤ opens l j) ∧ Only (fun _ => False) w2 wr) (fun _ _ i _ => n - (intOf i).toNat)
  case atStart => exact ⟨0, Nat.zero_le _, rfl, rfl, fun j hj => (Nat.le_zero.1 hj) ▸ Int.le_refl _, Only.refl _ _⟩
  case round =>
    obtain ⟨k, hk, rfl, rfl, hall, ho⟩ := hrel
    obtain ⟨ws, hws⟩ : ∃ ws : World, ws = wr := ⟨_, rfl⟩
    subst hws
    have ho' := Lib.hid ho
    have hall' := Lib.hid hall
    have hop := opens_in l k
    have h0 := hall k (Nat.le_refl _)
    obtain ⟨op, hope⟩ : ∃ op, op = opens l k := ⟨_, rfl⟩
    rw [← hope] at hop h0 ⊢
    have hope' := Lib.hid hope
    clear ho hall hope d6
    by_cases hlt : k < n
    · obtain ⟨x, hx⟩ : ∃ x, l[k]? = some x := ⟨_, List.getElem?_eq_getElem (by have := hn'.out; omega)⟩
      obtain ⟨g, off, rfl, hg, a0, a1, a2⟩ := (hl'.out.new (h2.out.trans' ho'.out)) k x hx
      have hnx := Lib.hid (opens_next hx)
      rw [← hope'.out] at hnx
      obtain ⟨K, a, b2⟩ := x
      dsimp only at a0 a1 a2
      clear hx
      by_cases k3 : K = 3
      · subst k3
        have hd := Lib.hid (show opens l (k + 1) = op + 1 from hnx.out)
        have hwr : IntKind.i64.wrap (op + 1) = op + 1 := IntWalk.i64_in _ (by omega)
        have hnn : ¬ (op + 1 < 0) := by omega
        have hnn' := Lib.hid hnn
        go_wp2
        go_roundw
        case rel =>
          refine ⟨k + 1, by omega, by go_num, by rw [hd.out], fun j hj => ?_, ho'.out.alloc _⟩
          by_cases hjk : j ≤ k
          · exact hall'.out j hjk
          · obtain rfl : j = k + 1 := by omega
            have := hnn'.out
            rw [hd.out]
            omega
        case measure => simp [intOf]; omega
      · by_cases k4 : K = 4
        · subst k4
          have hd := Lib.hid (show opens l (k + 1) = op - 1 from hnx.out)
          have hwr : IntKind.i64.wrap (op - 1) = op - 1 := IntWalk.i64_in _ (by omega)
          by_cases hneg : op - 1 < 0
          · go_wp2
            go_ret
            exact ⟨rfl, ((h2.out.trans' ho'.out).alloc _).below hBw.out (fun k h => h.elim)⟩
          · have hnn' := Lib.hid hneg
            go_wp2
            go_roundw
            case rel =>
              refine ⟨k + 1, by omega, by go_num, by rw [hd.out], fun j hj => ?_, ho'.out.alloc _⟩
              by_cases hjk : j ≤ k
              · exact hall'.out j hjk
              · obtain rfl : j = k + 1 := by omega
                have := hnn'.out
                rw [hd.out]
                omega
            case measure => simp [intOf]; omega
        · have hd := Lib.hid (show opens l (k + 1) = op by rw [hnx.out]; unfold opD; rw [if_neg k3, if_neg k4]; omega)
          have hn3 : (K == 3) = false := by simpa using k3
          have hn4 : (K == 4) = false := by simpa using k4
          have hnn : ¬ (op < 0) := by omega
          have hnn' := Lib.hid hnn
          go_wp2
          go_roundw
          case rel =>
            refine ⟨k + 1, by omega, by go_num, by rw [hd.out], fun j hj => ?_, ho'.out.alloc _⟩
            by_cases hjk : j ≤ k
            · exact hall'.out j hjk
            · obtain rfl : j = k + 1 := by omega
              have := hnn'.out
              rw [hd.out]
              omega
          case measure => simp [intOf]; omega
    · obtain rfl : k = n := by omega
      have hT3 := Lib.hid (hT2.out.new ho'.out)
      have d0 := row_cell hT3.out (i := 0) rfl
      have d1 := row_cell hT3.out (i := 1) rfl
      have d2 := row_cell hT3.out (i := 2) rfl
      have d3 := row_cell hT3.out (i := 3) rfl
      have d4 := row_cell hT3.out (i := 4) rfl
      have d5 := row_cell hT3.out (i := 5) rfl
      have d6 := row_cell hT3.out (i := 6) rfl
      have hBl3 := row_lt hT3.out
      have h3 := Lib.hid (h2.out.trans' ho'.out)
      have hq := Lib.hid (hnew.out _ (h2.out.trans' ho'.out))
      clear hT2 hlt hBl hnew hop h0
      go_wp2_with fail
      refine hq.out.mono ?_
      rintro e w4 h4
      obtain ⟨b, rfl, hR⟩ := JR.first (w := w) (B := ws.heap.size) h4 (h3.out.mono (fun _ _ h => h.elim)) (Nat.le_refl _) (by have := hn'.out; omega) hfl'.out
      have hR' := Lib.hid hR
      have hTw : Only (fun _ => False) ws w4 := by
        obtain ⟨_, _, _, _, _, h5⟩ := h4
        exact h5
      have hT4 := Lib.hid (hT3.out.new hTw)
      have hBs := Lib.hid hBl3
      have hBw3 := Lib.hid (show w.heap.size ≤ ws.heap.size from h3.out.size)
      have e6 := row_cell hT4.out (i := 6) rfl
      have hBl4 := row_lt hT4.out
      clear hT3 hR h4 hq d0 d1 d2 d3 d4 d5 d6 hBl3 hTw ho'
      go_wp2
      go_loopw [9, 10, 11, 42] (fun _ _ _ i wr => ∃ (c : Nat) (j : Jb), c ≤ k ∧ i = .int .i64 c ∧ RunSt l c j ∧ JR w ws.heap.size b j wr) (fun _ _ _ i _ => k - (intOf i).toNat)
      case atStart => exact ⟨0, _, Nat.zero_le _, rfl, RunSt.first _ _, hR'.out⟩
      case round =>
        clear hR' e6
        obtain ⟨c, j, hck, rfl, hS, hJ⟩ := hrel
        obtain ⟨wt, hwt⟩ : ∃ wt : World, wt = wr := ⟨_, rfl⟩
        subst hwt
        have hS' := Lib.hid hS
        have hJ' := Lib.hid hJ
        clear hS hJ
        by_cases hlt : c < k
        · have hRow := Lib.hid (hA'.out.only hJ'.out.only (fun _ h => Nat.le_trans hBw3.out h))
          obtain ⟨M, hM⟩ : ∃ M : Int, M = (m : Int) := ⟨_, rfl⟩
          go_upto_if 48 with fail
          go_cut [10] from 48 to 54 (fun cv wc => wt = wc ∧ ∃ Z : Int, cv = .int .i64 Z ∧ 1 ≤ Z ∧ Z ≤ 255)
          case first =>
            by_cases hcm : c < m
            · obtain ⟨ba, off, rfl, hc, hbl⟩ := hRow.out c hcm
              replace hc : wt.cell? ⟨ba, off + c, none⟩ = some (.int .u8 (z c)) := hc
              have hzc := hz.out c hcm
              obtain ⟨Z, hZ⟩ : ∃ Z, Z = z c := ⟨_, rfl⟩
              rw [← hZ] at hc hzc
              have hwz : IntKind.i64.wrap Z = Z := IntWalk.i64_in _ (by omega)
              have hcmi : (c : Int) < (m : Int) := by omega
              have hzc' := Lib.hid hzc
              clear hZ hM
              by_cases hZ1 : 1 ≤ Z
              · go_wp2
                go_meet
                case rel => exact ⟨rfl, Z, rfl, hZ1, hzc'.out.2⟩
              · go_wp2
                go_meet
                case rel => exact ⟨rfl, 1, rfl, by omega, by omega⟩
            · have hcmi : ¬ (c : Int) < (m : Int) := by omega
              clear hM
              go_wp2
              go_meet
              case rel => exact ⟨rfl, 1, rfl, by omega, by omega⟩
          obtain ⟨rfl, Z, rfl, hZ1, hZ2⟩ := hcut
          obtain ⟨x, hx⟩ : ∃ x, l[c]? = some x := ⟨_, List.getElem?_eq_getElem (by have := hn'.out; omega)⟩
          have hop' := hS'.out.op hx
          cases hd : (doF j x).2 with
          | false =>
            obtain ⟨j1, j2, f1, f2, f3, f4, f5, f6⟩ := RunSt.fail (cost := Z) hS'.out hd
            have q1 := Lib.hid (hJ'.out.begin hop' (by omega) f1)
            have f2' := Lib.hid f2
            have q3 := Lib.hid (fun wa (h : JR w ws.heap.size b j1 wa) => h.burn 1 f3 f4)
            have f5' := Lib.hid f5
            have f6' := Lib.hid f6
            clear hx hop' hd f1 f2 f3 f4 f5 f6 hM hRow
            go_wp2_with fail
            refine q1.out.mono ?_
            rintro e wa ⟨rfl, hJa⟩
            have qr := Lib.hid hJa.rest
            rw [f2'.out] at qr
            have qb := Lib.hid (q3.out _ hJa)
            clear hJa
            go_wp2_with fail
            refine qr.out.mono ?_
            rintro e w' ⟨rfl, rfl⟩
            go_wp2_with fail
            refine qb.out.mono ?_
            rintro e wb ⟨rfl, hJb⟩
            have qo := Lib.hid hJb.over
            rw [f5'.out] at qo
            clear hJb qb qr
            go_wp2_with fail
            refine qo.out.mono ?_
            rintro e wd ⟨rfl, hJd⟩
            have qf := Lib.hid hJd.fault
            rw [f6'.out] at qf
            have hO := Lib.hid hJd.only
            clear hJd
            go_wp2_with fail
            refine qf.out.mono ?_
            rintro e w' ⟨rfl, rfl⟩
            go_wp2
            go_ret
            exact ⟨rfl, hO.out.below hBw.out (fun x hx => Nat.le_trans (Nat.le_of_lt hBs.out) hx)⟩
          | true =>
            obtain ⟨j1, j2, f1, f2, f3, f4, f5, f6⟩ := RunSt.step (cost := Z) hS'.out hx (hall'.out c (by omega)) (hall'.out (c + 1) (by omega)) (by omega) hd hZ1
            have q1 := Lib.hid (hJ'.out.begin hop' (by omega) f1)
            have f2' := Lib.hid f2
            have q3 := Lib.hid (fun wa (h : JR w ws.heap.size b j1 wa) => h.burn Z f3 f4)
            have f5' := Lib.hid f5
            have f6' := Lib.hid f6
            clear hx hop' hd f1 f2 f3 f4 f5 f6 hM hRow
            go_wp2_with fail
            refine q1.out.mono ?_
            rintro e wa ⟨rfl, hJa⟩
            have qr := Lib.hid hJa.rest
            rw [f2'.out] at qr
            have qb := Lib.hid (q3.out _ hJa)
            clear hJa
            go_wp2_with fail
            refine qr.out.mono ?_
            rintro e w' ⟨rfl, rfl⟩
            go_wp2_with fail
            refine qb.out.mono ?_
            rintro e wb ⟨rfl, hJb⟩
            have qa := Lib.hid hJb.at_
            rw [f5'.out] at qa
            have hJb' := Lib.hid hJb
            clear hJb qb qr
            go_wp2_with fail
            refine qa.out.mono ?_
            rintro e w' ⟨rfl, rfl⟩
            go_wp2
            go_roundw
            case rel => exact ⟨c + 1, j2, by omega, by go_num, f6'.out, hJb'.out⟩
            case measure => simp [intOf]; omega
        · obtain rfl : c = k := by omega
          have qo := Lib.hid hJ'.out.over
          rw [RunSt.over (j := j) (hn'.out ▸ hS'.out)] at qo
          have hfa := Lib.hid hS'.out.fault
          have hrg := Lib.hid (hS'.out.reg.trans hope'.out.symm)
          clear hJ'
          go_wp2_with fail
          refine qo.out.mono ?_
          rintro e wa ⟨rfl, hJa⟩
          have qf := Lib.hid hJa.fault
          rw [hfa.out] at qf
          have qp := Lib.hid hJa.open_
          rw [hrg.out] at qp
          have hO := Lib.hid hJa.only
          clear hJa
          go_wp2_with fail
          refine qf.out.mono ?_
          rintro e w' ⟨rfl, rfl⟩
          go_wp2_with fail
          refine qp.out.mono ?_
          rintro e w' ⟨rfl, rfl⟩
          go_wp2
          go_ret
          exact ⟨by simp, hO.out.below hBw.out (fun x hx => Nat.le_trans (Nat.le_of_lt hBs.out) hx)⟩

theorem runs17 (x : TaskV × List Opn) (A : Option Addr) (m cap : Nat) (z : Nat → Int) (w : World) (h : OpnRow w x.1.o.A x.2 ∧ x.2.length = x.1.o.n ∧ x.1.o.n ≤ x.1.o.cap ∧ x.1.o.n ≤ 9223372036854775807 ∧ x.1.fl ≤ 9223372036854775807) (hA : IntRow .u8 w A m z) :
    Calls Try.prog 4 #[x.1.val, .slice A m cap] w fun e w' => e = .returned (.bool true) ∧ Below w.heap.size w w' := by
  cases hf : fewB x.2 with
  | false => exact runs_not h.1 h.2.1 h.2.2.2.1 hf A m cap
  | true => exact runs_any h.1 h.2.1 h.2.2.2.1 h.2.2.2.2 hf A m cap z hA
end Go.Proofs.Ytifpndjpijohfaa
