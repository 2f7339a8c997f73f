/- Package prog's Check: the plain check. -/
import Derived.Test.YteniphdfhmbbeaaDoorNest5
namespace Go.Proofs.YteniphdfhmbbeaaDoor
open Go Go.RowKit

def OpnCells (w : World) (g off : Nat) (x : Opn) : Prop :=
  w.cell? ⟨g, off, none⟩ = some (.int .i64 x.k) ∧ w.cell? ⟨g, off + 1, none⟩ = some (.int .i64 x.a) ∧ w.cell? ⟨g, off + 2, none⟩ = some (.int .i64 x.b)
/-- A row of operations that came in. -/
def OpnRow (w : World) (A : Option Addr) (l : List Opn) : Prop :=
  ∀ k x, l[k]? = some x → ∃ b off, A = some ⟨b, off, none⟩ ∧ b < w.heap.size ∧ OpnCells w b (off + k * 3) x
theorem OpnRow.only {S : Nat → Prop} {w w' : World} {A : Option Addr} {l : List Opn} (h : OpnRow w A l) (ho : Only S w w') (hS : ∀ k, S k → w.heap.size ≤ k) : OpnRow w' A l := fun k x hx => by
  obtain ⟨b, off, rfl, hb, h0, h1, h2⟩ := h k x hx
  have hn : ¬ S b := fun hs => by have := hS b hs; omega
  exact ⟨b, off, rfl, Nat.lt_of_lt_of_le hb ho.size, ho.cell h0 hn, ho.cell h1 hn, ho.cell h2 hn⟩
theorem OpnRow.new {w w' : World} {A : Option Addr} {l : List Opn} (h : OpnRow w A l) (ho : Only (fun _ => False) w w') : OpnRow w' A l := h.only ho (fun _ h => h.elim)

/-- Behind k operations. -/
def CkRel (w : World) (b2 b3 b4 : Nat) (l : List Opn) (r : RoomV) (k : Nat) (w' : World) : Prop :=
  ∃ h s, NestAt w' b2 b3 b4 h s ∧ runZ l ns0 r = runZ (l.drop k) s r ∧ (-(k : Int) ≤ s.r ∧ s.r ≤ k) ∧ (-(5000 * (k : Int)) ≤ s.p ∧ s.p ≤ 5000 * (k : Int)) ∧ s.ls.length ≤ k ∧ (∀ g, h = some g → w.heap.size < g) ∧ Only (fun _ => False) w w'

theorem run_bad {l : List Opn} {k : Nat} {x : Opn} {s : NS} {r : RoomV} (hx : l[k]? = some x) (hz : opZ x r ≠ 0) : runZ (l.drop k) s r = opZ x r := by
  obtain ⟨hk, rfl⟩ := List.getElem?_eq_some_iff.1 hx
  rw [List.drop_eq_getElem_cons hk, runZ, if_neg hz]
theorem run_step {l : List Opn} {k : Nat} {x : Opn} {s : NS} {r : RoomV} (hx : l[k]? = some x) (hz : opZ x r = 0) : runZ (l.drop k) s r = match stepN s x.k x.a with
    | none => 9
    | some t => runZ (l.drop (k + 1)) t r := by
  obtain ⟨hk, rfl⟩ := List.getElem?_eq_some_iff.1 hx
  rw [List.drop_eq_getElem_cons hk, runZ, if_pos hz]
  rfl

theorem check_few (w : World) (A : Option Addr) (n cap : Nat) (r : RoomV) (h : n = 0 ∨ 64 < n) : Calls Tryd.prog 44 #[.slice A n cap, r.val] w (GrowI (if n = 0 then 1 else 4) w) := by
  unfold RoomV.val
  by_cases h0 : n = 0
  · have hv := Lib.hid (show (1 : Int) = (if n = 0 then 1 else 4) by rw [if_pos h0])
    obtain ⟨v, hvv⟩ : ∃ v : Int, v = (if n = 0 then 1 else 4) := ⟨_, rfl⟩
    rw [← hvv] at hv ⊢
    subst h0
    clear h hvv
    go_enter Tryd.func44, Tryd.ntmps44
    go_wp2
    go_ret
    exact ⟨ret_int hv.out, (Only.refl _ w).alloc _⟩
  · have h1 : 64 < n := by omega
    have hv := Lib.hid (show (4 : Int) = (if n = 0 then 1 else 4) by rw [if_neg h0])
    obtain ⟨v, hvv⟩ : ∃ v : Int, v = (if n = 0 then 1 else 4) := ⟨_, rfl⟩
    rw [← hvv] at hv ⊢
    have h2 : (64 : Int) < (n : Int) := by omega
    have h3 : ((n : Int) == 0) = false := by simpa using h0
    clear h hvv
    go_enter Tryd.func44, Tryd.ntmps44
    go_wp2
    go_ret
    exact ⟨ret_int hv.out, (Only.refl _ w).alloc _⟩

set_option maxRecDepth 100000 in
set_option maxHeartbeats 2000000 in
theorem check_some {w : World} (hw : Words w) {A : Option Addr} {n cap : Nat} {l : List Opn} (hl : OpnRow w A l) (hn : l.length = n) (r : RoomV) (hr : r.ok) (h0 : n ≠ 0) (h1 : n ≤ 64) : Calls Tryd.prog 44 #[.slice A n cap, r.val] w (GrowI (runZ l ns0 r) w) := by
  have hw' := Lib.hid hw
  have hl' := Lib.hid hl
  have hn' := Lib.hid hn
  have hr' := Lib.hid hr
  have h2 : ¬ (64 : Int) < (n : Int) := by omega
  have h3 : ((n : Int) == 0) = false := by simpa using h0
  have hrv := Lib.hid (show r.val = .agg #[.int .i64 r.m, .int .i64 r.g, .int .i64 r.c, .int .i64 r.l] from rfl)
  rw [hrv.out]
  clear hw hl hn hr h0
  go_enter Tryd.func44, Tryd.ntmps44
  go_wp2_with fail
  refine (nesting_any _).mono ?_
  rintro e w1 ⟨b2, b3, b4, rfl, hN, g2, g3, g4, hO1⟩
  have hO1' := Lib.hid hO1
  have hst := Lib.hid (show CkRel w b2 b3 b4 l r 0 w1 from ⟨none, ns0, hN, rfl, by simp [ns0], by simp [ns0], by simp [ns0], (fun g hg => by cases hg), ((Only.refl _ w).alloc _).trans' hO1⟩)
  have hbox := Lib.hid (show w1.heap[w.heap.size]? = some (.cells [.int .i64 r.m, .int .i64 r.g, .int .i64 r.c, .int .i64 r.l].toArray 91 (0, 0)) from hO1.heap (heap_new_at _ _ rfl) (fun h => h))
  have hg := Lib.hid (show w.heap.size < b2 ∧ w.heap.size < b3 ∧ w.heap.size < b4 from by
    rw [alloc_size] at g2 g3 g4
    omega)
  clear hN g2 g3 g4 hO1
  go_wp2
  go_loopw [24] (fun i wr => ∃ k : Nat, k ≤ n ∧ i = .int .i64 k ∧ CkRel w b2 b3 b4 l r k wr ∧ wr.heap[w.heap.size]? = some (.cells [.int .i64 r.m, .int .i64 r.g, .int .i64 r.c, .int .i64 r.l].toArray 91 (0, 0))) (fun i _ => n - (intOf i).toNat)
  case atStart => exact ⟨0, Nat.zero_le _, rfl, hst.out, hbox.out⟩
  case round =>
    obtain ⟨k, hk, rfl, hrel, hbx⟩ := hrel
    obtain ⟨ws, hws⟩ : ∃ ws : World, ws = wr := ⟨_, rfl⟩
    subst hws
    obtain ⟨h, s, hN, hrun, hsr, hsp, hsl, hh, hO⟩ := hrel
    by_cases hkn : k < n
    · have hkn' : (k : Int) < (n : Int) := by omega
      obtain ⟨x, hx⟩ : ∃ x, l[k]? = some x := ⟨l[k]'(by have := hn'.out; omega), List.getElem?_eq_getElem _⟩
      obtain ⟨bb, off, hA, hbb, q0, q1, q2⟩ := (hl'.out.new hO) k x hx
      subst hA
      have r0 := row_cell hbx (i := 0) rfl
      have r1 := row_cell hbx (i := 1) rfl
      have r2 := row_cell hbx (i := 2) rfl
      have r3 := row_cell hbx (i := 3) rfl
      have lsz : w.heap.size < ws.heap.size := row_lt hbx
      have hop := Lib.hid (fun W (hW : Only (fun _ => False) ws W) => op_any (hw'.out.new (hO.trans' hW)) x r hr'.out)
      rw [hrv.out] at hop
      rw [show x.val = .agg #[.int .i64 x.k, .int .i64 x.a, .int .i64 x.b] from rfl] at hop
      have hS := Lib.hid (And.intro hN (And.intro hrun (And.intro hsr (And.intro hsp (And.intro hsl (And.intro hh (And.intro hO (And.intro hx hbx))))))))
      by_cases hz : opZ x r = 0
      · have hz' := Lib.hid hz
        have hne : ∀ z : Int, z = opZ x r → (z != 0) = false := fun z e => by simp [e, hz]
        rw [hz] at hop
        have hnest := Lib.hid (fun W (hW : Only (fun _ => False) ws W) => nests_any (hN.new hW) (by omega) (by omega) (by omega) x (opZ_zero hr'.out hz).1 (opZ_zero hr'.out hz).2)
        rw [show x.val = .agg #[.int .i64 x.k, .int .i64 x.a, .int .i64 x.b] from rfl] at hnest
        clear hN hrun hsr hsp hsl hh hO hx hbx hz hne
        go_wp2_with fail
        refine (hop.out _ ((Only.refl _ ws).alloc _)).mono ?_
        rintro e W2 ⟨rfl, hO2⟩
        have hblk := hO2.heap (heap_new_at ws (.cells [.int .i64 x.k, .int .i64 x.a, .int .i64 x.b].toArray 56) rfl) (fun h => h)
        have z0 := row_cell hblk (i := 0) rfl
        have z1 := row_cell hblk (i := 1) rfl
        have z2 := row_cell hblk (i := 2) rfl
        have hO2' := Lib.hid (((Only.refl (fun _ => False) ws).alloc (.cells [.int .i64 x.k, .int .i64 x.a, .int .i64 x.b].toArray 56)).trans' hO2)
        clear hO2 hblk q0 q1 q2 r0 r1 r2 r3
        cases hstep : stepN s x.k x.a with
        | none =>
          have hnv := Lib.hid (hnest.out W2 hO2'.out)
          rw [hstep] at hnv
          have hstep' := Lib.hid hstep
          clear hstep
          go_wp2_with fail
          refine hnv.out.mono ?_
          rintro e W3 ⟨rfl, hO3⟩
          have hO3' := Lib.hid hO3
          clear hO3
          go_wp2
          go_ret
          obtain ⟨hN, hrun, hsr, hsp, hsl, hh, hO, hx, hbx⟩ := hS.out
          refine ⟨ret_int (by rw [hrun, run_step hx hz'.out, hstep'.out]), (hO.trans' hO2'.out).trans hO3'.out (fun y hy e => ?_)⟩
          have hgg := hg.out
          rcases e with rfl | rfl | rfl | e
          · omega
          · omega
          · omega
          · have := hh y e; omega
        | some t =>
          have hnv := Lib.hid (hnest.out W2 hO2'.out)
          rw [hstep] at hnv
          have hstep' := Lib.hid hstep
          clear hstep
          go_wp2_with fail
          refine hnv.out.mono ?_
          rintro e W3 ⟨rfl, h', hN3, hh3, hO3⟩
          have hO3' := Lib.hid (And.intro hN3 (And.intro hh3 hO3))
          clear hO3 hN3 hh3
          go_wp2
          go_roundw
          case rel =>
            obtain ⟨hN, hrun, hsr, hsp, hsl, hh, hO, hx, hbx⟩ := hS.out
            obtain ⟨hN3, hh3, hO3⟩ := hO3'.out
            have hgg := hg.out
            obtain ⟨y1, y2, y3⟩ := step_bounds hstep'.out (opZ_zero hr'.out hz'.out).2
            have hno : ∀ y, nfp b2 b3 b4 h y → w.heap.size < y := by
              rintro y (rfl | rfl | rfl | e)
              · omega
              · omega
              · omega
              · exact hh y e
            refine ⟨k + 1, by omega, by go_num, ⟨h', t, hN3, by rw [hrun, run_step hx hz'.out, hstep'.out], ⟨by omega, by omega⟩, ⟨by omega, by omega⟩, by omega, ?_, (hO.trans' hO2'.out).trans hO3 (fun y hy e => by have := hno y e; omega)⟩, ?_⟩
            · rintro g rfl
              rcases hh3 with hh3 | ⟨g', hg', hge⟩
              · exact hh g hh3.symm
              · cases hg'
                have := hO2'.out.size
                omega
            · exact hO3.heap (hO2'.out.heap hbx (fun h => h)) (fun e => by have := hno _ e; omega)
          case measure => simp [intOf]; omega
      · obtain ⟨z, hzz⟩ : ∃ z, z = opZ x r := ⟨_, rfl⟩
        rw [← hzz] at hop hz
        have hz0 : (z == 0) = false := by simpa using hz
        have hz1 : (z != 0) = true := by simpa using hz
        have hzz' := Lib.hid (And.intro hzz hz)
        clear hN hrun hsr hsp hsl hh hO hx hbx hz hzz
        go_wp2_with fail
        refine (hop.out _ ((Only.refl _ ws).alloc _)).mono ?_
        rintro e W2 ⟨rfl, hO2⟩
        have hO2' := Lib.hid (((Only.refl (fun _ => False) ws).alloc (.cells [.int .i64 x.k, .int .i64 x.a, .int .i64 x.b].toArray 56)).trans' hO2)
        clear hO2 q0 q1 q2 r0 r1 r2 r3
        go_wp2
        go_ret
        obtain ⟨hN, hrun, hsr, hsp, hsl, hh, hO, hx, hbx⟩ := hS.out
        exact ⟨ret_int (by rw [hrun, run_bad hx (by rw [← hzz'.out.1]; exact hzz'.out.2)]; exact hzz'.out.1), hO.trans' hO2'.out⟩
    · obtain rfl : k = n := by omega
      have hd : l.drop k = [] := List.drop_of_length_le (by have := hn'.out; omega)
      rw [hd] at hrun
      have hcl := Lib.hid (closed_any hN (by omega))
      have hO' := Lib.hid hO
      have hrun' := Lib.hid hrun
      clear hN hrun hsr hsp hsl hh hO hbx hd
      cases hdn : doneB s with
      | true =>
        rw [hdn] at hcl
        have hv := Lib.hid (show (0 : Int) = runZ l ns0 r by rw [hrun'.out, runZ, if_pos hdn])
        clear hdn
        go_wp2_with fail
        refine hcl.out.mono ?_
        rintro e W2 ⟨rfl, rfl⟩
        go_wp2
        go_ret
        exact ⟨ret_int hv.out, hO'.out⟩
      | false =>
        rw [hdn] at hcl
        have hv := Lib.hid (show (9 : Int) = runZ l ns0 r by rw [hrun'.out, runZ, if_neg (by rw [hdn]; simp)])
        clear hdn
        go_wp2_with fail
        refine hcl.out.mono ?_
        rintro e W2 ⟨rfl, rfl⟩
        go_wp2
        go_ret
        exact ⟨ret_int hv.out, hO'.out⟩

theorem check_any {w : World} (hw : Words w) {A : Option Addr} {cap : Nat} {l : List Opn} (hl : OpnRow w A l) (r : RoomV) (hr : r.ok) : Calls Tryd.prog 44 #[.slice A l.length cap, r.val] w (GrowI (checkZ l r) w) := by
  by_cases h0 : l.length = 0 ∨ 64 < l.length
  · have := check_few w A l.length cap r h0
    rwa [show checkZ l r = (if l.length = 0 then 1 else 4) by
      unfold checkZ
      by_cases h : l.length = 0
      · rw [if_pos h, if_pos h]
      · rw [if_neg h, if_neg h, if_pos (by omega)]]
  · have := check_some hw (cap := cap) hl rfl r hr (by omega) (by omega)
    rwa [show checkZ l r = runZ l ns0 r by unfold checkZ; rw [if_neg (by omega), if_neg (by omega)]]
end Go.Proofs.YteniphdfhmbbeaaDoor
