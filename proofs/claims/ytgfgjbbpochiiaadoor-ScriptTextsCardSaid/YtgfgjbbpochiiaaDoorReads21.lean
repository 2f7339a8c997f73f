/- The law of readings. -/
import Derived.Test.YtgfgjbbpochiiaaDoorLines21
namespace Go.Proofs.YtgfgjbbpochiiaaDoor
open Go Go.RowKit

/-- What is read of a text: events, the tick, the code. -/
noncomputable def rd (s : List UInt8) : List EvV × Int × Int := match textO s with
  | none => ([], 0, 2)
  | some x => if x.1.length ≤ 256 then (x.1, x.2, 0) else ([], 0, 4)
theorem rd_len (s : List UInt8) : (rd s).1.length ≤ 256 := by
  unfold rd
  split
  · simp
  · split
    · assumption
    · simp
def RdEnd (s : List UInt8) (w : World) (e : Ending) (w' : World) : Prop := ∃ p cap, e = .returned (.tuple #[.slice p (rd s).1.length cap, .int .i64 (rd s).2.1, .int .i64 (rd s).2.2]) ∧ EvRow w' p (rd s).1 ∧ Only (fun _ => False) w w'
theorem rd_of {s : List UInt8} {w w' : World} {e : Ending} (h : ReadEnd s w e w') : RdEnd s w e w' := by
  unfold ReadEnd at h
  unfold RdEnd rd
  cases ht : textO s with
  | none =>
    rw [ht] at h
    exact ⟨none, 0, h.1, fun k x hx => by simp at hx, h.2⟩
  | some x =>
    rw [ht] at h
    simp only at h ⊢
    by_cases hl : x.1.length ≤ 256
    · rw [if_pos hl] at h ⊢
      obtain ⟨p, cap, hh, rfl, hW, -, hO⟩ := h
      exact ⟨p, cap, rfl, hW.evs rfl, hO⟩
    · rw [if_neg hl] at h ⊢
      exact ⟨none, 0, h.1, fun k x hx => by simp at hx, h.2⟩

set_option maxRecDepth 100000 in
set_option maxHeartbeats 4000000 in
theorem reads_law {w : World} (hb : Bas w) (s : List UInt8) : Calls Tryd.prog 4 #[.string (toBA s)] w (GrowB true w) := by
  have q0 := Lib.hid (fixed_any hb)
  by_cases hl : s.length ≤ 600
  case neg =>
    have hsz : (600 : Int) < ((toBA s).size : Int) := by rw [toBA_size]; omega
    obtain ⟨S, hS⟩ : ∃ S, S = toBA s := ⟨_, rfl⟩
    rw [← hS] at hsz ⊢
    clear hS hb hl
    go_enter Tryd.func4, Tryd.ntmps4
    go_wp2_with fail
    refine q0.out.mono ?_
    rintro e w2 ⟨rfl, hO2⟩
    have hO2' := Lib.hid hO2
    clear hO2
    go_wp2
    go_ret
    exact ⟨rfl, hO2'.out⟩
  have hsz : ¬ (600 : Int) < ((toBA s).size : Int) := by rw [toBA_size]; omega
  have q1 := Lib.hid (fun W (hW : Only (fun _ => False) w W) => (read_any (hb.new hW) s (by omega)).mono fun _ _ h => rd_of h)
  have q2 := Lib.hid (fun W => (rread_any s (by omega) W).mono fun _ _ h => rd_of h)
  have q3 := Lib.hid (fun W (hW : Only (fun _ => False) w W) => parse_any (hb.new hW) s (by omega))
  have q4 := Lib.hid (fun W => rparse_any s (by omega) W)
  unfold RdEnd at q1 q2
  unfold ParseEnd at q3 q4
  have hlen := rd_len s
  obtain ⟨R, hR⟩ : ∃ R, R = (rd s).1 := ⟨_, rfl⟩
  obtain ⟨v, hv⟩ : ∃ v, v = (rd s).2.1 := ⟨_, rfl⟩
  obtain ⟨c, hc⟩ : ∃ c, c = (rd s).2.2 := ⟨_, rfl⟩
  rw [← hR] at hlen
  rw [← hR, ← hv, ← hc] at q1 q2
  obtain ⟨n, hn⟩ : ∃ n, n = R.length := ⟨_, rfl⟩
  rw [← hn] at q1 q2 hlen
  have hn' := Lib.hid hn.symm
  obtain ⟨P, hP⟩ : ∃ P, P = (evO s).getD zev := ⟨_, rfl⟩
  obtain ⟨B, hB⟩ : ∃ B, B = (evO s).isSome := ⟨_, rfl⟩
  rw [← hP, ← hB] at q3 q4
  obtain ⟨S, hS⟩ : ∃ S, S = toBA s := ⟨_, rfl⟩
  rw [← hS] at q1 q2 q3 q4 hsz ⊢
  clear hS hb hl hR hv hc hn hP hB
  obtain ⟨p0, p1, p2, p3, p4⟩ := P
  unfold EvV.val at q3 q4
  dsimp only at q3 q4
  go_enter Tryd.func4, Tryd.ntmps4
  go_wp2_with fail
  refine q0.out.mono ?_
  rintro e w2 ⟨rfl, hO2⟩
  have hO2' := Lib.hid hO2
  clear hO2
  go_wp2_with fail
  refine (q1.out _ hO2'.out).mono ?_
  rintro e w3 ⟨pa, ca, rfl, hA, hO3⟩
  have hA3 := Lib.hid hA
  have hO3' := Lib.hid (hO2'.out.trans' hO3)
  clear hO3 hA
  go_wp2_with fail
  refine (q2.out _).mono ?_
  rintro e w4 ⟨pb, cb, rfl, hB, hO4⟩
  have hA4 := Lib.hid (And.intro (hA3.out.new hO4) hB)
  have hO4' := Lib.hid (hO3'.out.trans' hO4)
  clear hO4 hB hA3
  go_wp2_with fail
  refine (q3.out _ hO4'.out).mono ?_
  rintro e w5 ⟨rfl, hO5⟩
  have hb5 := Lib.hid (heap_new_at w5 (.cells [Value.int .i64 p0, .int .i64 p1, .int .i64 p2, .int .i64 p3, .int .i64 p4].toArray 23) rfl)
  have o5 := Lib.hid (hO5.alloc (.cells [Value.int .i64 p0, .int .i64 p1, .int .i64 p2, .int .i64 p3, .int .i64 p4].toArray 23))
  clear hO5
  go_wp2_with fail
  refine (q4.out _).mono ?_
  rintro e w6 ⟨rfl, hO6⟩
  have hb6 := Lib.hid (heap_kept_alloc (hO6.heap hb5.out (fun h => h)) (.cells [Value.int .i64 p0, .int .i64 p1, .int .i64 p2, .int .i64 p3, .int .i64 p4].toArray 23))
  have hc6 := Lib.hid (heap_new_at w6 (.cells [Value.int .i64 p0, .int .i64 p1, .int .i64 p2, .int .i64 p3, .int .i64 p4].toArray 23) rfl)
  have o6 := Lib.hid ((o5.out.trans' hO6).alloc (.cells [Value.int .i64 p0, .int .i64 p1, .int .i64 p2, .int .i64 p3, .int .i64 p4].toArray 23))
  have q5 := Lib.hid (fun (W : World) (hW : Only (fun _ => False) w4 W) => same_any (ca := ca) (cb := cb) (hA4.out.1.new hW) (hA4.out.2.new hW) hn'.out rfl (by omega))
  clear hO6
  go_wp2_with fail
  refine (q5.out _ o6.out).mono ?_
  rintro e w7 ⟨rfl, hO7⟩
  have hb7 := hO7.heap hb6.out (fun h => h)
  have hc7 := hO7.heap hc6.out (fun h => h)
  have e0 := row_cell hb7 (i := 0) rfl
  have e1 := row_cell hb7 (i := 1) rfl
  have e2 := row_cell hb7 (i := 2) rfl
  have e3 := row_cell hb7 (i := 3) rfl
  have e4 := row_cell hb7 (i := 4) rfl
  have g0 := row_cell hc7 (i := 0) rfl
  have g1 := row_cell hc7 (i := 1) rfl
  have g2 := row_cell hc7 (i := 2) rfl
  have g3 := row_cell hc7 (i := 3) rfl
  have g4 := row_cell hc7 (i := 4) rfl
  have le := row_lt hb7
  have lg := row_lt hc7
  have hend := Lib.hid ((hO4'.out.trans' o6.out).trans' hO7)
  clear hO7 hb7 hc7
  go_wp2
  go_ret
  exact ⟨rfl, hend.out⟩
end Go.Proofs.YtgfgjbbpochiiaaDoor
