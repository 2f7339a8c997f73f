/- The law of texts. -/
import Derived.Test.YtgfgjbbpochiiaaDoorReads21
namespace Go.Proofs.YtgfgjbbpochiiaaDoor
open Go Go.RowKit

theorem rd_text {l : List EvV} {u : Int} (h : okT l u = true) (hn : l.length ≤ 256) : rd (textE l u) = (l, u, 0) := by
  unfold okT at h
  rw [Bool.and_eq_true, decide_eq_true_iff] at h
  unfold rd
  rw [textO_is ⟨allE_iff.1 h.2, h.1, rfl⟩]
  simp only
  rw [if_pos hn]
theorem text_len {l : List EvV} {u : Int} (h : okT l u = true) (hn : l.length ≤ 60) : (textE l u).length ≤ 5000 := by
  unfold okT at h
  rw [Bool.and_eq_true, decide_eq_true_iff] at h
  have h1 := flat_len l h.2
  have h2 := lastL_len h.1
  unfold textE
  simp only [List.length_append, List.length_cons, List.length_nil]
  omega

set_option maxRecDepth 100000 in
set_option maxHeartbeats 4000000 in
theorem texts_law {w : World} (hb : Bas w) {A : Option Addr} {n cap : Nat} {l : List EvV} (u : Int) (hl : n ≤ 60 → EvRow w A l) (hn : l.length = n) (hfit : ∀ r ∈ l, r.fit) : Calls Tryd.prog 5 #[.slice A n cap, .int .i64 u] w (GrowB true w) := by
  have q0 := Lib.hid (fixed_any hb)
  by_cases hb6 : n ≤ 60
  case neg =>
    have h60 : (60 : Int) < (n : Int) := by omega
    clear hb hl hn hb6
    go_enter Tryd.func5, Tryd.ntmps5
    go_wp2_with fail
    refine q0.out.mono ?_
    rintro e w2 ⟨rfl, hO2⟩
    have hO2' := Lib.hid hO2
    clear hO2
    go_wp2
    go_ret
    exact ⟨rfl, hO2'.out⟩
  have h60 : ¬ (60 : Int) < (n : Int) := by omega
  have hrow := Lib.hid (hl hb6)
  have q1 := Lib.hid (fun W (hW : Only (fun _ => False) w W) => text_any (cap := cap) (u := u) (hb.new hW) (hrow.out.new hW) hn hb6 hfit)
  have q2 := Lib.hid (fun W (hW : Only (fun _ => False) w W) => rtext_any (cap := cap) (u := u) (hrow.out.new hW) hn hb6)
  unfold TextEnd at q1 q2
  cases hk : okT l u with
  | false =>
    rw [hk] at q1 q2
    simp only [Bool.false_eq_true, if_false] at q1 q2
    clear hb hl hn hk hb6
    go_enter Tryd.func5, Tryd.ntmps5
    go_wp2_with fail
    refine q0.out.mono ?_
    rintro e w2 ⟨rfl, hO2⟩
    have hO2' := Lib.hid hO2
    clear hO2
    go_wp2_with fail
    refine (q1.out _ hO2'.out).mono ?_
    rintro e w3 ⟨rfl, hO3⟩
    have hO3' := Lib.hid (hO2'.out.trans' hO3)
    clear hO3
    go_wp2_with fail
    refine (q2.out _ hO3'.out).mono ?_
    rintro e w4 ⟨rfl, hO4⟩
    have hO4' := Lib.hid (hO3'.out.trans' hO4)
    clear hO4
    go_wp2
    go_ret
    exact ⟨rfl, hO4'.out⟩
  | true =>
    rw [hk] at q1 q2
    simp only [if_true] at q1 q2
    have q3 := Lib.hid (fun W (hW : Only (fun _ => False) w W) => (read_any (hb.new hW) (textE l u) (by have := text_len hk (by omega); omega)).mono fun _ _ h => rd_of h)
    unfold RdEnd at q3
    rw [rd_text hk (by omega), hn] at q3
    have hn' := Lib.hid hn
    obtain ⟨T, hT⟩ : ∃ T, T = toBA (textE l u) := ⟨_, rfl⟩
    rw [← hT] at q1 q2 q3
    have q5 := Lib.hid (fun (W : World) (pb : Option Addr) (cb : Nat) (hW : Only (fun _ => False) w W) (hB : EvRow W pb l) => same_any (ca := cap) (cb := cb) (hrow.out.new hW) hB hn'.out rfl (by omega))
    clear hb hl hn hk hT hb6
    go_enter Tryd.func5, Tryd.ntmps5
    go_wp2_with fail
    refine q0.out.mono ?_
    rintro e w2 ⟨rfl, hO2⟩
    have hO2' := Lib.hid hO2
    clear hO2
    go_wp2_with fail
    refine (q1.out _ hO2'.out).mono ?_
    rintro e w3 ⟨rfl, hO3⟩
    have hO3' := Lib.hid (hO2'.out.trans' hO3)
    clear hO3
    go_wp2_with fail
    refine (q2.out _ hO3'.out).mono ?_
    rintro e w4 ⟨rfl, hO4⟩
    have hO4' := Lib.hid (hO3'.out.trans' hO4)
    clear hO4
    go_wp2_with fail
    refine (q3.out _ hO4'.out).mono ?_
    rintro e w5 ⟨pb, cb, rfl, hB, hO5⟩
    have hO5' := Lib.hid (hO4'.out.trans' hO5)
    have hB' := Lib.hid hB
    clear hO5 hB
    go_wp2_with fail
    refine (q5.out _ pb cb hO5'.out hB'.out).mono ?_
    rintro e w6 ⟨rfl, hO6⟩
    have hO6' := Lib.hid (hO5'.out.trans' hO6)
    clear hO6
    go_wp2
    go_ret
    exact ⟨rfl, hO6'.out⟩
end Go.Proofs.YtgfgjbbpochiiaaDoor
