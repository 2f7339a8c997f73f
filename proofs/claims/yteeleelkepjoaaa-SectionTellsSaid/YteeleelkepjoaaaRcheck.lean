/- The document's own Check of layer 6: the plain check. -/
import Derived.Test.YteeleelkepjoaaaRnest
namespace Go.Proofs.Yteeleelkepjoaaa
open Go Go.RowKit

theorem nestAll_snoc (a : List Opn) (x : Opn) (s : NS) : nestAll (a ++ [x]) s = match nestAll a s with
    | none => none
    | some t => stepN t x.k x.a := by
  induction a generalizing s with
  | nil =>
    simp only [List.nil_append, nestAll]
    cases stepN s x.k x.a <;> rfl
  | cons y a ih =>
    simp only [List.cons_append, nestAll]
    cases stepN s y.k y.a with
    | none => rfl
    | some t => exact ih t
theorem opn_take_snoc {α : Type} {m : List α} {j : Nat} {x : α} (h : m[j]? = some x) : m.take (j + 1) = m.take j ++ [x] := by
  rw [List.take_add_one, h]
  rfl

theorem rcheck_few (w : World) (A : Option Addr) (n cap : Nat) (m g c l : Int) (h : n = 0 ∨ 64 < n) : Calls Try.prog 45 #[.slice A n cap, .int .i64 m, .int .i64 g, .int .i64 c, .int .i64 l] w (GrowI (if n = 0 then 1 else 4) w) := by
  by_cases h0 : n = 0
  · have hv := Lib.hid (show (1 : Int) = (if n = 0 then 1 else 4) by rw [if_pos h0])
    obtain ⟨v, hvv⟩ : ∃ v : Int, v = (if n = 0 then 1 else 4) := ⟨_, rfl⟩
    rw [← hvv] at hv ⊢
    subst h0
    clear h hvv
    go_enter Try.func45, Try.ntmps45
    go_wp2
    go_ret
    exact ⟨ret_int hv.out, Only.refl _ w⟩
  · have h1 : 64 < n := by omega
    have hv := Lib.hid (show (4 : Int) = (if n = 0 then 1 else 4) by rw [if_neg h0])
    obtain ⟨v, hvv⟩ : ∃ v : Int, v = (if n = 0 then 1 else 4) := ⟨_, rfl⟩
    rw [← hvv] at hv ⊢
    have h2 : (64 : Int) < (n : Int) := by omega
    have h3 : ((n : Int) == 0) = false := by simpa using h0
    clear h hvv
    go_enter Try.func45, Try.ntmps45
    go_wp2
    go_ret
    exact ⟨ret_int hv.out, Only.refl _ w⟩

set_option maxRecDepth 100000 in
set_option maxHeartbeats 2000000 in
theorem rcheck_some {w : World} {A : Option Addr} {n cap : Nat} {l : List Opn} (hl : OpnRow w A l) (hn : l.length = n) (hcap : n ≤ cap) (r : RoomV) (hr : r.ok) (h0 : n ≠ 0) (h1 : n ≤ 64) : Calls Try.prog 45 #[.slice A n cap, .int .i64 r.m, .int .i64 r.g, .int .i64 r.c, .int .i64 r.l] w (GrowI (runZ l ns0 r) w) := by
  have hl' := Lib.hid hl
  have hn' := Lib.hid hn
  have hr' := Lib.hid hr
  have h2 : ¬ (64 : Int) < (n : Int) := by omega
  have h3 : ((n : Int) == 0) = false := by simpa using h0
  clear hl hn hr h0
  go_enter Try.func45, Try.ntmps45
  go_wp2
  go_loopw [22] (fun i wr => ∃ k : Nat, k ≤ n ∧ i = .int .i64 k ∧ (∃ s, nestAll (l.take k) ns0 = some s ∧ runZ l ns0 r = runZ (l.drop k) s r) ∧ (∀ x ∈ l.take k, 0 ≤ x.a ∧ x.a ≤ 5000) ∧ Only (fun _ => False) w wr) (fun i _ => n - (intOf i).toNat)
  case atStart => exact ⟨0, Nat.zero_le _, rfl, ⟨ns0, rfl, rfl⟩, (fun x hx => by simp at hx), Only.refl _ _⟩
  case round =>
    obtain ⟨k, hk, rfl, ⟨s, hnest, hrun⟩, hok, hO⟩ := hrel
    obtain ⟨ws, hws⟩ : ∃ ws : World, ws = wr := ⟨_, rfl⟩
    subst hws
    by_cases hkn : k < n
    · have hkn' : (k : Int) < (n : Int) := by omega
      obtain ⟨x, hx⟩ : ∃ x, l[k]? = some x := ⟨l[k]'(by have := hn'.out; omega), List.getElem?_eq_getElem _⟩
      obtain ⟨bb, off, hA, hbb, q0, q1, q2⟩ := (hl'.out.new hO) k x hx
      subst hA
      have hop := Lib.hid (fun W => rop_any W x r hr'.out)
      rw [show x.val = .agg #[.int .i64 x.k, .int .i64 x.a, .int .i64 x.b] from rfl] at hop
      have hS := Lib.hid (And.intro hnest (And.intro hrun (And.intro hok (And.intro hO hx))))
      by_cases hz : opZ x r = 0
      · have hz' := Lib.hid hz
        rw [hz] at hop
        have hok' : ∀ y ∈ l.take (k + 1), 0 ≤ y.a ∧ y.a ≤ 5000 := by
          intro y hy
          rw [opn_take_snoc hx] at hy
          rcases List.mem_append.1 hy with hy | hy
          · exact hok y hy
          · obtain rfl : y = x := by simpa using hy
            exact (opZ_zero hr'.out hz).2
        have hrow : OpnRow w (some ⟨bb, off, none⟩) (l.take (k + 1)) := fun i y hy => by
          rw [List.getElem?_take] at hy
          split at hy
          · exact hl'.out i y hy
          · cases hy
        have hlen1 : (l.take (k + 1)).length = k + 1 := by rw [List.length_take]; have := hn'.out; omega
        have hne := Lib.hid (fun W (hW : Only (fun _ => False) ws W) => rnest_any (cap := cap) (hrow.new (hO.trans' hW)) hlen1 (by omega) hok' false)
        have hokk := Lib.hid hok'
        have hns : nestB (l.take (k + 1)) false = (match stepN s x.k x.a with
            | none => false
            | some _ => true) := by
          unfold nestB
          rw [opn_take_snoc hx, nestAll_snoc, hnest]
          simp only
          cases hq : stepN s x.k x.a <;> simp
        have hi1 : (k : Int) + 1 ≤ (cap : Int) := by omega
        have hi0 : (0 : Int) ≤ (k : Int) + 1 := by omega
        have hwr : IntKind.i64.wrap ((k : Int) + 1) = (k : Int) + 1 := IntWalk.i64_in _ (by omega)
        have htn : ((k : Int) + 1).toNat = k + 1 := by omega
        clear hnest hrun hok hO hx hz hok' hrow hlen1
        cases hstep : stepN s x.k x.a with
        | none =>
          rw [hstep] at hns
          rw [hns] at hne
          have hstep' := Lib.hid hstep
          clear hstep hns
          go_wp2_with fail
          refine (hop.out _).mono ?_
          rintro e W2 ⟨rfl, hO2⟩
          have hO2' := Lib.hid (((Only.refl (fun _ => False) ws).alloc _).trans' hO2)
          clear hO2 q0 q1 q2
          go_wp2_with fail
          refine (hne.out W2 hO2'.out).mono ?_
          rintro e W3 ⟨rfl, hO3⟩
          have hO3' := Lib.hid hO3
          clear hO3
          go_wp2
          go_ret
          obtain ⟨hnest, hrun, hok, hO, hx⟩ := hS.out
          exact ⟨ret_int (by rw [hrun, run_step hx hz'.out, hstep'.out]), (hO.trans' hO2'.out).trans' hO3'.out⟩
        | some t =>
          rw [hstep] at hns
          rw [hns] at hne
          have hstep' := Lib.hid hstep
          clear hstep hns
          go_wp2_with fail
          refine (hop.out _).mono ?_
          rintro e W2 ⟨rfl, hO2⟩
          have hO2' := Lib.hid (((Only.refl (fun _ => False) ws).alloc _).trans' hO2)
          clear hO2 q0 q1 q2
          go_wp2_with fail
          refine (hne.out W2 hO2'.out).mono ?_
          rintro e W3 ⟨rfl, hO3⟩
          have hO3' := Lib.hid hO3
          clear hO3
          go_wp2
          go_roundw
          case rel =>
            obtain ⟨hnest, hrun, hok, hO, hx⟩ := hS.out
            exact ⟨k + 1, by omega, by go_num, ⟨t, by rw [opn_take_snoc hx, nestAll_snoc, hnest]; exact hstep'.out, by rw [hrun, run_step hx hz'.out, hstep'.out]⟩, hokk.out, (hO.trans' hO2'.out).trans' hO3'.out⟩
          case measure => simp [intOf]; omega
      · obtain ⟨z, hzz⟩ : ∃ z, z = opZ x r := ⟨_, rfl⟩
        rw [← hzz] at hop hz
        have hz0 : (z == 0) = false := by simpa using hz
        have hz1 : (z != 0) = true := by simpa using hz
        have hzz' := Lib.hid (And.intro hzz hz)
        clear hnest hrun hok hO hx hz hzz
        go_wp2_with fail
        refine (hop.out _).mono ?_
        rintro e W2 ⟨rfl, hO2⟩
        have hO2' := Lib.hid (((Only.refl (fun _ => False) ws).alloc _).trans' hO2)
        clear hO2 q0 q1 q2
        go_wp2
        go_ret
        obtain ⟨hnest, hrun, hok, hO, hx⟩ := hS.out
        exact ⟨ret_int (by rw [hrun, run_bad hx (by rw [← hzz'.out.1]; exact hzz'.out.2)]; exact hzz'.out.1), hO.trans' hO2'.out⟩
    · obtain rfl : k = n := by omega
      have hd : l.drop k = [] := List.drop_of_length_le (by have := hn'.out; omega)
      have ht : l.take k = l := List.take_of_length_le (by have := hn'.out; omega)
      rw [hd] at hrun
      rw [ht] at hnest hok
      have hne := Lib.hid (rnest_any (cap := cap) (hl'.out.new hO) hn'.out h1 hok true)
      have hnb : nestB l true = doneB s := by unfold nestB; rw [hnest]; rfl
      have hO' := Lib.hid hO
      rw [hnb] at hne
      cases hdn : doneB s with
      | true =>
        rw [hdn] at hne
        have hv := Lib.hid (show (0 : Int) = runZ l ns0 r by rw [hrun, runZ, if_pos hdn])
        clear hdn hnest hrun hok hO hd ht hnb
        go_wp2_with fail
        refine hne.out.mono ?_
        rintro e W2 ⟨rfl, hO2⟩
        have hO2' := Lib.hid hO2
        clear hO2
        go_wp2
        go_ret
        exact ⟨ret_int hv.out, hO'.out.trans' hO2'.out⟩
      | false =>
        rw [hdn] at hne
        have hv := Lib.hid (show (9 : Int) = runZ l ns0 r by rw [hrun, runZ, if_neg (by rw [hdn]; simp)])
        clear hdn hnest hrun hok hO hd ht hnb
        go_wp2_with fail
        refine hne.out.mono ?_
        rintro e W2 ⟨rfl, hO2⟩
        have hO2' := Lib.hid hO2
        clear hO2
        go_wp2
        go_ret
        exact ⟨ret_int hv.out, hO'.out.trans' hO2'.out⟩

theorem rcheck_any {w : World} {A : Option Addr} {cap : Nat} {l : List Opn} (hl : OpnRow w A l) (hcap : l.length ≤ cap) (r : RoomV) (hr : r.ok) : Calls Try.prog 45 #[.slice A l.length cap, .int .i64 r.m, .int .i64 r.g, .int .i64 r.c, .int .i64 r.l] w (GrowI (checkZ l r) w) := by
  by_cases h0 : l.length = 0 ∨ 64 < l.length
  · have := rcheck_few w A l.length cap r.m r.g r.c r.l h0
    rwa [show checkZ l r = (if l.length = 0 then 1 else 4) by
      unfold checkZ
      by_cases h : l.length = 0
      · rw [if_pos h, if_pos h]
      · rw [if_neg h, if_neg h, if_pos (by omega)]]
  · have := rcheck_some hl rfl hcap r hr (by omega) (by omega)
    rwa [show checkZ l r = runZ l ns0 r by unfold checkZ; rw [if_neg (by omega), if_neg (by omega)]]
end Go.Proofs.Yteeleelkepjoaaa
