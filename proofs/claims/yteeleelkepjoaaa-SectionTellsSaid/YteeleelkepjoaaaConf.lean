/- Configurations in memory; what asks their numbers. -/
import Derived.Test.YteeleelkepjoaaaOps2
namespace Go.Proofs.Yteeleelkepjoaaa
open Go Go.RowKit

/-- A slice's three numbers. -/
structure Sl where
  A : Option Addr
  n : Nat
  cap : Nat
def Sl.val (x : Sl) : Value := .slice x.A x.n x.cap
/-- A task's numbers and its program's slice. -/
structure TaskV where
  p : Int
  th : Int
  pe : Int
  de : Int
  fr : Int
  fl : Int
  o : Sl
def TaskV.cells (t : TaskV) : List Value := [.int .i64 t.p, .int .i64 t.th, .int .i64 t.pe, .int .i64 t.de, .int .i64 t.fr, .int .i64 t.fl, .slice t.o.A t.o.n t.o.cap]
def TaskV.val (t : TaskV) : Value := .agg #[.int .i64 t.p, .int .i64 t.th, .int .i64 t.pe, .int .i64 t.de, .int .i64 t.fr, .int .i64 t.fl, .slice t.o.A t.o.n t.o.cap]
/-- A configuration's. -/
structure ConfV where
  s : Int
  wy : Int
  h : Int
  mi : Int
  mb : Sl
  g : Int
  cn : Sl
  ce : Sl
  ta : Sl
  li : Sl
def ConfV.cells (c : ConfV) : List Value := [.int .i64 c.s, .int .i64 c.wy, .int .i64 c.h, .int .i64 c.mi, .slice c.mb.A c.mb.n c.mb.cap, .int .i64 c.g, .slice c.cn.A c.cn.n c.cn.cap, .slice c.ce.A c.ce.n c.ce.cap, .slice c.ta.A c.ta.n c.ta.cap, .slice c.li.A c.li.n c.li.cap]
def ConfV.val (c : ConfV) : Value := .agg #[.int .i64 c.s, .int .i64 c.wy, .int .i64 c.h, .int .i64 c.mi, .slice c.mb.A c.mb.n c.mb.cap, .int .i64 c.g, .slice c.cn.A c.cn.n c.cn.cap, .slice c.ce.A c.ce.n c.ce.cap, .slice c.ta.A c.ta.n c.ta.cap, .slice c.li.A c.li.n c.li.cap]

/-- Ints in memory. -/
structure IntsAt (w : World) (x : Sl) (l : List Int) : Prop where
  len : l.length = x.n
  cap : x.n ≤ x.cap
  at_ : ∀ (k : Nat) z, l[k]? = some z → ∃ b off, x.A = some ⟨b, off, none⟩ ∧ b < w.heap.size ∧ w.cell? ⟨b, off + k, none⟩ = some (.int .i64 z)
theorem IntsAt.new {w w' : World} {x : Sl} {l : List Int} (h : IntsAt w x l) (ho : Only (fun _ => False) w w') : IntsAt w' x l :=
  ⟨h.len, h.cap, fun k z hz => by
    obtain ⟨b, off, hA, hb, hc⟩ := h.at_ k z hz
    exact ⟨b, off, hA, Nat.lt_of_lt_of_le hb ho.size, ho.cell hc (fun h => h)⟩⟩
def allIn (lo hi : Int) (l : List Int) : Bool := l.all (inB lo hi)
theorem allIn_not {lo hi : Int} {l : List Int} {k : Nat} {z : Int} (h : l[k]? = some z) (hz : inB lo hi z = false) : allIn lo hi l = false := by
  unfold allIn
  rw [List.all_eq_false]
  exact ⟨z, List.mem_of_getElem? h, by simp [hz]⟩
theorem allIn_all {lo hi : Int} {l : List Int} (h : ∀ (k : Nat) z, l[k]? = some z → inB lo hi z = true) : allIn lo hi l = true := by
  unfold allIn
  rw [List.all_eq_true]
  intro z hz
  obtain ⟨k, hk⟩ := List.getElem?_of_mem hz
  exact h k z hk
theorem inB_lt {lo hi z : Int} (h : z < lo) : inB lo hi z = false := by unfold inB; simp; omega
theorem inB_gt {lo hi z : Int} (h : hi < z) : inB lo hi z = false := by unfold inB; simp; omega
theorem inB_ok {lo hi z : Int} (h1 : ¬ z < lo) (h2 : ¬ hi < z) : inB lo hi z = true := by unfold inB; simp; omega

theorem rin_any (w : World) (n a b : Int) : Calls Try.prog 29 #[.int .i64 n, .int .i64 a, .int .i64 b] w (RetB (inB a b n) w) := by
  by_cases h1 : a ≤ n
  · by_cases h2 : n ≤ b
    · have hz := Lib.hid (show true = inB a b n by simp [inB, h1, h2])
      go_enter Try.func29, Try.ntmps29
      go_wp2
      go_ret
      exact ⟨ret_bool hz.out, rfl⟩
    · have hz := Lib.hid (show false = inB a b n by simp [inB]; omega)
      go_enter Try.func29, Try.ntmps29
      go_wp2
      go_ret
      exact ⟨ret_bool hz.out, rfl⟩
  · have hz := Lib.hid (show false = inB a b n by simp [inB]; omega)
    go_enter Try.func29, Try.ntmps29
    go_wp2
    go_ret
    exact ⟨ret_bool hz.out, rfl⟩
theorem rall_any {w : World} {x : Sl} {l : List Int} (hl : IntsAt w x l) (h9 : x.n ≤ 1000000) (lo hi : Int) : Calls Try.prog 30 #[.slice x.A x.n x.cap, .int .i64 lo, .int .i64 hi] w (RetB (allIn lo hi l) w) := by
  obtain ⟨A, n, cap⟩ := x
  have hl' := Lib.hid hl
  have hlen := hl.len
  simp only at *
  have hlen' := Lib.hid hlen
  have q := Lib.hid (fun z => rin_any w z lo hi)
  clear hl hlen
  go_enter Try.func30, Try.ntmps30
  go_wp2
  go_loopw [11] (fun i wr => ∃ k : Nat, k ≤ n ∧ i = .int .i64 k ∧ (∀ (j : Nat) z, j < k → l[j]? = some z → inB lo hi z = true) ∧ w = wr) (fun i _ => n - (intOf i).toNat)
  case atStart => exact ⟨0, Nat.zero_le _, rfl, (fun j z hj => by omega), rfl⟩
  case round =>
    obtain ⟨k, hk, rfl, hall, rfl⟩ := hrel
    have hall' := Lib.hid hall
    clear hall
    by_cases hkn : k < n
    · have hkn' : (k : Int) < (n : Int) := by omega
      obtain ⟨z, hz⟩ : ∃ z, l[k]? = some z := ⟨_, List.getElem?_eq_getElem (by have := hlen'.out; omega)⟩
      obtain ⟨b, off, hA, hb, c0⟩ := hl'.out.at_ k z hz
      simp only at hA
      subst hA
      have hz' := Lib.hid hz
      have q1 := Lib.hid (q.out z)
      clear hz
      cases hv : inB lo hi z
      · rw [hv] at q1
        have hv' := Lib.hid (allIn_not hz'.out hv)
        clear hv
        go_wp2_with (go_at_call 29; refine q1.out.mono ?_; rintro e w' ⟨rfl, rfl⟩)
        go_ret
        exact ⟨ret_bool hv'.out.symm, rfl⟩
      · rw [hv] at q1
        have hnx := Lib.hid (show ∀ (j : Nat) y, j < k + 1 → l[j]? = some y → inB lo hi y = true from fun j y hj hy => by
          by_cases hjk : j < k
          · exact hall'.out j y hjk hy
          · obtain rfl : j = k := by omega
            rw [hz'.out] at hy
            cases hy
            exact hv)
        clear hv
        go_wp2_with (go_at_call 29; refine q1.out.mono ?_; rintro e w' ⟨rfl, rfl⟩)
        go_roundw
        case rel => exact ⟨k + 1, by omega, by go_num, hnx.out, trivial⟩
        case measure => simp [intOf]; omega
    · obtain rfl : k = n := by omega
      have hv := Lib.hid (allIn_all (l := l) (fun j z hz => hall'.out j z (by have := (List.getElem?_eq_some_iff.1 hz).1; have := hlen'.out; omega) hz))
      go_wp2
      go_ret
      exact ⟨ret_bool hv.out.symm, rfl⟩
end Go.Proofs.Yteeleelkepjoaaa
