/- What the library's generic calls answer at rows of numbers and of words. -/
import Derived.Test.YtgfgjbbpochiiaaDoorSl
namespace Go.Proofs.YtgfgjbbpochiiaaDoor
open Go Go.RowKit

/-- Numbers lie there. -/
def NumRow (w : World) (A : Option Addr) (L : List Int) : Prop := ∀ j x, L[j]? = some x → ∃ g off, A = some ⟨g, off, none⟩ ∧ g < w.heap.size ∧ w.cell? ⟨g, off + j, none⟩ = some (.int .i64 x)
def IdxEnd (b : Bool) (w : World) (e : Ending) (w' : World) : Prop := ∃ i : Int, e = .returned (.int .i64 i) ∧ decide (0 ≤ i) = b ∧ w = w'

set_option maxRecDepth 100000 in
set_option maxHeartbeats 1000000 in
theorem index_any (f : Nat) (p : Int → Bool) (hf : f = 18 ∨ f = 19) (hp : ∀ x W, Calls Tryd.prog f #[.int .i64 x] W (RetB (p x) W)) {w : World} {A : Option Addr} {n cap : Nat} {L : List Int} (hL : NumRow w A L) (hn : L.length = n) (hb : n ≤ 100) :
    Calls Tryd.prog 38 #[.slice A n cap, .func (.func f) #[] #[]] w (IdxEnd (L.any p) w) := by
  have hL' := Lib.hid hL
  have hn' := Lib.hid hn
  have hp' := Lib.hid hp
  clear hL hn hp
  go_enter Tryd.func38, Tryd.ntmps38
  go_wp2
  go_loopw [8] (fun i wr => ∃ k : Nat, k ≤ n ∧ i = .int .i64 k ∧ (L.take k).any p = false ∧ w = wr) (fun i _ => n - (intOf i).toNat)
  case atStart => exact ⟨0, Nat.zero_le _, rfl, rfl, rfl⟩
  case round =>
    obtain ⟨k, hk, rfl, hno, rfl⟩ := hrel
    have hno' := Lib.hid hno
    clear hno
    by_cases hkn : k < n
    · have hkn' : (k : Int) < (n : Int) := by omega
      obtain ⟨x, hx⟩ : ∃ x, L[k]? = some x := ⟨L[k]'(by have := hn'.out; omega), List.getElem?_eq_getElem _⟩
      obtain ⟨g, off, rfl, hg, hc⟩ := hL'.out k x hx
      have htk := Lib.hid (show L.take (k + 1) = L.take k ++ [x] by rw [List.take_add_one, hx]; rfl)
      have hq := Lib.hid (fun W => hp'.out x W)
      cases hpx : p x with
      | true =>
        rw [hpx] at hq
        have hyes := Lib.hid (show L.any p = true from List.any_eq_true.2 ⟨x, List.mem_of_getElem? hx, hpx⟩)
        clear hx hpx
        rcases hf with rfl | rfl <;>
          (go_wp2_with fail
           refine (hq.out _).mono ?_
           rintro e w' ⟨rfl, rfl⟩
           go_wp2
           go_ret
           exact ⟨k, rfl, by rw [hyes.out]; exact decide_eq_true (by omega), rfl⟩)
      | false =>
        rw [hpx] at hq
        have hnx := Lib.hid (show (L.take (k + 1)).any p = false by rw [htk.out, List.any_append, hno'.out]; simp [hpx])
        clear hx hpx
        rcases hf with rfl | rfl <;>
          (go_wp2_with fail
           refine (hq.out _).mono ?_
           rintro e w' ⟨rfl, rfl⟩
           go_wp2
           go_roundw
           case rel => exact ⟨k + 1, by omega, by go_num, hnx.out, trivial⟩
           case measure => simp [intOf]; omega)
    · obtain rfl : k = n := by omega
      have ht : L.take k = L := List.take_of_length_le (by have := hn'.out; omega)
      have hno2 := Lib.hid (show L.any p = false by rw [← ht]; exact hno'.out)
      clear ht
      go_wp2
      go_ret
      exact ⟨-1, rfl, by rw [hno2.out]; rfl, rfl⟩
theorem contains_any (f : Nat) (p : Int → Bool) (hf : f = 18 ∨ f = 19) (hp : ∀ x W, Calls Tryd.prog f #[.int .i64 x] W (RetB (p x) W)) {w : World} {A : Option Addr} {n cap : Nat} {L : List Int} (hL : NumRow w A L) (hn : L.length = n) (hb : n ≤ 100) :
    Calls Tryd.prog 17 #[.slice A n cap, .func (.func f) #[] #[]] w (RetB (L.any p) w) := by
  have hi := Lib.hid (index_any f p hf hp hL hn hb (cap := cap))
  clear hp hL hn
  rcases hf with rfl | rfl <;>
    (go_enter Tryd.func17, Tryd.ntmps17
     go_wp2_with fail
     refine hi.out.mono ?_
     rintro e w' ⟨i, rfl, hd, hw⟩
     have hd' := Lib.hid hd
     have hw' := Lib.hid hw
     clear hd hw
     go_wp2
     go_ret
     exact ⟨ret_bool (by rw [← hd'.out]), hw'.out⟩)

theorem wpList_append_room {w : World} {ops : Array Oper} {rest : List Oper} {o : Oper} {a : Act} {Q : Exit → Act → World → Prop} (hgd : o.guard = none) (s x : Operand) (t : TypeId)
    (hop : o.op = Op.call { callee := Callee.builtin Builtin.append, args := #[s, x], argTypes := #[t, t] }) (e : TypeId) (sz : Nat) (ht : Tryd.prog.underlying t = some (.slice e)) (hinfo : (Tryd.prog.info? e).map (·.size) = some sz)
    (g off n cap : Nat) (hs : a.eval s = .slice (some ⟨g, off, none⟩) n cap) (ad : Addr) (m c : Nat) (hx : a.eval x = .slice (some ad) m c) (L : List Value) (hg : w.heap[g]? = some (.cells L.toArray e (0, 0)))
    (news : List Value) (hl : news.length = m * sz) (hsrc : ∀ j u, news[j]? = some u → w.cell? (ad.add j) = some u) (h1 : ∀ u ∈ news, u.oneCell' = true) (hroom : n + m ≤ cap) (hfit : off + n * sz + news.length ≤ L.length)
    (hK : ∀ w', Hid (w'.heap[g]? = some (.cells (setList L (off + n * sz) news).toArray e (0, 0))) → Hid (Only (fun k => k = g) w w') → wpList Tryd.prog ops Q rest (a.put o.dst (.slice (some ⟨g, off, none⟩) (n + m) cap)) w') :
    wpList Tryd.prog ops Q (o :: rest) a w := by
  refine wpList_plain hgd fun K hK' => ?_
  obtain ⟨i, hi, hz⟩ := Option.map_eq_some_iff.1 hinfo
  subst hz
  have hrun := run_append_room_cells (P := Tryd.prog) w t o.type e i ht hi g off n cap ad m c news hl hsrc h1 hroom (fun j hj => by
    rw [row_cell hg (v := L[off + n * i.size + j]'(by omega)) (List.getElem?_eq_getElem _)]; rfl) (fun j hj => row_free hg _)
  unfold Oper.wp
  simp [execOp, hop, resolve, invoke, builtin, hs, hx, hrun, Result.andThen]
  exact hK' _ _ (hK _ (heap_setCells news _ w L hg) (only_setCells news _ w))
theorem shape_of {w : World} {g : Nat} {L : List Value} {e : TypeId} (h : w.heap[g]? = some (.cells L.toArray e (0, 0))) : w.shape? g = some (e, L.length) := by
  simp [World.shape?, h]

/-- The words that go together. -/
theorem join_is (c : UInt8) : ∀ l : List (List UInt8), Lib.join l [c] = joinL c l
  | [] => rfl
  | [p] => by simp [Lib.join, List.intercalate, joinL]
  | p :: q :: ps => by
    have h := join_is c (q :: ps)
    have e : Lib.join (p :: q :: ps) [c] = p ++ [c] ++ Lib.join (q :: ps) [c] := by
      simp [Lib.join, List.intercalate, List.intersperse]
    rw [e, h]
    show _ = p ++ c :: joinL c (q :: ps)
    simp
def JoinEnd (l : List (List UInt8)) (w : World) (e : Ending) (w' : World) : Prop := e = .returned (.string (toBA (joinL 32 l))) ∧ Only (fun _ => False) w w'
theorem jn_any {w : World} {g : Nat} {e : TypeId} {L : List Value} (l : List (List UInt8)) (hg : w.heap[g]? = some (.cells L.toArray e (0, 0))) (hL : ∀ (j : Nat) (x : List UInt8), l[j]? = some x → L[j]? = some (sv x)) (c n : Nat) (hn : n = l.length) (hc : l.length ≤ c) (hb : (joinL 32 l).length ≤ 1000000) (hb2 : l.length ≤ 1000) :
    Calls Tryd.prog 21 #[.slice (some ⟨g, 0, none⟩) n c, .string ⟨#[32]⟩] w (JoinEnd l w) := by
  have hm : (l.map toBA).map (·.data.toList) = l := by
    rw [List.map_map]
    conv => rhs; rw [← List.map_id l]
    exact List.map_congr_left fun x _ => toBA_list x
  have h := Tryd.strings_Join g 0 c (l.map toBA) ⟨#[32]⟩ w (fun j x hx => by
    rw [List.getElem?_map] at hx
    obtain ⟨y, hy, rfl⟩ := Option.map_eq_some_iff.1 hx
    rw [Nat.zero_add]
    exact row_cell hg (hL j y hy)) (row_lt hg) (by rw [List.length_map]; omega) (by rw [List.length_map]; exact hc)
    (by rw [hm, show (⟨#[32]⟩ : ByteArray).data.toList = [32] from rfl, join_is]; omega)
  rw [hm, show (⟨#[32]⟩ : ByteArray).data.toList = [32] from rfl, join_is, List.length_map, ← hn] at h
  refine h.mono ?_
  rintro e w' ⟨rfl, hbel⟩
  exact ⟨rfl, Only.of_new hbel _⟩
end Go.Proofs.YtgfgjbbpochiiaaDoor
