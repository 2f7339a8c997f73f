/- CacheTwin's walk. -/
import Derived.Test.YtbjpnjgkpkfngaaFixed8
namespace Go.Proofs.Ytbjpnjgkpkfngaa
open Go Go.RowKit

/-- Bytes that came in. -/
structure ByteRow (w : World) (A : Option Addr) (n : Nat) (bs : List Nat) : Prop where
  len : bs.length = n
  top : ∀ b ∈ bs, b ≤ 255
  row : ∀ (k b : Nat), bs[k]? = some b → ∃ g off, A = some ⟨g, off, none⟩ ∧ g < w.heap.size ∧ w.cell? ⟨g, off + k, none⟩ = some (.int .u8 b)
theorem ByteRow.new {w w' : World} {A : Option Addr} {n : Nat} {bs : List Nat} (h : ByteRow w A n bs) (ho : Only (fun _ => False) w w') : ByteRow w' A n bs :=
  ⟨h.len, h.top, fun k b hb => by
    obtain ⟨g, off, rfl, hg, hc⟩ := h.row k b hb
    exact ⟨g, off, rfl, Nat.lt_of_lt_of_le hg ho.size, ho.cell hc (fun h => h)⟩⟩
/-- The sets behind accesses. -/
def stepG (S W : Nat) (G : Nat → List Int) (b : Nat) : Nat → List Int := upd G (b % S) (acc W (G (b % S)) b)
def runG (S W : Nat) (G : Nat → List Int) (bs : List Nat) : Nat → List Int := bs.foldl (stepG S W) G
theorem runG_snoc (S W : Nat) (G : Nat → List Int) (bs : List Nat) (b : Nat) : runG S W G (bs ++ [b]) = stepG S W (runG S W G bs) b := by simp [runG, List.foldl_append]
def hitB (S : Nat) (G : Nat → List Int) (b : Nat) : Bool := decide ((b : Int) ∈ G (b % S))
/-- Whether each access finds its block. -/
def hits (S W : Nat) : (Nat → List Int) → List Nat → List Bool
  | _, [] => []
  | G, b :: bs => hitB S G b :: hits S W (stepG S W G b) bs
theorem hits_snoc (S W : Nat) : ∀ (bs : List Nat) (G : Nat → List Int) (b : Nat), hits S W G (bs ++ [b]) = hits S W G bs ++ [hitB S (runG S W G bs) b]
  | [], G, b => rfl
  | c :: bs, G, b => by
    rw [List.cons_append, hits, hits_snoc S W bs, hits, List.cons_append]
    rfl
theorem hits_len (S W : Nat) : ∀ (bs : List Nat) (G : Nat → List Int), (hits S W G bs).length = bs.length
  | [], G => rfl
  | c :: bs, G => by rw [hits, List.length_cons, List.length_cons, hits_len S W bs]
theorem hits_at (S W : Nat) : ∀ (bs : List Nat) (G : Nat → List Int) (k b : Nat), bs[k]? = some b → (hits S W G bs)[k]? = some (hitB S (runG S W G (bs.take k)) b)
  | [], G, k, b, h => by simp at h
  | c :: bs, G, 0, b, h => by
    simp at h
    subst h
    rfl
  | c :: bs, G, k + 1, b, h => by
    rw [hits, List.getElem?_cons_succ, hits_at S W bs _ k b (by simpa using h), List.take_succ_cons]
    rfl

theorem bool_one (l : List Bool) : ∀ u ∈ l.map Value.bool, u.oneCell' = true := fun u hu => by
  obtain ⟨x, _, rfl⟩ := List.mem_map.1 hu
  rfl
theorem row_all {w : World} {X : Nat} {L : List Value} {e : TypeId} (h : w.heap[X]? = some (.cells L.toArray e (0, 0))) : ∀ j u, L[j]? = some u → w.cell? ((⟨X, 0, none⟩ : Addr).add j) = some u := fun j u hu => by
  rw [Addr.add_lit, Nat.zero_add]
  exact row_cell h hu
theorem info4 : (Try.prog.info? 4).map (fun i => (i.zero, i.size, i.bytes)) = some (some (Value.bool false), 1, 1) := by kernel_rfl

/-- The three blocks of a cache lie behind B, or ahead of it. -/
def Over (B r R M : Nat) : Prop := B ≤ r ∧ B ≤ R ∧ B ≤ M
def Under (B r R M : Nat) : Prop := r < B ∧ R < B ∧ M < B
theorem Over.only {r R M : Nat} {w w1 w2 : World} (h : Over w.heap.size r R M) (h1 : Only (fun _ => False) w w1) (h2 : Only (fun k => k = R ∨ k = M) w1 w2) : Only (fun _ => False) w w2 :=
  h1.trans h2 (fun x hx e => by obtain ⟨_, h3, h4⟩ := h; rcases e with e | e <;> omega)

def Rel1 (w : World) (r R M S W : Nat) (ls : List Nat) (k : Nat) (wr : World) : Prop := CacheAt wr r R M S W (runG S W (fun _ => []) (ls.take k)) ∧ Only (fun _ => False) w wr
structure Rel2 (w w4 : World) (r R M r' R' M' S W : Nat) (G : Nat → List Int) (ms : List Nat) (k : Nat) (p : Option Addr) (cap : Nat) (h : Option Nat) (wr : World) : Prop where
  c : CacheAt wr r R M S W (runG S W G (ms.take k))
  t : CacheAt wr r' R' M' S W G
  win : Win wr 4 1 (.slice p k cap) h k ((hits S W G (ms.take k)).map Value.bool)
  new : ∀ x, h = some x → w4.heap.size ≤ x
  only : Only (fun _ => False) w wr
  size : w4.heap.size ≤ wr.heap.size
def Rel3 (w : World) (r' R' M' S W : Nat) (G : Nat → List Int) (ms : List Nat) (g off : Nat) (k : Nat) (wr : World) : Prop :=
  CacheAt wr r' R' M' S W (runG S W G (ms.take k)) ∧ (∀ j v, (hits S W G ms)[j]? = some v → wr.cell? ⟨g, off + j, none⟩ = some (.bool v)) ∧ Only (fun _ => False) w wr

set_option maxRecDepth 100000 in
set_option maxHeartbeats 2000000 in
theorem twin_walk {w : World} (a0 a1 : Nat) (h0 : a0 ≤ 255) (h1 : a1 ≤ 255) {A B : Option Addr} {n m c1 c2 : Nat} {ls ms : List Nat} (hl : ByteRow w A n ls) (hm : ByteRow w B m ms) :
    Calls Try.prog 4 #[.int .u8 a0, .int .u8 a1, .slice A n c1, .slice B m c2] w (GrowB true w) := by
  have hl' := Lib.hid hl
  have hm' := Lib.hid hm
  have q0 := Lib.hid (fun W0 => fixed_any W0)
  obtain ⟨S, hS⟩ : ∃ S, S = 1 + a0 % 16 := ⟨_, rfl⟩
  obtain ⟨W, hW⟩ : ∃ W, W = 1 + a1 % 4 := ⟨_, rfl⟩
  have q1 := Lib.hid (show ∀ W0, Calls Try.prog 6 #[.int .i64 (1 + (a0 : Int) % 16), .int .i64 (1 + (a1 : Int) % 4)] W0 (NewEnd S W W0) from fun W0 => by
    have h := new_any W0 S W (by omega) (by omega)
    rw [show (S : Int) = 1 + (a0 : Int) % 16 by omega, show (W : Int) = 1 + (a1 : Int) % 4 by omega] at h
    exact h)
  have hSW := Lib.hid (And.intro hS hW)
  clear hl hm hS hW
  by_cases hn : n ≤ 100
  · by_cases hmm : m ≤ 100
    · have hn' : ¬ (100 : Int) < (n : Int) := by omega
      have hmm' : ¬ (100 : Int) < (m : Int) := by omega
      go_enter Try.func4, Try.ntmps4
      go_wp2_with fail
      refine (q0.out _).mono ?_
      rintro e w1 ⟨rfl, hO1⟩
      have hO1' := Lib.hid hO1
      clear hO1
      go_wp2_with fail
      refine (q1.out _).mono ?_
      rintro e w2 ⟨r, R, M, rfl, g1, g2, g3, hC, hO2⟩
      have hO2' := Lib.hid (hO1'.out.trans' hO2)
      have hov := Lib.hid (show Over w.heap.size r R M from by have := hO1'.out.size; exact ⟨by omega, by omega, by omega⟩)
      have hC' := Lib.hid hC
      clear hC hO2 g1 g2 g3 hO1' q0 q1
      go_wp2
      go_loopw [43] (fun i wr => ∃ k : Nat, k ≤ n ∧ i = .int .i64 k ∧ Hid (Rel1 w r R M S W ls k wr)) (fun i _ => n - (intOf i).toNat)
      case atStart => exact ⟨0, Nat.zero_le _, rfl, Lib.hid ⟨hC'.out, hO2'.out⟩⟩
      case round =>
        clear hC' hO2'
        obtain ⟨k, hk, rfl, hR⟩ := hrel
        obtain ⟨ws, hws⟩ : ∃ ws : World, ws = wr := ⟨_, rfl⟩
        subst hws
        by_cases hkn : k < n
        · have hkn' : (k : Int) < (n : Int) := by omega
          obtain ⟨b, hb⟩ : ∃ b, ls[k]? = some b := ⟨_, List.getElem?_eq_getElem (by have := hl'.out.len; omega)⟩
          obtain ⟨bb, off, hA, hbb, c0⟩ := (hl'.out.new hR.out.2).row k b hb
          subst hA
          have hbt := hl'.out.top b (List.mem_of_getElem? hb)
          have qa := Lib.hid (access_any hR.out.1 b hbt)
          have hb' := Lib.hid hb
          clear hb
          go_wp2_with fail
          refine qa.out.mono ?_
          rintro e w3 ⟨rfl, hC, hO⟩
          have hE := Lib.hid (show Rel1 w r R M S W ls (k + 1) w3 from ⟨by rw [List.take_add_one, hb'.out]; simp only [Option.toList]; rw [runG_snoc]; exact hC, hov.out.only hR.out.2 hO⟩)
          clear hC hO
          go_wp2
          go_roundw
          case rel => exact ⟨k + 1, by omega, by go_num, hE⟩
          case measure => simp [intOf]; omega
        · obtain rfl : k = n := by omega
          have hCt := Lib.hid (show CacheAt ws r R M S W (runG S W (fun _ => []) ls) from by
            have := hR.out.1
            rwa [List.take_of_length_le (by have := hl'.out.len; omega)] at this)
          obtain ⟨G, hG⟩ : ∃ G, G = runG S W (fun _ => []) ls := ⟨_, rfl⟩
          rw [← hG] at hCt
          have hOs := Lib.hid hR.out.2
          have qt := Lib.hid (twin_any hCt.out)
          clear hG hR
          go_wp2_with fail
          refine qt.out.mono ?_
          rintro e w4 ⟨r', R', M', rfl, g1, g2, g3, hT, hO4⟩
          have hlt := hCt.out.lt
          have hI := Lib.hid (And.intro (show Over ws.heap.size r' R' M' from ⟨g1, g2, g3⟩) (And.intro (show Under ws.heap.size r R M from hlt) (And.intro (show Under w4.heap.size r' R' M' from hT.lt) hO4.size)))
          have hst := Lib.hid (show Rel2 w w4 r R M r' R' M' S W G ms 0 none 0 none w4 from ⟨hCt.out.new hO4, hT, Win.nil _ _ _, (fun x hx => by cases hx), hOs.out.trans' hO4, Nat.le_refl _⟩)
          have hsz := Lib.hid hOs.out.size
          clear hT hO4 g1 g2 g3 hlt hCt hOs qt
          go_wp2
          go_loopw [13, 56] (fun v i wr => ∃ (k : Nat) (p : Option Addr) (cap : Nat) (h : Option Nat), k ≤ m ∧ i = .int .i64 k ∧ v = .slice p k cap ∧ Hid (Rel2 w w4 r R M r' R' M' S W G ms k p cap h wr)) (fun _ i _ => m - (intOf i).toNat)
          case atStart => exact ⟨0, none, 0, none, Nat.zero_le _, rfl, rfl, hst⟩
          case round =>
            clear hst
            obtain ⟨k, p, cap, h, hk, rfl, rfl, hR⟩ := hrel
            obtain ⟨ws2, hws⟩ : ∃ ws : World, ws = wr := ⟨_, rfl⟩
            subst hws
            by_cases hkm : k < m
            · have hkm' : (k : Int) < (m : Int) := by omega
              obtain ⟨b, hb⟩ : ∃ b, ms[k]? = some b := ⟨_, List.getElem?_eq_getElem (by have := hm'.out.len; omega)⟩
              obtain ⟨bb, off, hA, hbb, c0⟩ := (hm'.out.new hR.out.only).row k b hb
              subst hA
              have hbt := hm'.out.top b (List.mem_of_getElem? hb)
              have hb' := Lib.hid hb
              have hv : ∃ v, v = hitB S (runG S W G (ms.take k)) b := ⟨_, rfl⟩
              obtain ⟨v, hv⟩ := hv
              have qa' := Lib.hid (show Calls Try.prog 7 #[.pointer (some ⟨r, 0, none⟩), .int .i64 b] ws2 (fun e w' => e = .returned (.tuple #[.bool v, .int .i64 0]) ∧ CacheAt w' r R M S W (runG S W G (ms.take (k + 1))) ∧ Only (fun k => k = R ∨ k = M) ws2 w') from (access_any hR.out.c b hbt).mono (by
                rintro e w' ⟨rfl, p1, p2⟩
                refine ⟨by rw [hv]; rfl, ?_, p2⟩
                rw [List.take_add_one, hb'.out]
                simp only [Option.toList]
                rw [runG_snoc]
                exact p1))
              have hnx := Lib.hid (show (hits S W G (ms.take k)).map Value.bool ++ [Value.bool v] = (hits S W G (ms.take (k + 1))).map Value.bool from by
                rw [List.take_add_one, hb'.out]
                simp only [Option.toList]
                rw [hits_snoc, List.map_append, hv]
                rfl)
              clear hb hv
              go_wp2_with fail
              refine qa'.out.mono ?_
              rintro e w5 ⟨rfl, hC5, hO5⟩
              have h5 := Lib.hid (And.intro hC5 hO5)
              have hap := Lib.hid (show ∀ x, (x = R ∨ x = M) → ¬ (x = r' ∨ x = R' ∨ x = M') ∧ x < w4.heap.size ∧ w.heap.size ≤ x from fun x hx => by
                obtain ⟨⟨o1, o2, o3⟩, ⟨u1, u2, u3⟩, _, hs4⟩ := hI.out
                obtain ⟨v1, v2, v3⟩ := hov.out
                rcases hx with rfl | rfl
                · exact ⟨by omega, by omega, by omega⟩
                · exact ⟨by omega, by omega, by omega⟩)
              have hwin := Lib.hid (show Win (w5.alloc (.cells #[.bool v] 4)) 4 1 (.slice p k cap) h k ((hits S W G (ms.take k)).map Value.bool) from
                (hR.out.win.kept hO5 (fun x hx e => by have := hR.out.new x hx; have := (hap.out x e).2.1; omega)).kept ((Only.refl (fun _ => False) w5).alloc _) (fun _ _ h => h))
              clear hC5 hO5
              go_wp2_with (at_builtin; refine wpList_append_win rfl _ _ 32 rfl 4 (.bool false) 1 1 Try.underlying32 info4 rfl (by decide) rfl hwin.out _ 1 1 rfl [.bool v] rfl (fun _ => ⟨_, rfl, row_all (heap_new_at _ _ rfl)⟩) (bool_one [v]) (by unfold maxLen; omega) (by omega) ?_; intro v6 w6 h6 hW6 hO6 hh6; obtain ⟨p6, c6, rfl, _, _⟩ := hW6.out.form)
              have hE := Lib.hid (show Rel2 w w4 r R M r' R' M' S W G ms (k + 1) p6 c6 h6 w6 from by
                obtain ⟨⟨o1, o2, o3⟩, ⟨u1, u2, u3⟩, ⟨s1, s2, s3⟩, hs4⟩ := hI.out
                obtain ⟨hC5, hO5⟩ := h5.out
                have hs5 := hO5.size
                have hs2 := hR.out.size
                have hold : ∀ x, x < w4.heap.size → ¬ some x = h := fun x hx e => by have := hR.out.new x e.symm; omega
                refine ⟨(hC5.new ((Only.refl _ w5).alloc _)).kept hO6.out (hold r (by omega)) (hold R (by omega)) (hold M (by omega)), ?_, ?_, ?_, ?_, ?_⟩
                · exact ((hR.out.t.kept hO5 (fun e => (hap.out _ e).1 (.inl rfl)) (fun e => (hap.out _ e).1 (.inr (.inl rfl))) (fun e => (hap.out _ e).1 (.inr (.inr rfl)))).new ((Only.refl _ w5).alloc _)).kept hO6.out (hold r' (by omega)) (hold R' (by omega)) (hold M' (by omega))
                · rw [← hnx.out]
                  exact hW6.out
                · rintro x rfl
                  rcases hh6.out with hh | ⟨g, hg, hge⟩
                  · exact hR.out.new x hh.symm
                  · cases hg
                    rw [alloc_size] at hge
                    omega
                · refine (((hR.out.only.trans hO5 (fun x hx e => by have := (hap.out x e).2.2; omega)).alloc _)).trans hO6.out (fun x hx e => by have := hR.out.new x e.symm; have := hsz.out; omega)
                · have := hO6.out.size
                  rw [alloc_size] at this
                  omega)
              go_roundw
              case rel => exact ⟨k + 1, p6, c6, h6, by omega, by go_num, rfl, hE⟩
              case measure => simp [intOf]; omega
            · obtain rfl : k = m := by omega
              have hml := hm'.out.len
              have ht : ms.take k = ms := List.take_of_length_le (by omega)
              have hw := hR.out.win
              rw [ht] at hw
              have hst := Lib.hid (show ∀ g off, p = some ⟨g, off, none⟩ → (∀ j v, (hits S W G ms)[j]? = some v → ws2.cell? ⟨g, off + j, none⟩ = some (.bool v)) → Rel3 w r' R' M' S W G ms g off 0 ws2 from fun g off _ hc => ⟨hR.out.t, hc, hR.out.only⟩)
              by_cases hk0 : k = 0
              · subst hk0
                go_wp2
                go_loopw [74] (fun i wr => i = .int .i64 0 ∧ ws2 = wr) (fun _ _ => 0)
                case atStart => exact ⟨rfl, rfl⟩
                case round =>
                  obtain ⟨rfl, rfl⟩ := hrel
                  go_wp2
                  go_ret
                  exact ⟨rfl, hR.out.only⟩
              · obtain ⟨g, off, cap2, hhg, hv, _, _, hgl, hcell, _⟩ := hw.at_ (by omega)
                cases hv
                have hst2 := Lib.hid (hst.out g off rfl (fun j v hj => hcell j (.bool v) (by rw [List.getElem?_map, hj]; rfl)))
                have hnw := Lib.hid (hR.out.new g hhg)
                clear hst hw hcell hgl ht
                go_wp2
                go_loopw [74] (fun i wr => ∃ j : Nat, j ≤ k ∧ i = .int .i64 j ∧ Hid (Rel3 w r' R' M' S W G ms g off j wr)) (fun i _ => k - (intOf i).toNat)
                case atStart => exact ⟨0, Nat.zero_le _, rfl, hst2⟩
                case round =>
                  clear hst2
                  obtain ⟨j, hj, rfl, hQ⟩ := hrel
                  obtain ⟨ws3, hws⟩ : ∃ ws : World, ws = wr := ⟨_, rfl⟩
                  subst hws
                  by_cases hjk : j < k
                  · have hjk' : (j : Int) < (k : Int) := by omega
                    obtain ⟨b, hb⟩ : ∃ b, ms[j]? = some b := ⟨_, List.getElem?_eq_getElem (by omega)⟩
                    obtain ⟨bb, boff, hA, hbb, c0⟩ := (hm'.out.new hQ.out.2.2).row j b hb
                    subst hA
                    have hbt := hm'.out.top b (List.mem_of_getElem? hb)
                    have hb' := Lib.hid hb
                    obtain ⟨v, hv⟩ : ∃ v, v = hitB S (runG S W G (ms.take j)) b := ⟨_, rfl⟩
                    have hcj := hQ.out.2.1 j v (by rw [hv]; exact hits_at S W ms G j b hb)
                    have qa' := Lib.hid (show Calls Try.prog 7 #[.pointer (some ⟨r', 0, none⟩), .int .i64 b] ws3 (fun e w' => e = .returned (.tuple #[.bool v, .int .i64 0]) ∧ CacheAt w' r' R' M' S W (runG S W G (ms.take (j + 1))) ∧ Only (fun k => k = R' ∨ k = M') ws3 w') from (access_any hQ.out.1 b hbt).mono (by
                      rintro e w' ⟨rfl, p1, p2⟩
                      refine ⟨by rw [hv]; rfl, ?_, p2⟩
                      rw [List.take_add_one, hb'.out]
                      simp only [Option.toList]
                      rw [runG_snoc]
                      exact p1))
                    have vv : (v != v) = false := by simp
                    have hcj' := Lib.hid hcj
                    clear hb hv hcj
                    go_wp2_with fail
                    refine qa'.out.mono ?_
                    rintro e w5 ⟨rfl, hC5, hO5⟩
                    have hap : ∀ x, (x = R' ∨ x = M') → x < w4.heap.size ∧ w.heap.size ≤ x := fun x hx => by
                      obtain ⟨⟨o1, o2, o3⟩, _, ⟨s1, s2, s3⟩, _⟩ := hI.out
                      have := hsz.out
                      rcases hx with rfl | rfl
                      · exact ⟨by omega, by omega⟩
                      · exact ⟨by omega, by omega⟩
                    have hng : ¬ (g = R' ∨ g = M') := fun e => by have := (hap g e).1; have := hnw.out; omega
                    have e1 := hO5.cell hcj'.out hng
                    have hE := Lib.hid (show Rel3 w r' R' M' S W G ms g off (j + 1) w5 from ⟨hC5, fun i u hu => hO5.cell (hQ.out.2.1 i u hu) hng, hQ.out.2.2.trans hO5 (fun x hx e => by have := (hap x e).2; omega)⟩)
                    clear hC5 hO5 hap hng
                    go_wp2
                    go_roundw
                    case rel => exact ⟨j + 1, by omega, by go_num, hE⟩
                    case measure => simp [intOf]; omega
                  · obtain rfl : j = k := by omega
                    go_wp2
                    go_ret
                    exact ⟨rfl, hQ.out.2.2⟩
    · have hmm' : (100 : Int) < (m : Int) := by omega
      have hn' : ¬ (100 : Int) < (n : Int) := by omega
      go_enter Try.func4, Try.ntmps4
      go_wp2_with fail
      refine (q0.out _).mono ?_
      rintro e w1 ⟨rfl, hO1⟩
      have hO1' := Lib.hid hO1
      clear hO1
      go_wp2
      go_ret
      exact ⟨rfl, hO1'.out⟩
  · have hn' : (100 : Int) < (n : Int) := by omega
    go_enter Try.func4, Try.ntmps4
    go_wp2_with fail
    refine (q0.out _).mono ?_
    rintro e w1 ⟨rfl, hO1⟩
    have hO1' := Lib.hid hO1
    clear hO1
    go_wp2
    go_ret
    exact ⟨rfl, hO1'.out⟩
end Go.Proofs.Ytbjpnjgkpkfngaa
