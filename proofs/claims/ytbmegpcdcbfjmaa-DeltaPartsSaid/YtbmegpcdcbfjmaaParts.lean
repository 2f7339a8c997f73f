/- DeltaParts' walk: ticks that go by in two parts are as those at once. -/
import Derived.Test.YtbmegpcdcbfjmaaDeltaAll
import Derived.Test.YtbmegpcdcbfjmaaActs
namespace Go.Proofs.Ytbmegpcdcbfjmaa.Parts
open Go.RowKit Delta

/-- Two lists that tell the same, apart from each other. -/
def Pair (w : World) (B l1 l2 k : Nat) (wr : World) : Prop :=
  ∃ ns ms, ListAt wr l1 ns ∧ ListAt wr l2 ms ∧ dat ns = dat ms ∧ Fine (dat ns) ∧ ns.length ≤ k ∧ (∀ b, fp l1 ns b → ¬ fp l2 ms b) ∧ (∀ b, fp l1 ns b → B ≤ b) ∧ (∀ b, fp l2 ms b → B ≤ b) ∧ Only (fun x => B ≤ x) w wr

theorem parts_long (A : Option Addr) (len cap : Nat) (a b : Int) (w : World) (hl : 100 < len) :
    Calls Try.prog 6 #[.slice A len cap, .int .u16 a, .int .u16 b] w fun e w' => e = .returned (.bool true) ∧ Below w.heap.size w w' := by
  go_enter Try.func6, Try.ntmps6
  go_wp2_with (go_at_call 19; refine (fixed_any _).mono ?_; rintro e w1 ⟨rfl, hb1⟩; have hb1' := Lib.hid hb1; clear hb1)
  go_ret
  exact ⟨rfl, hb1'.out⟩

set_option maxRecDepth 100000 in
set_option maxHeartbeats 1000000 in
theorem parts_some (A : Option Addr) (len cap : Nat) (z : ActV) (a b : Int) (w : World) (hl : len ≤ 100) (hA : ActRow w A len z) (ha : 0 ≤ a ∧ a ≤ 65535) (hb : 0 ≤ b ∧ b ≤ 65535) :
    Calls Try.prog 6 #[.slice A len cap, .int .u16 a, .int .u16 b] w fun e w' => e = .returned (.bool true) ∧ Below w.heap.size w w' := by
  obtain ⟨B, hB⟩ : ∃ B, B = w.heap.size := ⟨_, rfl⟩
  have hB' := Lib.hid hB
  have hA' := Lib.hid hA
  obtain ⟨ha0, ha1⟩ := ha
  obtain ⟨hb0, hb1⟩ := hb
  clear hA hB
  go_enter Try.func6, Try.ntmps6
  go_wp2_with (go_at_call 19; refine (fixed_any _).mono ?_; rintro e w1 ⟨rfl, hb1⟩; have hb1' := Lib.hid hb1; clear hb1)
  refine (new_ok _).mono ?_
  rintro e w2 ⟨rfl, hL2, ho2⟩
  have hL2' := Lib.hid hL2
  have ho2' := Lib.hid ho2
  clear hL2 ho2
  go_wp2_with fail
  refine (new_ok _).mono ?_
  rintro e w3 ⟨rfl, hL3, ho3⟩
  obtain ⟨l1, hl1⟩ : ∃ l1, l1 = w1.heap.size := ⟨_, rfl⟩
  obtain ⟨l2, hl2⟩ : ∃ l2, l2 = w2.heap.size := ⟨_, rfl⟩
  have hpair : Pair w B l1 l2 0 w3 := by
    have h1 := hL2'.out.lt l1 (.inl hl1)
    have hb := hb1'.out.size
    have hBe := hB'.out
    refine ⟨[], [], hl1 ▸ (hL2'.out.new ho3), hl2 ▸ hL3, rfl, ⟨by simp [dat], by simp [dat, total]⟩, by simp, ?_, ?_, ?_, ?_⟩
    · rintro x (rfl | hx) (rfl | hy)
      · omega
      · simp [blocks] at hy
      · simp [blocks] at hx
      · simp [blocks] at hx
    · rintro x (rfl | hx)
      · omega
      · simp [blocks] at hx
    · rintro x (rfl | hx)
      · omega
      · simp [blocks] at hx
    · exact ((Only.of_new hb1'.out _).trans ho2'.out (fun _ _ h => h.elim)).trans ho3 (fun _ _ h => h.elim)
  rw [← hl1, ← hl2]
  have hpair' := Lib.hid hpair
  clear hpair hl1 hl2 hL3 ho3
  go_wp2
  go_loopw [21] (fun i wr => ∃ k : Nat, k ≤ len ∧ i = .int .i64 k ∧ Pair w B l1 l2 k wr) (fun i _ => len - (intOf i).toNat)
  case atStart => exact ⟨0, Nat.zero_le _, rfl, hpair'.out⟩
  case round =>
    obtain ⟨k, hk, rfl, hrel⟩ := hrel
    obtain ⟨ws, hws⟩ : ∃ ws : World, ws = wr := ⟨_, rfl⟩
    subst hws
    obtain ⟨ns, ms, hL1, hL2, hd, hf, hn, hap, hf1, hf2, hO⟩ := hrel
    have hArow := hA'.out.only hO (fun x hx => by have := hB'.out; omega)
    by_cases hlt : k < len
    · obtain ⟨bb, off, rfl, hbb, c0, c1, c2, hk0, hk1, hk2⟩ := hArow k hlt
      have hlt' : (k : Int) < (len : Int) := by omega
      have hH := Lib.hid (And.intro hL1 (And.intro hL2 (And.intro hd (And.intro hf (And.intro hn (And.intro hap (And.intro hf1 (And.intro hf2 hO))))))))
      clear hL1 hL2 hd hf hn hap hf1 hf2 hO hArow hk0 hk1 hk2
      generalize z.key k = key at c1
      generalize z.ticks k = tk at c2
      generalize z.kind k = kd at c0
      obtain ⟨C, hC⟩ : ∃ C, C = ws.heap.size := ⟨_, rfl⟩
      have hstep : ∀ w4, Only (fp l1 ns) (ws.alloc (.cells #[.int .u8 kd, .int .i64 key, .int .i64 tk] 49)) w4 → ListAt w4 l2 ms ∧ w4.cell? ⟨C, 1, none⟩ = some (.int .i64 key) ∧ w4.cell? ⟨C, 2, none⟩ = some (.int .i64 tk) := fun w4 h4 => by
        obtain ⟨hL1, hL2, hd, hf, hn, hap, hf1, hf2, hO⟩ := hH.out
        have hCn : ¬ fp l1 ns C := fun h => by have := hL1.lt C h; omega
        have hnew : (ws.alloc (.cells #[.int .u8 kd, .int .i64 key, .int .i64 tk] 49)).heap[C]? = some (.cells #[.int .u8 kd, .int .i64 key, .int .i64 tk] 49 (0, 0)) := by rw [hC]; exact heap_alloc_new _ _
        have hnew4 := h4.heap hnew hCn
        refine ⟨(hL2.new ((Only.refl _ ws).alloc _)).kept h4 (fun x hx hy => hap x hy hx), ?_, ?_⟩ <;> simp [World.cell?, hnew4]
      have hput1 := Lib.hid (put_all (hH.out.1.new ((Only.refl (fun _ => False) ws).alloc (.cells #[.int .u8 kd, .int .i64 key, .int .i64 tk] 49))) hH.out.2.2.2.1 (by have := hH.out.2.2.2.2.1; omega) key tk)
      have hstep' := Lib.hid hstep
      have hC' := Lib.hid hC
      clear hstep
      go_wp2_with fail
      rw [← hC]
      clear hC
      refine hput1.out.mono ?_
      rintro e w4 ⟨rfl, ns', hL4, hd4, hb4, hO4⟩
      obtain ⟨hM4, e1, e2⟩ := hstep'.out w4 hO4
      have hlen2 : Hid (ms.length < 256) := Lib.hid (by
        have h1 := congrArg List.length hH.out.2.2.1
        have h2 := hH.out.2.2.2.2.1
        simp [dat] at h1
        omega)
      have hput2 := Lib.hid (put_all hM4 (hH.out.2.2.1 ▸ hH.out.2.2.2.1) hlen2.out key tk)
      have hF4 := Lib.hid (And.intro hL4 (And.intro hd4 (And.intro hb4 (And.intro hO4 hM4))))
      clear hL4 hd4 hb4 hO4 hM4
      go_wp2_with fail
      refine hput2.out.mono ?_
      rintro e w5 ⟨rfl, ms', hL5, hd5, hb5, hO5⟩
      have hF5 := Lib.hid (And.intro hL5 (And.intro hd5 (And.intro hb5 hO5)))
      clear hL5 hd5 hb5 hO5
      go_wp2
      go_roundw
      case rel =>
        refine ⟨k + 1, by omega, by go_num, ?_⟩
        obtain ⟨hL1, hL2, hd, hf, hn, hap, hf1, hf2, hO⟩ := hH.out
        obtain ⟨hL4, hd4, hb4, hO4, hM4⟩ := hF4.out
        obtain ⟨hL5, hd5, hb5, hO5⟩ := hF5.out
        have hs4 := hO4.size
        rw [alloc_size] at hs4
        have hs5 := hO5.size
        have hsB := hO.size
        have hBe := hB'.out
        have hlt1 := hL1.lt
        have hlt2 := hL2.lt
        have hlt4 := hL4.lt
        have hfp4 : ∀ x, fp l1 ns' x → fp l1 ns x ∨ ws.heap.size ≤ x := by
          rintro x (rfl | hx)
          · exact .inl (.inl rfl)
          · rcases hb4 x hx with h | h
            · exact .inl (.inr h)
            · rw [alloc_size] at h; exact .inr (by omega)
        have hfp5 : ∀ x, fp l2 ms' x → fp l2 ms x ∨ w4.heap.size ≤ x := by
          rintro x (rfl | hx)
          · exact .inl (.inl rfl)
          · rcases hb5 x hx with h | h
            · exact .inl (.inr h)
            · exact .inr h
        have hap4 : ∀ x, fp l1 ns' x → ¬ fp l2 ms x := fun x h1 h2 => by
          rcases hfp4 x h1 with h | h
          · exact hap x h h2
          · have := hlt2 x h2; omega
        refine ⟨ns', ms', hL4.kept hO5 hap4, hL5, by rw [hd4, hd5, hd], by rw [hd4]; exact fine_putAll hf _ _, ?_, ?_, ?_, ?_, ?_⟩
        · have h1 := congrArg List.length hd4
          have h2 := putAll_length (dat ns) key tk
          simp [dat] at h1 h2
          omega
        · intro x h1 h2
          rcases hfp5 x h2 with h | h
          · exact hap4 x h1 h
          · have := hlt4 x h1; omega
        · intro x h1
          rcases hfp4 x h1 with h | h
          · exact hf1 x h
          · omega
        · intro x h2
          rcases hfp5 x h2 with h | h
          · exact hf2 x h
          · omega
        · exact ((hO.alloc _).trans hO4 (fun x _ hx => hf1 x hx)).trans hO5 (fun x _ hx => hf2 x hx)
      case measure => simp [intOf]; omega
    · have hlen : Hid (ns.length ≤ 1000) := Lib.hid (by omega)
      have hmlen : Hid (ms.length ≤ 1000) := Lib.hid (by
        have h1 := congrArg List.length hd
        simp [dat] at h1
        omega)
      have hH := Lib.hid (And.intro hL1 (And.intro hL2 (And.intro hd (And.intro hf (And.intro hap (And.intro hf1 (And.intro hf2 hO)))))))
      clear hL1 hL2 hd hf hn hap hf1 hf2 hO hArow
      go_wp2_with fail
      refine (adv_all hH.out.1 hH.out.2.2.2.1 hlen.out a (by omega)).mono ?_
      rintro e u1 ⟨p1, c1, h1, n1, rfl, W1, f1, L1, D1, b1, O1⟩
      obtain ⟨X1, hX1⟩ : ∃ X, X = advDue (dat ns) a := ⟨_, rfl⟩
      obtain ⟨k1, hk1⟩ : ∃ k, k = X1.length := ⟨_, rfl⟩
      rw [← hX1, ← hk1] at W1 ⊢
      have hkb : k1 ≤ 1000 := by have := (adv_length (dat ns) a).2; rw [← hX1, ← hk1] at this; simp [dat] at this; have := hlen.out; omega
      have M1 := hH.out.2.1.kept O1 (fun x hx hy => hH.out.2.2.2.2.1 x hy hx)
      have hlt1 := hH.out.1.lt
      have f1' : ∀ x, h1 = some x → ¬ fp l1 ns x ∧ ¬ fp l2 ms x := fun x hx => by
        have := f1 x hx
        exact ⟨fun h => by have := hlt1 x h; omega, fun h => by have := hH.out.2.1.lt x h; omega⟩
      have b1' : ∀ x, fp l1 n1 x → fp l1 ns x := by
        rintro x (rfl | hx)
        · exact .inl rfl
        · exact .inr (b1 x hx)
      have len1 : n1.length ≤ 1000 := by
        have h1 := congrArg List.length D1
        have h2 := (adv_length (dat ns) a).1
        simp [dat] at h1 h2
        have := hlen.out
        omega
      have hadv2 := Lib.hid (adv_all L1 (by rw [D1]; exact fine_adv hH.out.2.2.2.1 a) len1 b (by omega))
      have S1 := Lib.hid (And.intro hX1 (And.intro hk1 (And.intro W1 (And.intro L1 (And.intro D1 (And.intro M1 (And.intro f1 (And.intro f1' (And.intro b1' O1)))))))))
      clear hX1 hk1 W1 L1 D1 M1 f1 f1' b1 b1' O1 hlt1 len1
      go_wp2_with fail
      refine hadv2.out.mono ?_
      rintro e u2 ⟨p2, c2, h2, n2, rfl, W2, f2, L2, D2, b2, O2⟩
      obtain ⟨X2, hX2⟩ : ∃ X, X = advDue (dat n1) b := ⟨_, rfl⟩
      obtain ⟨k2, hk2⟩ : ∃ k, k = X2.length := ⟨_, rfl⟩
      rw [← hX2, ← hk2] at W2 ⊢
      have hkb2 : k2 ≤ 1000 := by
        have h3 := (adv_length (dat n1) b).2
        rw [← hX2, ← hk2, S1.out.2.2.2.2.1] at h3
        have h4 := (adv_length (dat ns) a).1
        simp [dat] at h3 h4
        have := hlen.out
        omega
      have W12 : Win u2 3 1 (.slice p1 k1 c1) h1 k1 (X1.map mkI) := S1.out.2.2.1.kept O2 (fun x hx hy => (S1.out.2.2.2.2.2.2.2.1 x hx).1 (S1.out.2.2.2.2.2.2.2.2.1 x hy))
      have M2 : ListAt u2 l2 ms := S1.out.2.2.2.2.2.1.kept O2 (fun x hx hy => hH.out.2.2.2.2.1 x (S1.out.2.2.2.2.2.2.2.2.1 x hy) hx)
      have hsrc : 0 < k2 → ∃ ad, p2 = some ad ∧ ∀ j u, (X2.map mkI)[j]? = some u → u2.cell? (ad.add j) = some u := fun h0 => by
        obtain ⟨g, o, cap', _, e, _, _, _, hc, _⟩ := W2.at_ h0
        cases e
        exact ⟨_, rfl, fun j u hu => by rw [Addr.add_lit]; exact hc j u hu⟩
      have b2' : ∀ x, fp l1 n2 x → fp l1 ns x := by
        rintro x (rfl | hx)
        · exact .inl rfl
        · exact S1.out.2.2.2.2.2.2.2.2.1 x (.inr (b2 x hx))
      have S2 := Lib.hid (And.intro hX2 (And.intro hk2 (And.intro W12 (And.intro L2 (And.intro D2 (And.intro M2 (And.intro hsrc (And.intro b2' O2))))))))
      clear hX2 hk2 W12 L2 D2 M2 hsrc b2 b2' O2 W2 f2
      go_wp2_with (at_builtin; refine wpList_append_win rfl _ _ 22 rfl 3 (Value.int .i64 0) 1 8 Try.underlying22 info3 rfl (by decide) rfl S2.out.2.2.1 p2 k2 c2 rfl (X2.map mkI) (by rw [List.length_map, S2.out.2.1, Nat.mul_one]) S2.out.2.2.2.2.2.2.1 (by intro u hu; obtain ⟨x, _, rfl⟩ := List.mem_map.1 hu; rfl) (by unfold maxLen; omega) (by omega) ?_; intro v3 u3 h3 W3 O3 f3)
      obtain ⟨p3, c3, rfl, _⟩ := W3.out.form
      have L3 : ListAt u3 l1 n2 := S2.out.2.2.2.1.kept O3.out (fun x hx hy => (S1.out.2.2.2.2.2.2.2.1 x hy.symm).1 (S2.out.2.2.2.2.2.2.2.1 x hx))
      have M3 : ListAt u3 l2 ms := S2.out.2.2.2.2.2.1.kept O3.out (fun x hx hy => (S1.out.2.2.2.2.2.2.2.1 x hy.symm).2 hx)
      have hadv3 := Lib.hid (adv_all M3 (hH.out.2.2.1 ▸ hH.out.2.2.2.1) hmlen.out (a + b) (by omega))
      have f3' : ∀ x, h3 = some x → ¬ fp l2 ms x := fun x hx hy => by
        rcases f3.out with rfl | ⟨g, rfl, hg⟩
        · exact (S1.out.2.2.2.2.2.2.2.1 x hx).2 hy
        · cases hx
          have := S2.out.2.2.2.2.2.1.lt _ hy
          omega
      have S3 := Lib.hid (And.intro L3 (And.intro M3 f3'))
      clear L3 M3 f3'
      go_wp2_with fail
      refine hadv3.out.mono ?_
      rintro e u4 ⟨p4, c4, h4, m4, rfl, W4, f4, L4, D4, b4, O4⟩
      have hparts := gleft_parts (dat ns) a b ha0 hb0
      have hX : advDue (dat ms) (a + b) = X1 ++ X2 := by
        rw [← hH.out.2.2.1, S1.out.1, S2.out.1, S1.out.2.2.2.2.1]
        unfold advDue advTicks
        rw [if_neg (by omega), if_neg (by omega), if_neg (by omega), if_neg (by omega), hparts.2]
      have hD : dat n2 = dat m4 := by
        rw [D4, S2.out.2.2.2.2.1, S1.out.2.2.2.2.1, ← hH.out.2.2.1]
        unfold advTicks
        rw [if_neg (by omega), if_neg (by omega), if_neg (by omega), hparts.1]
      have hkk : (X1 ++ X2).length = k1 + k2 := by rw [List.length_append, ← S1.out.2.1, ← S2.out.2.1]
      rw [hX, hkk] at W4 ⊢
      have W34 : Win u4 3 1 (.slice p3 (k1 + k2) c3) h3 (k1 + k2) ((X1 ++ X2).map mkI) := by
        rw [List.map_append]
        exact W3.out.kept O4 (fun x hx => S3.out.2.2 x hx)
      have L34 : ListAt u4 l1 n2 := S3.out.1.kept O4 (fun x hx hy => hH.out.2.2.2.2.1 x (S2.out.2.2.2.2.2.2.2.1 x hx) hy)
      have hsame := Lib.hid (same_any W34 W4 (by
        have h1 := (adv_length (dat ms) (a + b)).2
        rw [hX, hkk] at h1
        simp [dat] at h1
        have := hmlen.out
        omega))
      have lenm : m4.length ≤ 1000 := by
        have h1 := congrArg List.length D4
        have h2 := (adv_length (dat ms) (a + b)).1
        simp [dat] at h1 h2
        have := hmlen.out
        omega
      have lenn : n2.length ≤ 1000 := by
        have h1 := congrArg List.length hD
        simp [dat] at h1
        omega
      have hkeys : (n2.map fun m => m.2.1) = (m4.map fun m => m.2.1) := by
        have := congrArg (List.map (·.1)) hD
        simpa [dat, Function.comp_def] using this
      have hgaps : (n2.map fun m => m.2.2) = (m4.map fun m => m.2.2) := by
        have := congrArg (List.map (·.2)) hD
        simpa [dat, Function.comp_def] using this
      have hNM : n2.length = m4.length := by
        have h1 := congrArg List.length hD
        simpa [dat] using h1
      have hNM' := Lib.hid hNM
      have S4 := Lib.hid (And.intro L34 (And.intro L4 (And.intro hkeys (And.intro hgaps (And.intro lenm (And.intro lenn O4))))))
      clear W4 f4 L4 D4 b4 O4 hparts hX hD hkk W34 L34 lenm lenn hkeys hgaps hNM
      go_wp2_with fail
      refine hsame.out.mono ?_
      rintro e _ ⟨rfl, m5, rfl⟩
      go_wp2_with fail
      refine (keys_any (S4.out.1.same (w' := u4.drewN m5) rfl) S4.out.2.2.2.2.2.1).mono ?_
      rintro e u6 ⟨v6, h6, rfl, W6, f6, O6⟩
      rw [List.length_map] at W6
      obtain ⟨p6, c6, rfl, _⟩ := W6.form
      have S6 := Lib.hid (And.intro W6 (And.intro f6 O6))
      clear W6 f6 O6
      go_wp2_with fail
      refine (keys_any ((S4.out.2.1.same (w' := u4.drewN m5) rfl).new S6.out.2.2) S4.out.2.2.2.2.1).mono ?_
      rintro e u7 ⟨v7, h7, rfl, W7, f7, O7⟩
      rw [List.length_map] at W7
      obtain ⟨p7, c7, rfl, _⟩ := W7.form
      have W67 : Win u7 3 1 (.slice p6 n2.length c6) h6 n2.length ((n2.map fun m => m.2.1).map mkI) := S6.out.1.kept O7 (fun _ _ h => h)
      have S7 := Lib.hid (And.intro W7 (And.intro W67 O7))
      have hsame2 : Hid (Calls Try.prog 27 #[.slice p6 n2.length c6, .slice p7 m4.length c7] u7 fun e w' => e = .returned (.bool true) ∧ ∃ m, w' = u7.drewN m) := by
        rw [S4.out.2.2.1, hNM'.out] at W67
        rw [hNM'.out]
        exact same_any W67 W7 S4.out.2.2.2.2.1
      clear W7 W67 f7 O7
      go_wp2_with fail
      refine hsame2.out.mono ?_
      rintro e _ ⟨rfl, m8, rfl⟩
      go_wp2_with fail
      refine (gaps_any ((((S4.out.1.same (w' := u4.drewN m5) rfl).new S6.out.2.2).new S7.out.2.2).same (w' := u7.drewN m8) rfl) S4.out.2.2.2.2.2.1).mono ?_
      rintro e u9 ⟨v9, h9, rfl, W9, f9, O9⟩
      rw [List.length_map] at W9
      obtain ⟨p9, c9, rfl, _⟩ := W9.form
      have S9 := Lib.hid (And.intro W9 (And.intro f9 O9))
      clear W9 f9 O9
      go_wp2_with fail
      refine (gaps_any (((((S4.out.2.1.same (w' := u4.drewN m5) rfl).new S6.out.2.2).new S7.out.2.2).same (w' := u7.drewN m8) rfl).new S9.out.2.2) S4.out.2.2.2.2.1).mono ?_
      rintro e u10 ⟨v10, h10, rfl, W10, f10, O10⟩
      rw [List.length_map] at W10
      obtain ⟨p10, c10, rfl, _⟩ := W10.form
      have W910 : Win u10 3 1 (.slice p9 n2.length c9) h9 n2.length ((n2.map fun m => m.2.2).map mkI) := S9.out.1.kept O10 (fun _ _ h => h)
      have O10' := Lib.hid O10
      have hsame3 : Hid (Calls Try.prog 27 #[.slice p9 n2.length c9, .slice p10 m4.length c10] u10 fun e w' => e = .returned (.bool true) ∧ ∃ m, w' = u10.drewN m) := by
        rw [S4.out.2.2.2.1, hNM'.out] at W910
        rw [hNM'.out]
        exact same_any W910 W10 S4.out.2.2.2.2.1
      clear W10 W910 f10 O10
      go_wp2_with fail
      refine hsame3.out.mono ?_
      rintro e _ ⟨rfl, m11, rfl⟩
      go_wp2
      go_ret
      refine ⟨rfl, ?_⟩
      obtain ⟨_, _, _, _, _, q1, q2, q3⟩ := hH.out
      have hBe := hB'.out
      have hsB := q3.size
      have T1 := q3.trans S1.out.2.2.2.2.2.2.2.2.2 (fun x _ hx => q1 x hx)
      have T2 := T1.trans S2.out.2.2.2.2.2.2.2.2 (fun x _ hx => q1 x (S1.out.2.2.2.2.2.2.2.2.1 x hx))
      have T3 := T2.trans O3.out (fun x _ hx => by have := S1.out.2.2.2.2.2.2.1 x hx.symm; omega)
      have T4 := T3.trans S4.out.2.2.2.2.2.2 (fun x _ hx => q2 x hx)
      have T6 := (T4.drewN m5).trans S6.out.2.2 (fun _ _ h => h.elim)
      have T7 := T6.trans S7.out.2.2 (fun _ _ h => h.elim)
      have T9 := (T7.drewN m8).trans S9.out.2.2 (fun _ _ h => h.elim)
      have T10 := T9.trans O10'.out (fun _ _ h => h.elim)
      exact (T10.drewN m11).below (Nat.le_refl _) (fun x hx => by omega)

theorem parts (A : Option Addr) (len cap : Nat) (z : ActV) (a b : Int) (w : World) (hA : ActRow w A len z) (ha : (Lit.int .u16 a).wf = true) (hb : (Lit.int .u16 b).wf = true) :
    Calls Try.prog 6 #[.slice A len cap, .int .u16 a, .int .u16 b] w fun e w' => e = .returned (.bool true) ∧ Below w.heap.size w w' := by
  by_cases hl : 100 < len
  · exact parts_long A len cap a b w hl
  · exact parts_some A len cap z a b w (by omega) hA (bounds_u16 ha) (bounds_u16 hb)
end Go.Proofs.Ytbmegpcdcbfjmaa.Parts
