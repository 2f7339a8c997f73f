import Derived.Test.YtlbdjiiddofkgaaGreatDoorC19
import Derived.Test.YtlbdjiiddofkgaaGreatDoorC14
set_option maxRecDepth 100000
namespace Go.Proofs.YtlbdjiiddofkgaaGreatDoor
open Go Go.RowKit
structure Fr where
 who : Int
 base : Int
 size : Int
def Fr.cells (f : Fr) : List Value := [.int .i64 f.who, .int .i64 f.base, .int .i64 f.size]
def Fr.val (f : Fr) : Value := .agg #[.int .i64 f.who, .int .i64 f.base, .int .i64 f.size]
def jS (l : List Fr) : List Value := l.flatMap Fr.cells
def zfr : Fr := ⟨0, 0, 0⟩
theorem zFE (l : List Fr) : (jS l).length = l.length * 3 := by
 induction l with
 | nil => rfl
 | cons x l ih => simp only [jS, List.flatMap_cons, List.length_append, List.length_cons] at ih ⊢; rw [ih]; simp [Fr.cells]; omega
theorem zKS (l : List Fr) (i : Nat) (x : Fr) (h : l[i]? = some x) (j : Nat) (hj : j < 3) : (jS l)[i * 3 + j]? = x.cells[j]? := by
 induction l generalizing i with
 | nil => cases h
 | cons y l ih =>
  cases i with
  | zero =>
   cases h
   simp only [jS, List.flatMap_cons]
   rw [List.getElem?_append_left (by simp [Fr.cells]; omega)]
   simp
  | succ i =>
   simp only [jS, List.flatMap_cons]
   rw [List.getElem?_append_right (by simp [Fr.cells]; omega)]
   have := ih i (by simpa using h)
   rw [<- this]
   congr 1
   simp [Fr.cells]
   omega
theorem zCY (a b : List Fr) : jS (a ++ b) = jS a ++ jS b := by simp [jS]
theorem zIQ (x : Fr) : jS [x] = x.cells := by simp [jS]
theorem zUB (x : Fr) : ∀ u ∈ x.cells, u.oneCell' = true := by
 intro u hu
 simp only [Fr.cells, List.mem_cons, List.mem_nil_iff, or_false] at hu
 rcases hu with rfl | rfl | rfl <;> rfl
theorem zGH {w : World} {X : Nat} {L : List Value} {e : TypeId} (h : w.heap[X]? = some (.cells L.toArray e (0, 0))) : ∀ j u, L[j]? = some u -> w.cell? ((⟨X, 0, none⟩ : Addr).add j) = some u := fun j u hu => by
 rw [Addr.add_lit, Nat.zero_add]
 exact zAA (L := L) h hu
theorem info31 : (Tryz.prog.info? 77).map (fun i => (i.zero, i.size, i.bytes)) = some (some zfr.val, 3, 24) := by kernel_rfl
def FrCells (w : World) (g off : Nat) (x : Fr) : Prop :=
 w.cell? ⟨g, off, none⟩ = some (.int .i64 x.who) /\ w.cell? ⟨g, off + 1, none⟩ = some (.int .i64 x.base) /\ w.cell? ⟨g, off + 2, none⟩ = some (.int .i64 x.size)
theorem zP5 {w : World} {v : Value} {o : Option Nat} {n : Nat} {fs : List Fr} (h : Win w 77 3 v o n (jS fs)) (hn : 0 < n) : ∃ g off cap, o = some g /\ v = .slice (some ⟨g, off, none⟩) n cap /\ n <= cap /\ cap <= maxLen /\ g < w.heap.size /\ (∀ i x, fs[i]? = some x -> FrCells w g (off + i * 3) x) /\ ∀ i, w.frozen? ⟨g, i, none⟩ = false := by
 obtain ⟨g, off, cap, h1, h2, h3, h4, h5, h6, h7⟩ := h.at_ hn
 refine ⟨g, off, cap, h1, h2, h3, h4, h5, fun i x hx => ?_, h7⟩
 have q : ∀ j u, j < 3 -> x.cells[j]? = some u -> w.cell? ⟨g, off + i * 3 + j, none⟩ = some u := fun j u hj hu => by
  have := h6 (i * 3 + j) u ((zKS fs i x hx j hj).trans hu)
  rwa [<- Nat.add_assoc] at this
 exact ⟨q 0 _ (by omega) rfl, q 1 _ (by omega) rfl, q 2 _ (by omega) rfl⟩
def vO : Int -> List Fr -> Prop
 | _, [] => True
 | d, f :: r => f.base = d /\ (0 <= f.size /\ f.size <= 4096) /\ vO (d + f.size) r
def deep (fs : List Fr) : Int := (fs.map Fr.size).sum
theorem zC5 (a b : List Fr) : deep (a ++ b) = deep a + deep b := by simp [deep]
theorem zGI (f : Fr) : deep [f] = f.size := by simp [deep]
theorem zBS {d : Int} {a b : List Fr} : vO d (a ++ b) ↔ vO d a /\ vO (d + deep a) b := by
 induction a generalizing d with
 | nil => simp [vO, deep]
 | cons f r ih =>
  simp only [List.cons_append, vO, ih]
  have : d + f.size + deep r = d + deep (f :: r) := by simp [deep]; omega
  rw [this]
  constructor
  ·rintro ⟨h1, h2, h3, h4⟩; exact ⟨⟨h1, h2, h3⟩, h4⟩
  ·rintro ⟨⟨h1, h2, h3⟩, h4⟩; exact ⟨h1, h2, h3, h4⟩
theorem zEO {d : Int} {fs : List Fr} (h : vO d fs) : 0 <= deep fs /\ deep fs <= 4096 * fs.length := by
 induction fs generalizing d with
 | nil => simp [deep]
 | cons f r ih =>
  have := ih h.2.2
  have h2 := h.2.1
  have e : deep (f :: r) = f.size + deep r := by simp [deep]
  rw [e, List.length_cons]
  omega
def StAt (w : World) (b : Nat) (o : Option Nat) (pk : Int) (fs : List Fr) : Prop :=
 ∃ v, w.heap[b]? = some (.cells #[v, .int .i64 pk] 199 (0, 0)) /\ Win w 77 3 v o fs.length (jS fs) /\ ∀ k, o = some k -> k ≠ b
def ffp (b : Nat) (o : Option Nat) (k : Nat) : Prop := k = b ∨ o = some k
section
variable {w w' : World} {b : Nat} {o : Option Nat} {pk : Int} {fs : List Fr}
theorem StAt.lt (h : StAt w b o pk fs) : ∀ k, ffp b o k -> k < w.heap.size := by
 obtain ⟨v, h1, h2, h3⟩ := h
 rintro k (rfl | hk)
 ·exact zAG h1
 ·exact h2.lt k hk
theorem StAt.kept {S : Nat -> Prop} (h : StAt w b o pk fs) (ho : Only S w w') (hS : ∀ k, ffp b o k -> ¬ S k) : StAt w' b o pk fs := by
 obtain ⟨v, h1, h2, h3⟩ := h
 exact ⟨v, ho.heap h1 (hS b (.inl rfl)), h2.kept ho (fun k hk => hS k (.inr hk)), h3⟩
theorem StAt.new (h : StAt w b o pk fs) (ho : Only (fun _ => False) w w') : StAt w' b o pk fs := h.kept ho (fun _ _ h => h)
theorem StAt.block (h : StAt w b o pk fs) : ∃ p cap, fs.length <= cap /\ cap <= maxLen /\ w.heap[b]? = some (.cells [.slice p fs.length cap, .int .i64 pk].toArray 199 (0, 0)) /\ Win w 77 3 (.slice p fs.length cap) o fs.length (jS fs) /\ ∀ k, o = some k -> k ≠ b := by
 obtain ⟨v, h1, h2, h3⟩ := h
 obtain ⟨p, cap, rfl, h4, h5⟩ := h2.form
 exact ⟨p, cap, h4, h5, h1, h2, h3⟩
end
def SNewEnd (w : World) (e : Ending) (w' : World) : Prop := e = .returned (.pointer (some ⟨w.heap.size, 0, none⟩)) /\ StAt w' w.heap.size none 0 [] /\ Only (fun _ => False) w w'
theorem zOS (w : World) : Calls Tryz.prog 48 #[] w (SNewEnd w) := by
 go_enter Tryz.func48, Tryz.ntmps48
 go_wp2
 go_ret
 exact ⟨rfl, ⟨_, zAB _ _ rfl, Win.nil _ _ _, fun k hk => by cases hk⟩, (Only.refl _ w).alloc _⟩
section
variable {w : World} {b : Nat} {o : Option Nat} {pk : Int} {fs : List Fr} {x : Fr}
theorem zOT (h : StAt w b o pk []) : Calls Tryz.prog 233 #[.pointer (some ⟨b, 0, none⟩)] w fun e w' => e = .returned (.tuple #[zfr.val, .bool false]) /\ Only (fun _ => False) w w' := by
 obtain ⟨p, cap, h1, h2, hb, h3, h4⟩ := h.block
 have hr := zAG hb
 have c0 : w.cell? ⟨b, 0, none⟩ = some (.slice p 0 cap) := zAA hb (i := 0) rfl
 clear h h1 h2 hb h3 h4
 go_enter Tryz.func233, Tryz.ntmps233
 go_wp2
 exact bodyPost_ret (v := .tuple #[zfr.val, .bool false]) (by simp [results, Tryz.results233, go_sem, zfr, Fr.val]) rfl ⟨rfl, (Only.refl _ w).alloc _⟩
set_option maxHeartbeats 400000 in
theorem zJS (h : StAt w b o pk (fs ++ [x])) (hn : fs.length <= 1000) : Calls Tryz.prog 233 #[.pointer (some ⟨b, 0, none⟩)] w fun e w' => e = .returned (.tuple #[x.val, .bool true]) /\ Only (fun _ => False) w w' := by
 obtain ⟨p, cap, h1, h2, hb, h3, h4⟩ := h.block
 obtain ⟨n, hn'⟩ : ∃ n, n = fs.length := ⟨_, rfl⟩
 have hl : (fs ++ [x]).length = n + 1 := by simp [hn']
 obtain ⟨L, hL⟩ : ∃ L, L = n + 1 := ⟨_, rfl⟩
 rw [hl, <- hL] at h1 hb h3
 obtain ⟨g, off, cap', ho, hv, h5, h6, h7, h8, h9⟩ := zP5 h3 (by omega)
 cases hv
 have hr := zAG hb
 have c0 := zAA hb (i := 0) rfl
 obtain ⟨a0, a1, a2⟩ := h8 n x (by simp [hn'])
 have hL0 : ((L : Int) == 0) = false := by simp; omega
 have hL1 : (L : Int) - 1 = (n : Int) := by omega
 have hn1 : (n : Int) < (L : Int) := by omega
 have hn3 : n <= 1000 := by omega
 have hL3 : L <= 1001 := by omega
 have hs := zh (Only.refl (fun _ => False) w)
 unfold Fr.val
 clear h h1 h2 h3 h4 hb hn' hl h5 h6 h8 h9 ho hL hn
 go_enter Tryz.func233, Tryz.ntmps233
 go_wp2
 go_region
 go_wp2
 exact bodyPost_ret (v := .tuple #[.agg #[.int .i64 x.who, .int .i64 x.base, .int .i64 x.size], .bool true]) (by simp [results, Tryz.results233, go_sem]) rfl ⟨rfl, ((Only.refl _ w).alloc _).drew⟩
end
def TopEnd (w : World) (f : Fr) (t : Bool) (e : Ending) (w' : World) : Prop := e = .returned (.tuple #[f.val, .bool t]) /\ Only (fun _ => False) w w'
theorem zJT {w : World} {p : Value} {f : Fr} {t : Bool} (h : Calls Tryz.prog 233 #[p] w (TopEnd w f t)) (h0 : 0 <= f.base + f.size) (h1 : f.base + f.size <= 4194304) : Calls Tryz.prog 260 #[p] w fun e w' => e = .returned (.int .i64 (f.base + f.size)) /\ Only (fun _ => False) w w' := by
 have h' := zh h
 have hwr : IntKind.i64.wrap (f.base + f.size) = f.base + f.size := IntWalk.i64_in _ (by omega)
 clear h
 go_enter Tryz.func260, Tryz.ntmps260
 go_wp2_with fail
 refine h'.out.mono ?_
 rintro e w1 ⟨rfl, ho⟩
 have ho' := zh ho
 clear ho
 unfold Fr.val
 go_wp2
 go_ret
 exact ⟨rfl, ho'.out.alloc _⟩
section
variable {w : World} {b : Nat} {o : Option Nat} {pk : Int} {fs : List Fr} {x : Fr}
def PopEnd (w : World) (b : Nat) (o : Option Nat) (pk : Int) (fs : List Fr) (e : Ending) (w' : World) : Prop := e = .returned (.int .i64 0) /\ StAt w' b o pk fs /\ Only (fun k => k = b) w w'
set_option maxHeartbeats 400000 in
theorem zS5 (h : StAt w b o pk (fs ++ [x])) (hn : fs.length <= 1000) : Calls Tryz.prog 167 #[.pointer (some ⟨b, 0, none⟩), .int .i64 x.who] w (PopEnd w b o pk fs) := by
 have jU := zh (zJS h hn)
 obtain ⟨p, cap, h1, h2, hb, h3, h4⟩ := h.block
 obtain ⟨n, hn'⟩ : ∃ n, n = fs.length := ⟨_, rfl⟩
 have hl : (fs ++ [x]).length = n + 1 := by simp [hn']
 obtain ⟨L, hL⟩ : ∃ L, L = n + 1 := ⟨_, rfl⟩
 rw [hl, <- hL] at h1 hb h3
 obtain ⟨g, off, cap', ho, hv, h5, h6, h7, h8, h9⟩ := zP5 h3 (by omega)
 cases hv
 have hbn := zAG hb
 have hL1 : (L : Int) - 1 = (n : Int) := by omega
 have hcn : (n : Int) <= (cap : Int) := by omega
 have hn1 : (n : Int) < (L : Int) := by omega
 have hn2 : (0 : Int) <= (n : Int) := by omega
 have hn3 : n <= 1000 := by omega
 have hb' := zh hb
 have hE := zh (fun W (hW : W.heap[b]? = some (.cells [.slice (some ⟨g, off, none⟩) n cap, .int .i64 pk].toArray 199 (0, 0)) /\ Only (fun k => k = b) w W) => show StAt W b o pk fs from by
  have ht := h3.take (k := n) (by omega)
  rw [zCY, List.take_left' (by rw [zFE, hn'])] at ht
  subst hn'
  exact ⟨_, hW.1, ht.kept hW.2 (fun k hk e => h4 k hk e), h4⟩)
 have hne : (x.who != x.who) = false := by simp
 clear h h1 h2 h3 h4 hb hn' hl h5 h6 h8 h9 ho hL hn
 go_enter Tryz.func167, Tryz.ntmps167
 go_wp2_with fail
 refine jU.out.mono ?_
 rintro e w1 ⟨rfl, ho⟩
 have hb1 := ho.heap hb'.out id
 have c0 := zAA hb1 (i := 0) rfl
 have f0 := zAC hb1 0
 have zG := zh hb1
 have hr := zAG hb1
 have ho' := zh ho
 clear ho hb1 hbn
 unfold Fr.val
 go_wp2
 go_region
 all_goals
  go_wp2
  go_ret
  have hO : Only (fun k => k = b) w ((w1.setCell ⟨b, 0, none⟩ (.slice (some ⟨g, off, none⟩) n cap)).alloc (.cells #[.int .i64 x.who, .int .i64 x.base, .int .i64 x.size] 77)).drew := (((ho'.out.mono (T := fun k => k = b) (fun _ _ h => h.elim)).setCell (p := ⟨b, 0, none⟩) (fun _ => rfl) _).alloc _).drew
  exact ⟨rfl, hE.out _ ⟨zAF (zAE zG.out 0 _) _, hO⟩, hO⟩
end
section
variable {w : World} {b : Nat} {o : Option Nat} {pk : Int} {fs : List Fr} {x : Fr}
theorem zOU (h : StAt w b o pk fs) : Calls Tryz.prog 71 #[.pointer (some ⟨b, 0, none⟩)] w fun e w' => e = .returned (.int .i64 pk) /\ w = w' := by
 obtain ⟨p, cap, h1, h2, hb, h3, h4⟩ := h.block
 have c1 := zAA hb (i := 1) rfl
 clear h h1 h2 hb h3 h4
 go_enter Tryz.func71, Tryz.ntmps71
 go_wp2
 go_ret
 exact ⟨rfl, rfl⟩
theorem zL8 (h : StAt w b o pk fs) (hs : vO 0 fs) (hn : fs.length <= 1000) : Calls Tryz.prog 260 #[.pointer (some ⟨b, 0, none⟩)] w fun e w' => e = .returned (.int .i64 (deep fs)) /\ Only (fun _ => False) w w' := by
 rcases List.eq_nil_or_concat fs with rfl | ⟨gs, x, rfl⟩
 ·exact zJT (f := zfr) (t := false) (zOT h) (by decide) (by decide)
 ·rw [List.concat_eq_append] at h hs hn ⊢
  have hb := zEO hs
  obtain ⟨h1, h2⟩ := zBS.1 hs
  have e : deep (gs ++ [x]) = x.base + x.size := by
   rw [zC5, zGI, h2.1]
   omega
  rw [List.length_append, List.length_singleton] at hn hb
  rw [e] at hb ⊢
  exact zJT (zJS h (by omega)) hb.1 (by omega)
end
def PushEnd (w : World) (b : Nat) (o : Option Nat) (pk : Int) (fs : List Fr) (who size : Int) (e : Ending) (w' : World) : Prop :=
 e = .returned (.tuple #[.int .i64 (deep fs), .int .i64 0]) /\ ∃ o', StAt w' b o' (max pk (deep fs + size)) (fs ++ [⟨who, deep fs, size⟩]) /\ (o' = o ∨ ∃ g, o' = some g /\ w.heap.size <= g) /\ Only (ffp b o) w w'
theorem zOV {w W w4 : World} {p : Option Addr} {cap b n : Nat} {o h4 : Option Nat} {pk m m' : Int} {v4 : Value} {fs : List Fr} {x : Fr} (hb : w.heap[b]? = some (.cells [.slice p n cap, .int .i64 pk].toArray 199 (0, 0))) (ho : ∀ k, o = some k -> k ≠ b) (hn : n = fs.length) (hW : Only (fun _ => False) w W)
  (h4w : Win w4 77 3 v4 h4 (n + 1) (jS fs ++ x.cells)) (h4o : Only (fun k => some k = o) W w4) (hh : h4 = o ∨ ∃ g, h4 = some g /\ W.heap.size <= g) (hm : m' = m) :
  ∃ o', StAt ((w4.setCell ⟨b, 0, none⟩ v4).setCell ⟨b, 1, none⟩ (.int .i64 m')) b o' m (fs ++ [x]) /\ (o' = o ∨ ∃ g, o' = some g /\ w.heap.size <= g) /\ Only (ffp b o) w ((w4.setCell ⟨b, 0, none⟩ v4).setCell ⟨b, 1, none⟩ (.int .i64 m')) := by
 subst hm
 have hr := zAG hb
 have hs := hW.size
 have b4 := h4o.heap (hW.heap hb id) (fun e => ho b e.symm rfl)
 have hne : ∀ k, h4 = some k -> k ≠ b := by
  rintro k rfl
  rcases hh with hh | ⟨g, hg, hge⟩
  ·exact ho k hh.symm
  ·cases hg; omega
 have hO : Only (fun k => k = b) w4 ((w4.setCell ⟨b, 0, none⟩ v4).setCell ⟨b, 1, none⟩ (.int .i64 m')) := ((Only.refl (fun k => k = b) w4).setCell (p := ⟨b, 0, none⟩) (fun _ => rfl) _).setCell (p := ⟨b, 1, none⟩) (fun _ => rfl) _
 subst hn
 refine ⟨h4, ⟨v4, ?_, ?_, hne⟩, ?_, ?_⟩
 ·exact zAE (zAE b4 0 v4) 1 _
 ·rw [List.length_append, zCY, zIQ]
  exact h4w.kept hO (fun k hk e => hne k hk e)
 ·rcases hh with hh | ⟨g, hg, hge⟩
  ·exact .inl hh
  ·exact .inr ⟨g, hg, by omega⟩
 ·exact ((hW.mono (T := ffp b o) (fun _ _ h => h.elim)).trans h4o (fun k _ hk => .inr hk.symm)).trans hO (fun k _ hk => .inl hk)
set_option maxHeartbeats 800000 in
theorem zRA {w : World} {b : Nat} {o : Option Nat} {pk : Int} {fs : List Fr} (h : StAt w b o pk fs) (hs : vO 0 fs) (hn : fs.length <= 255) (who : Int) {size : Int} (h0 : 0 <= size) (h1 : size <= 4096) :
  Calls Tryz.prog 216 #[.pointer (some ⟨b, 0, none⟩), .int .i64 who, .int .i64 size] w (PushEnd w b o pk fs who size) := by
 have hdp := zh (zL8 h hs (by omega))
 have hbd := zEO hs
 obtain ⟨p, cap, h1', h2, hb, h3, h4⟩ := h.block
 obtain ⟨n, hn'⟩ : ∃ n, n = fs.length := ⟨_, rfl⟩
 obtain ⟨d, hd⟩ : ∃ d, d = deep fs := ⟨_, rfl⟩
 obtain ⟨m, hm⟩ : ∃ m, m = max pk (d + size) := ⟨_, rfl⟩
 unfold PushEnd
 rw [<- hd] at hdp hbd ⊢
 rw [<- hm]
 have hr := zAG hb
 have c0 := zAA hb (i := 0) rfl
 have hE := zh (And.intro hb (And.intro h4 hn'))
 have hk := zh (fun (W w4 : World) (hW : Only (fun _ => False) w W) (h4o : Only (fun k => some k = o) W w4) => by
  have b4 := h4o.heap (hW.heap hb id) (fun e => h4 b e.symm rfl)
  exact And.intro (zAA b4 (i := 0) rfl) (And.intro (zAA b4 (i := 1) rfl) (And.intro (zAC b4 0) (zAC b4 1))))
 have h3' := zh h3
 rw [<- hn'] at c0 h3' hk hn
 have hwr : IntKind.i64.wrap (d + size) = d + size := IntWalk.i64_in _ (by omega)
 have hn1 : ((n : Int) < 256) := by omega
 have jIo := zh hbd
 have hhm := zh hm
 clear h hs h1' h2 h3 h4 hb hn' hbd hd hm
 go_enter Tryz.func216, Tryz.ntmps216
 go_wp2_with fail
 refine hdp.out.mono ?_
 rintro e w1 ⟨rfl, ho⟩
 have ho' := zh ho
 have c0' := ho.cell c0 id
 have hr' : b < w1.heap.size := Nat.lt_of_lt_of_le hr ho.size
 clear ho c0 hr
 go_wp2_with (at_builtin; refine zAP rfl _ _ 74 rfl 77 zfr.val 3 24 Tryz.underlying74 info31 rfl (by decide) rfl (h3'.out.kept ((ho'.out.alloc (.cells #[.int .i64 who, .int .i64 d, .int .i64 size] 77))) (fun _ _ h => h)) (some ⟨w1.heap.size, 0, none⟩) 1 1 rfl (Fr.cells ⟨who, d, size⟩) rfl (fun _ => ⟨_, rfl, zGH (zAB _ _ rfl)⟩) (zUB _) (by unfold maxLen; omega) (by omega) ?_; intro v4 w4 h4 hW4 hO4 hh4; obtain ⟨p4, c4, rfl, _⟩ := hW4.out.form; obtain ⟨d0, d1, d2, d3⟩ := hk.out _ _ (ho'.out.alloc _) hO4.out)
 all_goals
  rename_i hle
  go_ret2
  refine ⟨rfl, zOV (x := ⟨who, d, size⟩) (hE.out.2.2 ▸ hE.out.1) hE.out.2.1 hE.out.2.2 (ho'.out.alloc _) hW4.out hO4.out hh4.out ?_⟩
  have := hhm.out
  rw [Int.max_def] at this
  split at this <;> omega
def jI (l : List Opn) : List Value := l.flatMap Opn.cells
def yQ : Opn := ⟨0, 0, 0⟩
theorem zCG (l : List Opn) : (jI l).length = l.length * 3 := by
 induction l with
 | nil => rfl
 | cons x l ih => simp only [jI, List.flatMap_cons, List.length_append, List.length_cons] at ih ⊢; rw [ih]; simp [Opn.cells]; omega
theorem zEP (l : List Opn) (i : Nat) (x : Opn) (h : l[i]? = some x) (j : Nat) (hj : j < 3) : (jI l)[i * 3 + j]? = x.cells[j]? := by
 induction l generalizing i with
 | nil => cases h
 | cons y l ih =>
  cases i with
  | zero =>
   cases h
   simp only [jI, List.flatMap_cons]
   rw [List.getElem?_append_left (by simp [Opn.cells]; omega)]
   simp
  | succ i =>
   simp only [jI, List.flatMap_cons]
   rw [List.getElem?_append_right (by simp [Opn.cells]; omega)]
   have := ih i (by simpa using h)
   rw [<- this]
   congr 1
   simp [Opn.cells]
   omega
theorem zS6 (x : Opn) : ∀ u ∈ x.cells, u.oneCell' = true := by
 intro u hu
 simp only [Opn.cells, List.mem_cons, List.mem_nil_iff, or_false] at hu
 rcases hu with rfl | rfl | rfl <;> rfl
theorem zS7 (l : List Opn) : ∀ u ∈ jI l, u.oneCell' = true := by
 intro u hu
 obtain ⟨x, _, hx⟩ := List.mem_flatMap.1 hu
 exact zS6 x u hx
theorem zRB : (Tryz.prog.info? 94).map (fun i => (i.zero, i.size, i.bytes)) = some (some yQ.val, 3, 24) := by kernel_rfl
theorem zRC {w : World} {v : Value} {o : Option Nat} {n : Nat} {l : List Opn} (h : Win w 94 3 v o n (jI l)) (hn : 0 < n) : ∃ g off cap, o = some g /\ v = .slice (some ⟨g, off, none⟩) n cap /\ n <= cap /\ cap <= maxLen /\ g < w.heap.size /\ (∀ i x, l[i]? = some x -> OpnCells w g (off + i * 3) x) /\ ∀ i, w.frozen? ⟨g, i, none⟩ = false := by
 obtain ⟨g, off, cap, h1, h2, h3, h4, h5, h6, h7⟩ := h.at_ hn
 refine ⟨g, off, cap, h1, h2, h3, h4, h5, fun i x hx => ?_, h7⟩
 have q : ∀ j u, j < 3 -> x.cells[j]? = some u -> w.cell? ⟨g, off + i * 3 + j, none⟩ = some u := fun j u hj hu => by
  have := h6 (i * 3 + j) u ((zEP l i x hx j hj).trans hu)
  rwa [<- Nat.add_assoc] at this
 exact ⟨q 0 _ (by omega) rfl, q 1 _ (by omega) rfl, q 2 _ (by omega) rfl⟩
theorem OpnRow.src {w : World} {A : Option Addr} {l : List Opn} {n : Nat} (h : OpnRow w A l) (hn : l.length = n) : 0 < n -> ∃ ad, A = some ad /\ ∀ j u, (jI l)[j]? = some u -> w.cell? (ad.add j) = some u := fun h0 => by
 obtain ⟨x, hx⟩ : ∃ x, l[0]? = some x := ⟨_, List.getElem?_eq_getElem (by omega)⟩
 obtain ⟨b, off, rfl, _, _⟩ := h 0 x hx
 refine ⟨_, rfl, fun j u hu => ?_⟩
 rw [Addr.add_lit]
 have hj : j < l.length * 3 := by
  have := (List.getElem?_eq_some_iff.1 hu).1
  rwa [zCG] at this
 obtain ⟨y, hy⟩ : ∃ y, l[j / 3]? = some y := ⟨_, List.getElem?_eq_getElem (by omega)⟩
 have e : j = j / 3 * 3 + j % 3 := by omega
 obtain ⟨b', off', hb', _, c0, c1, c2⟩ := h (j / 3) y hy
 cases hb'
 have hu' := zEP l (j / 3) y hy (j % 3) (by omega)
 rw [<- e, hu] at hu'
 have hj3 : j % 3 = 0 ∨ j % 3 = 1 ∨ j % 3 = 2 := by omega
 rw [e, <- Nat.add_assoc]
 rcases hj3 with h3 | h3 | h3 <;> rw [h3] at hu' ⊢ <;> simp only [Opn.cells, List.getElem?_cons_zero, List.getElem?_cons_succ, Option.some.injEq] at hu' <;> subst hu'
 ·exact c0
 ·exact c1
 ·exact c2
structure Jz where
 ops : List Opn
 frame : Int
 at_ : Nat
 rest : Int
 regions : Int
 pushed : Int
 left : Int
 armed : Bool
 fault : Bool
structure Jz.Ok (j : Jz) : Prop where
 r : 0 <= j.rest /\ j.rest <= 9223372036854775807
 l : 0 <= j.left /\ j.left <= 9223372036854775807
 n : j.ops.length <= 1000 /\ j.at_ <= j.ops.length
 u : 0 < j.rest -> j.at_ < j.ops.length
def JbAt (w : World) (b : Nat) (o : Option Nat) (j : Jz) : Prop :=
 ∃ v, w.heap[b]? = some (.cells #[v, .int .i64 j.frame, .int .i64 j.at_, .int .i64 j.rest, .int .i64 j.regions, .int .i64 j.pushed, .int .i64 j.left, .bool j.armed, .bool j.fault] 279 (0, 0)) /\ Win w 94 3 v o j.ops.length (jI j.ops) /\ ∀ k, o = some k -> k ≠ b
def jfp (b : Nat) (o : Option Nat) (k : Nat) : Prop := k = b ∨ o = some k
section
variable {w w' : World} {b : Nat} {o : Option Nat} {j : Jz}
theorem JbAt.lt (h : JbAt w b o j) : ∀ k, jfp b o k -> k < w.heap.size := by
 obtain ⟨v, h1, h2, h3⟩ := h
 rintro k (rfl | hk)
 ·exact zAG h1
 ·exact h2.lt k hk
theorem JbAt.kept {S : Nat -> Prop} (h : JbAt w b o j) (ho : Only S w w') (hS : ∀ k, jfp b o k -> ¬ S k) : JbAt w' b o j := by
 obtain ⟨v, h1, h2, h3⟩ := h
 exact ⟨v, ho.heap h1 (hS b (.inl rfl)), h2.kept ho (fun k hk => hS k (.inr hk)), h3⟩
theorem JbAt.new (h : JbAt w b o j) (ho : Only (fun _ => False) w w') : JbAt w' b o j := h.kept ho (fun _ _ h => h)
theorem JbAt.drew (h : JbAt w b o j) (n : Nat) : JbAt (w.drewN n) b o j := h.new ((Only.refl _ w).drewN n)
theorem JbAt.block (h : JbAt w b o j) : ∃ p cap, j.ops.length <= cap /\ cap <= maxLen /\ w.heap[b]? = some (.cells [.slice p j.ops.length cap, .int .i64 j.frame, .int .i64 j.at_, .int .i64 j.rest, .int .i64 j.regions, .int .i64 j.pushed, .int .i64 j.left, .bool j.armed, .bool j.fault].toArray 279 (0, 0)) /\ Win w 94 3 (.slice p j.ops.length cap) o j.ops.length (jI j.ops) /\ ∀ k, o = some k -> k ≠ b := by
 obtain ⟨v, h1, h2, h3⟩ := h
 obtain ⟨p, cap, rfl, h4, h5⟩ := h2.form
 exact ⟨p, cap, h4, h5, h1, h2, h3⟩
theorem JbAt.turn (h : JbAt w b o j) (ho : Only (fun k => k = b) w w') {p : Option Addr} {cap : Nat} (hp : w.heap[b]? = some (.cells [.slice p j.ops.length cap, .int .i64 j.frame, .int .i64 j.at_, .int .i64 j.rest, .int .i64 j.regions, .int .i64 j.pushed, .int .i64 j.left, .bool j.armed, .bool j.fault].toArray 279 (0, 0))) {j' : Jz} (hj : j'.ops = j.ops)
  (hb : w'.heap[b]? = some (.cells [.slice p j.ops.length cap, .int .i64 j'.frame, .int .i64 j'.at_, .int .i64 j'.rest, .int .i64 j'.regions, .int .i64 j'.pushed, .int .i64 j'.left, .bool j'.armed, .bool j'.fault].toArray 279 (0, 0))) : JbAt w' b o j' := by
 obtain ⟨v, h1, h2, h3⟩ := h
 have e := hp.symm.trans h1
 simp at e
 obtain rfl := e
 rw [<- hj] at h2 hb
 exact ⟨_, hb, h2.kept ho (fun k hk e => h3 k hk e), h3⟩
end
def overB (j : Jz) : Bool := decide (j.rest = 0) && (j.fault || decide (j.ops.length <= j.at_))
def DrewV (v : Value) (w : World) (e : Ending) (w' : World) : Prop := e = .returned v /\ ∃ m, w' = w.drewN m
section
variable {w : World} {b : Nat} {o : Option Nat} {j : Jz}
theorem zCH (h : JbAt w b o j) : Calls Tryz.prog 108 #[.pointer (some ⟨b, 0, none⟩)] w (DrewV (.bool (overB j)) w) := by
 obtain ⟨p, cap, h1, h2, hb, h3, h4⟩ := h.block
 have c0 := zAA hb (i := 0) rfl
 have c2 := zAA hb (i := 2) rfl
 have c3 := zAA hb (i := 3) rfl
 have c8 := zAA hb (i := 8) rfl
 have hl := zAG hb
 obtain ⟨n, hn⟩ : ∃ n, n = j.ops.length := ⟨_, rfl⟩
 obtain ⟨A, hA⟩ : ∃ A, A = j.at_ := ⟨_, rfl⟩
 obtain ⟨R, hR⟩ : ∃ R, R = j.rest := ⟨_, rfl⟩
 obtain ⟨F, hF⟩ : ∃ F, F = j.fault := ⟨_, rfl⟩
 have hv := zh (show overB j = (decide (R = 0) && (F || decide (n <= A))) by rw [hn, hA, hR, hF]; rfl)
 rw [hv.out]
 rw [<- hn] at c0
 rw [<- hA] at c2
 rw [<- hR] at c3
 rw [<- hF] at c8
 clear hv h h1 h2 hb h3 h4 hn hA hR hF
 go_enter Tryz.func108, Tryz.ntmps108
 go_wp2
 by_cases hr : R = 0
 ·subst hr
  cases F
  ·go_quiet (fail)
   go_wp2
   go_ret
   exact ⟨by congr 2, _, rfl⟩
  ·go_quiet (fail)
   go_wp2
   go_ret
   exact ⟨by simp, _, rfl⟩
 ·have hr' : (R == 0) = false := by simpa using hr
  go_quiet (fail)
  go_wp2
  go_ret
  exact ⟨by simp [hr], _, rfl⟩
end
section
variable {w : World} {b : Nat} {o : Option Nat} {j : Jz}
theorem zHK (h : JbAt w b o j) : Calls Tryz.prog 105 #[.pointer (some ⟨b, 0, none⟩)] w (RetI j.rest w) := by
 obtain ⟨p, cap, h1, h2, hb, h3, h4⟩ := h.block
 have c3 := zAA hb (i := 3) rfl
 clear h h1 h2 hb h3 h4
 go_enter Tryz.func105, Tryz.ntmps105
 go_wp2
 go_ret
 exact ⟨rfl, rfl⟩
theorem zKT (h : JbAt w b o j) : Calls Tryz.prog 169 #[.pointer (some ⟨b, 0, none⟩)] w (RetB j.fault w) := by
 obtain ⟨p, cap, h1, h2, hb, h3, h4⟩ := h.block
 have c8 := zAA hb (i := 8) rfl
 clear h h1 h2 hb h3 h4
 go_enter Tryz.func169, Tryz.ntmps169
 go_wp2
 go_ret
 exact ⟨rfl, rfl⟩
theorem zL9 (h : JbAt w b o j) : Calls Tryz.prog 120 #[.pointer (some ⟨b, 0, none⟩)] w (RetB (decide (0 < j.regions)) w) := by
 obtain ⟨p, cap, h1, h2, hb, h3, h4⟩ := h.block
 have c4 := zAA hb (i := 4) rfl
 clear h h1 h2 hb h3 h4
 go_enter Tryz.func120, Tryz.ntmps120
 go_wp2
 go_ret
 exact ⟨rfl, rfl⟩
theorem zMA (h : JbAt w b o j) : Calls Tryz.prog 106 #[.pointer (some ⟨b, 0, none⟩)] w (DrewV (.tuple #[.int .i64 j.left, .bool j.armed]) w) := by
 obtain ⟨p, cap, h1, h2, hb, h3, h4⟩ := h.block
 have c6 := zAA hb (i := 6) rfl
 have c7 := zAA hb (i := 7) rfl
 clear h h1 h2 hb h3 h4
 go_enter Tryz.func106, Tryz.ntmps106
 go_wp2
 go_quiet (fail)
 go_wp2
 exact bodyPost_ret (v := .tuple #[.int .i64 j.left, .bool j.armed]) (by simp [results, Tryz.results106, go_sem]) rfl ⟨rfl, _, rfl⟩
end
def opOf (j : Jz) : Option Opn := if j.rest = 0 /\ j.fault = false then j.ops[j.at_]? else none
theorem zDH {j : Jz} {x : Opn} (h : opOf j = some x) : j.rest = 0 /\ j.fault = false /\ j.ops[j.at_]? = some x := by
 unfold opOf at h
 split at h
 ·rename_i h0
  exact ⟨h0.1, h0.2, h⟩
 ·cases h
theorem zEQ {j : Jz} : overB j = true ↔ j.rest = 0 /\ opOf j = none := by
 unfold overB opOf
 cases j.fault <;> by_cases h : j.rest = 0 <;> simp [h]
theorem zDR {w : World} {B : Nat} (hB : w.heap.size <= B) {W : World} (hW : Only (fun _ => False) w W) (a b c : Value) : Only (fun _ => False) w (((W.setCell ⟨B, 0, none⟩ a).setCell ⟨B, 1, none⟩ b).setCell ⟨B, 2, none⟩ c) :=
 ((hW.setCell (p := ⟨B, 0, none⟩) (fun h => absurd h (by simp; omega)) a).setCell (p := ⟨B, 1, none⟩) (fun h => absurd h (by simp; omega)) b).setCell (p := ⟨B, 2, none⟩) (fun h => absurd h (by simp; omega)) c
section
variable {w : World} {b : Nat} {o : Option Nat} {j : Jz}
theorem zOW (h : JbAt w b o j) (hr : 0 <= j.rest) (hn : opOf j = none) : Calls Tryz.prog 160 #[.pointer (some ⟨b, 0, none⟩)] w (GrowV (.tuple #[yQ.val, .bool false]) w) := by
 have hB := zh (zAG h.block.choose_spec.choose_spec.2.2.1)
 have ho := zh (zCH (h.new ((Only.refl _ w).alloc (.cells #[.int .i64 0, .int .i64 0, .int .i64 0] 94))))
 by_cases h0 : j.rest = 0
 ·rw [zEQ.2 ⟨h0, hn⟩] at ho
  clear h hr hn h0
  go_enter Tryz.func160, Tryz.ntmps160
  go_wp2_with fail
  refine ho.out.mono ?_
  rintro e w' ⟨rfl, m, rfl⟩
  go_wp2
  exact bodyPost_ret (v := .tuple #[yQ.val, .bool false]) (by simp [results, Tryz.results160, go_sem, yQ, Opn.val]) rfl ⟨rfl, zDR (Nat.le_refl _) (((Only.refl _ w).alloc _).drewN _) _ _ _⟩
 ·have hov : overB j = false := by
   rw [Bool.eq_false_iff]
   intro e
   exact h0 (zEQ.1 e).1
  rw [hov] at ho
  obtain ⟨p, cap, h1, h2, hb, h3, h4⟩ := h.block
  have c3 := zAA hb (i := 3) rfl
  obtain ⟨R, hR⟩ : ∃ R, R = j.rest := ⟨_, rfl⟩
  rw [<- hR] at c3
  have hR0 : 0 < R := by omega
  have hl := hB.out
  clear h h1 h2 hb h3 h4 hr hn h0 hR hov
  go_enter Tryz.func160, Tryz.ntmps160
  go_wp2_with fail
  refine ho.out.mono ?_
  rintro e w' ⟨rfl, m, rfl⟩
  go_wp2
  exact bodyPost_ret (v := .tuple #[yQ.val, .bool false]) (by simp [results, Tryz.results160, go_sem, yQ, Opn.val]) rfl ⟨rfl, zDR (Nat.le_refl _) (((Only.refl _ w).alloc _).drewN _) _ _ _⟩
set_option maxHeartbeats 1000000 in
theorem zJU (h : JbAt w b o j) {x : Opn} (hx : opOf j = some x) (hn : j.ops.length <= 1000) : Calls Tryz.prog 160 #[.pointer (some ⟨b, 0, none⟩)] w (GrowV (.tuple #[x.val, .bool true]) w) := by
 obtain ⟨hr, hf, hx⟩ := zDH hx
 obtain ⟨hlt, hxx⟩ := List.getElem?_eq_some_iff.1 hx
 have ho := zh (zCH (h.new ((Only.refl _ w).alloc (.cells #[.int .i64 0, .int .i64 0, .int .i64 0] 94))))
 rw [show overB j = false from by unfold overB; rw [hf]; simp; omega] at ho
 obtain ⟨p, cap, h1, h2, hb, h3, h4⟩ := h.block
 obtain ⟨n, hn'⟩ : ∃ n, n = j.ops.length := ⟨_, rfl⟩
 obtain ⟨A, hA⟩ : ∃ A, A = j.at_ := ⟨_, rfl⟩
 rw [<- hn'] at h1 hb h3 hn hlt
 obtain ⟨g, off, cap', _, hv, _, _, hgl, hc, _⟩ := zRC h3 (by omega)
 cases hv
 have hl := zAG hb
 have c0 := zAA hb (i := 0) rfl
 have c2 := zAA hb (i := 2) rfl
 have c3 := zAA hb (i := 3) rfl
 obtain ⟨a0, a1, a2⟩ := hc _ x hx
 rw [<- hA] at c2 a0 a1 a2 hlt
 rw [hr] at c3
 have hAn : (A : Int) < (n : Int) := by omega
 have hA1 : A <= 1000 := by omega
 clear h h1 h2 hb h3 h4 hx hxx hr hf hc hn' hA hlt
 unfold Opn.val
 go_enter Tryz.func160, Tryz.ntmps160
 go_wp2_with fail
 refine ho.out.mono ?_
 rintro e w' ⟨rfl, m, rfl⟩
 go_wp2
 go_region
 all_goals
  go_wp2
  exact bodyPost_ret (v := .tuple #[.agg #[.int .i64 x.k, .int .i64 x.a, .int .i64 x.b], .bool true]) (by simp [results, Tryz.results160, go_sem]) rfl ⟨rfl, zDR (Nat.le_refl _) (((Only.refl _ w).alloc _).drewN _) _ _ _⟩
end
