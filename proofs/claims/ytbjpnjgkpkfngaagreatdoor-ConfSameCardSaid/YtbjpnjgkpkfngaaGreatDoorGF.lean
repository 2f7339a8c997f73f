/- The table of kinds. -/
import Derived.Test.YtbjpnjgkpkfngaaGreatDoorGE
import Derived.Deep.WholeRow
import Derived.Deep.CutBlock
import Derived.Test.YtbjpnjgkpkfngaaGreatDoorGA
import Derived.Test.YtbjpnjgkpkfngaaGreatDoorConf8
import Derived.Test.YtbjpnjgkpkfngaaGreatDoorGC
import Derived.Test.YtbjpnjgkpkfngaaGreatDoorGB
import Derived.Deep.RegionHeld3
namespace Go.Proofs.YtbjpnjgkpkfngaaGreatDoor
open Go Go.RowKit

def kindsA : Array Value := #[.string { data := #[109, 97, 99, 104, 105, 110, 101] }, .int .i64 1, .int .i64 1, .int .i64 4, .func (.func 51) #[] #[], .string { data := #[109, 97, 105, 108, 98, 111, 120] }, .int .i64 0, .int .i64 9223372036854775807, .int .i64 1, .func (.func 52) #[] #[], .string { data := #[103, 114, 111, 117, 112, 115] }, .int .i64 0, .int .i64 1, .int .i64 1, .func (.func 53) #[] #[], .string { data := #[99, 111, 117, 110, 116] }, .int .i64 0, .int .i64 9223372036854775807, .int .i64 1, .func (.func 54) #[] #[], .string { data := #[99, 101, 105, 108, 105, 110, 103] }, .int .i64 0, .int .i64 9223372036854775807, .int .i64 1, .func (.func 55) #[] #[], .string { data := #[116, 97, 115, 107] }, .int .i64 0, .int .i64 9223372036854775807, .int .i64 6, .func (.func 56) #[] #[], .string { data := #[108, 105, 110, 101] }, .int .i64 0, .int .i64 9223372036854775807, .int .i64 1, .func (.func 57) #[] #[]]
def zerosA : Array Value := #[.string ByteArray.empty, .int .i64 0, .int .i64 0, .int .i64 0, .nilFunc, .string ByteArray.empty, .int .i64 0, .int .i64 0, .int .i64 0, .nilFunc, .string ByteArray.empty, .int .i64 0, .int .i64 0, .int .i64 0, .nilFunc, .string ByteArray.empty, .int .i64 0, .int .i64 0, .int .i64 0, .nilFunc, .string ByteArray.empty, .int .i64 0, .int .i64 0, .int .i64 0, .nilFunc, .string ByteArray.empty, .int .i64 0, .int .i64 0, .int .i64 0, .nilFunc, .string ByteArray.empty, .int .i64 0, .int .i64 0, .int .i64 0, .nilFunc]
theorem wpList_store_new {P : Program} {ops : Array Oper} {rest : List Oper} {op : Oper} {a : Act} {Q : Exit → Act → World → Prop} (hgd : op.guard = none) (ty : TypeId) (x y : Operand) (ho : op.op = .store ty x y) (w : World) (c c' : Array Value)
    (hx : a.eval x = .pointer (some ⟨w.heap.size, 0, none⟩)) (hy : a.eval y = .agg c') (hi : (P.info? ty).map (·.size) = some c'.size) (hc : c.size = c'.size) (h1 : c'.all (·.oneCell') = true)
    (h : wpList P ops Q rest (a.put op.dst undef) (w.alloc (.cells c' ty))) : wpList P ops Q (op :: rest) a (w.alloc (.cells c ty)) :=
  wpList_plain hgd fun K hK => by
    unfold Oper.wp execOp
    simp only [ho, hx, hy, Instr.storeAt, Instr.sureAddr, Sem.run_bind, Sem.run_pure, Result.andThen_ok, run_storeVar_new w ty c c' hi hc h1]
    exact hK _ _ h
set_option maxRecDepth 100000 in
set_option maxHeartbeats 4000000 in
theorem kinds_any (w : World) : Calls Tryz.prog 32 #[] w (fun e w' => e = .returned (.agg kindsA) ∧ w' = w.alloc (.cells kindsA 61)) := by
  go_enter Tryz.func32, Tryz.ntmps32
  go_upto_region 1 with fail
  refine wp_region_list ?_
  iterate 8 (refine wpList_plain rfl fun K hK => ?_; go_simp; refine hK _ _ ?_; clear hK)
  refine wpList_store_new rfl 61 _ _ rfl w zerosA kindsA rfl rfl (by kernel_rfl) rfl (by kernel_rfl) ?_
  go_wp2
  refine bodyPost_ret (v := .agg kindsA) ?_ rfl ⟨rfl, rfl⟩
  exact results_cell_row Tryz.results32 _ _ w.heap.size 61 kindsA (0, 0) _ rfl (heap_alloc_new _ _) Tryz.underlying61 rfl (by kernel_rfl)
theorem kind_at0 (w : World) : (Instr.index 61 (.agg kindsA) (.int .i64 0)).run Tryz.prog w = .ok (.agg #[.string (toBA wMachine), .int .i64 1, .int .i64 1, .int .i64 4, .func (.func 51) #[] #[]]) w := by kernel_rfl
theorem kind_at1 (w : World) : (Instr.index 61 (.agg kindsA) (.int .i64 1)).run Tryz.prog w = .ok (.agg #[.string (toBA wMailbox), .int .i64 0, .int .i64 9223372036854775807, .int .i64 1, .func (.func 52) #[] #[]]) w := by kernel_rfl
theorem kind_at2 (w : World) : (Instr.index 61 (.agg kindsA) (.int .i64 2)).run Tryz.prog w = .ok (.agg #[.string (toBA wGroups), .int .i64 0, .int .i64 1, .int .i64 1, .func (.func 53) #[] #[]]) w := by kernel_rfl
theorem kind_at3 (w : World) : (Instr.index 61 (.agg kindsA) (.int .i64 3)).run Tryz.prog w = .ok (.agg #[.string (toBA wCount), .int .i64 0, .int .i64 9223372036854775807, .int .i64 1, .func (.func 54) #[] #[]]) w := by kernel_rfl
theorem kind_at4 (w : World) : (Instr.index 61 (.agg kindsA) (.int .i64 4)).run Tryz.prog w = .ok (.agg #[.string (toBA wCeiling), .int .i64 0, .int .i64 9223372036854775807, .int .i64 1, .func (.func 55) #[] #[]]) w := by kernel_rfl
theorem kind_at5 (w : World) : (Instr.index 61 (.agg kindsA) (.int .i64 5)).run Tryz.prog w = .ok (.agg #[.string (toBA wTask), .int .i64 0, .int .i64 9223372036854775807, .int .i64 6, .func (.func 56) #[] #[]]) w := by kernel_rfl
theorem kind_at6 (w : World) : (Instr.index 61 (.agg kindsA) (.int .i64 6)).run Tryz.prog w = .ok (.agg #[.string (toBA wLine), .int .i64 0, .int .i64 9223372036854775807, .int .i64 1, .func (.func 57) #[] #[]]) w := by kernel_rfl
end Go.Proofs.YtbjpnjgkpkfngaaGreatDoor
namespace Go.Proofs.YtbjpnjgkpkfngaaGreatDoor
open Go Go.RowKit

def R6 (d : ConfL) : List UInt8 := linesL wLine d.li
def R5 (d : ConfL) (pl : Tks) : List UInt8 := tasksL pl ++ R6 d
def R4 (d : ConfL) (pl : Tks) : List UInt8 := linesL wCeiling d.ce ++ R5 d pl
def R3 (d : ConfL) (pl : Tks) : List UInt8 := linesL wCount d.cn ++ R4 d pl
def R2 (c : ConfV) (d : ConfL) (pl : Tks) : List UInt8 := groupsL c ++ R3 d pl
def R1 (c : ConfV) (d : ConfL) (pl : Tks) : List UInt8 := linesL wMailbox d.mb ++ R2 c d pl
def R0 (c : ConfV) (d : ConfL) (pl : Tks) : List UInt8 := headL wMachine [c.s, c.wy, c.h, c.mi] ++ 10 :: R1 c d pl
theorem confT_R0 (c : ConfV) (d : ConfL) (pl : Tks) : confT c d pl = R0 c d pl := by
  unfold confT txt5 txt4 txt3 txt2 txt1 txt0 R0 R1 R2 R3 R4 R5 R6
  simp
def rst (c : ConfV) (d : ConfL) (pl : Tks) : Nat → List UInt8
  | 0 => R0 c d pl
  | 1 => R1 c d pl
  | 2 => R2 c d pl
  | 3 => R3 d pl
  | 4 => R4 d pl
  | 5 => R5 d pl
  | 6 => R6 d
  | _ => []

/-! What a rest begins with. -/
def Pre (ws : List (List UInt8)) (r : List UInt8) : Prop := r = [] ∨ ∃ x ∈ ws, ∃ y, r = x ++ y
theorem Pre.mono {ws vs : List (List UInt8)} {r : List UInt8} (h : Pre ws r) (hs : ∀ x ∈ ws, x ∈ vs) : Pre vs r := by
  rcases h with h | ⟨x, hx, y, h⟩
  · exact .inl h
  · exact .inr ⟨x, hs x hx, y, h⟩
theorem Pre.no {ws : List (List UInt8)} {r w : List UInt8} (h : Pre ws r) (h0 : Lib.hasPrefix [] w = false) (hs : ∀ x ∈ ws, ∀ y, Lib.hasPrefix (x ++ y) w = false) : Lib.hasPrefix r w = false := by
  rcases h with h | ⟨x, hx, y, h⟩
  · rw [h]; exact h0
  · rw [h]; exact hs x hx y
theorem pre_lines (w : List UInt8) {ws : List (List UInt8)} (l : List Int) {r : List UInt8} (h : Pre ws r) : Pre (w :: ws) (linesL w l ++ r) := by
  cases l with
  | nil => exact h.mono (fun x hx => by simp [hx])
  | cons a l => exact .inr ⟨w, by simp, numsL [a] ++ ([10] ++ (linesL w l ++ r)), by simp [linesL, headL]⟩
theorem pre_R6 (d : ConfL) : Pre [wLine] (R6 d) := by
  have := pre_lines wLine d.li (ws := []) (r := []) (.inl rfl)
  rwa [List.append_nil] at this
theorem pre_R5 (d : ConfL) (pl : Tks) : Pre [wTask, wLine] (R5 d pl) := by
  cases pl with
  | nil => exact (pre_R6 d).mono (fun x hx => by simp at hx; simp [hx])
  | cons a l => exact .inr ⟨wTask, by simp, numsL a.1.nums ++ ((32 :: (progT a.2 ++ [10])) ++ (tasksL l ++ R6 d)), by simp [R5, tasksL, taskL, headL, wTask]⟩
theorem pre_R4 (d : ConfL) (pl : Tks) : Pre [wCeiling, wTask, wLine] (R4 d pl) := pre_lines wCeiling d.ce (pre_R5 d pl)
theorem pre_R3 (d : ConfL) (pl : Tks) : Pre [wCount, wCeiling, wTask, wLine] (R3 d pl) := pre_lines wCount d.cn (pre_R4 d pl)
theorem pre_R2 (c : ConfV) (d : ConfL) (pl : Tks) : Pre [wGroups, wCount, wCeiling, wTask, wLine] (R2 c d pl) := by
  unfold R2 groupsL
  split
  · exact (pre_R3 d pl).mono (fun x hx => List.mem_cons_of_mem _ hx)
  · exact pre_lines wGroups [c.g] (pre_R3 d pl)
theorem no_R6 (d : ConfL) : Lib.hasPrefix (R6 d) wTask = false := (pre_R6 d).no rfl (fun x hx y => by simp at hx; rcases hx with rfl; rfl)
theorem no_R5 (d : ConfL) (pl : Tks) : Lib.hasPrefix (R5 d pl) wCeiling = false := (pre_R5 d pl).no rfl (fun x hx y => by simp at hx; rcases hx with rfl | rfl <;> rfl)
theorem no_R4 (d : ConfL) (pl : Tks) : Lib.hasPrefix (R4 d pl) wCount = false := (pre_R4 d pl).no rfl (fun x hx y => by simp at hx; rcases hx with rfl | rfl | rfl <;> rfl)
theorem no_R3 (d : ConfL) (pl : Tks) : Lib.hasPrefix (R3 d pl) wGroups = false := (pre_R3 d pl).no rfl (fun x hx y => by simp at hx; rcases hx with rfl | rfl | rfl | rfl <;> rfl)
theorem no_R2 (c : ConfV) (d : ConfL) (pl : Tks) : Lib.hasPrefix (R2 c d pl) wMailbox = false := (pre_R2 c d pl).no rfl (fun x hx y => by simp at hx; rcases hx with rfl | rfl | rfl | rfl | rfl <;> rfl)

/-- What the text's configuration keeps to. -/
structure Fit (c : ConfV) (d : ConfL) (pl : Tks) : Prop where
  f : FineC c d pl
  mb : d.mb.length ≤ 4
  cn : d.cn.length ≤ 4
  ce : d.ce.length ≤ 4
  li : d.li.length ≤ 8
  pl : pl.length = c.ta.n
theorem Fit.tasks {c : ConfV} {d : ConfL} {pl : Tks} (h : Fit c d pl) : ∀ (i : Nat) t l, pl[i]? = some (t, l) → Few9 t.nums ∧ FineP l ∧ 0 < l.length := fun i t l ht => h.f.ts i t l (by rw [← h.pl]; exact (List.getElem?_eq_some_iff.1 ht).1) ht
theorem Fit.lens {c : ConfV} {d : ConfL} {pl : Tks} (h : Fit c d pl) : (R6 d).length ≤ 200 ∧ (R5 d pl).length ≤ 53000 ∧ (R4 d pl).length ≤ 53100 ∧ (R3 d pl).length ≤ 53200 ∧ (R2 c d pl).length ≤ 53300 ∧ (R1 c d pl).length ≤ 53400 := by
  have h1 := linesL_len wMailbox d.mb h.f.mb.1
  have h2 : (groupsL c).length ≤ 17 := by
    unfold groupsL
    split
    · simp
    · exact linesL_len wGroups [c.g] (fun n hn => by simp at hn; subst hn; have := h.f.g; omega)
  have h3 := linesL_len wCount d.cn h.f.cn.1
  have h4 := linesL_len wCeiling d.ce h.f.ce.1
  have h5 := tasksL_len pl h.tasks
  have h6 := linesL_len wLine d.li h.f.li.1
  have b1 := h.mb
  have b3 := h.cn
  have b4 := h.ce
  have b5 := h.pl
  have b6 := h.li
  have bn := h.f.n.2
  have w1 : wMailbox.length = 7 := rfl
  have w3 : wCount.length = 5 := rfl
  have w4 : wCeiling.length = 7 := rfl
  have w6 : wLine.length = 4 := rfl
  rw [w1] at h1
  rw [w3] at h3
  rw [w4] at h4
  rw [w6] at h6
  have e6 : (R6 d).length = (linesL wLine d.li).length := rfl
  have e5 : (R5 d pl).length = (tasksL pl).length + (R6 d).length := List.length_append ..
  have e4 : (R4 d pl).length = (linesL wCeiling d.ce).length + (R5 d pl).length := List.length_append ..
  have e3 : (R3 d pl).length = (linesL wCount d.cn).length + (R4 d pl).length := List.length_append ..
  have e2 : (R2 c d pl).length = (groupsL c).length + (R3 d pl).length := List.length_append ..
  have e1 : (R1 c d pl).length = (linesL wMailbox d.mb).length + (R2 c d pl).length := List.length_append ..
  have hp : pl.length ≤ 8 := by omega
  refine ⟨?_, ?_, ?_, ?_, ?_, ?_⟩ <;> omega

/-- Ints that were read. -/
def IW (w : World) (x : Sl) (l : List Int) : Prop := x.n = l.length ∧ ∃ h, Win w 3 1 (.slice x.A x.n x.cap) h x.n (l.map mkI)
/-- Tasks that were read. -/
def TW (w : World) (x : Sl) (ts : List TaskV) (pl : Tks) : Prop := x.n = pl.length ∧ ts.length = pl.length ∧ (∃ h, Win w 45 7 (.slice x.A x.n x.cap) h x.n (tsCells ts)) ∧ ProgsW 0 w pl ts pl.length
section
variable {w w' : World} {D : Nat} {e : ConfV} {r : List UInt8}
theorem IW.kept {x : Sl} {l : List Int} (h : IW w x l) (hd : DraftAt w D e r) (ho : Only (fun j => j = D) w w') : IW w' x l := by
  obtain ⟨hn, g, hW⟩ := h
  exact ⟨hn, g, hW.kept ho (fun k hk he => hd.ne hW (by decide) (by rw [hk, he]))⟩
theorem TW.kept {x : Sl} {ts : List TaskV} {pl : Tks} (h : TW w x ts pl) (hd : DraftAt w D e r) (ho : Only (fun j => j = D) w w') : TW w' x ts pl := by
  obtain ⟨hn, hl, ⟨g, hW⟩, hp⟩ := h
  exact ⟨hn, hl, ⟨g, hW.kept ho (fun k hk he => hd.ne hW (by decide) (by rw [hk, he]))⟩, hp.kept ho (fun n v hp xs hW' j hj he => hd.ne hW' (by decide) (by rw [hj, he]))⟩
end

/-- What is read behind k kinds. -/
structure St (W1 : World) (D : Nat) (c : ConfV) (d : ConfL) (pl : Tks) (k : Nat) (e : ConfV) (ts : List TaskV) (wr : World) : Prop where
  draft : DraftAt wr D e (rst c d pl k)
  m : 1 ≤ k → e.s = c.s ∧ e.wy = c.wy ∧ e.h = c.h ∧ e.mi = c.mi
  mb0 : k < 2 → e.mb = ⟨none, 0, 0⟩
  mb : 2 ≤ k → IW wr e.mb d.mb
  g0 : k < 3 → e.g = 0
  g : 3 ≤ k → e.g = c.g
  cn0 : k < 4 → e.cn = ⟨none, 0, 0⟩
  cn : 4 ≤ k → IW wr e.cn d.cn
  ce0 : k < 5 → e.ce = ⟨none, 0, 0⟩
  ce : 5 ≤ k → IW wr e.ce d.ce
  ta0 : k < 6 → e.ta = ⟨none, 0, 0⟩
  ta : 6 ≤ k → TW wr e.ta ts pl
  li0 : k < 7 → e.li = ⟨none, 0, 0⟩
  li : 7 ≤ k → IW wr e.li d.li
  only : Only (fun j => j = D) W1 wr
def StX (W1 : World) (D : Nat) (c : ConfV) (d : ConfL) (pl : Tks) (k : Nat) (wr : World) : Prop := ∃ e ts, St W1 D c d pl k e ts wr
theorem only_D {D : Nat} {w w' : World} (ho : Only (fun _ => False) w w') : Only (fun j => j = D) w w' := ho.mono (fun _ _ h => h.elim)
theorem StX.new {W1 w w' : World} {D : Nat} {c : ConfV} {d : ConfL} {pl : Tks} {k : Nat} (h : StX W1 D c d pl k w) (ho : Only (fun _ => False) w w') : StX W1 D c d pl k w' := by
  obtain ⟨e, ts, h⟩ := h
  have o := only_D (D := D) ho
  exact ⟨e, ts, h.draft.kept ho (fun h => h), h.m, h.mb0, fun hk => (h.mb hk).kept h.draft o, h.g0, h.g, h.cn0, fun hk => (h.cn hk).kept h.draft o, h.ce0, fun hk => (h.ce hk).kept h.draft o, h.ta0, fun hk => (h.ta hk).kept h.draft o, h.li0, fun hk => (h.li hk).kept h.draft o, h.only.trans' o⟩

/-- One kind's reading. -/
def Step (W1 : World) (D : Nat) (c : ConfV) (d : ConfL) (pl : Tks) (k : Nat) (e : Ending) (w' : World) : Prop := e = .returned (.bool true) ∧ StX W1 D c d pl (k + 1) w'
section
variable {W1 w : World} {D : Nat} {c : ConfV} {d : ConfL} {pl : Tks}
theorem step0 (hb : Bas w) (hf : Fit c d pl) (hD : 3 ≤ D) (h : StX W1 D c d pl 0 w) :
    Calls Tryz.prog 33 #[.pointer (some ⟨D, 0, none⟩), .agg #[.string (toBA wMachine), .int .i64 1, .int .i64 1, .int .i64 4, .func (.func 51) #[] #[]]] w (Step W1 D c d pl 0) := by
  obtain ⟨e, ts, h⟩ := h
  have hl := hf.lens
  refine (mach_read hb (c := e) c.s c.wy c.h c.mi (tail := R1 c d pl) h.draft hf.f.m (by omega) hD).mono fun r w' ⟨h1, h2, h3⟩ => ⟨h1, _, ts, h2, fun _ => ⟨rfl, rfl, rfl, rfl⟩, fun _ => h.mb0 (by decide), fun hk => absurd hk (by decide), fun _ => h.g0 (by decide), fun hk => absurd hk (by decide), fun _ => h.cn0 (by decide), fun hk => absurd hk (by decide), fun _ => h.ce0 (by decide), fun hk => absurd hk (by decide), fun _ => h.ta0 (by decide), fun hk => absurd hk (by decide), fun _ => h.li0 (by decide), fun hk => absurd hk (by decide), h.only.trans' h3⟩
theorem step1 (hb : Bas w) (hf : Fit c d pl) (hD : 3 ≤ D) (h : StX W1 D c d pl 1 w) :
    Calls Tryz.prog 33 #[.pointer (some ⟨D, 0, none⟩), .agg #[.string (toBA wMailbox), .int .i64 0, .int .i64 9223372036854775807, .int .i64 1, .func (.func 52) #[] #[]]] w (Step W1 D c d pl 1) := by
  obtain ⟨e, ts, h⟩ := h
  have hl := hf.lens
  have b := hf.mb
  refine (mailbox_read hb (c := e) (l := d.mb) (tail := R2 c d pl) (M := 9223372036854775807) h.draft (h.mb0 (by decide)) hf.f.mb.1 (by omega) (no_R2 c d pl) (by omega) (by omega) hD).mono fun r w' ⟨h1, p, cap, hh, h2, h3, _, h4⟩ => ⟨h1, _, ts, h2, fun _ => h.m (by decide), fun hk => absurd hk (by decide), fun _ => ⟨rfl, hh, h3⟩, fun _ => h.g0 (by decide), fun hk => absurd hk (by decide), fun _ => h.cn0 (by decide), fun hk => absurd hk (by decide), fun _ => h.ce0 (by decide), fun hk => absurd hk (by decide), fun _ => h.ta0 (by decide), fun hk => absurd hk (by decide), fun _ => h.li0 (by decide), fun hk => absurd hk (by decide), h.only.trans' h4⟩
theorem step2 (hb : Bas w) (hf : Fit c d pl) (hD : 3 ≤ D) (h : StX W1 D c d pl 2 w) :
    Calls Tryz.prog 33 #[.pointer (some ⟨D, 0, none⟩), .agg #[.string (toBA wGroups), .int .i64 0, .int .i64 1, .int .i64 1, .func (.func 53) #[] #[]]] w (Step W1 D c d pl 2) := by
  obtain ⟨e, ts, h⟩ := h
  have hl := hf.lens
  by_cases hg : c.g = 0
  · have e2 : R2 c d pl = R3 d pl := by unfold R2 groupsL; rw [if_pos hg]; rfl
    have hd : DraftAt w D e (R3 d pl) := e2 ▸ h.draft
    refine (none_read (c := e) (word := wGroups) (lo := 0) (M := 1) (m := 1) (f := 53) hd (no_R3 d pl) (by decide)).mono fun r w' ⟨h1, h4⟩ => ⟨h1, e, ts, hd.kept h4 (fun h => h), fun _ => h.m (by decide), fun hk => absurd hk (by decide), fun _ => (h.mb (by decide)).kept hd (only_D h4), fun hk => absurd hk (by decide), fun _ => (h.g0 (by decide)).trans hg.symm, fun _ => h.cn0 (by decide), fun hk => absurd hk (by decide), fun _ => h.ce0 (by decide), fun hk => absurd hk (by decide), fun _ => h.ta0 (by decide), fun hk => absurd hk (by decide), fun _ => h.li0 (by decide), fun hk => absurd hk (by decide), h.only.trans' (only_D h4)⟩
  · have e2 : R2 c d pl = headL wGroups [c.g] ++ 10 :: R3 d pl := by
      unfold R2 groupsL
      rw [if_neg hg]
      simp [linesL]
    have hd : DraftAt w D e (headL wGroups [c.g] ++ 10 :: R3 d pl) := e2 ▸ h.draft
    have hg4 := hf.f.g
    refine (grp_read hb (c := e) c.g (tail := R3 d pl) hd (fun n hn => by simp at hn; subst hn; omega) hg (by omega) hD).mono fun r w' ⟨h1, h2, h4⟩ => ⟨h1, _, ts, h2, fun _ => h.m (by decide), fun hk => absurd hk (by decide), fun _ => (h.mb (by decide)).kept hd h4, fun hk => absurd hk (by decide), fun _ => rfl, fun _ => h.cn0 (by decide), fun hk => absurd hk (by decide), fun _ => h.ce0 (by decide), fun hk => absurd hk (by decide), fun _ => h.ta0 (by decide), fun hk => absurd hk (by decide), fun _ => h.li0 (by decide), fun hk => absurd hk (by decide), h.only.trans' h4⟩
theorem step3 (hb : Bas w) (hf : Fit c d pl) (hD : 3 ≤ D) (h : StX W1 D c d pl 3 w) :
    Calls Tryz.prog 33 #[.pointer (some ⟨D, 0, none⟩), .agg #[.string (toBA wCount), .int .i64 0, .int .i64 9223372036854775807, .int .i64 1, .func (.func 54) #[] #[]]] w (Step W1 D c d pl 3) := by
  obtain ⟨e, ts, h⟩ := h
  have hl := hf.lens
  have b := hf.cn
  refine (count_read hb (c := e) (l := d.cn) (tail := R4 d pl) (M := 9223372036854775807) h.draft (h.cn0 (by decide)) hf.f.cn.1 (by omega) (no_R4 d pl) (by omega) (by omega) hD).mono fun r w' ⟨h1, p, cap, hh, h2, h3, _, h4⟩ => ⟨h1, _, ts, h2, fun _ => h.m (by decide), fun hk => absurd hk (by decide), fun _ => (h.mb (by decide)).kept h.draft h4, fun hk => absurd hk (by decide), fun _ => h.g (by decide), fun hk => absurd hk (by decide), fun _ => ⟨rfl, hh, h3⟩, fun _ => h.ce0 (by decide), fun hk => absurd hk (by decide), fun _ => h.ta0 (by decide), fun hk => absurd hk (by decide), fun _ => h.li0 (by decide), fun hk => absurd hk (by decide), h.only.trans' h4⟩
theorem step4 (hb : Bas w) (hf : Fit c d pl) (hD : 3 ≤ D) (h : StX W1 D c d pl 4 w) :
    Calls Tryz.prog 33 #[.pointer (some ⟨D, 0, none⟩), .agg #[.string (toBA wCeiling), .int .i64 0, .int .i64 9223372036854775807, .int .i64 1, .func (.func 55) #[] #[]]] w (Step W1 D c d pl 4) := by
  obtain ⟨e, ts, h⟩ := h
  have hl := hf.lens
  have b := hf.ce
  refine (ceiling_read hb (c := e) (l := d.ce) (tail := R5 d pl) (M := 9223372036854775807) h.draft (h.ce0 (by decide)) hf.f.ce.1 (by omega) (no_R5 d pl) (by omega) (by omega) hD).mono fun r w' ⟨h1, p, cap, hh, h2, h3, _, h4⟩ => ⟨h1, _, ts, h2, fun _ => h.m (by decide), fun hk => absurd hk (by decide), fun _ => (h.mb (by decide)).kept h.draft h4, fun hk => absurd hk (by decide), fun _ => h.g (by decide), fun hk => absurd hk (by decide), fun _ => (h.cn (by decide)).kept h.draft h4, fun hk => absurd hk (by decide), fun _ => ⟨rfl, hh, h3⟩, fun _ => h.ta0 (by decide), fun hk => absurd hk (by decide), fun _ => h.li0 (by decide), fun hk => absurd hk (by decide), h.only.trans' h4⟩
theorem step5 (hb : Bas w) (hf : Fit c d pl) (hD : 3 ≤ D) (h : StX W1 D c d pl 5 w) :
    Calls Tryz.prog 33 #[.pointer (some ⟨D, 0, none⟩), .agg #[.string (toBA wTask), .int .i64 0, .int .i64 9223372036854775807, .int .i64 6, .func (.func 56) #[] #[]]] w (Step W1 D c d pl 5) := by
  obtain ⟨e, ts, h⟩ := h
  have hl := hf.lens
  have b := hf.pl
  have bn := hf.f.n
  refine (tasks_read hb (c := e) (pl := pl) (tail := R6 d) (M := 9223372036854775807) h.draft (h.ta0 (by decide)) hf.tasks (by omega) (no_R6 d) (by omega) (by omega) hD).mono fun r w' ⟨h1, p, cap, hh, ts', h2, h3, h5, h6, _, h4⟩ => ⟨h1, _, ts', h2, fun _ => h.m (by decide), fun hk => absurd hk (by decide), fun _ => (h.mb (by decide)).kept h.draft h4, fun hk => absurd hk (by decide), fun _ => h.g (by decide), fun hk => absurd hk (by decide), fun _ => (h.cn (by decide)).kept h.draft h4, fun hk => absurd hk (by decide), fun _ => (h.ce (by decide)).kept h.draft h4, fun hk => absurd hk (by decide), fun _ => ⟨rfl, h5, ⟨hh, h3⟩, fun i t l hi ht => by
      obtain ⟨pp, pc, hp, g1, g2, _⟩ := h6 i t l hi ht
      exact ⟨pp, pc, hp, g1, g2, fun _ _ => Nat.zero_le _⟩⟩, fun _ => h.li0 (by decide), fun hk => absurd hk (by decide), h.only.trans' h4⟩
theorem step6 (hb : Bas w) (hf : Fit c d pl) (hD : 3 ≤ D) (h : StX W1 D c d pl 6 w) :
    Calls Tryz.prog 33 #[.pointer (some ⟨D, 0, none⟩), .agg #[.string (toBA wLine), .int .i64 0, .int .i64 9223372036854775807, .int .i64 1, .func (.func 57) #[] #[]]] w (Step W1 D c d pl 6) := by
  obtain ⟨e, ts, h⟩ := h
  have b := hf.li
  have hd : DraftAt w D e (linesL wLine d.li ++ []) := by rw [List.append_nil]; exact h.draft
  refine (line_read hb (c := e) (l := d.li) (tail := []) (M := 9223372036854775807) hd (h.li0 (by decide)) hf.f.li.1 (by omega) rfl (by simp) (by omega) hD).mono fun r w' ⟨h1, p, cap, hh, h2, h3, _, h4⟩ => ⟨h1, _, ts, h2, fun _ => h.m (by decide), fun hk => absurd hk (by decide), fun _ => (h.mb (by decide)).kept h.draft h4, fun hk => absurd hk (by decide), fun _ => h.g (by decide), fun hk => absurd hk (by decide), fun _ => (h.cn (by decide)).kept h.draft h4, fun hk => absurd hk (by decide), fun _ => (h.ce (by decide)).kept h.draft h4, fun hk => absurd hk (by decide), fun _ => (h.ta (by decide)).kept h.draft h4, fun hk => absurd hk (by decide), fun _ => ⟨rfl, hh, h3⟩, h.only.trans' h4⟩
end
end Go.Proofs.YtbjpnjgkpkfngaaGreatDoor
namespace Go.Proofs.YtbjpnjgkpkfngaaGreatDoor
open Go Go.RowKit

/-- Two configurations over the same objects whose numbers and programs are the same. -/
structure Alike (c e : ConfV) (pl ql : Tks) : Prop where
  head : headP c e
  mb : c.mb.n = e.mb.n
  cn : c.cn.n = e.cn.n
  ce : c.ce.n = e.ce.n
  ta : c.ta.n = e.ta.n
  li : c.li.n = e.li.n
  len : pl.length = ql.length
  at_ : ∀ (i : Nat) t l, pl[i]? = some (t, l) → ∃ t', ql[i]? = some (t', l) ∧ figP t t'
theorem Alike.prios {c e : ConfV} {pl ql : Tks} (h : Alike c e pl ql) : pl.ts.map (·.p) = ql.ts.map (·.p) := by
  unfold Tks.ts
  apply List.ext_getElem?
  intro i
  rw [List.map_map, List.map_map, List.getElem?_map, List.getElem?_map]
  cases hi : pl[i]? with
  | none =>
    have : ql[i]? = none := List.getElem?_eq_none (by have := List.getElem?_eq_none_iff.1 hi; have := h.len; omega)
    rw [this]
  | some x =>
    obtain ⟨t, l⟩ := x
    obtain ⟨t', h1, h2⟩ := h.at_ i t l hi
    rw [h1]
    simp [h2.1]
theorem any_prio (ts : List TaskV) (i : Nat) (p : Int) : ((ts.take i).any fun u => decide (u.p = p)) = (((ts.map (·.p)).take i).any fun z => decide (z = p)) := by
  rw [← List.map_take, List.any_map]
  rfl
theorem Alike.zero {c e : ConfV} {d : ConfL} {pl ql : Tks} (h : Alike c e pl ql) : confZ e d ql = confZ c d pl := by
  obtain ⟨h1, h2, h3, h4, h5⟩ := h.head
  have hroom : e.room = c.room := by unfold ConfV.room; rw [h.mb, h5, h.cn, h.ce]
  have hmany : manyB e = manyB c := by unfold manyB; rw [h.mb, h5, h.cn, h.ce, h.ta, h.li]
  have hobj : objB e d = objB c d := by unfold objB; rw [h.ta]
  have htask : taskAt e.room d.ce ql = taskAt c.room d.ce pl := by
    funext i
    unfold taskAt
    cases hi : pl[i]? with
    | none =>
      have : ql[i]? = none := List.getElem?_eq_none (by have := List.getElem?_eq_none_iff.1 hi; have := h.len; omega)
      rw [this]
    | some x =>
      obtain ⟨t, l⟩ := x
      obtain ⟨t', g1, g2⟩ := h.at_ i t l hi
      rw [g1]
      obtain ⟨k1, k2, k3, k4, k5, k6⟩ := g2
      show taskZ e.room d.ce ql.ts i t' l = taskZ c.room d.ce pl.ts i t l
      unfold taskZ TaskV.okB
      rw [hroom, any_prio, any_prio, h.prios, k1, k2, k3, k4, k5, k6]
  unfold confZ
  rw [hmany, hobj, htask, ← h1, ← h2, ← h3, ← h4, ← h5, ← h.ta]
theorem Alike.same {c e : ConfV} {d : ConfL} {pl ql : Tks} (h : Alike c e pl ql) : sameB c d pl e d ql = true := by
  unfold sameB
  have ht : tasksEq pl ql = true := tasksEq_all h.len (fun j x y hx hy => by
    obtain ⟨t, l⟩ := x
    obtain ⟨t', g1, g2⟩ := h.at_ j t l hx
    rw [g1] at hy
    cases hy
    unfold taskEq
    simp [g2])
  rw [ht]
  simp [h.head]

/-! The rows in memory, as the calls are told of them. -/
theorem opCells_at : ∀ (l : List Opn) (k : Nat) (x : Opn), l[k]? = some x → (opCells l)[k * 3]? = some (.int .i64 x.k) ∧ (opCells l)[k * 3 + 1]? = some (.int .i64 x.a) ∧ (opCells l)[k * 3 + 2]? = some (.int .i64 x.b)
  | [], k, x, h => by simp at h
  | y :: l, 0, x, h => by
    simp at h
    subst h
    exact ⟨rfl, rfl, rfl⟩
  | y :: l, k + 1, x, h => by
    have ih := opCells_at l k x (by simpa using h)
    have e : ∀ j, (opCells (y :: l))[(k + 1) * 3 + j]? = (opCells l)[k * 3 + j]? := fun j => by
      rw [show opCells (y :: l) = y.cells ++ opCells l from by simp [opCells], List.getElem?_append_right (by simp [Opn.cells]; omega)]
      congr 1
      simp [Opn.cells]
      omega
    exact ⟨(e 0).trans ih.1, (e 1).trans ih.2.1, (e 2).trans ih.2.2⟩
theorem row_of_win {w : World} {h : Option Nat} {p : Option Addr} {cap : Nat} {l : List Opn} (hW : Win w 69 3 (.slice p l.length cap) h l.length (opCells l)) : OpnRow w p l := by
  intro k x hx
  have hk := (List.getElem?_eq_some_iff.1 hx).1
  obtain ⟨g, off, cap2, hh, hv, hnc, hcm, hlt2, hcell, hfr⟩ := hW.at_ (by omega)
  cases hv
  obtain ⟨h0, h1, h2⟩ := opCells_at l k x hx
  exact ⟨g, off, rfl, hlt2, hcell _ _ h0, hcell _ _ h1, hcell _ _ h2⟩
theorem tsCells_at : ∀ (l : List TaskV) (k : Nat) (x : TaskV), l[k]? = some x → ∀ j u, x.cells[j]? = some u → (tsCells l)[k * 7 + j]? = some u
  | [], k, x, h => by simp at h
  | y :: l, 0, x, h => by
    simp at h
    subst h
    intro j u hu
    rw [show tsCells (y :: l) = y.cells ++ tsCells l from by simp [tsCells], Nat.zero_mul, Nat.zero_add, List.getElem?_append_left (List.getElem?_eq_some_iff.1 hu).1]
    exact hu
  | y :: l, k + 1, x, h => by
    intro j u hu
    have ih := tsCells_at l k x (by simpa using h) j u hu
    rw [show tsCells (y :: l) = y.cells ++ tsCells l from by simp [tsCells], List.getElem?_append_right (by simp [TaskV.cells]; omega), ← ih]
    congr 1
    simp [TaskV.cells]
    omega
theorem IW.ints {w : World} {x : Sl} {l : List Int} (h : IW w x l) : IntsAt w x l := by
  obtain ⟨hn, g, hW⟩ := h
  obtain ⟨A, n, cap⟩ := x
  simp only at hn
  subst hn
  obtain ⟨p, cap', hv, h1, h2⟩ := hW.form
  cases hv
  refine ⟨rfl, h1, fun k z hz => ?_⟩
  have hk := (List.getElem?_eq_some_iff.1 hz).1
  obtain ⟨b, off, cap2, hh, hv, hnc, hcm, hlt2, hcell, hfr⟩ := hW.at_ (by simp only; omega)
  cases hv
  refine ⟨b, off, rfl, hlt2, hcell k _ ?_⟩
  rw [List.getElem?_map, hz]
  rfl
theorem TW.tasks {w : World} {x : Sl} {ts : List TaskV} {pl : Tks} (h : TW w x ts pl) : TasksAt w x ts := by
  obtain ⟨hn, hl, ⟨g, hW⟩, _⟩ := h
  obtain ⟨A, n, cap⟩ := x
  simp only at hn
  subst hn
  obtain ⟨p, cap', hv, h1, h2⟩ := hW.form
  cases hv
  refine ⟨hl, h1, fun k t ht => ?_⟩
  have hk := (List.getElem?_eq_some_iff.1 ht).1
  obtain ⟨b, off, cap2, hh, hv, hnc, hcm, hlt2, hcell, hfr⟩ := hW.at_ (by simp only; omega)
  cases hv
  have hc := fun j u hu => hcell (k * 7 + j) u (tsCells_at ts k t ht j u hu)
  have ha : ∀ j, off + k * 7 + j = off + (k * 7 + j) := fun j => by omega
  refine ⟨b, off, rfl, hlt2, ?_, ?_, ?_, ?_, ?_, ?_, ?_⟩
  · exact hc 0 _ rfl
  · rw [ha]; exact hc 1 _ rfl
  · rw [ha]; exact hc 2 _ rfl
  · rw [ha]; exact hc 3 _ rfl
  · rw [ha]; exact hc 4 _ rfl
  · rw [ha]; exact hc 5 _ rfl
  · rw [ha]; exact hc 6 _ rfl

/-- The sizes of what was written. -/
structure Sized (c : ConfV) (d : ConfL) : Prop where
  mb : c.mb.n = d.mb.length
  cn : c.cn.n = d.cn.length
  ce : c.ce.n = d.ce.length
  li : c.li.n = d.li.length
structure Done (c : ConfV) (d : ConfL) (pl : Tks) (e : ConfV) (ts : List TaskV) (wr : World) : Prop where
  m : e.s = c.s ∧ e.wy = c.wy ∧ e.h = c.h ∧ e.mi = c.mi
  mb : IW wr e.mb d.mb
  g : e.g = c.g
  cn : IW wr e.cn d.cn
  ce : IW wr e.ce d.ce
  ta : TW wr e.ta ts pl
  li : IW wr e.li d.li
theorem St.fin {W1 w : World} {D : Nat} {c e : ConfV} {d : ConfL} {pl : Tks} {ts : List TaskV} (h : St W1 D c d pl 7 e ts w) : Done c d pl e ts w :=
  ⟨h.m (by decide), h.mb (by decide), h.g (by decide), h.cn (by decide), h.ce (by decide), h.ta (by decide), h.li (by decide)⟩
/-- A block that holds a configuration is no row of what was read. -/
theorem Done.kept {w w' : World} {R : Nat} {cs : Array Value} {c e : ConfV} {d : ConfL} {pl : Tks} {ts : List TaskV} (h : Done c d pl e ts w) (hR : w.heap[R]? = some (.cells cs 27 (0, 0))) (ho : Only (fun j => j = R) w w') : Done c d pl e ts w' := by
  have key : ∀ (t : TypeId) (sz n : Nat) v hh xs, Win w t sz v hh n xs → t ≠ 27 → ∀ k, hh = some k → ¬ k = R := fun t sz n v hh xs hW ht k hk he => by
    subst he
    obtain ⟨_, _, _, _, _, _, a⟩ := hW
    rcases a with a | ⟨g, _, L, hg, _, hg2, _⟩
    · rw [a.1] at hk; cases hk
    · rw [hg] at hk
      cases hk
      rw [hR] at hg2
      simp at hg2
      exact ht hg2.2.symm
  have iw : ∀ {x : Sl} {l : List Int}, IW w x l → IW w' x l := fun {x l} h => by
    obtain ⟨hn, g, hW⟩ := h
    exact ⟨hn, g, hW.kept ho (key _ _ _ _ _ _ hW (by decide))⟩
  refine ⟨h.m, iw h.mb, h.g, iw h.cn, iw h.ce, ?_, iw h.li⟩
  obtain ⟨hn, hl, ⟨g, hW⟩, hp⟩ := h.ta
  exact ⟨hn, hl, ⟨g, hW.kept ho (key _ _ _ _ _ _ hW (by decide))⟩, hp.kept ho (fun n v hp xs hW' => key _ _ _ _ _ _ hW' (by decide))⟩
theorem Done.new {w w' : World} {c e : ConfV} {d : ConfL} {pl : Tks} {ts : List TaskV} (h : Done c d pl e ts w) (ho : Only (fun _ => False) w w') : Done c d pl e ts w' := by
  have iw : ∀ {x : Sl} {l : List Int}, IW w x l → IW w' x l := fun {x l} h => by
    obtain ⟨hn, g, hW⟩ := h
    exact ⟨hn, g, hW.kept ho (fun _ _ h => h)⟩
  refine ⟨h.m, iw h.mb, h.g, iw h.cn, iw h.ce, ?_, iw h.li⟩
  obtain ⟨hn, hl, ⟨g, hW⟩, hp⟩ := h.ta
  exact ⟨hn, hl, ⟨g, hW.kept ho (fun _ _ h => h)⟩, hp.kept ho (fun n v hp xs hW' _ _ h => h)⟩
theorem IntsAt.only {S : Nat → Prop} {w w' : World} {x : Sl} {l : List Int} (h : IntsAt w x l) (ho : Only S w w') (hS : ∀ k, S k → w.heap.size ≤ k) : IntsAt w' x l :=
  ⟨h.len, h.cap, fun k z hz => by
    obtain ⟨b, off, hA, hb, hc⟩ := h.at_ k z hz
    exact ⟨b, off, hA, Nat.lt_of_lt_of_le hb ho.size, ho.cell hc (fun hs => by have := hS b hs; omega)⟩⟩
theorem TasksAt.only {S : Nat → Prop} {w w' : World} {x : Sl} {l : List TaskV} (h : TasksAt w x l) (ho : Only S w w') (hS : ∀ k, S k → w.heap.size ≤ k) : TasksAt w' x l :=
  ⟨h.len, h.cap, fun k t ht => by
    obtain ⟨b, off, hA, hb, hc⟩ := h.at_ k t ht
    have hn : ¬ S b := fun hs => by have := hS b hs; omega
    exact ⟨b, off, hA, Nat.lt_of_lt_of_le hb ho.size, ho.cell hc.c0 hn, ho.cell hc.c1 hn, ho.cell hc.c2 hn, ho.cell hc.c3 hn, ho.cell hc.c4 hn, ho.cell hc.c5 hn, ho.cell hc.c6 hn⟩⟩
theorem ConfAt.only {S : Nat → Prop} {w w' : World} {c : ConfV} {d : ConfL} {pl : Tks} (h : ConfAt w c d pl) (ho : Only S w w') (hS : ∀ k, S k → w.heap.size ≤ k) : ConfAt w' c d pl :=
  ⟨⟨h.o.mb.only ho hS, h.o.cn.only ho hS, h.o.ce.only ho hS, h.o.li.only ho hS, h.o.s⟩, h.t.only ho hS, ⟨fun i t l ht => ⟨(h.p.row i t l ht).1.only ho hS, (h.p.row i t l ht).2⟩⟩⟩
theorem Done.conf {w : World} {c e : ConfV} {d : ConfL} {pl : Tks} {ts : List TaskV} (h : Done c d pl e ts w) (hf : Fit c d pl) (hs : Sized c d) : ∃ ql, ConfAt w e d ql ∧ Alike c e pl ql := by
  obtain ⟨⟨hm1, hm2, hm3, hm4⟩, hmb, hg, hcn, hce, hta, hli⟩ := h
  have hp := hta.2.2.2
  have hlen := hta.2.1
  have hat : ∀ (i : Nat) t l, pl[i]? = some (t, l) → ∃ pp pc hp, (ts.zip (pl.map Prod.snd))[i]? = some (tv t pp l.length pc, l) ∧ Win w 69 3 (.slice pp l.length pc) hp l.length (opCells l) := fun i t l hi => by
    obtain ⟨pp, pc, hh, h1, h2, _⟩ := hp i t l (List.getElem?_eq_some_iff.1 hi).1 hi
    refine ⟨pp, pc, hh, ?_, h2⟩
    rw [List.getElem?_zip_eq_some]
    exact ⟨h1, by rw [List.getElem?_map, hi]; rfl⟩
  have hts : Tks.ts (ts.zip (pl.map Prod.snd)) = ts := by
    unfold Tks.ts
    exact List.map_fst_zip (by simp; omega)
  have b1 := hf.mb
  have b2 := hf.cn
  have b3 := hf.ce
  have b4 := hf.li
  have b5 := hf.pl
  have b6 := hf.f.n
  refine ⟨ts.zip (pl.map Prod.snd), ⟨⟨hmb.ints, hcn.ints, hce.ints, hli.ints, by have := hmb.1; have := hcn.1; have := hce.1; have := hli.1; have := hta.1; omega⟩, by rw [hts]; exact hta.tasks, ⟨fun i t l hi => ?_⟩⟩, ⟨hm1.symm, hm2.symm, hm3.symm, hm4.symm, hg.symm⟩, hs.mb.trans hmb.1.symm, hs.cn.trans hcn.1.symm, hs.ce.trans hce.1.symm, b5.symm.trans hta.1.symm, hs.li.trans hli.1.symm, by simp; omega, fun i t l hi => ?_⟩
  · have hi2 : i < pl.length := by
      have := (List.getElem?_eq_some_iff.1 hi).1
      simp at this
      omega
    obtain ⟨x, hx⟩ : ∃ x, pl[i]? = some x := ⟨_, List.getElem?_eq_getElem hi2⟩
    obtain ⟨t0, l0⟩ := x
    obtain ⟨pp, pc, hh, h1, h2⟩ := hat i t0 l0 hx
    have hl := (hf.tasks i t0 l0 hx).2.1.1
    rw [h1] at hi
    cases hi
    obtain ⟨p, cap', hv, g1, g2⟩ := h2.form
    cases hv
    exact ⟨row_of_win h2, rfl, by show l.length ≤ 1000000; omega, g1⟩
  · obtain ⟨pp, pc, hh, h1, _⟩ := hat i t l hi
    exact ⟨_, h1, rfl, rfl, rfl, rfl, rfl, rfl⟩
end Go.Proofs.YtbjpnjgkpkfngaaGreatDoor
namespace Go.Proofs.YtbjpnjgkpkfngaaGreatDoor
open Go Go.RowKit

def zeroC : ConfV := ⟨0, 0, 0, 0, ⟨none, 0, 0⟩, 0, ⟨none, 0, 0⟩, ⟨none, 0, 0⟩, ⟨none, 0, 0⟩, ⟨none, 0, 0⟩⟩
/-- What Parse answers. -/
def PaEnd (c : ConfV) (d : ConfL) (pl : Tks) (w : World) (r : Ending) (w' : World) : Prop :=
  ∃ e ts, r = .returned (.tuple #[e.val, .int .i64 0]) ∧ Done c d pl e ts w' ∧ Only (fun _ => False) w w'
theorem zero_st {w : World} {D : Nat} {c : ConfV} {d : ConfL} {pl : Tks} (h : DraftAt w D zeroC (R0 c d pl)) : StX w D c d pl 0 w :=
  ⟨zeroC, [], h, fun hk => absurd hk (by decide), fun _ => rfl, fun hk => absurd hk (by decide), fun _ => rfl, fun hk => absurd hk (by decide), fun _ => rfl, fun hk => absurd hk (by decide), fun _ => rfl, fun hk => absurd hk (by decide), fun _ => rfl, fun hk => absurd hk (by decide), fun _ => rfl, fun hk => absurd hk (by decide), Only.refl _ _⟩
theorem StX.only {W1 w : World} {D : Nat} {c : ConfV} {d : ConfL} {pl : Tks} {k : Nat} (h : StX W1 D c d pl k w) : Only (fun j => j = D) W1 w := by
  obtain ⟨e, ts, h⟩ := h
  exact h.only

set_option maxRecDepth 100000 in
set_option maxHeartbeats 8000000 in
theorem parse_fine {w : World} (hb : Bas w) {c : ConfV} {d : ConfL} {pl : Tks} (hf : Fit c d pl) (hs : Sized c d) (hz : confZ c d pl = 0) (h3 : 3 ≤ w.heap.size) : Calls Tryz.prog 14 #[.string (toBA (confT c d pl))] w (PaEnd c d pl w) := by
  rw [confT_R0]
  obtain ⟨S, hS⟩ : ∃ S, S = toBA (R0 c d pl) := ⟨_, rfl⟩
  rw [← hS]
  obtain ⟨R, hR⟩ : ∃ R, R = w.heap.size := ⟨_, rfl⟩
  obtain ⟨D, hD⟩ : ∃ D, D = w.heap.size + 1 := ⟨_, rfl⟩
  have hst : ∀ (a : Addr) (W : World) (f : FuncId), Sem.run Tryz.prog (store a (.func (.func f) #[] #[])) W = stored Tryz.prog W a (.func (.func f) #[] #[]) .plain := fun a W f => run_store Tryz.prog W a _ _ rfl
  have hst' := Lib.hid hst
  have hb' := Lib.hid hb
  have hS' := Lib.hid hS
  have hz' := Lib.hid hz
  clear hst hb hS hz
  go_enter Tryz.func14, Tryz.ntmps14
  go_wp2_with fail
  refine (kinds_any _).mono ?_
  rintro r w1 ⟨rfl, hw1⟩
  have hR1 : w1.heap[R]? = some (.cells zeroC.cells.toArray 27 (0, 0)) := by
    rw [hw1]
    exact heap_kept_alloc (heap_kept_alloc (heap_new_at _ _ hR.symm) _) _
  have hD1 : DraftAt w1 D zeroC (R0 c d pl) := by
    rw [hw1]
    unfold DraftAt
    rw [← hS'.out]
    exact heap_kept_alloc (heap_new_at _ _ (by simp [hD])) _
  have hO1 : Only (fun _ => False) w w1 := by
    rw [hw1]
    exact (((Only.refl _ w).alloc _).alloc _).alloc _
  have hSt := Lib.hid (zero_st hD1)
  have hw1' := Lib.hid hO1
  have hR1' := Lib.hid hR1
  have hRD : R ≠ D := by omega
  have hD3 : 3 ≤ D := by omega
  have hwD := Lib.hid (show w.heap.size ≤ R ∧ w.heap.size ≤ D by omega)
  rw [← hR, show R + 1 = D by omega]
  generalize hK0 : kindsA = K
  have hK := Lib.hid hK0
  clear hK0 hw1 hR1 hD1 hO1 hR hD h3
  go_wp2
  go_loopw [6, 12] (fun _ i wr => ∃ k : Nat, k ≤ 7 ∧ i = .int .i64 k ∧ StX w1 D c d pl k wr) (fun _ i _ => 7 - (intOf i).toNat)
  case atStart => exact ⟨0, by omega, rfl, hSt.out⟩
  case round =>
    clear hSt
    obtain ⟨k, hk, rfl, hSk⟩ := hrel
    obtain ⟨ws, hws⟩ : ∃ ws : World, ws = wr := ⟨_, rfl⟩
    subst hws
    have hOk := hSk.only
    have hSk' := Lib.hid hSk
    have hOw := Lib.hid (hw1'.out.trans hOk (fun x hx e => by have := hwD.out; omega))
    clear hSk hOk
    by_cases hk7 : k < 7
    · have hc : k = 0 ∨ k = 1 ∨ k = 2 ∨ k = 3 ∨ k = 4 ∨ k = 5 ∨ k = 6 := by omega
      rcases hc with rfl | rfl | rfl | rfl | rfl | rfl | rfl
      · have hix := kind_at0 ws
        rw [hK.out] at hix
        have hstep := Lib.hid (fun W (ho : Only (fun _ => False) ws W) => step0 ((hb'.out.new hOw.out).new ho) hf hD3 (hSk'.out.new ho))
        have hst := hst'.out
        go_wp2_with fail
        refine (hstep.out _ ((Only.refl _ ws).alloc _)).mono ?_
        rintro r w3 ⟨rfl, hS3⟩
        have hS3' := Lib.hid hS3
        clear hS3 hst hix
        go_wp2
        go_roundw
        case rel => exact ⟨1, by omega, rfl, hS3'.out⟩
        case measure => simp [intOf]
      · have hix := kind_at1 ws
        rw [hK.out] at hix
        have hstep := Lib.hid (fun W (ho : Only (fun _ => False) ws W) => step1 ((hb'.out.new hOw.out).new ho) hf hD3 (hSk'.out.new ho))
        have hst := hst'.out
        go_wp2_with fail
        refine (hstep.out _ ((Only.refl _ ws).alloc _)).mono ?_
        rintro r w3 ⟨rfl, hS3⟩
        have hS3' := Lib.hid hS3
        clear hS3 hst hix
        go_wp2
        go_roundw
        case rel => exact ⟨2, by omega, rfl, hS3'.out⟩
        case measure => simp [intOf]
      · have hix := kind_at2 ws
        rw [hK.out] at hix
        have hstep := Lib.hid (fun W (ho : Only (fun _ => False) ws W) => step2 ((hb'.out.new hOw.out).new ho) hf hD3 (hSk'.out.new ho))
        have hst := hst'.out
        go_wp2_with fail
        refine (hstep.out _ ((Only.refl _ ws).alloc _)).mono ?_
        rintro r w3 ⟨rfl, hS3⟩
        have hS3' := Lib.hid hS3
        clear hS3 hst hix
        go_wp2
        go_roundw
        case rel => exact ⟨3, by omega, rfl, hS3'.out⟩
        case measure => simp [intOf]
      · have hix := kind_at3 ws
        rw [hK.out] at hix
        have hstep := Lib.hid (fun W (ho : Only (fun _ => False) ws W) => step3 ((hb'.out.new hOw.out).new ho) hf hD3 (hSk'.out.new ho))
        have hst := hst'.out
        go_wp2_with fail
        refine (hstep.out _ ((Only.refl _ ws).alloc _)).mono ?_
        rintro r w3 ⟨rfl, hS3⟩
        have hS3' := Lib.hid hS3
        clear hS3 hst hix
        go_wp2
        go_roundw
        case rel => exact ⟨4, by omega, rfl, hS3'.out⟩
        case measure => simp [intOf]
      · have hix := kind_at4 ws
        rw [hK.out] at hix
        have hstep := Lib.hid (fun W (ho : Only (fun _ => False) ws W) => step4 ((hb'.out.new hOw.out).new ho) hf hD3 (hSk'.out.new ho))
        have hst := hst'.out
        go_wp2_with fail
        refine (hstep.out _ ((Only.refl _ ws).alloc _)).mono ?_
        rintro r w3 ⟨rfl, hS3⟩
        have hS3' := Lib.hid hS3
        clear hS3 hst hix
        go_wp2
        go_roundw
        case rel => exact ⟨5, by omega, rfl, hS3'.out⟩
        case measure => simp [intOf]
      · have hix := kind_at5 ws
        rw [hK.out] at hix
        have hstep := Lib.hid (fun W (ho : Only (fun _ => False) ws W) => step5 ((hb'.out.new hOw.out).new ho) hf hD3 (hSk'.out.new ho))
        have hst := hst'.out
        go_wp2_with fail
        refine (hstep.out _ ((Only.refl _ ws).alloc _)).mono ?_
        rintro r w3 ⟨rfl, hS3⟩
        have hS3' := Lib.hid hS3
        clear hS3 hst hix
        go_wp2
        go_roundw
        case rel => exact ⟨6, by omega, rfl, hS3'.out⟩
        case measure => simp [intOf]
      · have hix := kind_at6 ws
        rw [hK.out] at hix
        have hstep := Lib.hid (fun W (ho : Only (fun _ => False) ws W) => step6 ((hb'.out.new hOw.out).new ho) hf hD3 (hSk'.out.new ho))
        have hst := hst'.out
        go_wp2_with fail
        refine (hstep.out _ ((Only.refl _ ws).alloc _)).mono ?_
        rintro r w3 ⟨rfl, hS3⟩
        have hS3' := Lib.hid hS3
        clear hS3 hst hix
        go_wp2
        go_roundw
        case rel => exact ⟨7, by omega, rfl, hS3'.out⟩
        case measure => simp [intOf]
    · obtain rfl : k = 7 := by omega
      obtain ⟨e, ts, hS7⟩ := hSk'.out
      have hfin := Lib.hid hS7.fin
      have hRs : ws.heap[R]? = some (.cells zeroC.cells.toArray 27 (0, 0)) := hS7.only.heap hR1'.out hRD
      obtain ⟨ql, hcf, hal⟩ := hfin.out.conf hf hs
      have hchk := Lib.hid (confCheck_any (hb'.out.new hOw.out).words hcf)
      rw [hal.zero, hz'.out] at hchk
      obtain ⟨e0, e1, e2, e3, e4, e5, e6, e7, e8, e9, e10, hfz, hlt⟩ := hS7.draft.cells
      rw [show toBA (rst c d pl 7) = ByteArray.empty from rfl] at e10
      have hRs' := Lib.hid hRs
      have hcl := Lib.hid (fun w3 (ho : Only (fun _ => False) ws w3) => And.intro (ho.cell e0 (fun h => h)) (And.intro (ho.cell e1 (fun h => h)) (And.intro (ho.cell e2 (fun h => h)) (And.intro (ho.cell e3 (fun h => h)) (And.intro (ho.cell e4 (fun h => h)) (And.intro (ho.cell e5 (fun h => h)) (And.intro (ho.cell e6 (fun h => h)) (And.intro (ho.cell e7 (fun h => h)) (And.intro (ho.cell e8 (fun h => h)) (ho.cell e9 (fun h => h)))))))))))
      clear hS7 hcf hal hSk' hRs hfz hK hk7 hlt
      go_wp2_with fail
      refine hchk.out.mono ?_
      rintro r w3 ⟨rfl, hO3⟩
      obtain ⟨f0, f1, f2, f3, f4, f5, f6, f7, f8, f9⟩ := hcl.out w3 hO3
      have hO3' := Lib.hid hO3
      have hR3 := hO3.heap hRs'.out (fun h => h)
      have hR3' := Lib.hid hR3
      have g0 := row_cell hR3 (i := 0) rfl
      have g1 := row_cell hR3 (i := 1) rfl
      have g2 := row_cell hR3 (i := 2) rfl
      have g3 := row_cell hR3 (i := 3) rfl
      have g4 := row_cell hR3 (i := 4) rfl
      have g5 := row_cell hR3 (i := 5) rfl
      have g6 := row_cell hR3 (i := 6) rfl
      have g7 := row_cell hR3 (i := 7) rfl
      have g8 := row_cell hR3 (i := 8) rfl
      have g9 := row_cell hR3 (i := 9) rfl
      have hfr := fun i => row_free hR3 i
      clear hO3 hR3
      go_wp2
      generalize hw6 : World.setCell _ _ _ = w6
      have hR6 : w6.heap[R]? = some (.cells e.cells.toArray 27 (0, 0)) := by
        rw [← hw6]
        exact row_set (row_set (row_set (row_set (row_set (row_set (row_set (row_set (row_set (row_set hR3'.out 0 _) 1 _) 2 _) 3 _) 4 _) 5 _) 6 _) 7 _) 8 _) 9 _
      have hO6 : Only (fun j => j = R) ws w6 := by
        rw [← hw6]
        have o := hO3'.out.mono (T := fun j => j = R) (fun _ _ h => h.elim)
        exact (((((((((o.setCell (p := ⟨R, 0, none⟩) (fun _ => rfl) _).setCell (p := ⟨R, 1, none⟩) (fun _ => rfl) _).setCell (p := ⟨R, 2, none⟩) (fun _ => rfl) _).setCell (p := ⟨R, 3, none⟩) (fun _ => rfl) _).setCell (p := ⟨R, 4, none⟩) (fun _ => rfl) _).setCell (p := ⟨R, 5, none⟩) (fun _ => rfl) _).setCell (p := ⟨R, 6, none⟩) (fun _ => rfl) _).setCell (p := ⟨R, 7, none⟩) (fun _ => rfl) _).setCell (p := ⟨R, 8, none⟩) (fun _ => rfl) _).setCell (p := ⟨R, 9, none⟩) (fun _ => rfl) _
      clear hw6 g0 g1 g2 g3 g4 g5 g6 g7 g8 g9 f0 f1 f2 f3 f4 f5 f6 f7 f8 f9 hfr
      have hld := run_loadVar_row (P := Tryz.prog) w6 R 27 27 e.cells.toArray (0, 0) _ hR6 Tryz.underlying27 rfl (by kernel_rfl)
      refine bodyPost_ret (v := .tuple #[e.val, .int .i64 0]) ?_ rfl ⟨e, ts, rfl, hfin.out.kept hRs'.out hO6, hOw.out.trans hO6 (fun x hx h => by have := hwD.out; omega)⟩
      rw [show e.val = .agg e.cells.toArray from rfl]
      simp [results, Tryz.results14, asAddr, hld, Result.andThen]

def PaNo (w : World) (r : Ending) (w' : World) : Prop := r = .returned (.tuple #[zeroC.val, .int .i64 2]) ∧ Only (fun _ => False) w w'
set_option maxRecDepth 100000 in
set_option maxHeartbeats 8000000 in
theorem parse_x (w : World) : Calls Tryz.prog 14 #[.string { data := #[120] }] w (PaNo w) := by
  obtain ⟨S, hS⟩ : ∃ S : ByteArray, S = { data := #[120] } := ⟨_, rfl⟩
  rw [← hS]
  obtain ⟨R, hR⟩ : ∃ R, R = w.heap.size := ⟨_, rfl⟩
  obtain ⟨D, hD⟩ : ∃ D, D = w.heap.size + 1 := ⟨_, rfl⟩
  have hst : ∀ (a : Addr) (W : World) (f : FuncId), Sem.run Tryz.prog (store a (.func (.func f) #[] #[])) W = stored Tryz.prog W a (.func (.func f) #[] #[]) .plain := fun a W f => run_store Tryz.prog W a _ _ rfl
  have hst' := Lib.hid hst
  have hS' := Lib.hid hS
  clear hst hS
  go_enter Tryz.func14, Tryz.ntmps14
  go_wp2_with fail
  refine (kinds_any _).mono ?_
  rintro r w1 ⟨rfl, hw1⟩
  have hR1 : w1.heap[R]? = some (.cells zeroC.cells.toArray 27 (0, 0)) := by
    rw [hw1]
    exact heap_kept_alloc (heap_kept_alloc (heap_new_at _ _ hR.symm) _) _
  have hD1 : DraftAt w1 D zeroC [120] := by
    rw [hw1]
    unfold DraftAt
    rw [show toBA [120] = S from hS'.out.symm]
    exact heap_kept_alloc (heap_new_at _ _ (by simp [hD])) _
  have hO1 : Only (fun _ => False) w w1 := by
    rw [hw1]
    exact (((Only.refl _ w).alloc _).alloc _).alloc _
  have hw1' := Lib.hid hO1
  have hR1' := Lib.hid hR1
  have hD1' := Lib.hid hD1
  have hwR := Lib.hid (show w.heap.size ≤ R by omega)
  rw [← hR, show R + 1 = D by omega]
  generalize hK0 : kindsA = K
  have hK := Lib.hid hK0
  clear hK0 hw1 hR1 hD1 hO1 hR hD
  go_wp2
  go_loopw [6, 12] (fun _ i wr => i = .int .i64 0 ∧ w1 = wr) (fun _ _ _ => 0)
  case atStart => exact ⟨rfl, rfl⟩
  case round =>
    obtain ⟨rfl, rfl⟩ := hrel
    obtain ⟨ws, hws⟩ : ∃ ws : World, ws = w1 := ⟨_, rfl⟩
    subst hws
    have hix := kind_at0 ws
    rw [hK.out] at hix
    have hstep := Lib.hid (fun W (ho : Only (fun _ => False) ws W) => none_read (w := W) (word := wMachine) (lo := 1) (M := 1) (m := 4) (f := 51) (hD1'.out.kept ho (fun h => h)) rfl (by decide))
    have hst := hst'.out
    go_wp2_with fail
    refine (hstep.out _ ((Only.refl _ ws).alloc _)).mono ?_
    rintro r w3 ⟨rfl, hO3⟩
    have hO3' := Lib.hid (((Only.refl (fun _ => False) ws).alloc _).trans' hO3)
    have hR3 := hO3'.out.heap hR1'.out (fun h => h)
    have hR3' := Lib.hid hR3
    have g0 := row_cell hR3 (i := 0) rfl
    have g1 := row_cell hR3 (i := 1) rfl
    have g2 := row_cell hR3 (i := 2) rfl
    have g3 := row_cell hR3 (i := 3) rfl
    have g4 := row_cell hR3 (i := 4) rfl
    have g5 := row_cell hR3 (i := 5) rfl
    have g6 := row_cell hR3 (i := 6) rfl
    have g7 := row_cell hR3 (i := 7) rfl
    have g8 := row_cell hR3 (i := 8) rfl
    have g9 := row_cell hR3 (i := 9) rfl
    have hfr := fun i => row_free hR3 i
    clear hO3 hR3 hst hix
    rw [show decide ((1 : Int) ≤ 0) = false from rfl]
    go_wp2
    generalize hw6 : World.setCell _ _ _ = w6
    have hR6 : w6.heap[R]? = some (.cells zeroC.cells.toArray 27 (0, 0)) := by
      rw [← hw6]
      exact row_set (row_set (row_set (row_set (row_set (row_set (row_set (row_set (row_set (row_set hR3'.out 0 _) 1 _) 2 _) 3 _) 4 _) 5 _) 6 _) 7 _) 8 _) 9 _
    have hO6 : Only (fun j => j = R) ws w6 := by
      rw [← hw6]
      have o := hO3'.out.mono (T := fun j => j = R) (fun _ _ h => h.elim)
      exact (((((((((o.setCell (p := ⟨R, 0, none⟩) (fun _ => rfl) _).setCell (p := ⟨R, 1, none⟩) (fun _ => rfl) _).setCell (p := ⟨R, 2, none⟩) (fun _ => rfl) _).setCell (p := ⟨R, 3, none⟩) (fun _ => rfl) _).setCell (p := ⟨R, 4, none⟩) (fun _ => rfl) _).setCell (p := ⟨R, 5, none⟩) (fun _ => rfl) _).setCell (p := ⟨R, 6, none⟩) (fun _ => rfl) _).setCell (p := ⟨R, 7, none⟩) (fun _ => rfl) _).setCell (p := ⟨R, 8, none⟩) (fun _ => rfl) _).setCell (p := ⟨R, 9, none⟩) (fun _ => rfl) _
    clear hw6 g0 g1 g2 g3 g4 g5 g6 g7 g8 g9 hfr
    have hld := run_loadVar_row (P := Tryz.prog) w6 R 27 27 zeroC.cells.toArray (0, 0) _ hR6 Tryz.underlying27 rfl (by kernel_rfl)
    refine bodyPost_ret (v := .tuple #[zeroC.val, .int .i64 2]) ?_ rfl ⟨rfl, hw1'.out.trans hO6 (fun x hx h => by have := hwR.out; omega)⟩
    rw [show zeroC.val = .agg zeroC.cells.toArray from rfl]
    simp [results, Tryz.results14, asAddr, hld, Result.andThen]
end Go.Proofs.YtbjpnjgkpkfngaaGreatDoor
namespace Go.Proofs.YtbjpnjgkpkfngaaGreatDoor
open Go Go.RowKit

def smallC (X : Nat) : ConfV := ⟨2, 1, 1, 5, ⟨none, 0, 0⟩, 0, ⟨none, 0, 0⟩, ⟨some ⟨X + 2, 0, none⟩, 1, 1⟩, ⟨some ⟨X + 4, 0, none⟩, 2, 2⟩, ⟨some ⟨X + 5, 0, none⟩, 1, 1⟩⟩
def smallD : ConfL := ⟨[], [], [4], [1]⟩
def smallT1 (X : Nat) : TaskV := ⟨1, 1, 50, 50, 10, 0, ⟨some ⟨X + 1, 0, none⟩, 2, 2⟩⟩
def smallT2 (X : Nat) : TaskV := ⟨4, 4, 20, 20, 0, 0, ⟨some ⟨X + 3, 0, none⟩, 2, 2⟩⟩
def smallP (X : Nat) : Tks := [(smallT1 X, [⟨1, 2, 0⟩, ⟨2, 1, 0⟩]), (smallT2 X, [⟨5, 0, 0⟩, ⟨6, 0, 0⟩])]
def smallW (w : World) : World :=
  (((((w.alloc (.cells (smallC w.heap.size).cells.toArray 27)).alloc (.cells [.int .i64 1, .int .i64 2, .int .i64 0, .int .i64 2, .int .i64 1, .int .i64 0].toArray 69)).alloc (.cells [.int .i64 4].toArray 3)).alloc (.cells [.int .i64 5, .int .i64 0, .int .i64 0, .int .i64 6, .int .i64 0, .int .i64 0].toArray 69)).alloc (.cells ((smallT1 w.heap.size).cells ++ (smallT2 w.heap.size).cells).toArray 45)).alloc (.cells [.int .i64 1].toArray 3)
def SmallEnd (w : World) (e : Ending) (w' : World) : Prop := e = .returned (smallC w.heap.size).val ∧ w' = smallW w
set_option maxRecDepth 100000 in
theorem small_any (w : World) : Calls Tryz.prog 18 #[] w (SmallEnd w) := by
  go_enter Tryz.func18, Tryz.ntmps18
  go_wp2
  refine bodyPost_ret (v := (smallC w.heap.size).val) (by simp [results, Tryz.results18, go_sem, smallC, ConfV.val]) rfl ⟨rfl, ?_⟩
  rfl
theorem ints_of {w : World} {b n : Nat} {l : List Int} (h : w.heap[b]? = some (.cells (l.map (Value.int .i64)).toArray 3 (0, 0))) (hn : l.length = n) : IntsAt w ⟨some ⟨b, 0, none⟩, n, n⟩ l :=
  ⟨hn, Nat.le_refl _, fun k z hz => ⟨b, 0, rfl, row_lt h, by
    rw [Nat.zero_add]
    exact row_cell h (by rw [List.getElem?_map, hz]; rfl)⟩⟩
theorem ints_none (w : World) : IntsAt w ⟨none, 0, 0⟩ [] := ⟨rfl, Nat.le_refl _, fun k z hz => by simp at hz⟩
theorem ops_of {w : World} {b : Nat} {x y : Opn} (h : w.heap[b]? = some (.cells [.int .i64 x.k, .int .i64 x.a, .int .i64 x.b, .int .i64 y.k, .int .i64 y.a, .int .i64 y.b].toArray 69 (0, 0))) : OpnRow w (some ⟨b, 0, none⟩) [x, y] := fun k o ho => by
  match k, ho with
  | 0, ho => cases ho; exact ⟨b, 0, rfl, row_lt h, row_cell h (i := 0) rfl, row_cell h (i := 1) rfl, row_cell h (i := 2) rfl⟩
  | 1, ho => cases ho; exact ⟨b, 0, rfl, row_lt h, row_cell h (i := 3) rfl, row_cell h (i := 4) rfl, row_cell h (i := 5) rfl⟩
  | k + 2, ho => simp at ho
theorem tasks_of {w : World} {b : Nat} {x y : TaskV} (h : w.heap[b]? = some (.cells (x.cells ++ y.cells).toArray 45 (0, 0))) : TasksAt w ⟨some ⟨b, 0, none⟩, 2, 2⟩ [x, y] := ⟨rfl, Nat.le_refl _, fun k o ho => by
  match k, ho with
  | 0, ho => cases ho; exact ⟨b, 0, rfl, row_lt h, row_cell h (i := 0) rfl, row_cell h (i := 1) rfl, row_cell h (i := 2) rfl, row_cell h (i := 3) rfl, row_cell h (i := 4) rfl, row_cell h (i := 5) rfl, row_cell h (i := 6) rfl⟩
  | 1, ho => cases ho; exact ⟨b, 0, rfl, row_lt h, row_cell h (i := 7) rfl, row_cell h (i := 8) rfl, row_cell h (i := 9) rfl, row_cell h (i := 10) rfl, row_cell h (i := 11) rfl, row_cell h (i := 12) rfl, row_cell h (i := 13) rfl⟩
  | k + 2, ho => simp at ho⟩
theorem small_only (w : World) : Only (fun _ => False) w (smallW w) := ((((((Only.refl _ w).alloc _).alloc _).alloc _).alloc _).alloc _).alloc _
theorem small_conf (w : World) : ConfAt (smallW w) (smallC w.heap.size) smallD (smallP w.heap.size) := by
  have h1 : (smallW w).heap[w.heap.size + 1]? = some (.cells [.int .i64 1, .int .i64 2, .int .i64 0, .int .i64 2, .int .i64 1, .int .i64 0].toArray 69 (0, 0)) := heap_kept_alloc (heap_kept_alloc (heap_kept_alloc (heap_kept_alloc (heap_new_at _ _ (by simp)) _) _) _) _
  have h2 : (smallW w).heap[w.heap.size + 2]? = some (.cells [.int .i64 4].toArray 3 (0, 0)) := heap_kept_alloc (heap_kept_alloc (heap_kept_alloc (heap_new_at _ _ (by simp)) _) _) _
  have h3 : (smallW w).heap[w.heap.size + 3]? = some (.cells [.int .i64 5, .int .i64 0, .int .i64 0, .int .i64 6, .int .i64 0, .int .i64 0].toArray 69 (0, 0)) := heap_kept_alloc (heap_kept_alloc (heap_new_at _ _ (by simp)) _) _
  have h4 : (smallW w).heap[w.heap.size + 4]? = some (.cells ((smallT1 w.heap.size).cells ++ (smallT2 w.heap.size).cells).toArray 45 (0, 0)) := heap_kept_alloc (heap_new_at _ _ (by simp)) _
  have h5 : (smallW w).heap[w.heap.size + 5]? = some (.cells [.int .i64 1].toArray 3 (0, 0)) := heap_new_at _ _ (by simp)
  exact ⟨⟨ints_none _, ints_none _, ints_of (l := [4]) h2 rfl, ints_of (l := [1]) h5 rfl, (by show 0 ≤ 1000000; omega), (by show 0 ≤ 1000000; omega), (by show 1 ≤ 1000000; omega), (by show 1 ≤ 1000000; omega), (by show 2 ≤ 1000000; omega)⟩, tasks_of h4, ⟨fun k t l ht => by
    match k, ht with
    | 0, ht => cases ht; exact ⟨ops_of (x := ⟨1, 2, 0⟩) (y := ⟨2, 1, 0⟩) h1, rfl, (by show 2 ≤ 1000000; omega), Nat.le_refl _⟩
    | 1, ht => cases ht; exact ⟨ops_of (x := ⟨5, 0, 0⟩) (y := ⟨6, 0, 0⟩) h3, rfl, (by show 2 ≤ 1000000; omega), Nat.le_refl _⟩
    | k + 2, ht => simp [smallP] at ht⟩⟩
end Go.Proofs.YtbjpnjgkpkfngaaGreatDoor
namespace Go.Proofs.YtbjpnjgkpkfngaaGreatDoor
open Go Go.RowKit

theorem small_zero (X : Nat) : confZ (smallC X) smallD (smallP X) = 0 := by rfl
theorem small_sized (X : Nat) : Sized (smallC X) smallD := ⟨rfl, rfl, rfl, rfl⟩
theorem small_fit (X : Nat) : Fit (smallC X) smallD (smallP X) := ⟨confZ_fine (small_zero X), by decide, by decide, by decide, by decide, rfl⟩
theorem small_alike {X Y : Nat} {e : ConfV} {ql : Tks} (h : Alike (smallC X) e (smallP X) ql) : Alike (smallC Y) e (smallP Y) ql :=
  ⟨h.head, h.mb, h.cn, h.ce, h.ta, h.li, h.len, fun i t l hi => by
    match i, hi with
    | 0, hi =>
      cases hi
      obtain ⟨t', g1, g2⟩ := h.at_ 0 (smallT1 X) _ rfl
      exact ⟨t', g1, g2⟩
    | 1, hi =>
      cases hi
      obtain ⟨t', g1, g2⟩ := h.at_ 1 (smallT2 X) _ rfl
      exact ⟨t', g1, g2⟩
    | k + 2, hi => simp [smallP] at hi⟩
/-- The same with another ceiling. -/
def small3 (X G : Nat) : ConfV := { smallC X with ce := ⟨some ⟨G, 0, none⟩, 1, 1⟩ }
def smallD3 : ConfL := ⟨[], [], [3], [1]⟩
theorem small3_nest (X G : Nat) : confZ (small3 X G) smallD3 (smallP X) = 9 := by rfl
theorem small3_conf {w : World} {X G : Nat} (h : ConfAt w (smallC X) smallD (smallP X)) (hg : w.heap[G]? = some (.cells #[.int .i64 3] 3 (0, 0))) : ConfAt w (small3 X G) smallD3 (smallP X) := by
  obtain ⟨⟨h1, h2, h3, h4, h5⟩, ht, hp⟩ := h
  exact ⟨⟨h1, h2, ints_of (l := [3]) hg rfl, h4, by obtain ⟨g1, g2, g3, g4, g5⟩ := h5; exact ⟨g1, g2, (by show 1 ≤ 1000000; omega), g4, g5⟩⟩, ht, hp⟩
theorem small_txt (X : Nat) : ∃ r, confT (smallC X) smallD (smallP X) = [109, 97, 99, 104, 105, 110, 101, 32, 50, 32, 49, 32, 49, 32, 53, 10] ++ r := by
  rw [confT_R0]
  refine ⟨R1 (smallC X) smallD (smallP X), ?_⟩
  show headL wMachine [2, 1, 1, 5] ++ 10 :: R1 (smallC X) smallD (smallP X) = _
  rw [show headL wMachine [2, 1, 1, 5] = [109, 97, 99, 104, 105, 110, 101, 32, 50, 32, 49, 32, 49, 32, 53] from by decide +kernel]
  simp
theorem small_order (X : Nat) : orderUp (prio (smallP X).ts) 2 = [1, 0] := by rfl
end Go.Proofs.YtbjpnjgkpkfngaaGreatDoor
namespace Go.Proofs.YtbjpnjgkpkfngaaGreatDoor
open Go Go.RowKit

theorem size_toBA (l : List UInt8) : (toBA l).size = l.length := by simp [toBA, ByteArray.size]
theorem extract_head (l r : List UInt8) : (toBA (l ++ r)).extract 0 l.length = { data := l.toArray } := by
  apply ByteArray.ext
  rw [ByteArray.data_extract]
  simp [toBA]
set_option maxRecDepth 100000 in
set_option maxHeartbeats 8000000 in
theorem fixed_any {w : World} (hb : Bas w) (h3 : 3 ≤ w.heap.size) : Calls Tryz.prog 6 #[] w (GrowB true w) := by
  have hb' := Lib.hid hb
  have h3' := Lib.hid h3
  clear hb h3
  go_enter Tryz.func6, Tryz.ntmps6
  go_wp2_with fail
  refine (small_any w).mono ?_
  rintro r w1 ⟨rfl, hw1⟩
  have hO1 := Lib.hid (show Only (fun _ => False) w w1 by rw [hw1]; exact small_only w)
  have hC1 := Lib.hid (show ConfAt w1 (smallC w.heap.size) smallD (smallP w.heap.size) by rw [hw1]; exact small_conf w)
  generalize w.heap.size = X at hC1 ⊢
  rw [show (smallC X).val = .agg #[.int .i64 2, .int .i64 1, .int .i64 1, .int .i64 5, .slice none 0 0, .int .i64 0, .slice none 0 0, .slice (some ⟨X + 2, 0, none⟩) 1 1, .slice (some ⟨X + 4, 0, none⟩) 2 2, .slice (some ⟨X + 5, 0, none⟩) 1 1] from rfl]
  clear hw1
  obtain ⟨T1, hT1⟩ : ∃ T1, T1 = w1.heap.size := ⟨_, rfl⟩
  have hT1' := Lib.hid hT1
  have hwT := Lib.hid (show w.heap.size ≤ T1 by have := hO1.out.size; omega)
  clear hT1
  have q1 := Lib.hid (fun W (hW : Only (fun _ => False) w1 W) => ctext_fine (hb'.out.new (hO1.out.trans' hW)) (hC1.out.new hW) (small_zero X))
  rw [show (smallC X).val = .agg #[.int .i64 2, .int .i64 1, .int .i64 1, .int .i64 5, .slice none 0 0, .int .i64 0, .slice none 0 0, .slice (some ⟨X + 2, 0, none⟩) 1 1, .slice (some ⟨X + 4, 0, none⟩) 2 2, .slice (some ⟨X + 5, 0, none⟩) 1 1] from rfl] at q1
  obtain ⟨S, hS⟩ : ∃ S, S = toBA (confT (smallC X) smallD (smallP X)) := ⟨_, rfl⟩
  unfold TxEnd at q1
  rw [← hS] at q1
  have hS' := Lib.hid hS
  clear hS
  go_wp2_with fail
  rw [← hT1'.out]
  refine (q1.out _ ((Only.refl _ w1).alloc _)).mono ?_
  rintro r w2 ⟨rfl, hO2⟩
  have hT2 := Lib.hid (hO2.heap (heap_new_at w1 _ hT1'.out.symm) (fun h => h))
  have hO2' := Lib.hid (hO1.out.trans' (((Only.refl (fun _ => False) w1).alloc _).trans' hO2))
  have hC2 := Lib.hid (hC1.out.new (((Only.refl (fun _ => False) w1).alloc _).trans' hO2))
  have hT1s := Lib.hid (Nat.le_of_eq hT1'.out.symm)
  have hF2 := Lib.hid (((Only.refl (fun _ => False) w1).alloc (.cells (smallC X).cells.toArray 27)).trans' hO2)
  clear hO2 q1 hO1 hT1'
  have q2 := Lib.hid (parse_fine (hb'.out.new hO2'.out) (small_fit X) (small_sized X) (small_zero X) (Nat.le_trans h3'.out hO2'.out.size))
  rw [← hS'.out] at q2
  go_wp2_with fail
  refine q2.out.mono ?_
  rintro r w3 ⟨e, ts, rfl, hCe, hO3⟩
  rw [show e.val = .agg #[.int .i64 e.s, .int .i64 e.wy, .int .i64 e.h, .int .i64 e.mi, .slice e.mb.A e.mb.n e.mb.cap, .int .i64 e.g, .slice e.cn.A e.cn.n e.cn.cap, .slice e.ce.A e.ce.n e.ce.cap, .slice e.ta.A e.ta.n e.ta.cap, .slice e.li.A e.li.n e.li.cap] from rfl]
  have hT3 := Lib.hid (hO3.heap hT2.out (fun h => h))
  have hO3' := Lib.hid (hO2'.out.trans' hO3)
  have hC3 := Lib.hid (hC2.out.new hO3)
  have hF3 := Lib.hid (hF2.out.trans' hO3)
  have hCe3 := Lib.hid hCe
  clear hO3 q2 hC2 hO2' hT2 hCe hF2
  obtain ⟨T4, hT4⟩ : ∃ T4, T4 = w3.heap.size := ⟨_, rfl⟩
  have hT4' := Lib.hid hT4
  have hne := Lib.hid (show ¬ T4 = T1 by have := row_lt hT3.out; omega)
  clear hT4
  go_wp2_with fail
  rw [← hT4'.out]
  refine (parse_x _).mono ?_
  rintro r w4 ⟨rfl, hO4⟩
  rw [show zeroC.val = .agg #[.int .i64 0, .int .i64 0, .int .i64 0, .int .i64 0, .slice none 0 0, .int .i64 0, .slice none 0 0, .slice none 0 0, .slice none 0 0, .slice none 0 0] from rfl]
  have hT5 := Lib.hid (hO4.heap (heap_new_at w3 _ hT4'.out.symm) (fun h => h))
  have o4 := ((Only.refl (fun _ => False) w3).alloc (.cells e.cells.toArray 27)).trans' hO4
  have hT1b := Lib.hid (o4.heap hT3.out (fun h => h))
  have hO4' := Lib.hid (hO3'.out.trans' o4)
  have hC4 := Lib.hid (hC3.out.new o4)
  have hF4 := Lib.hid (hF3.out.trans' o4)
  have hCe4 := Lib.hid (hCe3.out.new o4)
  clear hO4 o4 hT4' hT3 hO3' hC3 hCe3 hF3
  have q3 := Lib.hid (fun W (hW : Only (fun _ => False) w4 W) => order_any (c := smallC X) (hC4.out.t.new hW) (by show 2 ≤ 20; omega))
  rw [show (smallC X).val = .agg #[.int .i64 2, .int .i64 1, .int .i64 1, .int .i64 5, .slice none 0 0, .int .i64 0, .slice none 0 0, .slice (some ⟨X + 2, 0, none⟩) 1 1, .slice (some ⟨X + 4, 0, none⟩) 2 2, .slice (some ⟨X + 5, 0, none⟩) 1 1] from rfl, show (smallC X).ta.n = 2 from rfl] at q3
  have f0 := row_cell (show w4.heap[T1]? = some (.cells (smallC X).cells.toArray 27 (0, 0)) from hT1b.out) (i := 0) rfl
  have f1 := row_cell (show w4.heap[T1]? = some (.cells (smallC X).cells.toArray 27 (0, 0)) from hT1b.out) (i := 1) rfl
  have f2 := row_cell (show w4.heap[T1]? = some (.cells (smallC X).cells.toArray 27 (0, 0)) from hT1b.out) (i := 2) rfl
  have f3 := row_cell (show w4.heap[T1]? = some (.cells (smallC X).cells.toArray 27 (0, 0)) from hT1b.out) (i := 3) rfl
  have f4 := row_cell (show w4.heap[T1]? = some (.cells (smallC X).cells.toArray 27 (0, 0)) from hT1b.out) (i := 4) rfl
  have f5 := row_cell (show w4.heap[T1]? = some (.cells (smallC X).cells.toArray 27 (0, 0)) from hT1b.out) (i := 5) rfl
  have f6 := row_cell (show w4.heap[T1]? = some (.cells (smallC X).cells.toArray 27 (0, 0)) from hT1b.out) (i := 6) rfl
  have f7 := row_cell (show w4.heap[T1]? = some (.cells (smallC X).cells.toArray 27 (0, 0)) from hT1b.out) (i := 7) rfl
  have f8 := row_cell (show w4.heap[T1]? = some (.cells (smallC X).cells.toArray 27 (0, 0)) from hT1b.out) (i := 8) rfl
  have f9 := row_cell (show w4.heap[T1]? = some (.cells (smallC X).cells.toArray 27 (0, 0)) from hT1b.out) (i := 9) rfl
  have lT1 := row_lt hT1b.out
  go_wp2_with fail
  refine (q3.out _ ((Only.refl _ w4).alloc _)).mono ?_
  rintro r w5 ⟨O, rfl, hO1, hrow, hO5⟩
  have o5 := ((Only.refl (fun _ => False) w4).alloc (.cells zeroC.cells.toArray 27)).trans' hO5
  rw [small_order] at hrow
  have r0 := row_cell hrow (i := 0) rfl
  have hT1c := Lib.hid (o5.heap hT1b.out (fun h => h))
  have hT5c := Lib.hid (o5.heap hT5.out (fun h => h))
  have hO5' := Lib.hid (hO4'.out.trans' o5)
  have hF5 := Lib.hid (hF4.out.trans' o5)
  have hCe5 := Lib.hid (hCe4.out.new o5)
  have frT := row_free (show w5.heap[T1]? = some (.cells (smallC X).cells.toArray 27 (0, 0)) from hT1c.out) 7
  have k7 := row_cell (show w5.heap[T1]? = some (.cells (smallC X).cells.toArray 27 (0, 0)) from hT1c.out) (i := 7) rfl
  have lT5 := row_lt hT1c.out
  have hOT := Lib.hid (show ¬ O = T1 by have := row_lt hT1b.out; have := hO1; simp at this; omega)
  clear hO5 o5 hT1b hT5 hO4' hC4 hF4 hCe4 f0 f1 f2 f3 f4 f5 f6 f7 f8 f9 lT1 q3 hO1
  go_upto_region 7 with fail
  obtain ⟨G, hG⟩ : ∃ G, G = w5.heap.size := ⟨_, rfl⟩
  rw [← hG]
  generalize hW0 : World.alloc _ _ = W0
  have oA : Only (fun j => j = T1) w5 W0 := hW0 ▸ ((Only.refl (fun j => j = T1) w5).setCell (p := ⟨T1, 7, none⟩) (fun _ => rfl) _).alloc _
  have hT1W : W0.heap[T1]? = some (.cells (small3 X G).cells.toArray 27 (0, 0)) := by
    rw [← hW0]
    exact heap_kept_alloc (row_set hT1c.out 7 _) _
  have hGW : W0.heap[G]? = some (.cells #[.int .i64 3] 3 (0, 0)) := by
    rw [← hW0]
    exact heap_new_at _ _ (by simp [hG])
  have nT4 : ¬ T4 = T1 := hne.out
  have hT4W := oA.heap hT5c.out nT4
  have nO : ¬ O = T1 := hOT.out
  have hOW := oA.heap hrow nO
  have hOnly := Lib.hid (show Only (fun _ => False) w W0 from hO5'.out.trans oA (fun x hx h => by have := hwT.out; omega))
  have hC0 : ConfAt W0 (smallC X) smallD (smallP X) := hC1.out.only (S := fun j => j = T1) ((hF5.out.mono (fun _ _ h => h.elim)).trans' oA) (fun k h => by subst h; exact hT1s.out)
  have hC3 := small3_conf hC0 hGW
  have hDn : Done (smallC X) smallD (smallP X) e ts W0 := hCe5.out.kept hT1c.out oA
  obtain ⟨ql, hCe, hal⟩ := hDn.conf (small_fit X) (small_sized X)
  have hbW := Lib.hid (hb'.out.new hOnly.out)
  have hcells := Lib.hid (show ∀ W, Only (fun _ => False) W0 W → W.cell? ⟨T1, 0, none⟩ = some (.int .i64 2) ∧ W.cell? ⟨T1, 1, none⟩ = some (.int .i64 1) ∧ W.cell? ⟨T1, 2, none⟩ = some (.int .i64 1) ∧ W.cell? ⟨T1, 3, none⟩ = some (.int .i64 5) ∧ W.cell? ⟨T1, 4, none⟩ = some (.slice none 0 0) ∧ W.cell? ⟨T1, 5, none⟩ = some (.int .i64 0) ∧ W.cell? ⟨T1, 6, none⟩ = some (.slice none 0 0) ∧ W.cell? ⟨T1, 7, none⟩ = some (.slice (some ⟨G, 0, none⟩) 1 1) ∧ W.cell? ⟨T1, 8, none⟩ = some (.slice (some ⟨X + 4, 0, none⟩) 2 2) ∧ W.cell? ⟨T1, 9, none⟩ = some (.slice (some ⟨X + 5, 0, none⟩) 1 1) ∧ W.cell? ⟨T4, 0, none⟩ = some (.int .i64 e.s) ∧ W.cell? ⟨T4, 1, none⟩ = some (.int .i64 e.wy) ∧ W.cell? ⟨T4, 2, none⟩ = some (.int .i64 e.h) ∧ W.cell? ⟨T4, 3, none⟩ = some (.int .i64 e.mi) ∧ W.cell? ⟨T4, 4, none⟩ = some (.slice e.mb.A e.mb.n e.mb.cap) ∧ W.cell? ⟨T4, 5, none⟩ = some (.int .i64 e.g) ∧ W.cell? ⟨T4, 6, none⟩ = some (.slice e.cn.A e.cn.n e.cn.cap) ∧ W.cell? ⟨T4, 7, none⟩ = some (.slice e.ce.A e.ce.n e.ce.cap) ∧ W.cell? ⟨T4, 8, none⟩ = some (.slice e.ta.A e.ta.n e.ta.cap) ∧ W.cell? ⟨T4, 9, none⟩ = some (.slice e.li.A e.li.n e.li.cap) ∧ W.cell? ⟨O, 0, none⟩ = some (.int .i64 1) from fun W ho => by
    have a := ho.heap hT1W (fun h => h)
    have b := ho.heap hT4W (fun h => h)
    have c := ho.heap hOW (fun h => h)
    exact ⟨row_cell a (i := 0) rfl, row_cell a (i := 1) rfl, row_cell a (i := 2) rfl, row_cell a (i := 3) rfl, row_cell a (i := 4) rfl, row_cell a (i := 5) rfl, row_cell a (i := 6) rfl, row_cell a (i := 7) rfl, row_cell a (i := 8) rfl, row_cell a (i := 9) rfl, row_cell b (i := 0) rfl, row_cell b (i := 1) rfl, row_cell b (i := 2) rfl, row_cell b (i := 3) rfl, row_cell b (i := 4) rfl, row_cell b (i := 5) rfl, row_cell b (i := 6) rfl, row_cell b (i := 7) rfl, row_cell b (i := 8) rfl, row_cell b (i := 9) rfl, row_cell c (i := 0) rfl⟩)
  have hsmall := Lib.hid (show ∀ W, Only (fun _ => False) W0 W → Calls Tryz.prog 18 #[] W fun r w' => ∃ Y, r = .returned (.agg #[.int .i64 2, .int .i64 1, .int .i64 1, .int .i64 5, .slice none 0 0, .int .i64 0, .slice none 0 0, .slice (some ⟨Y + 2, 0, none⟩) 1 1, .slice (some ⟨Y + 4, 0, none⟩) 2 2, .slice (some ⟨Y + 5, 0, none⟩) 1 1]) ∧ ConfAt w' (smallC Y) smallD (smallP Y) ∧ Only (fun _ => False) W0 w' from fun W ho => (small_any W).mono fun r w' ⟨h1, h2⟩ => ⟨W.heap.size, h1, h2 ▸ small_conf W, h2 ▸ ho.trans' (small_only W)⟩)
  have hsame := Lib.hid (show ∀ W Y, Only (fun _ => False) W0 W → ConfAt W (smallC Y) smallD (smallP Y) → Calls Tryz.prog 17 #[.agg #[.int .i64 2, .int .i64 1, .int .i64 1, .int .i64 5, .slice none 0 0, .int .i64 0, .slice none 0 0, .slice (some ⟨Y + 2, 0, none⟩) 1 1, .slice (some ⟨Y + 4, 0, none⟩) 2 2, .slice (some ⟨Y + 5, 0, none⟩) 1 1], .agg #[.int .i64 e.s, .int .i64 e.wy, .int .i64 e.h, .int .i64 e.mi, .slice e.mb.A e.mb.n e.mb.cap, .int .i64 e.g, .slice e.cn.A e.cn.n e.cn.cap, .slice e.ce.A e.ce.n e.ce.cap, .slice e.ta.A e.ta.n e.ta.cap, .slice e.li.A e.li.n e.li.cap]] W fun r w' => r = .returned (.bool true) ∧ Only (fun _ => False) W0 w' from fun W Y ho hY => (same_any hY (hCe.new ho)).mono fun r w' ⟨h1, h2⟩ => ⟨by rw [h1, (small_alike hal).same], ho.trans' h2⟩)
  have hchk := Lib.hid (show ∀ W, Only (fun _ => False) W0 W → Calls Tryz.prog 11 #[.agg #[.int .i64 2, .int .i64 1, .int .i64 1, .int .i64 5, .slice none 0 0, .int .i64 0, .slice none 0 0, .slice (some ⟨G, 0, none⟩) 1 1, .slice (some ⟨X + 4, 0, none⟩) 2 2, .slice (some ⟨X + 5, 0, none⟩) 1 1]] W fun r w' => r = .returned (.int .i64 9) ∧ Only (fun _ => False) W0 w' from fun W ho => (confCheck_any (c := small3 X G) (hbW.out.words.new ho) (hC3.new ho)).mono fun r w' ⟨h1, h2⟩ => ⟨by rw [h1, small3_nest], ho.trans' h2⟩)
  have hroom := Lib.hid (show ∀ W, Only (fun _ => False) W0 W → Calls Tryz.prog 10 #[.agg #[.int .i64 2, .int .i64 1, .int .i64 1, .int .i64 5, .slice none 0 0, .int .i64 0, .slice none 0 0, .slice (some ⟨G, 0, none⟩) 1 1, .slice (some ⟨X + 4, 0, none⟩) 2 2, .slice (some ⟨X + 5, 0, none⟩) 1 1]] W fun r w' => r = .returned (.agg #[.int .i64 0, .int .i64 0, .int .i64 0, .int .i64 1]) ∧ Only (fun _ => False) W0 w' from fun W ho => (room_any (small3 X G) W).mono fun r w' ⟨h1, h2⟩ => ⟨h1, ho.trans' h2⟩)
  obtain ⟨rt, hrt⟩ := small_txt X
  have hSe : S.extract 0 16 = { data := #[109, 97, 99, 104, 105, 110, 101, 32, 50, 32, 49, 32, 49, 32, 53, 10] } := by
    rw [hS'.out, hrt]
    exact extract_head _ _
  have hSz : 16 ≤ S.size := by
    rw [hS'.out, hrt, size_toBA]
    simp
  have hSi : (16 : Int) ≤ (S.size : Int) := by omega
  have hSj : ¬ (S.size : Int) < 16 := by omega
  clear hW0 oA hT1W hGW hT4W hOW hC0 hC3 hDn hCe hal nT4 nO hG hrt hrow hT1c hT5c hO5' hF5 hCe5 frT k7 lT5 r0
  go_region_held3 (fun w' => w'.cell? ⟨T1, 0, none⟩ = some (.int .i64 2) ∧ w'.cell? ⟨T1, 1, none⟩ = some (.int .i64 1) ∧ w'.cell? ⟨T1, 2, none⟩ = some (.int .i64 1) ∧ w'.cell? ⟨T1, 3, none⟩ = some (.int .i64 5) ∧ w'.cell? ⟨T1, 4, none⟩ = some (.slice none 0 0) ∧ w'.cell? ⟨T1, 5, none⟩ = some (.int .i64 0) ∧ w'.cell? ⟨T1, 6, none⟩ = some (.slice none 0 0) ∧ w'.cell? ⟨T1, 7, none⟩ = some (.slice (some ⟨G, 0, none⟩) 1 1) ∧ w'.cell? ⟨T1, 8, none⟩ = some (.slice (some ⟨X + 4, 0, none⟩) 2 2) ∧ w'.cell? ⟨T1, 9, none⟩ = some (.slice (some ⟨X + 5, 0, none⟩) 1 1) ∧ w'.cell? ⟨T4, 0, none⟩ = some (.int .i64 e.s) ∧ w'.cell? ⟨T4, 1, none⟩ = some (.int .i64 e.wy) ∧ w'.cell? ⟨T4, 2, none⟩ = some (.int .i64 e.h) ∧ w'.cell? ⟨T4, 3, none⟩ = some (.int .i64 e.mi) ∧ w'.cell? ⟨T4, 4, none⟩ = some (.slice e.mb.A e.mb.n e.mb.cap) ∧ w'.cell? ⟨T4, 5, none⟩ = some (.int .i64 e.g) ∧ w'.cell? ⟨T4, 6, none⟩ = some (.slice e.cn.A e.cn.n e.cn.cap) ∧ w'.cell? ⟨T4, 7, none⟩ = some (.slice e.ce.A e.ce.n e.ce.cap) ∧ w'.cell? ⟨T4, 8, none⟩ = some (.slice e.ta.A e.ta.n e.ta.cap) ∧ w'.cell? ⟨T4, 9, none⟩ = some (.slice e.li.A e.li.n e.li.cap) ∧ w'.cell? ⟨O, 0, none⟩ = some (.int .i64 1))
    (exact hcells.out _ (by repeat (first | assumption | exact Only.refl _ _ | apply Only.drew)))
    (first
      | (go_at_call 18; refine (hsmall.out _ (by repeat (first | assumption | exact Only.refl _ _ | apply Only.drew))).mono ?_; rintro _ w6 ⟨Y, rfl, hC6, hO6⟩; have hC6' := Lib.hid hC6; clear hC6)
      | (go_at_call 17; refine (hsame.out _ Y (by repeat (first | assumption | exact Only.refl _ _ | apply Only.drew)) (hC6'.out.new (by repeat (first | exact Only.refl _ _ | apply Only.drew)))).mono ?_; rintro _ w7 ⟨rfl, hO7⟩)
      | (go_at_call 11; refine (hchk.out _ (by repeat (first | assumption | exact Only.refl _ _ | apply Only.drew))).mono ?_; rintro _ w8 ⟨rfl, hO8⟩)
      | (go_at_call 10; refine (hroom.out _ (by repeat (first | assumption | exact Only.refl _ _ | apply Only.drew))).mono ?_; rintro _ w9 ⟨rfl, hO9⟩))
  all_goals
    have hlast := Lib.hid hO9
    clear hO9 hO8 hO7 hO6
    go_wp2
    go_ret
    exact ⟨rfl, hOnly.out.trans' (by first | exact hlast.out | exact hlast.out.drew)⟩
end Go.Proofs.YtbjpnjgkpkfngaaGreatDoor
namespace Go.Proofs.YtbjpnjgkpkfngaaGreatDoor
open Go Go.RowKit

def fewB (c : ConfV) (ts : List TaskV) : Bool := ts.all (fun t => decide (t.o.n ≤ 80)) && decide (c.mb.n ≤ 20 ∧ c.cn.n ≤ 20 ∧ c.ce.n ≤ 20 ∧ c.ta.n ≤ 20 ∧ c.li.n ≤ 20)
theorem few_all {ts : List TaskV} {n : Nat} (hn : ts.length = n) (h : ∀ (j : Nat) t, j < n → ts[j]? = some t → t.o.n ≤ 80) : ts.all (fun t => decide (t.o.n ≤ 80)) = true := by
  rw [List.all_eq_true]
  intro t ht
  obtain ⟨k, hk⟩ := List.getElem?_of_mem ht
  exact decide_eq_true (h k t (by have := (List.getElem?_eq_some_iff.1 hk).1; omega) hk)
theorem few_bad {ts : List TaskV} {k : Nat} {t : TaskV} (hk : ts[k]? = some t) (h : 80 < t.o.n) : ts.all (fun t => decide (t.o.n ≤ 80)) = false := by
  rw [List.all_eq_false]
  exact ⟨t, List.mem_of_getElem? hk, by simp; omega⟩

set_option maxRecDepth 100000 in
set_option maxHeartbeats 2000000 in
theorem few_any {w : World} {c : ConfV} {ts : List TaskV} (hT : TasksAt w c.ta ts) (hs : c.ta.n ≤ 9223372036854775807) : Calls Tryz.prog 7 #[c.val] w (GrowB (fewB c ts) w) := by
  have hO := (Only.refl (fun _ => False) w).alloc (.cells c.cells.toArray 27)
  have hB := heap_new_at w (.cells c.cells.toArray 27) rfl
  obtain ⟨W1, hW1⟩ : ∃ W1, W1 = w.alloc (.cells c.cells.toArray 27) := ⟨_, rfl⟩
  have e0 := row_cell hB (i := 0) rfl
  have e1 := row_cell hB (i := 1) rfl
  have e2 := row_cell hB (i := 2) rfl
  have e3 := row_cell hB (i := 3) rfl
  have e4 := row_cell hB (i := 4) rfl
  have e5 := row_cell hB (i := 5) rfl
  have e6 := row_cell hB (i := 6) rfl
  have e7 := row_cell hB (i := 7) rfl
  have e8 := row_cell hB (i := 8) rfl
  have e9 := row_cell hB (i := 9) rfl
  have hlt1 := row_lt hB
  rw [← hW1] at e0 e1 e2 e3 e4 e5 e6 e7 e8 e9 hO hlt1
  obtain ⟨V, hV⟩ : ∃ V, V = fewB c ts := ⟨_, rfl⟩
  rw [← hV]
  unfold fewB at hV
  obtain ⟨F, hF⟩ : ∃ F, F = ts.all (fun t => decide (t.o.n ≤ 80)) := ⟨_, rfl⟩
  rw [← hF] at hV
  have hlen := hT.len
  rw [show c.val = .agg #[.int .i64 c.s, .int .i64 c.wy, .int .i64 c.h, .int .i64 c.mi, .slice c.mb.A c.mb.n c.mb.cap, .int .i64 c.g, .slice c.cn.A c.cn.n c.cn.cap, .slice c.ce.A c.ce.n c.ce.cap, .slice c.ta.A c.ta.n c.ta.cap, .slice c.li.A c.li.n c.li.cap] from rfl]
  unfold ConfV.cells at hW1
  have hT' := Lib.hid hT
  obtain ⟨s, wy, h, mi, ⟨mA, mn, mc⟩, g, ⟨cA, cn, cc⟩, ⟨eA, en, ec⟩, ⟨tA, tn, tc⟩, ⟨lA, ln, lc⟩⟩ := c
  simp only at *
  have hW1' := Lib.hid hW1
  have hO' := Lib.hid hO
  have hV' := Lib.hid hV
  have hF' := Lib.hid hF
  have hlen' := Lib.hid hlen
  clear hT hB hW1 hO hV hF hlen
  go_enter Tryz.func7, Tryz.ntmps7
  go_wp2
  rw [← hW1'.out]
  go_loopw [8] (fun i wr => ∃ k : Nat, k ≤ tn ∧ i = .int .i64 k ∧ (∀ (j : Nat) t, j < k → ts[j]? = some t → t.o.n ≤ 80) ∧ Only (fun _ => False) W1 wr) (fun i _ => tn - (intOf i).toNat)
  case atStart => exact ⟨0, Nat.zero_le _, rfl, (fun j _ hj => by omega), Only.refl _ W1⟩
  case round =>
    obtain ⟨k, hk, rfl, hall, hOk⟩ := hrel
    replace e0 := hOk.cell e0 (fun h => h)
    replace e1 := hOk.cell e1 (fun h => h)
    replace e2 := hOk.cell e2 (fun h => h)
    replace e3 := hOk.cell e3 (fun h => h)
    replace e4 := hOk.cell e4 (fun h => h)
    replace e5 := hOk.cell e5 (fun h => h)
    replace e6 := hOk.cell e6 (fun h => h)
    replace e7 := hOk.cell e7 (fun h => h)
    replace e8 := hOk.cell e8 (fun h => h)
    replace e9 := hOk.cell e9 (fun h => h)
    replace hlt1 := Nat.lt_of_lt_of_le hlt1 hOk.size
    have hOk' := Lib.hid hOk
    have hPk := Lib.hid (hO'.out.trans' hOk)
    have hall' := Lib.hid hall
    clear hall hOk
    by_cases hkn : k < tn
    · have hkn' : (k : Int) < (tn : Int) := by omega
      obtain ⟨t, ht⟩ : ∃ t, ts[k]? = some t := ⟨_, List.getElem?_eq_getElem (by have := hlen'.out; omega)⟩
      obtain ⟨bb, off, hA, hb, hC⟩ := hT'.out.at_ k t ht
      simp only at hA
      subst hA
      obtain ⟨c0, c1, c2, c3, c4, c5, c6⟩ := hC.new hPk.out
      have hb3 := Nat.lt_of_lt_of_le hb hPk.out.size
      have hbad := Lib.hid (fun (h : 80 < t.o.n) => show V = false by rw [hV'.out, hF'.out, few_bad ht h]; rfl)
      have hnx := Lib.hid (fun (h : t.o.n ≤ 80) => show ∀ (j : Nat) u, j < k + 1 → ts[j]? = some u → u.o.n ≤ 80 from fun j u hj hu => by
        by_cases hjk : j < k
        · exact hall'.out j u hjk hu
        · obtain rfl : j = k := by omega
          rw [ht] at hu
          cases hu
          exact h)
      clear hC ht hb
      obtain ⟨P, th, pe, de, fr, fl, ⟨oA, on, oc⟩⟩ := t
      simp only at *
      by_cases h80 : 80 < on
      · have hv := Lib.hid (hbad.out h80)
        have h80' : (80 : Int) < (on : Int) := by omega
        clear hbad hnx
        go_wp2
        go_ret
        exact retg_bool hv.out.symm (hPk.out.alloc _)
      · have hnw := Lib.hid (hnx.out (by omega))
        have h80' : ¬ (80 : Int) < (on : Int) := by omega
        clear hbad hnx
        go_wp2
        go_roundw
        case rel => exact ⟨k + 1, by omega, by go_num, hnw.out, hOk'.out.alloc _⟩
        case measure => simp [intOf]; omega
    · obtain rfl : k = tn := by omega
      have hF2 := Lib.hid (show F = true by rw [hF'.out]; exact few_all hlen'.out hall'.out)
      by_cases u0 : mn ≤ 20
      rotate_left
      · have hv := Lib.hid (show V = false by rw [hV'.out, hF2.out, decide_eq_false (by omega)]; rfl)
        have uu : ¬ (mn : Int) ≤ 20 := by omega
        go_wp2
        go_ret
        exact retg_bool (by first | exact hv.out.symm | (rw [hv.out]; simp)) hPk.out
      · have uu0 : (mn : Int) ≤ 20 := by omega
        by_cases u1 : cn ≤ 20
        rotate_left
        · have hv := Lib.hid (show V = false by rw [hV'.out, hF2.out, decide_eq_false (by omega)]; rfl)
          have uu : ¬ (cn : Int) ≤ 20 := by omega
          go_wp2
          go_ret
          exact retg_bool (by first | exact hv.out.symm | (rw [hv.out]; simp)) hPk.out
        · have uu1 : (cn : Int) ≤ 20 := by omega
          by_cases u2 : en ≤ 20
          rotate_left
          · have hv := Lib.hid (show V = false by rw [hV'.out, hF2.out, decide_eq_false (by omega)]; rfl)
            have uu : ¬ (en : Int) ≤ 20 := by omega
            go_wp2
            go_ret
            exact retg_bool (by first | exact hv.out.symm | (rw [hv.out]; simp)) hPk.out
          · have uu2 : (en : Int) ≤ 20 := by omega
            by_cases u3 : k ≤ 20
            rotate_left
            · have hv := Lib.hid (show V = false by rw [hV'.out, hF2.out, decide_eq_false (by omega)]; rfl)
              have uu : ¬ (k : Int) ≤ 20 := by omega
              go_wp2
              go_ret
              exact retg_bool (by first | exact hv.out.symm | (rw [hv.out]; simp)) hPk.out
            · have uu3 : (k : Int) ≤ 20 := by omega
              by_cases u4 : ln ≤ 20
              rotate_left
              · have hv := Lib.hid (show V = false by rw [hV'.out, hF2.out, decide_eq_false (by omega)]; rfl)
                have uu : ¬ (ln : Int) ≤ 20 := by omega
                go_wp2
                go_ret
                exact retg_bool (by first | exact hv.out.symm | (rw [hv.out]; simp)) hPk.out
              · have uu4 : (ln : Int) ≤ 20 := by omega
                have hv := Lib.hid (show V = true by rw [hV'.out, hF2.out, decide_eq_true (by omega)]; rfl)
                go_wp2
                go_ret
                exact retg_bool (by first | exact hv.out.symm | (rw [hv.out]; simp)) hPk.out
end Go.Proofs.YtbjpnjgkpkfngaaGreatDoor
namespace Go.Proofs.YtbjpnjgkpkfngaaGreatDoor
open Go Go.RowKit

structure ConfIn (w : World) (c : ConfV) (d : ConfL) (pl : Tks) : Prop where
  mb : IntsAt w c.mb d.mb
  cn : IntsAt w c.cn d.cn
  ce : IntsAt w c.ce d.ce
  li : IntsAt w c.li d.li
  t : TasksAt w c.ta pl.ts
  p : ∀ (i : Nat) t l, pl[i]? = some (t, l) → OpnRow w t.o.A l ∧ l.length = t.o.n ∧ t.o.n ≤ t.o.cap
  n : c.ta.n ≤ 9223372036854775807
theorem ConfIn.new {w w' : World} {c : ConfV} {d : ConfL} {pl : Tks} (h : ConfIn w c d pl) (ho : Only (fun _ => False) w w') : ConfIn w' c d pl :=
  ⟨h.mb.new ho, h.cn.new ho, h.ce.new ho, h.li.new ho, h.t.new ho, fun i t l ht => ⟨(h.p i t l ht).1.new ho, (h.p i t l ht).2⟩, h.n⟩
theorem ConfIn.small {w : World} {c : ConfV} {d : ConfL} {pl : Tks} (_ : ConfIn w c d pl) (hf : fewB c pl.ts = true) : c.mb.n ≤ 20 ∧ c.cn.n ≤ 20 ∧ c.ce.n ≤ 20 ∧ c.ta.n ≤ 20 ∧ c.li.n ≤ 20 ∧ ∀ (i : Nat) t l, pl[i]? = some (t, l) → t.o.n ≤ 80 := by
  unfold fewB at hf
  rw [Bool.and_eq_true, decide_eq_true_eq, List.all_eq_true] at hf
  obtain ⟨h1, h2, h3, h4, h5, h6⟩ := hf
  refine ⟨h2, h3, h4, h5, h6, fun i t l hi => ?_⟩
  have := h1 t (List.mem_of_getElem? (i := i) (by unfold Tks.ts; rw [List.getElem?_map, hi]; rfl))
  simpa using this
theorem ConfIn.conf {w : World} {c : ConfV} {d : ConfL} {pl : Tks} (h : ConfIn w c d pl) (hf : fewB c pl.ts = true) : ConfAt w c d pl := by
  obtain ⟨h1, h2, h3, h4, h5, h6⟩ := h.small hf
  exact ⟨⟨h.mb, h.cn, h.ce, h.li, by omega⟩, h.t, ⟨fun i t l ht => ⟨(h.p i t l ht).1, (h.p i t l ht).2.1, by have := h6 i t l ht; omega, (h.p i t l ht).2.2⟩⟩⟩
theorem ConfIn.few {w : World} {c : ConfV} {d : ConfL} {pl : Tks} (h : ConfIn w c d pl) : Calls Tryz.prog 7 #[.agg #[.int .i64 c.s, .int .i64 c.wy, .int .i64 c.h, .int .i64 c.mi, .slice c.mb.A c.mb.n c.mb.cap, .int .i64 c.g, .slice c.cn.A c.cn.n c.cn.cap, .slice c.ce.A c.ce.n c.ce.cap, .slice c.ta.A c.ta.n c.ta.cap, .slice c.li.A c.li.n c.li.cap]] w (GrowB (fewB c pl.ts) w) := few_any h.t h.n
theorem alike_self (c : ConfV) (pl : Tks) : Alike c c pl pl := ⟨⟨rfl, rfl, rfl, rfl, rfl⟩, rfl, rfl, rfl, rfl, rfl, rfl, fun _ t _ h => ⟨t, h, rfl, rfl, rfl, rfl, rfl, rfl⟩⟩
end Go.Proofs.YtbjpnjgkpkfngaaGreatDoor
