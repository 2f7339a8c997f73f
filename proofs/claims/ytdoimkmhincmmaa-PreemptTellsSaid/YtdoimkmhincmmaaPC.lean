/- Merged: Ops Ops2 Conf Conf2 Conf3 Conf4 Conf5 Rop Nest Nest2 Nest3 Nest4 Nest5 Check Conf6 Conf7 Conf8 Rnest Rcheck Conf9 Conf10 Conf22 Cin. -/
import Derived.Test.YtdoimkmhincmmaaRows
import Derived.Test.YtdoimkmhincmmaaWd
import Derived.Test.YtdoimkmhincmmaaWin
import Derived.Test.YtdoimkmhincmmaaTail
import Derived.Test.YtdoimkmhincmmaaRowed
import Derived.StillTailTactics
import Derived.BigQuiet
import Derived.BigRegion
import Derived.ProofKit
import Derived.Outline
import Derived.RegionTactic
import Derived.Deep.RegionLaw
import Derived.WalkLawsBesides
import Derived.WalkSpells
import Derived.WalkSmall
import Derived.OwnWalk
import Derived.IntWalk
import Derived.LoopTactic
import Derived.Deep.LoopGhost
import Derived.Deep.DrawnRows
/- Package prog's Numbers and Op, and the document's own: one number for both. -/
namespace Go.Proofs.Ytdoimkmhincmmaa
open Go Go.RowKit

def wnums : List Int := [0, 1, 1, 0, 0, 1, 1, 1, 1, 2, 1, 2, 2, 2, 1, 1]
def wnames : List ByteArray := [⟨#[]⟩, ⟨#[99, 111, 109, 112, 117, 116, 101]⟩, ⟨#[97, 99, 99, 101, 115, 115]⟩, ⟨#[101, 110, 116, 101, 114]⟩, ⟨#[101, 120, 105, 116]⟩, ⟨#[108, 111, 99, 107]⟩, ⟨#[117, 110, 108, 111, 99, 107]⟩, ⟨#[112, 117, 115, 104]⟩, ⟨#[112, 111, 112]⟩, ⟨#[115, 101, 110, 100]⟩, ⟨#[114, 101, 99, 118]⟩, ⟨#[115, 101, 116]⟩, ⟨#[99, 108, 101, 97, 114]⟩, ⟨#[116, 101, 115, 116]⟩, ⟨#[103, 105, 118, 101]⟩, ⟨#[116, 97, 107, 101]⟩]
/-- The table of words, in the block of its variable. -/
def Words (w : World) : Prop := ∀ (k : Nat) (s : ByteArray) (n : Int), wnames[k]? = some s → wnums[k]? = some n → w.cell? ⟨999, k * 2, none⟩ = some (.string s) ∧ w.cell? ⟨999, k * 2 + 1, none⟩ = some (.int .i64 n)
theorem Words.new {w w' : World} (h : Words w) (ho : Only (fun _ => False) w w') : Words w' := fun k s n h1 h2 => ⟨ho.cell (h k s n h1 h2).1 (fun h => h), ho.cell (h k s n h1 h2).2 (fun h => h)⟩

/-- Answers: a number, the world as it was; a bool or a number, the world grown. -/
def RetI (v : Int) (w : World) (e : Ending) (w' : World) : Prop := e = .returned (.int .i64 v) ∧ w = w'
def GrowI (v : Int) (w : World) (e : Ending) (w' : World) : Prop := e = .returned (.int .i64 v) ∧ Only (fun _ => False) w w'
def RetB (v : Bool) (w : World) (e : Ending) (w' : World) : Prop := e = .returned (.bool v) ∧ w = w'
def GrowB (v : Bool) (w : World) (e : Ending) (w' : World) : Prop := e = .returned (.bool v) ∧ Only (fun _ => False) w w'
def GrowV (v : Value) (w : World) (e : Ending) (w' : World) : Prop := e = .returned v ∧ Only (fun _ => False) w w'
theorem ret_int {k : IntKind} {a b : Int} (h : a = b) : Ending.returned (.int k a) = .returned (.int k b) := by rw [h]
theorem ret_bool {a b : Bool} (h : a = b) : Ending.returned (.bool a) = .returned (.bool b) := by rw [h]
/-- Is a number from one to another one? -/
def inB (a b n : Int) : Bool := decide (a ≤ n ∧ n ≤ b)

/-- How many numbers a kind has. -/
def numZ (k : Int) : Int := if k < 1 ∨ 15 < k then -1 else wnums.getD k.toNat 0
theorem kinds {k : Int} (h : ¬ (k < 1 ∨ 15 < k)) : k = 1 ∨ k = 2 ∨ k = 3 ∨ k = 4 ∨ k = 5 ∨ k = 6 ∨ k = 7 ∨ k = 8 ∨ k = 9 ∨ k = 10 ∨ k = 11 ∨ k = 12 ∨ k = 13 ∨ k = 14 ∨ k = 15 := by omega

theorem numZ_in {k : Nat} (h1 : 1 ≤ k) (h2 : k ≤ 15) : numZ (k : Int) = wnums.getD k 0 := by
  unfold numZ
  rw [if_neg (by omega)]
  rfl

def spanV (a b : Int) : Value := .agg #[.int .i64 a, .int .i64 b]
/-- What there is: how many objects of each kind. -/
structure RoomV where
  m : Int
  g : Int
  c : Int
  l : Int
def RoomV.val (r : RoomV) : Value := .agg #[.int .i64 r.m, .int .i64 r.g, .int .i64 r.c, .int .i64 r.l]
def RoomV.ok (r : RoomV) : Prop := (-1000 ≤ r.m ∧ r.m ≤ 1000) ∧ (-1000 ≤ r.g ∧ r.g ≤ 1000) ∧ (-1000 ≤ r.c ∧ r.c ≤ 1000) ∧ (-1000 ≤ r.l ∧ r.l ≤ 1000)
/-- The greatest number that A may be, and the least; of B. -/
def hiA (k : Nat) (r : RoomV) : Int := [0, 1000, 255, 0, 0, max r.l 0 - 1, max r.l 0 - 1, 4096, 4096, max r.m 0 - 1, max r.m 0 - 1, max r.g 0 - 1, max r.g 0 - 1, max r.g 0 - 1, max r.c 0 - 1, max r.c 0 - 1].getD k 0
def loA (k : Nat) : Int := [0, 1, 0, 0, 0, 0, 0, 1, 1, 0, 0, 0, 0, 0, 0, 0].getD k 0
def hiB (k : Nat) : Int := [0, 0, 0, 0, 0, 0, 0, 0, 0, 255, 0, 255, 255, 255, 0, 0].getD k 0

end Go.Proofs.Ytdoimkmhincmmaa
/- Package prog's Op, and the document's own: one answer for both. -/
namespace Go.Proofs.Ytdoimkmhincmmaa
open Go Go.RowKit

/-- An operation. -/
structure Opn where
  k : Int
  a : Int
  b : Int
def Opn.val (o : Opn) : Value := .agg #[.int .i64 o.k, .int .i64 o.a, .int .i64 o.b]
def Opn.cells (o : Opn) : List Value := [.int .i64 o.k, .int .i64 o.a, .int .i64 o.b]
/-- The answer for a kind that is one. -/
def opV (k : Nat) (a b : Int) (r : RoomV) : Int := if inB (loA k) (hiA k r) a = true ∧ inB 0 (hiB k) b = true then 0 else 5
def opZ (o : Opn) (r : RoomV) : Int :=
  if o.k < 1 ∨ 15 < o.k then 1 else opV o.k.toNat o.a o.b r

end Go.Proofs.Ytdoimkmhincmmaa
/- Configurations in memory; what asks their numbers. -/
namespace Go.Proofs.Ytdoimkmhincmmaa
open Go Go.RowKit

/-- A slice's three numbers. -/
structure Sl where
  A : Option Addr
  n : Nat
  cap : Nat
def Sl.val (x : Sl) : Value := .slice x.A x.n x.cap
/-- A task's numbers and its program's slice. -/
structure TaskV where
  p : Int
  th : Int
  pe : Int
  de : Int
  fr : Int
  fl : Int
  o : Sl
def TaskV.cells (t : TaskV) : List Value := [.int .i64 t.p, .int .i64 t.th, .int .i64 t.pe, .int .i64 t.de, .int .i64 t.fr, .int .i64 t.fl, .slice t.o.A t.o.n t.o.cap]
def TaskV.val (t : TaskV) : Value := .agg #[.int .i64 t.p, .int .i64 t.th, .int .i64 t.pe, .int .i64 t.de, .int .i64 t.fr, .int .i64 t.fl, .slice t.o.A t.o.n t.o.cap]
/-- A configuration's. -/
structure ConfV where
  s : Int
  wy : Int
  h : Int
  mi : Int
  mb : Sl
  g : Int
  cn : Sl
  ce : Sl
  ta : Sl
  li : Sl
def ConfV.cells (c : ConfV) : List Value := [.int .i64 c.s, .int .i64 c.wy, .int .i64 c.h, .int .i64 c.mi, .slice c.mb.A c.mb.n c.mb.cap, .int .i64 c.g, .slice c.cn.A c.cn.n c.cn.cap, .slice c.ce.A c.ce.n c.ce.cap, .slice c.ta.A c.ta.n c.ta.cap, .slice c.li.A c.li.n c.li.cap]
def ConfV.val (c : ConfV) : Value := .agg #[.int .i64 c.s, .int .i64 c.wy, .int .i64 c.h, .int .i64 c.mi, .slice c.mb.A c.mb.n c.mb.cap, .int .i64 c.g, .slice c.cn.A c.cn.n c.cn.cap, .slice c.ce.A c.ce.n c.ce.cap, .slice c.ta.A c.ta.n c.ta.cap, .slice c.li.A c.li.n c.li.cap]

/-- Ints in memory. -/
structure IntsAt (w : World) (x : Sl) (l : List Int) : Prop where
  len : l.length = x.n
  cap : x.n ≤ x.cap
  at_ : ∀ (k : Nat) z, l[k]? = some z → ∃ b off, x.A = some ⟨b, off, none⟩ ∧ b < w.heap.size ∧ w.cell? ⟨b, off + k, none⟩ = some (.int .i64 z)
theorem IntsAt.new {w w' : World} {x : Sl} {l : List Int} (h : IntsAt w x l) (ho : Only (fun _ => False) w w') : IntsAt w' x l :=
  ⟨h.len, h.cap, fun k z hz => by
    obtain ⟨b, off, hA, hb, hc⟩ := h.at_ k z hz
    exact ⟨b, off, hA, Nat.lt_of_lt_of_le hb ho.size, ho.cell hc (fun h => h)⟩⟩
def allIn (lo hi : Int) (l : List Int) : Bool := l.all (inB lo hi)
theorem allIn_not {lo hi : Int} {l : List Int} {k : Nat} {z : Int} (h : l[k]? = some z) (hz : inB lo hi z = false) : allIn lo hi l = false := by
  unfold allIn
  rw [List.all_eq_false]
  exact ⟨z, List.mem_of_getElem? h, by simp [hz]⟩
theorem allIn_all {lo hi : Int} {l : List Int} (h : ∀ (k : Nat) z, l[k]? = some z → inB lo hi z = true) : allIn lo hi l = true := by
  unfold allIn
  rw [List.all_eq_true]
  intro z hz
  obtain ⟨k, hk⟩ := List.getElem?_of_mem hz
  exact h k z hk
theorem inB_lt {lo hi z : Int} (h : z < lo) : inB lo hi z = false := by unfold inB; simp; omega
theorem inB_gt {lo hi z : Int} (h : hi < z) : inB lo hi z = false := by unfold inB; simp; omega
theorem inB_ok {lo hi z : Int} (h1 : ¬ z < lo) (h2 : ¬ hi < z) : inB lo hi z = true := by unfold inB; simp; omega

end Go.Proofs.Ytdoimkmhincmmaa
/- Machines and tasks: their numbers. -/
namespace Go.Proofs.Ytdoimkmhincmmaa
open Go Go.RowKit

def machB (s wy h mi : Int) : Bool := inB 1 16 s && inB 1 4 wy && inB 1 100 h && inB h 100 mi
def taskB (p th pe de fr fl : Int) : Bool := inB 0 63 p && inB p 63 th && inB 1 1048576 pe && inB 1 pe de && inB 0 4096 fr && inB 0 1048576 fl
theorem retg_bool {a b : Bool} (h : a = b) {w w' : World} (ho : Only (fun _ => False) w w') : GrowB b w (.returned (.bool a)) w' := ⟨by rw [h], ho⟩

end Go.Proofs.Ytdoimkmhincmmaa
/- Rooms; too many; what objects may be. -/
namespace Go.Proofs.Ytdoimkmhincmmaa
open Go Go.RowKit

def ConfV.room (c : ConfV) : RoomV := ⟨c.mb.n, c.g, c.cn.n, c.ce.n⟩
def max4 (a b c d : Int) : Int := (fun x => if d > x then d else x) ((fun x => if c > x then c else x) (if b > a then b else a))
theorem max4_lt (a b c d : Int) : 4 < max4 a b c d ↔ (4 < a ∨ 4 < b ∨ 4 < c ∨ 4 < d) := by
  unfold max4
  simp only
  split <;> split <;> split <;> omega
theorem run_max4 (P : Program) (t : Array TypeId) (y : TypeId) (a b c d : Int) (w : World) : Sem.run P (Builtin.max_ t y #[.int .i64 a, .int .i64 b, .int .i64 c, .int .i64 d]) w = .ok (.int .i64 (max4 a b c d)) w := rfl

def manyB (c : ConfV) : Bool := decide (4 < (c.mb.n : Int) ∨ 4 < c.g ∨ 4 < (c.cn.n : Int) ∨ 4 < (c.ce.n : Int) ∨ 8 < (c.ta.n : Int) ∨ 8 < (c.li.n : Int))
end Go.Proofs.Ytdoimkmhincmmaa
/- Objects: their numbers; priorities held; locks below. -/
namespace Go.Proofs.Ytdoimkmhincmmaa
open Go Go.RowKit

structure ConfL where
  mb : List Int
  cn : List Int
  ce : List Int
  li : List Int
structure ObjsAt (w : World) (c : ConfV) (d : ConfL) : Prop where
  mb : IntsAt w c.mb d.mb
  cn : IntsAt w c.cn d.cn
  ce : IntsAt w c.ce d.ce
  li : IntsAt w c.li d.li
  s : c.mb.n ≤ 1000000 ∧ c.cn.n ≤ 1000000 ∧ c.ce.n ≤ 1000000 ∧ c.li.n ≤ 1000000 ∧ c.ta.n ≤ 1000000
theorem ObjsAt.new {w w' : World} {c : ConfV} {d : ConfL} (h : ObjsAt w c d) (ho : Only (fun _ => False) w w') : ObjsAt w' c d := ⟨h.mb.new ho, h.cn.new ho, h.ce.new ho, h.li.new ho, h.s⟩
def objB (c : ConfV) (d : ConfL) : Bool := allIn 1 8 d.mb && allIn 1 8 d.cn && allIn 0 63 d.ce && allIn 0 ((c.ta.n : Int) - 1) d.li

end Go.Proofs.Ytdoimkmhincmmaa
/- Rows of tasks; priorities held; locks below. -/
namespace Go.Proofs.Ytdoimkmhincmmaa
open Go Go.RowKit

structure TaskCells (w : World) (b off : Nat) (t : TaskV) : Prop where
  c0 : w.cell? ⟨b, off, none⟩ = some (.int .i64 t.p)
  c1 : w.cell? ⟨b, off + 1, none⟩ = some (.int .i64 t.th)
  c2 : w.cell? ⟨b, off + 2, none⟩ = some (.int .i64 t.pe)
  c3 : w.cell? ⟨b, off + 3, none⟩ = some (.int .i64 t.de)
  c4 : w.cell? ⟨b, off + 4, none⟩ = some (.int .i64 t.fr)
  c5 : w.cell? ⟨b, off + 5, none⟩ = some (.int .i64 t.fl)
  c6 : w.cell? ⟨b, off + 6, none⟩ = some (.slice t.o.A t.o.n t.o.cap)
theorem TaskCells.new {w w' : World} {b off : Nat} {t : TaskV} (h : TaskCells w b off t) (ho : Only (fun _ => False) w w') : TaskCells w' b off t :=
  ⟨ho.cell h.c0 (fun h => h), ho.cell h.c1 (fun h => h), ho.cell h.c2 (fun h => h), ho.cell h.c3 (fun h => h), ho.cell h.c4 (fun h => h), ho.cell h.c5 (fun h => h), ho.cell h.c6 (fun h => h)⟩
/-- Tasks in memory. -/
structure TasksAt (w : World) (x : Sl) (l : List TaskV) : Prop where
  len : l.length = x.n
  cap : x.n ≤ x.cap
  at_ : ∀ (k : Nat) t, l[k]? = some t → ∃ b off, x.A = some ⟨b, off, none⟩ ∧ b < w.heap.size ∧ TaskCells w b (off + k * 7) t
theorem TasksAt.new {w w' : World} {x : Sl} {l : List TaskV} (h : TasksAt w x l) (ho : Only (fun _ => False) w w') : TasksAt w' x l :=
  ⟨h.len, h.cap, fun k t ht => by
    obtain ⟨b, off, hA, hb, hc⟩ := h.at_ k t ht
    exact ⟨b, off, hA, Nat.lt_of_lt_of_le hb ho.size, hc.new ho⟩⟩
theorem TasksAt.take {w : World} {x : Sl} {l : List TaskV} (h : TasksAt w x l) {i : Nat} (hi : i ≤ x.n) : TasksAt w ⟨x.A, i, x.cap⟩ (l.take i) :=
  ⟨by rw [List.length_take, h.len]; exact Nat.min_eq_left hi, Nat.le_trans hi h.cap, fun k t ht => by
    by_cases hk : k < i
    · rw [List.getElem?_take_of_lt hk] at ht
      exact h.at_ k t ht
    · rw [List.getElem?_take] at ht
      simp [hk] at ht⟩

/-- What a search answers. -/
def IdxEnd (v : Bool) (w : World) (e : Ending) (w' : World) : Prop :=
  ∃ z : Int, e = .returned (.int .i64 z) ∧ (0 ≤ z ↔ v = true) ∧ -1 ≤ z ∧ z ≤ 1000000 ∧ Only (fun _ => False) w w'

theorem any_not {α : Type} {l : List α} {f : α → Bool} (h : ∀ (k : Nat) t, l[k]? = some t → f t = false) : l.any f = false := by
  rw [List.any_eq_false]
  intro t ht
  obtain ⟨k, hk⟩ := List.getElem?_of_mem ht
  simp [h k t hk]
theorem any_yes {α : Type} {l : List α} {f : α → Bool} {k : Nat} {t : α} (hk : l[k]? = some t) (h : f t = true) : l.any f = true :=
  List.any_eq_true.2 ⟨t, List.mem_of_getElem? hk, h⟩

end Go.Proofs.Ytdoimkmhincmmaa
/- The document's own Op of layer 6. -/
namespace Go.Proofs.Ytdoimkmhincmmaa
open Go Go.RowKit

theorem inB_max (l a : Int) : inB 0 (l - 1) a = inB 0 (max l 0 - 1) a := by
  unfold inB
  by_cases h : 0 ≤ a ∧ a ≤ l - 1
  · rw [decide_eq_true h, decide_eq_true (by omega)]
  · rw [decide_eq_false h, decide_eq_false (by omega)]
theorem inB_zero (b : Int) : inB 0 0 b = (b == 0) := by
  unfold inB
  by_cases h : b = 0
  · subst h; rfl
  · rw [decide_eq_false (by omega)]; simp [h]
theorem opV_yes {k : Nat} {a b : Int} {r : RoomV} (h1 : inB (loA k) (hiA k r) a = true) (h2 : inB 0 (hiB k) b = true) : opV k a b r = 0 := by unfold opV; rw [if_pos ⟨h1, h2⟩]
theorem opV_noA {k : Nat} {a b : Int} {r : RoomV} (h1 : inB (loA k) (hiA k r) a = false) : opV k a b r = 5 := by unfold opV; rw [if_neg (by rw [h1]; simp)]
theorem opV_noB {k : Nat} {a b : Int} {r : RoomV} (h2 : inB 0 (hiB k) b = false) : opV k a b r = 5 := by unfold opV; rw [if_neg (by rw [h2]; simp)]

end Go.Proofs.Ytdoimkmhincmmaa
/- How a program's operations nest: the state that both sides keep, and package prog's closures over it. -/
namespace Go.Proofs.Ytdoimkmhincmmaa
open Go Go.RowKit

def mkI (x : Int) : Value := .int .i64 x
/-- Regions that are open, ceilings that are locked, bytes that are pushed. -/
structure NS where
  r : Int
  ls : List Int
  p : Int
def ns0 : NS := ⟨0, [], 0⟩
def NS.fine (s : NS) : Prop := 0 ≤ s.r ∧ 0 ≤ s.p
/-- Behind an operation; none: a lock that is locked, an unlock that isn't the last one's. -/
def moveN (s : NS) (k a : Int) : Option NS :=
  if k = 3 then some ⟨s.r + 1, s.ls, s.p⟩ else if k = 4 then some ⟨s.r - 1, s.ls, s.p⟩
  else if k = 5 then (if a ∈ s.ls then none else some ⟨s.r, s.ls ++ [a], s.p⟩)
  else if k = 6 then (if s.ls.getLast? = some a then some ⟨s.r, s.ls.dropLast, s.p⟩ else none)
  else if k = 7 then some ⟨s.r, s.ls, s.p + a⟩ else if k = 8 then some ⟨s.r, s.ls, s.p - a⟩ else some s
def fineB (s : NS) : Bool := decide (0 ≤ s.r ∧ 0 ≤ s.p)
def stepN (s : NS) (k a : Int) : Option NS := match moveN s k a with
  | none => none
  | some t => if fineB t = true then some t else none

/-- The three variables of the closures. -/
def NestAt (w : World) (b2 b3 b4 : Nat) (h : Option Nat) (s : NS) : Prop :=
  ∃ v, w.heap[b2]? = some (.cells [v].toArray 24 (0, 0)) ∧ w.heap[b3]? = some (.cells [mkI s.r].toArray 3 (0, 0)) ∧ w.heap[b4]? = some (.cells [mkI s.p].toArray 3 (0, 0)) ∧ Win w 3 1 v h s.ls.length (s.ls.map mkI) ∧
    (∀ k, h = some k → k ≠ b2 ∧ k ≠ b3 ∧ k ≠ b4) ∧ b2 ≠ b3 ∧ b2 ≠ b4 ∧ b3 ≠ b4
def nfp (b2 b3 b4 : Nat) (h : Option Nat) (k : Nat) : Prop := k = b2 ∨ k = b3 ∨ k = b4 ∨ h = some k
theorem NestAt.kept {S : Nat → Prop} {w w' : World} {b2 b3 b4 : Nat} {h : Option Nat} {s : NS} (hN : NestAt w b2 b3 b4 h s) (ho : Only S w w') (hS : ∀ k, nfp b2 b3 b4 h k → ¬ S k) : NestAt w' b2 b3 b4 h s := by
  obtain ⟨v, h1, h2, h3, h4, h5⟩ := hN
  exact ⟨v, ho.heap h1 (hS _ (.inl rfl)), ho.heap h2 (hS _ (.inr (.inl rfl))), ho.heap h3 (hS _ (.inr (.inr (.inl rfl)))), h4.kept ho (fun k hk => hS k (.inr (.inr (.inr hk)))), h5⟩
theorem NestAt.new {w w' : World} {b2 b3 b4 : Nat} {h : Option Nat} {s : NS} (hN : NestAt w b2 b3 b4 h s) (ho : Only (fun _ => False) w w') : NestAt w' b2 b3 b4 h s := hN.kept ho (fun _ _ h => h)
theorem NestAt.lt {w : World} {b2 b3 b4 : Nat} {h : Option Nat} {s : NS} (hN : NestAt w b2 b3 b4 h s) : ∀ k, nfp b2 b3 b4 h k → k < w.heap.size := by
  obtain ⟨v, h1, h2, h3, h4, h5⟩ := hN
  rintro k (rfl | rfl | rfl | hk)
  · exact row_lt h1
  · exact row_lt h2
  · exact row_lt h3
  · exact h4.lt k hk
/-- What following one operation leaves: none: it doesn't nest. -/
def StepEnd (w : World) (b2 b3 b4 : Nat) (h : Option Nat) (t : Option NS) (e : Ending) (w' : World) : Prop :=
  match t with
  | none => e = .returned (.bool false) ∧ Only (nfp b2 b3 b4 h) w w'
  | some s => e = .returned (.bool true) ∧ ∃ h', NestAt w' b2 b3 b4 h' s ∧ (h' = h ∨ ∃ g, h' = some g ∧ w.heap.size ≤ g) ∧ Only (nfp b2 b3 b4 h) w w'
end Go.Proofs.Ytdoimkmhincmmaa
/- Package prog's closures: what following an operation tells and leaves. -/
namespace Go.Proofs.Ytdoimkmhincmmaa
open Go Go.RowKit

theorem stepN_yes {s t : NS} {k a : Int} (h : moveN s k a = some t) (h1 : 0 ≤ t.r) (h2 : 0 ≤ t.p) : stepN s k a = some t := by
  unfold stepN
  rw [h]
  simp [fineB, h1, h2]
theorem stepN_no {s t : NS} {k a : Int} (h : moveN s k a = some t) (h1 : t.r < 0 ∨ t.p < 0) : stepN s k a = none := by
  unfold stepN
  rw [h]
  have : fineB t = false := by unfold fineB; exact decide_eq_false (by omega)
  simp [this]
theorem stepN_none {s : NS} {k a : Int} (h : moveN s k a = none) : stepN s k a = none := by
  unfold stepN
  rw [h]

end Go.Proofs.Ytdoimkmhincmmaa
/- Package prog's closures: locking and unlocking. -/
namespace Go.Proofs.Ytdoimkmhincmmaa
open Go Go.RowKit

theorem infoI : (Try.prog.info? 3).map (fun i => (i.zero, i.size, i.bytes)) = some (some (Value.int .i64 0), 1, 8) := by kernel_rfl
theorem row_all {w : World} {X : Nat} {L : List Value} {e : TypeId} (h : w.heap[X]? = some (.cells L.toArray e (0, 0))) : ∀ j u, L[j]? = some u → w.cell? ((⟨X, 0, none⟩ : Addr).add j) = some u := fun j u hu => by
  rw [Addr.add_lit, Nat.zero_add]
  exact row_cell (L := L) h hu

/-- The blocks of the closures behind an append to the locked ones. -/
theorem lock_end {w W w4 : World} {b2 b3 b4 : Nat} {h h4 : Option Nat} {s : NS} {v4 : Value} {a : Int} {n : Nat} (hN : NestAt w b2 b3 b4 h s) (hn : n = s.ls.length) (hW : Only (fun _ => False) w W)
    (h4w : Win w4 3 1 v4 h4 (n + 1) (s.ls.map mkI ++ [mkI a])) (h4o : Only (fun k => some k = h) W w4) (hh : h4 = h ∨ ∃ g, h4 = some g ∧ W.heap.size ≤ g) :
    NestAt (w4.setCell ⟨b2, 0, none⟩ v4) b2 b3 b4 h4 ⟨s.r, s.ls ++ [a], s.p⟩ ∧ (h4 = h ∨ ∃ g, h4 = some g ∧ w.heap.size ≤ g) ∧ Only (nfp b2 b3 b4 h) w (w4.setCell ⟨b2, 0, none⟩ v4) := by
  have hlt := hN.lt
  have hs := hW.size
  obtain ⟨v, e2, e3, e4, eW, hd, n23, n24, n34⟩ := hN.new hW
  have k2 := h4o.heap e2 (fun e => (hd b2 e.symm).1 rfl)
  have k3 := h4o.heap e3 (fun e => (hd b3 e.symm).2.1 rfl)
  have k4 := h4o.heap e4 (fun e => (hd b4 e.symm).2.2 rfl)
  have hne : ∀ k, h4 = some k → k ≠ b2 ∧ k ≠ b3 ∧ k ≠ b4 := by
    rintro k rfl
    rcases hh with hh | ⟨g, hg, hge⟩
    · exact hd k hh.symm
    · cases hg
      have q2 := hlt b2 (.inl rfl)
      have q3 := hlt b3 (.inr (.inl rfl))
      have q4 := hlt b4 (.inr (.inr (.inl rfl)))
      omega
  have hO : Only (fun k => k = b2) w4 (w4.setCell ⟨b2, 0, none⟩ v4) := (Only.refl (fun k => k = b2) w4).setCell (p := ⟨b2, 0, none⟩) (fun _ => rfl) _
  refine ⟨⟨v4, row_set k2 0 v4, hO.heap k3 (fun e => n23 e.symm), hO.heap k4 (fun e => n24 e.symm), ?_, hne, n23, n24, n34⟩, ?_, ?_⟩
  · simp only [List.length_append, List.map_append, List.length_cons, List.length_nil, List.map_cons, List.map_nil]
    rw [← hn]
    exact h4w.kept hO (fun k hk e => (hne k hk).1 e)
  · rcases hh with hh | ⟨g, hg, hge⟩
    · exact .inl hh
    · exact .inr ⟨g, hg, by omega⟩
  · exact ((hW.mono (T := nfp b2 b3 b4 h) (fun _ _ h => h.elim)).trans h4o (fun k _ e => .inr (.inr (.inr e.symm)))).trans hO (fun k _ e => .inl e)

end Go.Proofs.Ytdoimkmhincmmaa
/- Package prog's closures: unlocking; the end; all kinds in one; what makes them. -/
namespace Go.Proofs.Ytdoimkmhincmmaa
open Go Go.RowKit

theorem unlock_end {w W : World} {b2 b3 b4 m cap : Nat} {h : Option Nat} {s : NS} {ls : List Int} {x : Int} {p0 : Option Addr} (hN : NestAt w b2 b3 b4 h s) (hls : s.ls = ls ++ [x]) (hm : ls.length = m) (hW : Only (fun _ => False) w W) (c2 : w.cell? ⟨b2, 0, none⟩ = some (.slice p0 (m + 1) cap)) :
    NestAt (W.setCell ⟨b2, 0, none⟩ (.slice p0 m cap)) b2 b3 b4 h ⟨s.r, ls, s.p⟩ ∧ Only (nfp b2 b3 b4 h) w (W.setCell ⟨b2, 0, none⟩ (.slice p0 m cap)) := by
  obtain ⟨v, e2, e3, e4, eW, hd, n23, n24, n34⟩ := hN
  have hv : v = .slice p0 (m + 1) cap := by
    have := row_cell e2 (i := 0) (v := v) rfl
    rw [this] at c2
    exact Option.some.inj c2
  subst hv
  have hO : Only (fun k => k = b2) W (W.setCell ⟨b2, 0, none⟩ (.slice p0 m cap)) := (Only.refl (fun k => k = b2) W).setCell (p := ⟨b2, 0, none⟩) (fun _ => rfl) _
  have hlen : s.ls.length = m + 1 := by rw [hls]; simp [hm]
  rw [hlen] at eW
  have ht := eW.take (k := m) (by omega)
  rw [hls, List.map_append, List.take_left' (by simp [hm])] at ht
  refine ⟨⟨_, row_set (hW.heap e2 (fun h => h)) 0 _, hO.heap (hW.heap e3 (fun h => h)) (fun e => n23 e.symm), hO.heap (hW.heap e4 (fun h => h)) (fun e => n24 e.symm), ?_, hd, n23, n24, n34⟩, ?_⟩
  · subst hm
    exact (ht.kept hW (fun _ _ h => h)).kept hO (fun k hk e => (hd k hk).1 e)
  · exact (hW.mono (T := nfp b2 b3 b4 h) (fun _ _ h => h.elim)).trans hO (fun k _ e => .inl e)

end Go.Proofs.Ytdoimkmhincmmaa
/- Package prog's closures, all kinds in one; what makes them; and the plain check that both sides come to. -/
namespace Go.Proofs.Ytdoimkmhincmmaa
open Go Go.RowKit

/-- Is nothing open or locked? -/
def doneB (s : NS) : Bool := decide (s.r = 0) && decide (s.ls = [])
def closV (f b3 b2 b4 : Nat) : Value := if f = 999 then .func (.func 999) #[] #[.pointer (some ⟨b3, 0, none⟩), .pointer (some ⟨b2, 0, none⟩), .pointer (some ⟨b4, 0, none⟩)] else .func (.func 999) #[] #[.pointer (some ⟨b3, 0, none⟩), .pointer (some ⟨b2, 0, none⟩)]
/-- What nesting makes. -/
def NestingEnd (w : World) (e : Ending) (w' : World) : Prop :=
  ∃ b2 b3 b4, e = .returned (.tuple #[.func (.func 999) #[] #[.pointer (some ⟨b3, 0, none⟩), .pointer (some ⟨b2, 0, none⟩), .pointer (some ⟨b4, 0, none⟩)], .func (.func 999) #[] #[.pointer (some ⟨b3, 0, none⟩), .pointer (some ⟨b2, 0, none⟩)]]) ∧
    NestAt w' b2 b3 b4 none ns0 ∧ w.heap.size ≤ b2 ∧ w.heap.size ≤ b3 ∧ w.heap.size ≤ b4 ∧ Only (fun _ => False) w w'
/-- The plain check. -/
def runZ : List Opn → NS → RoomV → Int
  | [], s, _ => if doneB s = true then 0 else 9
  | o :: l, s, r => if opZ o r = 0 then (match stepN s o.k o.a with
      | none => 9
      | some t => runZ l t r) else opZ o r
def checkZ (l : List Opn) (r : RoomV) : Int := if l.length = 0 then 1 else if 64 < l.length then 4 else runZ l ns0 r

theorem inB_iff {lo hi a : Int} : inB lo hi a = true ↔ lo ≤ a ∧ a ≤ hi := by unfold inB; simp
theorem opZ_zero {o : Opn} {r : RoomV} (hr : r.ok) (h : opZ o r = 0) : ¬ (o.k < 1 ∨ 15 < o.k) ∧ 0 ≤ o.a ∧ o.a ≤ 5000 := by
  unfold opZ at h
  by_cases hk : o.k < 1 ∨ 15 < o.k
  · rw [if_pos hk] at h
    cases h
  · rw [if_neg hk] at h
    refine ⟨hk, ?_⟩
    unfold opV at h
    by_cases hc : inB (loA o.k.toNat) (hiA o.k.toNat r) o.a = true ∧ inB 0 (hiB o.k.toNat) o.b = true
    · have := inB_iff.1 hc.1
      obtain ⟨⟨m1, m2⟩, ⟨g1, g2⟩, ⟨c1, c2⟩, l1, l2⟩ := hr
      rcases kinds hk with e | e | e | e | e | e | e | e | e | e | e | e | e | e | e
      all_goals
        rw [e] at this
        simp [loA, hiA] at this
        omega
    · rw [if_neg hc] at h
      cases h
theorem step_bounds {s t : NS} {k a : Int} (h : stepN s k a = some t) (ha : 0 ≤ a ∧ a ≤ 5000) : (t.r ≤ s.r + 1 ∧ s.r - 1 ≤ t.r) ∧ (t.p ≤ s.p + 5000 ∧ s.p - 5000 ≤ t.p) ∧ t.ls.length ≤ s.ls.length + 1 := by
  unfold stepN at h
  split at h
  · cases h
  · rename_i t' ht'
    split at h
    · cases h
      unfold moveN at ht'
      split at ht'
      · cases ht'; refine ⟨⟨?_, ?_⟩, ⟨?_, ?_⟩, ?_⟩ <;> simp only <;> omega
      split at ht'
      · cases ht'; refine ⟨⟨?_, ?_⟩, ⟨?_, ?_⟩, ?_⟩ <;> simp only <;> omega
      split at ht'
      · split at ht'
        · cases ht'
        · cases ht'; refine ⟨⟨?_, ?_⟩, ⟨?_, ?_⟩, ?_⟩ <;> simp
          all_goals omega
      split at ht'
      · split at ht'
        · cases ht'; refine ⟨⟨?_, ?_⟩, ⟨?_, ?_⟩, ?_⟩ <;> simp
          all_goals omega
        · cases ht'
      split at ht'
      · cases ht'; refine ⟨⟨?_, ?_⟩, ⟨?_, ?_⟩, ?_⟩ <;> simp only <;> omega
      split at ht'
      · cases ht'; refine ⟨⟨?_, ?_⟩, ⟨?_, ?_⟩, ?_⟩ <;> simp only <;> omega
      · cases ht'; refine ⟨⟨?_, ?_⟩, ⟨?_, ?_⟩, ?_⟩ <;> omega
    · cases h
end Go.Proofs.Ytdoimkmhincmmaa
/- Package prog's Check: the plain check. -/
namespace Go.Proofs.Ytdoimkmhincmmaa
open Go Go.RowKit

def OpnCells (w : World) (g off : Nat) (x : Opn) : Prop :=
  w.cell? ⟨g, off, none⟩ = some (.int .i64 x.k) ∧ w.cell? ⟨g, off + 1, none⟩ = some (.int .i64 x.a) ∧ w.cell? ⟨g, off + 2, none⟩ = some (.int .i64 x.b)
/-- A row of operations that came in. -/
def OpnRow (w : World) (A : Option Addr) (l : List Opn) : Prop :=
  ∀ k x, l[k]? = some x → ∃ b off, A = some ⟨b, off, none⟩ ∧ b < w.heap.size ∧ OpnCells w b (off + k * 3) x
theorem OpnRow.only {S : Nat → Prop} {w w' : World} {A : Option Addr} {l : List Opn} (h : OpnRow w A l) (ho : Only S w w') (hS : ∀ k, S k → w.heap.size ≤ k) : OpnRow w' A l := fun k x hx => by
  obtain ⟨b, off, rfl, hb, h0, h1, h2⟩ := h k x hx
  have hn : ¬ S b := fun hs => by have := hS b hs; omega
  exact ⟨b, off, rfl, Nat.lt_of_lt_of_le hb ho.size, ho.cell h0 hn, ho.cell h1 hn, ho.cell h2 hn⟩
theorem OpnRow.new {w w' : World} {A : Option Addr} {l : List Opn} (h : OpnRow w A l) (ho : Only (fun _ => False) w w') : OpnRow w' A l := h.only ho (fun _ h => h.elim)

/-- Behind k operations. -/
def CkRel (w : World) (b2 b3 b4 : Nat) (l : List Opn) (r : RoomV) (k : Nat) (w' : World) : Prop :=
  ∃ h s, NestAt w' b2 b3 b4 h s ∧ runZ l ns0 r = runZ (l.drop k) s r ∧ (-(k : Int) ≤ s.r ∧ s.r ≤ k) ∧ (-(5000 * (k : Int)) ≤ s.p ∧ s.p ≤ 5000 * (k : Int)) ∧ s.ls.length ≤ k ∧ (∀ g, h = some g → w.heap.size < g) ∧ Only (fun _ => False) w w'

theorem run_bad {l : List Opn} {k : Nat} {x : Opn} {s : NS} {r : RoomV} (hx : l[k]? = some x) (hz : opZ x r ≠ 0) : runZ (l.drop k) s r = opZ x r := by
  obtain ⟨hk, rfl⟩ := List.getElem?_eq_some_iff.1 hx
  rw [List.drop_eq_getElem_cons hk, runZ, if_neg hz]
theorem run_step {l : List Opn} {k : Nat} {x : Opn} {s : NS} {r : RoomV} (hx : l[k]? = some x) (hz : opZ x r = 0) : runZ (l.drop k) s r = match stepN s x.k x.a with
    | none => 9
    | some t => runZ (l.drop (k + 1)) t r := by
  obtain ⟨hk, rfl⟩ := List.getElem?_eq_some_iff.1 hx
  rw [List.drop_eq_getElem_cons hk, runZ, if_pos hz] <;> rfl

end Go.Proofs.Ytdoimkmhincmmaa
/- Locks below a priority. -/
namespace Go.Proofs.Ytdoimkmhincmmaa
open Go Go.RowKit

/-- Whether an operation locks a ceiling below a priority. -/
def lowB (ce : List Int) (p : Int) (o : Opn) : Bool := decide (o.k = 5) && decide (ce.getD o.a.toNat 0 < p)

theorem lowB_five {ce : List Int} {p b z : Int} {a : Nat} (h : ce.getD a 0 = z) : lowB ce p ⟨5, a, b⟩ = decide (z < p) := by
  subst h
  unfold lowB
  simp
theorem lowB_not {ce : List Int} {p k a b : Int} (h : ¬ k = 5) : lowB ce p ⟨k, a, b⟩ = false := by
  unfold lowB
  simp [h]
end Go.Proofs.Ytdoimkmhincmmaa
/- One task's check. -/
namespace Go.Proofs.Ytdoimkmhincmmaa
open Go Go.RowKit

def TaskV.okB (t : TaskV) : Bool := taskB t.p t.th t.pe t.de t.fr t.fl
def taskZ (r : RoomV) (ce : List Int) (ts : List TaskV) (i : Nat) (t : TaskV) (l : List Opn) : Int :=
  if t.okB = false then 5 else if checkZ l r ≠ 0 then checkZ l r else if l.any (lowB ce t.p) = true then 9
  else if (ts.take i).any (fun u => decide (u.p = t.p)) = true then 10 else 0
theorem runZ_ops {r : RoomV} : ∀ {l : List Opn} {s : NS}, runZ l s r = 0 → ∀ o ∈ l, opZ o r = 0
  | [], _, _, o, h => by simp at h
  | x :: l, s, hz, o, h => by
    unfold runZ at hz
    by_cases hx : opZ x r = 0
    · rw [if_pos hx] at hz
      rcases List.mem_cons.1 h with rfl | h
      · exact hx
      · cases hs : stepN s x.k x.a with
        | none => rw [hs] at hz; simp at hz
        | some t => rw [hs] at hz; exact runZ_ops hz o h
    · rw [if_neg hx] at hz
      exact absurd hz hx
theorem checkZ_ops {l : List Opn} {r : RoomV} (h : checkZ l r = 0) : ∀ o ∈ l, opZ o r = 0 := by
  unfold checkZ at h
  by_cases h0 : l.length = 0
  · rw [if_pos h0] at h; simp at h
  · rw [if_neg h0] at h
    by_cases h1 : 64 < l.length
    · rw [if_pos h1] at h; simp at h
    · rw [if_neg h1] at h
      exact runZ_ops h
theorem lock_in {o : Opn} {r : RoomV} (h : opZ o r = 0) (hk : o.k = 5) (hl : 0 ≤ r.l) : 0 ≤ o.a ∧ o.a < r.l := by
  obtain ⟨k, a, b⟩ := o
  simp only at hk
  subst hk
  unfold opZ at h
  simp [opV, loA, hiA, hiB, inB] at h
  simp only
  omega

end Go.Proofs.Ytdoimkmhincmmaa
/- The check of a configuration. -/
namespace Go.Proofs.Ytdoimkmhincmmaa
open Go Go.RowKit

def firstNZ (f : Nat → Int) : Nat → Int
  | 0 => 0
  | n + 1 => if firstNZ f n ≠ 0 then firstNZ f n else f n
theorem firstNZ_zero {f : Nat → Int} : ∀ {n : Nat}, (∀ j, j < n → f j = 0) → firstNZ f n = 0
  | 0, _ => rfl
  | n + 1, h => by
    unfold firstNZ
    rw [firstNZ_zero (fun j hj => h j (by omega)), if_neg (by simp)]
    exact h n (by omega)
theorem firstNZ_at {f : Nat → Int} {k : Nat} (h : ∀ j, j < k → f j = 0) (hk : f k ≠ 0) : ∀ {n : Nat}, k < n → firstNZ f n = f k
  | 0, hn => by omega
  | n + 1, hn => by
    unfold firstNZ
    by_cases hkn : k = n
    · subst hkn
      rw [firstNZ_zero h, if_neg (by simp)]
    · rw [firstNZ_at h hk (n := n) (by omega), if_pos hk]

abbrev Tks := List (TaskV × List Opn)
def Tks.ts (pl : Tks) : List TaskV := pl.map Prod.fst
def taskAt (r : RoomV) (ce : List Int) (pl : Tks) (i : Nat) : Int := match pl[i]? with
  | some (t, l) => taskZ r ce pl.ts i t l
  | none => 0
def confZ (c : ConfV) (d : ConfL) (pl : Tks) : Int :=
  if machB c.s c.wy c.h c.mi = false then 5 else if manyB c = true then 4 else if c.ta.n = 0 ∨ c.g < 0 then 1 else if objB c d = false then 5
  else firstNZ (taskAt c.room d.ce pl) c.ta.n
/-- The programs of tasks. -/
structure ProgsAt (w : World) (pl : Tks) : Prop where
  row : ∀ (i : Nat) t l, pl[i]? = some (t, l) → OpnRow w t.o.A l ∧ l.length = t.o.n ∧ t.o.n ≤ 1000000 ∧ t.o.n ≤ t.o.cap
theorem ProgsAt.new {w w' : World} {pl : Tks} (h : ProgsAt w pl) (ho : Only (fun _ => False) w w') : ProgsAt w' pl := ⟨fun i t l ht => ⟨(h.row i t l ht).1.new ho, (h.row i t l ht).2⟩⟩
/-- A configuration, all of it. -/
structure ConfAt (w : World) (c : ConfV) (d : ConfL) (pl : Tks) : Prop where
  o : ObjsAt w c d
  t : TasksAt w c.ta pl.ts
  p : ProgsAt w pl
theorem ConfAt.new {w w' : World} {c : ConfV} {d : ConfL} {pl : Tks} (h : ConfAt w c d pl) (ho : Only (fun _ => False) w w') : ConfAt w' c d pl := ⟨h.o.new ho, h.t.new ho, h.p.new ho⟩
theorem room_ok {c : ConfV} (h1 : manyB c = false) (h2 : ¬ c.g < 0) : c.room.ok := by
  unfold manyB at h1
  simp only [decide_eq_false_iff_not] at h1
  unfold RoomV.ok ConfV.room
  simp only
  omega
theorem taskAt_some {r : RoomV} {ce : List Int} {pl : Tks} {i : Nat} {t : TaskV} {l : List Opn} (h : pl[i]? = some (t, l)) : taskAt r ce pl i = taskZ r ce pl.ts i t l := by unfold taskAt; rw [h]
theorem ts_some {pl : Tks} {i : Nat} {t : TaskV} {l : List Opn} (h : pl[i]? = some (t, l)) : pl.ts[i]? = some t := by unfold Tks.ts; rw [List.getElem?_map, h]; rfl

end Go.Proofs.Ytdoimkmhincmmaa
/- The document's own Nest of layer 6. -/
namespace Go.Proofs.Ytdoimkmhincmmaa
open Go Go.RowKit

def nestAll : List Opn → NS → Option NS
  | [], s => some s
  | o :: l, s => match stepN s o.k o.a with
    | none => none
    | some t => nestAll l t
def nestB (l : List Opn) (e : Bool) : Bool := match nestAll l ns0 with
  | none => false
  | some s => !e || doneB s
theorem nest_step {l : List Opn} {k : Nat} {x : Opn} {s : NS} (hx : l[k]? = some x) : nestAll (l.drop k) s = match stepN s x.k x.a with
    | none => none
    | some t => nestAll (l.drop (k + 1)) t := by
  obtain ⟨hk, rfl⟩ := List.getElem?_eq_some_iff.1 hx
  rw [List.drop_eq_getElem_cons hk, nestAll]

/-- Behind k operations. -/
def NRel (w : World) (l : List Opn) (k : Nat) (v5 v6 v7 : Value) (w' : World) : Prop :=
  ∃ (r : Int) (ls : List Int) (p : Int) (h : Option Nat) (p0 : Option Addr) (cap : Nat), v5 = .int .i64 r ∧ v6 = .int .i64 p ∧ v7 = .slice p0 ls.length cap ∧ Win w' 3 1 (.slice p0 ls.length cap) h ls.length (ls.map mkI) ∧ nestAll l ns0 = nestAll (l.drop k) ⟨r, ls, p⟩ ∧
    (-(k : Int) ≤ r ∧ r ≤ k) ∧ (-(5000 * (k : Int)) ≤ p ∧ p ≤ 5000 * (k : Int)) ∧ ls.length ≤ k ∧ (∀ g, h = some g → w.heap.size ≤ g) ∧ Only (fun _ => False) w w'

theorem NRel.next {w w' : World} {l : List Opn} {k n : Nat} {r p r' p' : Int} {ls ls' : List Int} {h' : Option Nat} {p1 : Option Addr} {cap' : Nat} {x : Opn} (hx : l[k]? = some x) (hrun : nestAll l ns0 = nestAll (l.drop k) ⟨r, ls, p⟩) (hst : stepN ⟨r, ls, p⟩ x.k x.a = some ⟨r', ls', p'⟩) (ha : 0 ≤ x.a ∧ x.a ≤ 5000)
    (b1 : -(k : Int) ≤ r ∧ r ≤ k) (b2 : -(5000 * (k : Int)) ≤ p ∧ p ≤ 5000 * (k : Int)) (b3 : ls.length ≤ k) (hn : ls'.length = n) (hW : Win w' 3 1 (.slice p1 n cap') h' n (ls'.map mkI)) (hh : ∀ g, h' = some g → w.heap.size ≤ g) (hO1 : Only (fun _ => False) w w') :
    NRel w l (k + 1) (.int .i64 r') (.int .i64 p') (.slice p1 n cap') w' := by
  obtain ⟨y1, y2, y3⟩ := step_bounds hst ha
  simp only at y1 y2 y3
  subst hn
  exact ⟨r', ls', p', h', p1, cap', rfl, rfl, rfl, hW, by rw [hrun, nest_step hx, hst], ⟨by omega, by omega⟩, ⟨by omega, by omega⟩, by omega, hh, hO1⟩
theorem NRel.stop {l : List Opn} {k : Nat} {s : NS} {x : Opn} {e : Bool} (hx : l[k]? = some x) (hrun : nestAll l ns0 = nestAll (l.drop k) s) (hst : stepN s x.k x.a = none) : false = nestB l e := by
  unfold nestB
  rw [hrun, nest_step hx, hst]

end Go.Proofs.Ytdoimkmhincmmaa
/- The document's own Check of layer 6: the plain check. -/
namespace Go.Proofs.Ytdoimkmhincmmaa
open Go Go.RowKit

theorem nestAll_snoc (a : List Opn) (x : Opn) (s : NS) : nestAll (a ++ [x]) s = match nestAll a s with
    | none => none
    | some t => stepN t x.k x.a := by
  induction a generalizing s with
  | nil =>
    simp only [List.nil_append, nestAll]
    cases stepN s x.k x.a <;> rfl
  | cons y a ih =>
    simp only [List.cons_append, nestAll]
    cases stepN s y.k y.a with
    | none => rfl
    | some t => exact ih t
theorem opn_take_snoc {α : Type} {m : List α} {j : Nat} {x : α} (h : m[j]? = some x) : m.take (j + 1) = m.take j ++ [x] := by
  rw [List.take_add_one, h]
  rfl

end Go.Proofs.Ytdoimkmhincmmaa
/- The reference's check of one task. -/
namespace Go.Proofs.Ytdoimkmhincmmaa
open Go Go.RowKit

theorem taskB_not {t : TaskV} {b1 b2 b3 b4 b5 b6 : Bool} (e1 : b1 = inB 0 63 t.p) (e2 : b2 = inB t.p 63 t.th) (e3 : b3 = inB 1 1048576 t.pe) (e4 : b4 = inB 1 t.pe t.de) (e5 : b5 = inB 0 4096 t.fr) (e6 : b6 = inB 0 1048576 t.fl) : t.okB = (b1 && b2 && b3 && b4 && b5 && b6) := by
  unfold TaskV.okB taskB
  rw [e1, e2, e3, e4, e5, e6]

end Go.Proofs.Ytdoimkmhincmmaa
/- The reference's check of a configuration. -/
namespace Go.Proofs.Ytdoimkmhincmmaa
open Go Go.RowKit

end Go.Proofs.Ytdoimkmhincmmaa
/- Few. -/
namespace Go.Proofs.Ytdoimkmhincmmaa
open Go Go.RowKit

def fewB (c : ConfV) (ts : List TaskV) : Bool := ts.all (fun t => decide (t.o.n ≤ 80)) && decide (c.mb.n ≤ 20 ∧ c.cn.n ≤ 20 ∧ c.ce.n ≤ 20 ∧ c.ta.n ≤ 20 ∧ c.li.n ≤ 20)
theorem few_all {ts : List TaskV} {n : Nat} (hn : ts.length = n) (h : ∀ (j : Nat) t, j < n → ts[j]? = some t → t.o.n ≤ 80) : ts.all (fun t => decide (t.o.n ≤ 80)) = true := by
  rw [List.all_eq_true]
  intro t ht
  obtain ⟨k, hk⟩ := List.getElem?_of_mem ht
  exact decide_eq_true (h k t (by have := (List.getElem?_eq_some_iff.1 hk).1; omega) hk)
theorem few_bad {ts : List TaskV} {k : Nat} {t : TaskV} (hk : ts[k]? = some t) (h : 80 < t.o.n) : ts.all (fun t => decide (t.o.n ≤ 80)) = false := by
  rw [List.all_eq_false]
  exact ⟨t, List.mem_of_getElem? hk, by simp; omega⟩

set_option maxRecDepth 100000 in
set_option maxHeartbeats 2000000 in
theorem few_any {w : World} {c : ConfV} {ts : List TaskV} (hT : TasksAt w c.ta ts) (hs : c.ta.n ≤ 9223372036854775807) : Calls Try.prog 16 #[c.val] w (GrowB (fewB c ts) w) := by
  have hO := (Only.refl (fun _ => False) w).alloc (.cells c.cells.toArray 27)
  have hB := heap_new_at w (.cells c.cells.toArray 27) rfl
  obtain ⟨W1, hW1⟩ : ∃ W1, W1 = w.alloc (.cells c.cells.toArray 27) := ⟨_, rfl⟩
  have e0 := row_cell hB (i := 0) rfl
  have e1 := row_cell hB (i := 1) rfl
  have e2 := row_cell hB (i := 2) rfl
  have e3 := row_cell hB (i := 3) rfl
  have e4 := row_cell hB (i := 4) rfl
  have e5 := row_cell hB (i := 5) rfl
  have e6 := row_cell hB (i := 6) rfl
  have e7 := row_cell hB (i := 7) rfl
  have e8 := row_cell hB (i := 8) rfl
  have e9 := row_cell hB (i := 9) rfl
  have hlt1 := row_lt hB
  rw [← hW1] at e0 e1 e2 e3 e4 e5 e6 e7 e8 e9 hO hlt1
  obtain ⟨V, hV⟩ : ∃ V, V = fewB c ts := ⟨_, rfl⟩
  rw [← hV]
  unfold fewB at hV
  obtain ⟨F, hF⟩ : ∃ F, F = ts.all (fun t => decide (t.o.n ≤ 80)) := ⟨_, rfl⟩
  rw [← hF] at hV
  have hlen := hT.len
  rw [show c.val = .agg #[.int .i64 c.s, .int .i64 c.wy, .int .i64 c.h, .int .i64 c.mi, .slice c.mb.A c.mb.n c.mb.cap, .int .i64 c.g, .slice c.cn.A c.cn.n c.cn.cap, .slice c.ce.A c.ce.n c.ce.cap, .slice c.ta.A c.ta.n c.ta.cap, .slice c.li.A c.li.n c.li.cap] from rfl]
  unfold ConfV.cells at hW1
  have hT' := Lib.hid hT
  obtain ⟨s, wy, h, mi, ⟨mA, mn, mc⟩, g, ⟨cA, cn, cc⟩, ⟨eA, en, ec⟩, ⟨tA, tn, tc⟩, ⟨lA, ln, lc⟩⟩ := c
  simp only at *
  have hW1' := Lib.hid hW1
  have hO' := Lib.hid hO
  have hV' := Lib.hid hV
  have hF' := Lib.hid hF
  have hlen' := Lib.hid hlen
  clear hT hB hW1 hO hV hF hlen
  go_enter Try.func16, Try.ntmps16
  go_wp2
  rw [← hW1'.out]
  go_loopw [8] (fun i wr => ∃ k : Nat, k ≤ tn ∧ i = .int .i64 k ∧ (∀ (j : Nat) t, j < k → ts[j]? = some t → t.o.n ≤ 80) ∧ Only (fun _ => False) W1 wr) (fun i _ => tn - (intOf i).toNat)
  case atStart => exact ⟨0, Nat.zero_le _, rfl, (fun j _ hj => by omega), Only.refl _ W1⟩
  case round =>
    obtain ⟨k, hk, rfl, hall, hOk⟩ := hrel
    replace e0 := hOk.cell e0 (fun h => h)
    replace e1 := hOk.cell e1 (fun h => h)
    replace e2 := hOk.cell e2 (fun h => h)
    replace e3 := hOk.cell e3 (fun h => h)
    replace e4 := hOk.cell e4 (fun h => h)
    replace e5 := hOk.cell e5 (fun h => h)
    replace e6 := hOk.cell e6 (fun h => h)
    replace e7 := hOk.cell e7 (fun h => h)
    replace e8 := hOk.cell e8 (fun h => h)
    replace e9 := hOk.cell e9 (fun h => h)
    replace hlt1 := Nat.lt_of_lt_of_le hlt1 hOk.size
    have hOk' := Lib.hid hOk
    have hPk := Lib.hid (hO'.out.trans' hOk)
    have hall' := Lib.hid hall
    clear hall hOk
    by_cases hkn : k < tn
    · have hkn' : (k : Int) < (tn : Int) := by omega
      obtain ⟨t, ht⟩ : ∃ t, ts[k]? = some t := ⟨_, List.getElem?_eq_getElem (by have := hlen'.out; omega)⟩
      obtain ⟨bb, off, hA, hb, hC⟩ := hT'.out.at_ k t ht
      simp only at hA
      subst hA
      obtain ⟨c0, c1, c2, c3, c4, c5, c6⟩ := hC.new hPk.out
      have hb3 := Nat.lt_of_lt_of_le hb hPk.out.size
      have hbad := Lib.hid (fun (h : 80 < t.o.n) => show V = false by rw [hV'.out, hF'.out, few_bad ht h]; rfl)
      have hnx := Lib.hid (fun (h : t.o.n ≤ 80) => show ∀ (j : Nat) u, j < k + 1 → ts[j]? = some u → u.o.n ≤ 80 from fun j u hj hu => by
        by_cases hjk : j < k
        · exact hall'.out j u hjk hu
        · obtain rfl : j = k := by omega
          rw [ht] at hu
          cases hu
          exact h)
      clear hC ht hb
      obtain ⟨P, th, pe, de, fr, fl, ⟨oA, on, oc⟩⟩ := t
      simp only at *
      by_cases h80 : 80 < on
      · have hv := Lib.hid (hbad.out h80)
        have h80' : (80 : Int) < (on : Int) := by omega
        clear hbad hnx
        go_wp2
        go_ret
        exact retg_bool hv.out.symm (hPk.out.alloc _)
      · have hnw := Lib.hid (hnx.out (by omega))
        have h80' : ¬ (80 : Int) < (on : Int) := by omega
        clear hbad hnx
        go_wp2
        go_roundw
        case rel => exact ⟨k + 1, by omega, by go_num, hnw.out, hOk'.out.alloc _⟩
        case measure => simp [intOf]; omega
    · obtain rfl : k = tn := by omega
      have hF2 := Lib.hid (show F = true by rw [hF'.out]; exact few_all hlen'.out hall'.out)
      by_cases u0 : mn ≤ 20
      rotate_left
      · have hv := Lib.hid (show V = false by rw [hV'.out, hF2.out, decide_eq_false (by omega)]; rfl)
        have uu : ¬ (mn : Int) ≤ 20 := by omega
        go_wp2
        go_ret
        exact retg_bool (by first | exact hv.out.symm | (rw [hv.out]; simp)) hPk.out
      · have uu0 : (mn : Int) ≤ 20 := by omega
        by_cases u1 : cn ≤ 20
        rotate_left
        · have hv := Lib.hid (show V = false by rw [hV'.out, hF2.out, decide_eq_false (by omega)]; rfl)
          have uu : ¬ (cn : Int) ≤ 20 := by omega
          go_wp2
          go_ret
          exact retg_bool (by first | exact hv.out.symm | (rw [hv.out]; simp)) hPk.out
        · have uu1 : (cn : Int) ≤ 20 := by omega
          by_cases u2 : en ≤ 20
          rotate_left
          · have hv := Lib.hid (show V = false by rw [hV'.out, hF2.out, decide_eq_false (by omega)]; rfl)
            have uu : ¬ (en : Int) ≤ 20 := by omega
            go_wp2
            go_ret
            exact retg_bool (by first | exact hv.out.symm | (rw [hv.out]; simp)) hPk.out
          · have uu2 : (en : Int) ≤ 20 := by omega
            by_cases u3 : k ≤ 20
            rotate_left
            · have hv := Lib.hid (show V = false by rw [hV'.out, hF2.out, decide_eq_false (by omega)]; rfl)
              have uu : ¬ (k : Int) ≤ 20 := by omega
              go_wp2
              go_ret
              exact retg_bool (by first | exact hv.out.symm | (rw [hv.out]; simp)) hPk.out
            · have uu3 : (k : Int) ≤ 20 := by omega
              by_cases u4 : ln ≤ 20
              rotate_left
              · have hv := Lib.hid (show V = false by rw [hV'.out, hF2.out, decide_eq_false (by omega)]; rfl)
                have uu : ¬ (ln : Int) ≤ 20 := by omega
                go_wp2
                go_ret
                exact retg_bool (by first | exact hv.out.symm | (rw [hv.out]; simp)) hPk.out
              · have uu4 : (ln : Int) ≤ 20 := by omega
                have hv := Lib.hid (show V = true by rw [hV'.out, hF2.out, decide_eq_true (by omega)]; rfl)
                go_wp2
                go_ret
                exact retg_bool (by first | exact hv.out.symm | (rw [hv.out]; simp)) hPk.out
end Go.Proofs.Ytdoimkmhincmmaa
/- A configuration that came in. -/
namespace Go.Proofs.Ytdoimkmhincmmaa
open Go Go.RowKit

structure ConfIn (w : World) (c : ConfV) (d : ConfL) (pl : Tks) : Prop where
  mb : IntsAt w c.mb d.mb
  cn : IntsAt w c.cn d.cn
  ce : IntsAt w c.ce d.ce
  li : IntsAt w c.li d.li
  t : TasksAt w c.ta pl.ts
  p : ∀ (i : Nat) t l, pl[i]? = some (t, l) → OpnRow w t.o.A l ∧ l.length = t.o.n ∧ t.o.n ≤ t.o.cap
  n : c.ta.n ≤ 9223372036854775807
theorem ConfIn.new {w w' : World} {c : ConfV} {d : ConfL} {pl : Tks} (h : ConfIn w c d pl) (ho : Only (fun _ => False) w w') : ConfIn w' c d pl :=
  ⟨h.mb.new ho, h.cn.new ho, h.ce.new ho, h.li.new ho, h.t.new ho, fun i t l ht => ⟨(h.p i t l ht).1.new ho, (h.p i t l ht).2⟩, h.n⟩
theorem ConfIn.small {w : World} {c : ConfV} {d : ConfL} {pl : Tks} (_ : ConfIn w c d pl) (hf : fewB c pl.ts = true) : c.mb.n ≤ 20 ∧ c.cn.n ≤ 20 ∧ c.ce.n ≤ 20 ∧ c.ta.n ≤ 20 ∧ c.li.n ≤ 20 ∧ ∀ (i : Nat) t l, pl[i]? = some (t, l) → t.o.n ≤ 80 := by
  unfold fewB at hf
  rw [Bool.and_eq_true, decide_eq_true_eq, List.all_eq_true] at hf
  obtain ⟨h1, h2, h3, h4, h5, h6⟩ := hf
  refine ⟨h2, h3, h4, h5, h6, fun i t l hi => ?_⟩
  have := h1 t (List.mem_of_getElem? (i := i) (by unfold Tks.ts; rw [List.getElem?_map, hi]; rfl))
  simpa using this
theorem ConfIn.conf {w : World} {c : ConfV} {d : ConfL} {pl : Tks} (h : ConfIn w c d pl) (hf : fewB c pl.ts = true) : ConfAt w c d pl := by
  obtain ⟨h1, h2, h3, h4, h5, h6⟩ := h.small hf
  exact ⟨⟨h.mb, h.cn, h.ce, h.li, by omega⟩, h.t, ⟨fun i t l ht => ⟨(h.p i t l ht).1, (h.p i t l ht).2.1, by have := h6 i t l ht; omega, (h.p i t l ht).2.2⟩⟩⟩
theorem ConfIn.few {w : World} {c : ConfV} {d : ConfL} {pl : Tks} (h : ConfIn w c d pl) : Calls Try.prog 16 #[.agg #[.int .i64 c.s, .int .i64 c.wy, .int .i64 c.h, .int .i64 c.mi, .slice c.mb.A c.mb.n c.mb.cap, .int .i64 c.g, .slice c.cn.A c.cn.n c.cn.cap, .slice c.ce.A c.ce.n c.ce.cap, .slice c.ta.A c.ta.n c.ta.cap, .slice c.li.A c.li.n c.li.cap]] w (GrowB (fewB c pl.ts) w) := few_any h.t h.n
end Go.Proofs.Ytdoimkmhincmmaa
