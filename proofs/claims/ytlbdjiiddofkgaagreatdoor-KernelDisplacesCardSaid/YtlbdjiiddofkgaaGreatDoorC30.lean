import Derived.Test.YtlbdjiiddofkgaaGreatDoorC29
namespace Go.Proofs.YtlbdjiiddofkgaaGreatDoor
namespace Krn
open Go Go.RowKit Go.Maps Ring Band
def opF (c : KC) (s : KS) (o : Opn) (who : Nat) : KS × Int × Int :=
 let i := o.a.toNat
 if o.k = 5 then (if s.lkd i = true then (s, 10, 0) else ({ s with lkh := upd s.lkh i who, lkd := upd s.lkd i true }, 0, 0))
 else if o.k = 6 then (if Lck.mine s.lkh s.lkd who i = true then ({ s with lkh := upd s.lkh i 0, lkd := upd s.lkd i false }, 0, 0) else (s, 8, 0))
 else if o.k = 9 then (if (s.box i).length = c.room i then (s, 7, 0) else ({ s with box := upd s.box i (s.box i ++ [o.b]) }, 0, 0))
 else if o.k = 10 then (match s.box i with
  | [] => (s, 8, 0)
  | x :: t => ({ s with box := upd s.box i t }, 0, x))
 else if o.k = 11 then ({ s with grp := upd s.grp i (s.grp i ||| Flg.low o.b) }, 0, ((s.grp i).toNat : Int))
 else if o.k = 12 then ({ s with grp := upd s.grp i (s.grp i &&& ~~~ Flg.low o.b) }, 0, ((s.grp i).toNat : Int))
 else if o.k = 13 then (s, 0, if Flg.allUp (s.grp i) (Flg.low o.b) 8 = true then 1 else 0)
 else if o.k = 14 then (if s.cnt i = c.most i then (s, 7, (s.cnt i : Int)) else ({ s with cnt := upd s.cnt i (s.cnt i + 1) }, 0, ((s.cnt i + 1 : Nat) : Int)))
 else if o.k = 15 then (if s.cnt i = 0 then (s, 8, 0) else ({ s with cnt := upd s.cnt i (s.cnt i - 1) }, 0, ((s.cnt i - 1 : Nat) : Int)))
 else (s, 0, 0)
def callK (k : Int) : Bool := decide (k = 5 ∨ k = 6 ∨ 9 <= k /\ k <= 15)
structure OpIn (c : KC) (o : Opn) (i : Nat) : Prop where
 a : o.a = i
 l : o.k = 5 ∨ o.k = 6 -> i < c.nl
 b : o.k = 9 ∨ o.k = 10 -> i < c.nb
 g : o.k = 11 ∨ o.k = 12 ∨ o.k = 13 -> i < c.ng
 n : o.k = 14 ∨ o.k = 15 -> i < c.nc
section
variable {w w' : World} {c : KC} {m : KM} {s : KS} {i : Nat}
def KEndR (w : World) (c : KC) (m : KM) (s' : KS) (v : Value) (e : Ending) (w' : World) : Prop := e = .returned v /\ KNow w c m s' w' /\ ∀ j, w'.cell? ⟨m.k, j, none⟩ = w.cell? ⟨m.k, j, none⟩
theorem zA7 (h : KAt w c m s) {a : Nat} (ha : a ≠ 0) (ho : Only (foot c m a) w w') (j : Nat) : w'.cell? ⟨m.k, j, none⟩ = w.cell? ⟨m.k, j, none⟩ :=
 World.cell?_of_block (ho.block m.k (h.lt 0 m.k rfl).1 (fun hk => h.ap a 0 ha _ hk rfl))
theorem zO0 (h : KAt w c m s) (b : Int) (hi : i < c.nl) (who : Nat) : Calls Tryz.prog 222 #[ptr m.b4, .int .i64 i, .int .i64 who] w (KEndR w c m (opF c s ⟨5, i, b⟩ who).1 (.int .i64 (opF c s ⟨5, i, b⟩ who).2.1)) := by
 have hL : Lck.LkAt w m.b4 m.g4 c.nl c.ceil s.lkh s.lkd := h.p 4
 by_cases hd : s.lkd i = true
 ·have e : opF c s ⟨5, i, b⟩ who = (s, 10, 0) := by simp [opF, hd]
  rw [e]
  exact (Lck.lock_twice hL hi hd who).mono fun e' w2 ⟨he, hw⟩ => ⟨he, hw ▸ ⟨h.know (Only.refl _ _), fun _ => rfl⟩⟩
 ·have e : opF c s ⟨5, i, b⟩ who = ({ s with lkh := upd s.lkh i who, lkd := upd s.lkd i true }, 0, 0) := by simp [opF, hd]
  rw [e]
  exact (Lck.lock_free hL hi (by simpa using hd) who).mono fun e' w2 ⟨he, hR, hO⟩ => ⟨he, ⟨m, h.lck_ hR (hO.mono (fun _ _ hk => .inr hk)), rfl, rfl⟩, zA7 h (a := 4) (by decide) (hO.mono (fun _ _ hk => .inr hk))⟩
theorem zKY (h : KAt w c m s) (b : Int) (hi : i < c.nl) (who : Nat) : Calls Tryz.prog 223 #[ptr m.b4, .int .i64 i, .int .i64 who] w (KEndR w c m (opF c s ⟨6, i, b⟩ who).1 (.int .i64 (opF c s ⟨6, i, b⟩ who).2.1)) := by
 have hL : Lck.LkAt w m.b4 m.g4 c.nl c.ceil s.lkh s.lkd := h.p 4
 by_cases hd : Lck.mine s.lkh s.lkd who i = true
 ·have e : opF c s ⟨6, i, b⟩ who = ({ s with lkh := upd s.lkh i 0, lkd := upd s.lkd i false }, 0, 0) := by simp [opF, hd]
  rw [e]
  exact (Lck.unlock_mine hL hi who hd).mono fun e' w2 ⟨he, hR, hO⟩ => ⟨he, ⟨m, h.lck_ hR (hO.mono (fun _ _ hk => .inr hk)), rfl, rfl⟩, zA7 h (a := 4) (by decide) (hO.mono (fun _ _ hk => .inr hk))⟩
 ·have e : opF c s ⟨6, i, b⟩ who = (s, 8, 0) := by simp [opF, hd]
  rw [e]
  exact (Lck.unlock_not hL hi who (by simpa using hd)).mono fun e' w2 ⟨he, hw⟩ => ⟨he, hw ▸ ⟨h.know (Only.refl _ _), fun _ => rfl⟩⟩
theorem zO1 (h : KAt w c m s) (hi : i < c.nb) : (s.box i).length <= c.room i := by
 have hB : Mbx.BoxesAt w m.B m.b1 m.g1 c.nb m.r1 c.room m.o1 s.box := h.p 1
 exact (hB.rings i hi).bounds.1
theorem zO2 (h : KAt w c m s) (b : Int) (hi : i < c.nb) (who : Nat) : Calls Tryz.prog 224 #[ptr m.b1, .int .i64 i, .int .i64 b] w (KEndR w c m (opF c s ⟨9, i, b⟩ who).1 (.int .i64 (opF c s ⟨9, i, b⟩ who).2.1)) := by
 have hB : Mbx.BoxesAt w m.B m.b1 m.g1 c.nb m.r1 c.room m.o1 s.box := h.p 1
 have hle := zO1 h hi
 by_cases hd : (s.box i).length = c.room i
 ·have e : opF c s ⟨9, i, b⟩ who = (s, 7, 0) := by simp [opF, hd]
  rw [e]
  exact (Mbx.send_full hB hi hd b).mono fun e' w2 ⟨he, n, hw⟩ => ⟨he, hw ▸ ⟨h.know ((Only.refl _ _).drewN n), fun _ => rfl⟩⟩
 ·have e : opF c s ⟨9, i, b⟩ who = ({ s with box := upd s.box i (s.box i ++ [b]) }, 0, 0) := by simp [opF, hd]
  rw [e]
  refine (Mbx.send_room hB hi (by omega) b).mono fun _ _ ⟨he, o', hR, hoo, hO⟩ => ⟨he, ⟨{ m with o1 := Mbx.upd m.o1 i o' }, h.box_ hR (hO.mono (fun x _ hk => .inr (.inr ⟨i, hi, hk⟩))) (fun k hk => ?_), rfl, rfl⟩, zA7 h (a := 1) (by decide) (hO.mono (fun x _ hk => .inr (.inr ⟨i, hi, hk⟩)))⟩
  rcases hk with hk | hk | ⟨j, hj, hk⟩
  ·exact .inl (.inl hk)
  ·exact .inl (.inr (.inl hk))
  ·by_cases hji : j = i
   ·subst hji
    rw [Mbx.upd_self] at hk
    rcases hk with hk | hk
    ·exact .inl (.inr (.inr ⟨j, hj, .inl hk⟩))
    ·rcases hoo with rfl | rfl
     ·exact .inl (.inr (.inr ⟨j, hj, .inr hk⟩))
     ·cases hk; exact .inr (Nat.le_refl _)
   ·rw [Mbx.upd_ne _ _ hji] at hk
    exact .inl (.inr (.inr ⟨j, hj, hk⟩))
theorem zO3 (h : KAt w c m s) (b : Int) (hi : i < c.nb) (who : Nat) : Calls Tryz.prog 225 #[ptr m.b1, .int .i64 i] w (KEndR w c m (opF c s ⟨10, i, b⟩ who).1 (.tuple #[.int .i64 (opF c s ⟨10, i, b⟩ who).2.2, .int .i64 (opF c s ⟨10, i, b⟩ who).2.1])) := by
 have hB : Mbx.BoxesAt w m.B m.b1 m.g1 c.nb m.r1 c.room m.o1 s.box := h.p 1
 cases hd : s.box i with
 | nil =>
  have e : opF c s ⟨10, i, b⟩ who = (s, 8, 0) := by simp [opF, hd]
  rw [e]
  exact (Mbx.recv_none hB hi hd).mono fun e' w2 ⟨he, hw⟩ => ⟨he, hw ▸ ⟨h.know (Only.refl _ _), fun _ => rfl⟩⟩
 | cons x t =>
  have e : opF c s ⟨10, i, b⟩ who = ({ s with box := upd s.box i t }, 0, x) := by simp [opF, hd]
  rw [e]
  exact (Mbx.recv_some hB hi hd).mono fun e' w2 ⟨he, hR, hO⟩ => ⟨he, ⟨m, h.box_ (o1 := m.o1) hR (hO.mono (fun x _ hk => .inr (.inr ⟨i, hi, hk⟩))) (fun k hk => .inl hk), rfl, rfl⟩, zA7 h (a := 1) (by decide) (hO.mono (fun x _ hk => .inr (.inr ⟨i, hi, hk⟩)))⟩
theorem zRL (h : KAt w c m s) (b : Int) (hi : i < c.ng) (who : Nat) : Calls Tryz.prog 226 #[ptr m.b2, .int .i64 i, .int .i64 b] w (KEndR w c m (opF c s ⟨11, i, b⟩ who).1 (.tuple #[.int .i64 (opF c s ⟨11, i, b⟩ who).2.2, .int .i64 (opF c s ⟨11, i, b⟩ who).2.1])) := by
 have e : opF c s ⟨11, i, b⟩ who = ({ s with grp := upd s.grp i (s.grp i ||| Flg.low b) }, 0, ((s.grp i).toNat : Int)) := by simp [opF]
 rw [e]
 exact (Flg.set_yes (h.p 2) hi b).mono fun e' w2 ⟨he, hR, hO⟩ => ⟨he, ⟨m, h.grp_ hR (hO.mono (fun _ _ hk => .inr hk)), rfl, rfl⟩, zA7 h (a := 2) (by decide) (hO.mono (fun _ _ hk => .inr hk))⟩
theorem zMM (h : KAt w c m s) (b : Int) (hi : i < c.ng) (who : Nat) : Calls Tryz.prog 227 #[ptr m.b2, .int .i64 i, .int .i64 b] w (KEndR w c m (opF c s ⟨12, i, b⟩ who).1 (.tuple #[.int .i64 (opF c s ⟨12, i, b⟩ who).2.2, .int .i64 (opF c s ⟨12, i, b⟩ who).2.1])) := by
 have e : opF c s ⟨12, i, b⟩ who = ({ s with grp := upd s.grp i (s.grp i &&& ~~~ Flg.low b) }, 0, ((s.grp i).toNat : Int)) := by simp [opF]
 rw [e]
 exact (Flg.clear_yes (h.p 2) hi b).mono fun e' w2 ⟨he, hR, hO⟩ => ⟨he, ⟨m, h.grp_ hR (hO.mono (fun _ _ hk => .inr hk)), rfl, rfl⟩, zA7 h (a := 2) (by decide) (hO.mono (fun _ _ hk => .inr hk))⟩
theorem zS9 (h : KAt w c m s) (b : Int) (hi : i < c.ng) : Calls Tryz.prog 272 #[ptr m.b2, .int .i64 i, .int .i64 b, .bool true] w (KEndR w c m s (.tuple #[.bool (Flg.allUp (s.grp i) (Flg.low b) 8), .int .i64 0])) :=
 (Flg.test_true (h.p 2) hi b).mono fun e' w2 ⟨he, hR, hO⟩ => ⟨he, ⟨m, h.grp_ hR (hO.mono (fun _ _ hk => .inr hk)), rfl, rfl⟩, zA7 h (a := 2) (by decide) (hO.mono (fun _ _ hk => .inr hk))⟩
theorem zO4 (h : KAt w c m s) (b : Int) (hi : i < c.ng) (who : Nat) : Calls Tryz.prog 228 #[ptr m.k, .int .i64 i, .int .i64 b] w (KEndR w c m (opF c s ⟨13, i, b⟩ who).1 (.tuple #[.int .i64 (opF c s ⟨13, i, b⟩ who).2.2, .int .i64 (opF c s ⟨13, i, b⟩ who).2.1])) := by
 have hu := zh (zS9 h b hi)
 have c1 := zAA h.root (i := 1) rfl
 have hlt := (h.lt 0 m.k rfl).1
 cases hd : Flg.allUp (s.grp i) (Flg.low b) 8 with
 | true =>
  have e : opF c s ⟨13, i, b⟩ who = (s, 0, 1) := by simp [opF, hd]
  rw [e]
  rw [hd] at hu
  unfold ptr KEndR at *
  clear h hd e
  go_enter Tryz.func228, Tryz.ntmps228
  go_wp2_with fail
  refine hu.out.mono ?_
  rintro e1 w1 ⟨rfl, hk⟩
  go_wp2
  go_ret2
  exact ⟨rfl, hk⟩
 | false =>
  have e : opF c s ⟨13, i, b⟩ who = (s, 0, 0) := by simp [opF, hd]
  rw [e]
  rw [hd] at hu
  unfold ptr KEndR at *
  clear h hd e
  go_enter Tryz.func228, Tryz.ntmps228
  go_wp2_with fail
  refine hu.out.mono ?_
  rintro e1 w1 ⟨rfl, hk⟩
  go_wp2
  go_ret2
  exact ⟨rfl, hk⟩
theorem zO5 (h : KAt w c m s) (b : Int) (hi : i < c.nc) (who : Nat) : Calls Tryz.prog 229 #[ptr m.b3, .int .i64 i] w (KEndR w c m (opF c s ⟨14, i, b⟩ who).1 (.tuple #[.int .i64 (opF c s ⟨14, i, b⟩ who).2.2, .int .i64 (opF c s ⟨14, i, b⟩ who).2.1])) := by
 have hC : Cnt.CountsAt w m.b3 m.g3 c.nc s.cnt c.most := h.p 3
 have hle := hC.ok i hi
 by_cases hd : s.cnt i = c.most i
 ·have e : opF c s ⟨14, i, b⟩ who = (s, 7, (s.cnt i : Int)) := by simp [opF, hd]
  rw [e]
  exact (Cnt.give_full hC hi hd).mono fun e' w2 ⟨he, n, hw⟩ => ⟨he, hw ▸ ⟨h.know ((Only.refl _ _).drewN n), fun _ => rfl⟩⟩
 ·have e : opF c s ⟨14, i, b⟩ who = ({ s with cnt := upd s.cnt i (s.cnt i + 1) }, 0, ((s.cnt i + 1 : Nat) : Int)) := by simp [opF, hd]
  rw [e]
  exact (Cnt.give_some hC hi (by omega)).mono fun e' w2 ⟨he, hR, hO⟩ => ⟨he, ⟨m, h.cnt_ hR (hO.mono (fun _ _ hk => .inr hk)), rfl, rfl⟩, zA7 h (a := 3) (by decide) (hO.mono (fun _ _ hk => .inr hk))⟩
theorem zO6 (h : KAt w c m s) (b : Int) (hi : i < c.nc) (who : Nat) : Calls Tryz.prog 230 #[ptr m.b3, .int .i64 i] w (KEndR w c m (opF c s ⟨15, i, b⟩ who).1 (.tuple #[.int .i64 (opF c s ⟨15, i, b⟩ who).2.2, .int .i64 (opF c s ⟨15, i, b⟩ who).2.1])) := by
 have hC : Cnt.CountsAt w m.b3 m.g3 c.nc s.cnt c.most := h.p 3
 by_cases hd : s.cnt i = 0
 ·have e : opF c s ⟨15, i, b⟩ who = (s, 8, 0) := by simp [opF, hd]
  rw [e]
  exact (Cnt.take_none hC hi hd).mono fun e' w2 ⟨he, hw⟩ => ⟨he, hw ▸ ⟨h.know (Only.refl _ _), fun _ => rfl⟩⟩
 ·have e : opF c s ⟨15, i, b⟩ who = ({ s with cnt := upd s.cnt i (s.cnt i - 1) }, 0, ((s.cnt i - 1 : Nat) : Int)) := by simp [opF, hd]
  rw [e]
  exact (Cnt.take_some hC hi (x := s.cnt i - 1) (by omega)).mono fun e' w2 ⟨he, hR, hO⟩ => ⟨he, ⟨m, h.cnt_ hR (hO.mono (fun _ _ hk => .inr hk)), rfl, rfl⟩, zA7 h (a := 3) (by decide) (hO.mono (fun _ _ hk => .inr hk))⟩
end
