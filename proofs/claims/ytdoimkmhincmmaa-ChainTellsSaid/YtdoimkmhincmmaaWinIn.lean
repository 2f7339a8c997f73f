/- append to a slice of the call's own, within a fence; worlds in a round. Speaks of no program. -/
import Derived.Test.YtdoimkmhincmmaaWin
import Derived.Test.YtdoimkmhincmmaaIter
import Derived.Maps.OwnIn
namespace Go.Proofs.Ytdoimkmhincmmaa
open Go Go.RowKit
/-- append to a slice of the call's own, within a fence. -/
theorem wpListIn_append_win {F : Fence} {nF : Nat} {P : Program} {w : World} {ops : Array Oper} {rest : List Oper} {o : Oper} {a : Act} {Q : Exit → Act → World → Prop} (hgd : o.guard = none) (s x : Operand) (t : TypeId)
    (hop : o.op = Op.call { callee := Callee.builtin Builtin.append, args := #[s, x], argTypes := #[t, t] }) (e : TypeId) (z : Value) (sz bytes : Nat) (ht : P.underlying t = some (.slice e))
    (hinfo : (P.info? e).map (fun i => (i.zero, i.size, i.bytes)) = some (some z, sz, bytes)) (hzs : z.cells.size = sz) (hsz : 0 < sz)
    {v : Value} {h : Option Nat} {n : Nat} {xs : List Value} (hs : a.eval s = v) (hW : Win w e sz v h n xs) (xp : Option Addr) (m c : Nat) (hx : a.eval x = .slice xp m c) (news : List Value) (hl : news.length = m * sz)
    (hsrc : 0 < m → ∃ ad, xp = some ad ∧ ∀ j u, news[j]? = some u → w.cell? (ad.add j) = some u) (h1 : ∀ u ∈ news, u.oneCell' = true) (h63 : n + m ≤ maxLen) (hbytes : (n + m) * bytes ≤ 140737488355328)
    (hK : ∀ v' w' h', Hid (Win w' e sz v' h' (n + m) (xs ++ news)) → Hid (Only (fun k => some k = h) w w') → Hid (h' = h ∨ ∃ g, h' = some g ∧ w.heap.size ≤ g) → wpListIn F nF P ops Q rest (a.put o.dst v') w') : wpListIn F nF P ops Q (o :: rest) a w := by
  refine wpListIn_plain hgd fun K hK' => ?_
  obtain ⟨v', w', h', hrun, r1, r2, r3⟩ := run_append_win (P := P) w t o.type e z sz bytes ht hinfo hzs hsz hW xp m c news hl hsrc h1 h63 hbytes
  unfold Oper.wpIn
  refine ⟨by simp [Oper.about, hop, resolve, Target.leads, Sem.run_pure], ?_⟩
  rw [Oper.semAt_plain F _ _ (by rw [hop]; intro c hc'; cases hc')]
  simp [execOp, hop, resolve, invoke, builtin, hs, hx, hrun, Result.andThen]
  exact hK' _ _ (hK v' w' h' r1 r2 r3)
end Go.Proofs.Ytdoimkmhincmmaa
