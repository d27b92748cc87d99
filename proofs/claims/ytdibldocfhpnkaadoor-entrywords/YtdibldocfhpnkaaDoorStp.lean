/- An append in a region that draws its order. -/
import Derived.Test.YtdibldocfhpnkaaDoorRow
import Derived.Deep.RegionHeld3
import Derived.Deep.AppendLies
namespace Go.Proofs.YtdibldocfhpnkaaDoor
open Go.RowKit
set_option linter.unusedVariables false

theorem step_own {ops : Array Oper} {o : Oper} {a : Act} {K : Act → World → Prop} {Q : Exit → Act → World → Prop} {E : Prop} {w : World} (hgd : o.guard = none) (s x : Operand)
    (ho : o.op = .call { callee := .builtin .append, args := #[s, x], argTypes := #[25, 25] }) (hty : o.type = 25)
    (B : Nat) (v : Value) (X : List UInt8) (hs : a.eval s = v) (hown : Own B w v X) (k : Nat) (ad : Option Addr) (n c : Nat) (Y : List UInt8) (hx : a.eval x = .slice ad n c) (hsrc : Src w k (.slice ad n c) Y) (hnil : ad = none → c = 0) (hmax : X.length + Y.length ≤ 140737488355328) (hB : B ≤ w.heap.size)
    (h : ∀ v' w', Own B w' v' (X ++ Y) → Below B w w' → K (a.put o.dst v') w') :
    if Region.wanted o (yielded ops a.tmps) = true then Oper.wp Tryd.prog o a w K Q else E := by
  have hw : Region.wanted o (yielded ops a.tmps) = true := by simp [Region.wanted, hgd]
  rw [if_pos hw]
  obtain ⟨v', w', hr, O, Bl⟩ := own_append hown hsrc hnil hmax hB
  unfold Oper.wp execOp
  simp only [ho, hty, resolve, invoke, builtin, Sem.run_bind, Sem.run_pure, Result.andThen_ok, List.map_toArray, List.map_cons, List.map_nil, hs, hx, hr]
  exact h v' w' O Bl
theorem Own.drewN {B : Nat} {w : World} {v : Value} {X : List UInt8} (h : Own B w v X) (n : Nat) : Own B (w.drewN n) v X := by
  obtain ⟨h1, h2⟩ := h
  refine ⟨h1, ?_⟩
  rcases h2 with h2 | ⟨g, cap, cur, hv, hg, hh, r⟩
  · exact .inl h2
  · exact .inr ⟨g, cap, cur, hv, hg, by simpa [World.drewN] using hh, r⟩
end Go.Proofs.YtdibldocfhpnkaaDoor
