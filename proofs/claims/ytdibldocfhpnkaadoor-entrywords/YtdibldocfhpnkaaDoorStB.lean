/- Bytes appended in a region that draws its order: which block may turn. -/
import Derived.Test.YtdibldocfhpnkaaDoorStp
import Derived.Test.YtdibldocfhpnkaaDoorTxtL
namespace Go.Proofs.YtdibldocfhpnkaaDoor
open Go.RowKit
set_option linter.unusedVariables false

/-- Bytes appended; which block may turn. -/
theorem own_append2 {B : Nat} {w : World} {k : Nat} {v : Value} {X Y : List UInt8} {a : Option Addr} {n c : Nat} (h : Own B w v X) (hs : Src w k (.slice a n c) Y) (hnil : a = none → c = 0) (hmax : X.length + Y.length ≤ 140737488355328) (hB : B ≤ w.heap.size) :
    ∃ v' w', (Builtin.append_ #[25, 25] 25 #[v, .slice a n c]).run Tryd.prog w = .ok v' w' ∧ Own B w' v' (X ++ Y) ∧ Below B w w' ∧ (∀ k, k < w.heap.size → v.ownBlock ≠ some k → w'.heap[k]? = w.heap[k]?) := by
  obtain ⟨i, hi, hz0, hz1, hz2⟩ := info_parts infoB3
  obtain ⟨a', c', e, h1, h2, h3⟩ := hs
  obtain ⟨e1, e2, e3⟩ := slice_inj e
  subst e1 e2 e3
  have hmx : X.length + Y.length ≤ maxLen := by unfold maxLen; omega
  cases a with
  | none =>
    have hc := hnil rfl
    have hy : Y = [] := by
      rcases Nat.eq_zero_or_pos Y.length with q | q
      · exact List.eq_nil_of_length_eq_zero q
      · obtain ⟨_, q, _⟩ := h3 q; cases q
    subst hy hc
    exact ⟨v, w, run_append_owned_none w B 25 25 5 i 1 Tryd.underlying25 hi v _ _ h, by rw [List.append_nil]; exact h, Below.refl _ _, fun _ _ _ => rfl⟩
  | some ad =>
    obtain ⟨v', w', hr, q1, q2, q3, q4⟩ := run_append_own_at (P := Tryd.prog) w B 25 25 5 i (.int .u8 0) 1 1 Tryd.underlying25 hi hz0 hz1 hz2 rfl (by decide) v X.length (rowB X) h ad Y.length c (rowB Y) (by rw [rowB_length]; omega)
      (fun j u hj => by
        unfold rowB at hj
        rw [List.getElem?_map] at hj
        obtain ⟨x, hx, rfl⟩ := Option.map_eq_some_iff.1 hj
        have hjl := (List.getElem?_eq_some_iff.1 hx).1
        obtain ⟨off, ha, hc⟩ := h3 (by omega)
        have : ad = ⟨k, off, none⟩ := by simpa using ha
        subst this
        rw [addr_add, hc j hjl, (List.getElem?_eq_some_iff.1 hx).2]) (bvs_one _) hmx (by omega) hB
    refine ⟨v', w', hr, ?_, (Below.refl _ _).grown q2 hB (fun q hq => (h.lt q hq).1), fun k hk hn => q2.block k hk (fun e => hn e.symm)⟩
    unfold Own
    rw [List.length_append, rowB_app]; exact q1
theorem step_ownB {ops : Array Oper} {o : Oper} {a : Act} {K : Act → World → Prop} {Q : Exit → Act → World → Prop} {E : Prop} {w : World} (hgd : o.guard = none) (s x : Operand)
    (ho : o.op = .call { callee := .builtin .append, args := #[s, x], argTypes := #[25, 25] }) (hty : o.type = 25)
    (B : Nat) (v : Value) (X : List UInt8) (hs : a.eval s = v) (hown : Own B w v X) (k : Nat) (ad : Option Addr) (n c : Nat) (Y : List UInt8) (hx : a.eval x = .slice ad n c) (hsrc : Src w k (.slice ad n c) Y) (hnil : ad = none → c = 0) (hmax : X.length + Y.length ≤ 140737488355328) (hB : B ≤ w.heap.size)
    (g : Nat) (hg : v.ownBlock = some g) (h : ∀ v' w', Own B w' v' (X ++ Y) → Below B w w' → (∀ k, k < w.heap.size → ¬ k = g → w'.heap[k]? = w.heap[k]?) → K (a.put o.dst v') w') :
    if Region.wanted o (yielded ops a.tmps) = true then Oper.wp Tryd.prog o a w K Q else E := by
  have hw : Region.wanted o (yielded ops a.tmps) = true := by simp [Region.wanted, hgd]
  rw [if_pos hw]
  obtain ⟨v', w', hr, O, Bl, Kl⟩ := own_append2 hown hsrc hnil hmax hB
  unfold Oper.wp execOp
  simp only [ho, hty, resolve, invoke, builtin, Sem.run_bind, Sem.run_pure, Result.andThen_ok, List.map_toArray, List.map_cons, List.map_nil, hs, hx, hr]
  exact h v' w' O Bl (fun k hk hn => Kl k hk (by rw [hg]; intro e; exact hn (Option.some.inj e).symm))
theorem own_b0 {W : World} {B g : Nat} (hB : B ≤ g) (h : W.heap[g]? = some (.cells #[] 5)) : Own B W (.slice (some ⟨g, 0, none⟩) 0 0) [] :=
  ⟨rfl, .inr ⟨g, 0, #[], rfl, hB, h, Nat.le_refl _, by decide, rfl, rfl⟩⟩
theorem bblk2 (w : World) (o o' : Obj) : ((w.alloc o).alloc o').heap[w.heap.size + 1]? = some o' := by
  have k := tblk_new (w.alloc o) o'
  rw [show (w.alloc o).heap.size = w.heap.size + 1 from by simp] at k
  exact k
theorem src_blk {W : World} {g n : Nat} {l : List UInt8} {row : Array Value} {fz : Nat × Nat} (h : W.heap[g]? = some (.cells row 5 fz)) (hl : l.length = n) (hm : n ≤ maxLen) (hr : (rowB l).toArray = row) : Src W g (.slice (some ⟨g, 0, none⟩) n n) l := by
  subst hr hl
  refine ⟨_, _, rfl, Nat.le_refl _, hm, fun _ => ⟨0, rfl, fun j hj => ?_⟩⟩
  have e : (rowB l).toArray[0 + j]? = some (bv l[j]) := by
    rw [Nat.zero_add, List.getElem?_toArray]
    unfold rowB
    rw [List.getElem?_map, List.getElem?_eq_getElem hj]; rfl
  unfold World.cell?
  rw [h]
  exact e
theorem src_one {W : World} {g : Nat} {c : UInt8} {v : Value} (h : W.heap[g]? = some (.cells #[v] 5)) (hv : bv c = v) : Src W g (.slice (some ⟨g, 0, none⟩) 1 1) [c] := by
  subst hv
  exact src_blk h rfl (by decide) rfl
end Go.Proofs.YtdibldocfhpnkaaDoor
