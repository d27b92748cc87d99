/- PoolTurns, plain: whose turn it is; a row of texts that grows. -/
import Derived.Test.YtlaigjapnmgjeaaHlI
import Derived.Laws.IdiomStrings
namespace Go.Proofs.Ytlaigjapnmgjeaa
open Go.RowKit
set_option linter.unusedVariables false

def nmK (i : Nat) : KS := ⟨#[UInt8.ofNat (97 + i)]⟩
def xsN (n : Nat) : List KS := (List.range n).map nmK
theorem xsN_len (n : Nat) : (xsN n).length = n := by unfold xsN; simp
theorem xsN_snoc (n : Nat) : xsN (n + 1) = xsN n ++ [nmK n] := by unfold xsN; rw [List.range_succ, List.map_append]; rfl
theorem xsN_at (n i : Nat) (h : i < n) : (xsN n).getD i ⟨#[]⟩ = nmK i := by unfold xsN; simp [List.getD_eq_getElem?_getD, h]
theorem xsN_sz (n : Nat) : ∀ s ∈ xsN n, s.size ≤ 281474976710656 := fun s hs => by
  unfold xsN at hs
  obtain ⟨i, _, rfl⟩ := List.mem_map.1 hs
  show (1 : Nat) ≤ _
  decide
theorem nm_injF : ∀ i j : Fin 9, nmK i = nmK j → i = j := by decide +kernel
theorem nm_inj {i j : Nat} (hi : i < 9) (hj : j < 9) (h : nmK i = nmK j) : i = j := by
  have := nm_injF ⟨i, hi⟩ ⟨j, hj⟩ h
  exact congrArg Fin.val this
theorem nm_beqF : ∀ i j : Fin 9, i ≠ j → (ByteArray.toList (nmK i) == ByteArray.toList (nmK j)) = false := by decide +kernel
theorem nm_beq {i j : Nat} (hi : i < 9) (hj : j < 9) (h : i ≠ j) : (ByteArray.toList (nmK i) == ByteArray.toList (nmK j)) = false := nm_beqF ⟨i, hi⟩ ⟨j, hj⟩ (fun e => h (congrArg Fin.val e))
theorem aim_nm {n tn i : Nat} (h : 0 < n) : aimAt (xsN n) tn i = nmK ((tn + i) % n) := by
  unfold aimAt
  rw [xsN_len, xsN_at n _ (Nat.mod_lt _ h)]
/-- The place that is picked while s is sick. -/
def placeOf (n s tn : Nat) : Nat := if tn % n = s then (tn + 1) % n else tn % n
def offOf (n s tn : Nat) : Nat := if tn % n = s then 1 else 0
theorem off_place (n s tn : Nat) : (tn + offOf n s tn) % n = placeOf n s tn := by
  unfold offOf placeOf
  by_cases h : tn % n = s
  · rw [if_pos h, if_pos h]
  · rw [if_neg h, if_neg h, Nat.add_zero]
def stT (n s t0 : Nat) : Nat → Nat
  | 0 => t0
  | k + 1 => placeOf n s (stT n s t0 k) + 1
def cntP (n s t0 : Nat) : Nat → Nat → Nat
  | 0, _ => 0
  | k + 1, p => cntP n s t0 k p + (if placeOf n s (stT n s t0 k) = p then 1 else 0)
theorem place_lt {n s tn : Nat} (h : 0 < n) : placeOf n s tn < n := by
  unfold placeOf
  split <;> exact Nat.mod_lt _ h
theorem place_ne : ∀ (n : Fin 9) (s : Fin 9) (tn : Fin 10), 2 ≤ n.val → s.val < n.val → tn.val ≤ n.val → placeOf n s tn ≠ s := by decide +kernel
theorem stT_le {n s t0 : Nat} (h : 0 < n) (h0 : t0 ≤ n) : ∀ k, stT n s t0 k ≤ n
  | 0 => h0
  | k + 1 => by
    show placeOf n s (stT n s t0 k) + 1 ≤ n
    have := place_lt (s := s) (tn := stT n s t0 k) h
    omega
theorem cnt_endF : ∀ (n s p : Fin 9) (z : Bool), 2 ≤ n.val → s.val < n.val → p.val < n.val → cntP n s (if z then 0 else n) (3 * (n.val - 1)) p = if p = s then 0 else 3 := by decide +kernel
theorem cnt_end {n s t0 p : Nat} (h1 : 2 ≤ n) (h2 : n ≤ 8) (hs : s < n) (hp : p < n) (h0 : t0 = 0 ∨ t0 = n) : cntP n s t0 (3 * (n - 1)) p = if p = s then 0 else 3 := by
  rcases h0 with rfl | rfl
  · have := cnt_endF ⟨n, by omega⟩ ⟨s, by omega⟩ ⟨p, by omega⟩ true h1 hs hp
    simpa [Fin.ext_iff] using this
  · have := cnt_endF ⟨t0, by omega⟩ ⟨s, by omega⟩ ⟨p, by omega⟩ false h1 hs hp
    simpa [Fin.ext_iff] using this
theorem cnt_le (n s t0 : Nat) : ∀ k p, cntP n s t0 k p ≤ k
  | 0, p => Nat.le_refl _
  | k + 1, p => by
    have := cnt_le n s t0 k p
    show _ + (if _ then 1 else 0) ≤ _
    split <;> omega
/-- Texts in a row of one's own. -/
def OT (B : Nat) (w : World) (v : Value) (xs : List KS) : Prop := w.ownsRow B 9 1 v xs.length (xs.map Value.string)
theorem OT.nil (B : Nat) (w : World) : OT B w (.slice none 0 0) [] := World.ownsRow_nil _ _ _ _
theorem OT.grow {B : Nat} {w w' : World} {v : Value} {xs : List KS} (h : OT B w v xs) (b : Below w.heap.size w w') : OT B w' v xs := by
  obtain ⟨h1, h2⟩ := h
  refine ⟨h1, ?_⟩
  rcases h2 with h2 | ⟨g, c, cur, hv, hB, hg, r⟩
  · exact .inl h2
  · exact .inr ⟨g, c, cur, hv, hB, (b.block g (Array.getElem?_eq_some_iff.1 hg).1).trans hg, r⟩
theorem OT.blk {B : Nat} {w : World} {v : Value} {xs : List KS} (h : OT B w v xs) : ∀ k, v.ownBlock = some k → ∃ cur, w.heap[k]? = some (.cells cur 9) := by
  obtain ⟨_, ⟨h2, h3⟩ | ⟨g, c, cur, hv, hB, hg, _⟩⟩ := h
  · subst h2; intro k hk; cases hk
  · subst hv; intro k hk
    obtain rfl : g = k := by simpa [Value.ownBlock] using hk
    exact ⟨cur, hg⟩
theorem OT.set {B : Nat} {w : World} {v : Value} {xs : List KS} {ub o : Nat} {x : Value} {cu : Array Value} (h : OT B w v xs) (hu : w.heap[ub]? = some (.cells cu 32)) : OT B (w.setCell ⟨ub, o, none⟩ x) v xs := by
  obtain ⟨h1, h2⟩ := h
  refine ⟨h1, ?_⟩
  rcases h2 with h2 | ⟨g, c, cur, hv, hB, hg, r⟩
  · exact .inl h2
  · exact .inr ⟨g, c, cur, hv, hB, (Below.heap_setCell _ _ _ _ (fun e : g = ub => by
      subst e
      rw [hu] at hg
      injection hg with hg
      injection hg with _ e _
      exact absurd e (by decide))).trans hg, r⟩
theorem OT.form {B : Nat} {w : World} {v : Value} {xs : List KS} (h : OT B w v xs) : ∃ a c, v = .slice a xs.length c := by
  obtain ⟨_, ⟨h2, h3⟩ | ⟨g, c, cur, hv, _⟩⟩ := h
  · exact ⟨none, 0, by rw [h2, h3]⟩
  · exact ⟨_, c, hv⟩
theorem OT.tx {B : Nat} {w : World} {a : Option Addr} {len c : Nat} {xs : List KS} (h : OT B w (.slice a len c) xs) (hl : xs.length ≤ 1000) (hs : ∀ s ∈ xs, s.size ≤ 281474976710656) : Tx w a xs := by
  refine ⟨hl, hs, fun hp => ?_⟩
  obtain ⟨h1, ⟨h2, h3⟩ | ⟨g, c', cur, hv, hB, hg, hlc, hm, hsz, ht⟩⟩ := h
  · omega
  · injection hv with e1 e2 e3
    subst e1
    refine ⟨g, 0, rfl, (Array.getElem?_eq_some_iff.1 hg).1, fun i hi => ?_⟩
    rw [Nat.zero_add]
    refine tblk_cell hg ?_
    have e : cur[i]? = (xs.map Value.string)[i]? := by rw [← ht, Nat.mul_one, List.getElem?_take_of_lt hi, Array.getElem?_toList]
    rw [e, List.getElem?_map, List.getElem?_eq_getElem hi, List.getD_eq_getElem?_getD, List.getElem?_eq_getElem hi]
    rfl
theorem info_parts {P : Program} {t : TypeId} {z : Value} {n m : Nat} (h : (P.info? t).map (fun i => (i.zero, i.size, i.bytes)) = some (some z, n, m)) : ∃ i, P.info? t = some i ∧ i.zero = some z ∧ i.size = n ∧ i.bytes = m := by
  cases hi : P.info? t with
  | none => rw [hi] at h; cases h
  | some i =>
    rw [hi] at h
    simp only [Option.map_some, Option.some.injEq, Prod.mk.injEq] at h
    exact ⟨i, rfl, h.1, h.2.1, h.2.2⟩
theorem infoS : (Try.prog.info? 9).map (fun i => (i.zero, i.size, i.bytes)) = some (some (.string ⟨#[]⟩), 1, 16) := by kernel_rfl
theorem cellS_new (w : World) (v : Value) (t : TypeId) : ∀ j u, ([v] : List Value)[j]? = some u → (w.alloc (.cells #[v] t)).cell? ((⟨w.heap.size, 0, none⟩ : Addr).add j) = some u := by
  intro j u hj
  match j, hj with
  | 0, hj =>
    obtain rfl : v = u := by simpa using hj
    exact tblk_cell (tblk_new w (.cells #[v] t)) rfl
theorem wpList_append_run2 {P : Program} {w : World} {ops : Array Oper} {rest : List Oper} {o : Oper} {a : Act} {Q : Exit → Act → World → Prop} (hgd : o.guard = none) (s x : Operand) (t u : TypeId)
    (ho : o.op = .call { callee := .builtin .append, args := #[s, x], argTypes := #[t, u] }) (vs vx v' : Value) (w' : World) (hs : a.eval s = vs) (hx : a.eval x = vx) (hr : (Builtin.append_ #[t, u] o.type #[vs, vx]).run P w = .ok v' w')
    (h : wpList P ops Q rest (a.put o.dst v') w') : wpList P ops Q (o :: rest) a w := by
  refine wpList_plain hgd fun K hK => ?_
  unfold Oper.wp execOp
  simp only [ho, resolve, invoke, builtin, Sem.run_bind, Sem.run_pure, Result.andThen_ok, List.map_toArray, List.map_cons, List.map_nil, hs, hx, hr]
  exact hK _ _ h
theorem ot_append {B : Nat} {w : World} {v : Value} {xs : List KS} (h : OT B w v xs) (hB : B ≤ w.heap.size) (x : KS) (hl : xs.length ≤ 1000) :
    ∃ v' w', (Builtin.append_ #[30, 30] 30 #[v, .slice (some ⟨w.heap.size, 0, none⟩) 1 1]).run Try.prog (w.alloc (.cells #[.string x] 9)) = .ok v' w' ∧ OT B w' v' (xs ++ [x]) ∧ Below B w w' ∧ ∀ k, k < w.heap.size → v.ownBlock ≠ some k → w'.heap[k]? = w.heap[k]? := by
  obtain ⟨i, hi, hz0, hz1, hz2⟩ := info_parts infoS
  have BA : Below w.heap.size w (w.alloc (.cells #[.string x] 9)) := (Below.refl _ _).alloc (Nat.le_refl _) _
  have hA := h.grow BA
  obtain ⟨v', w', hr, q1, q2, q3, q4⟩ := run_append_own_at (P := Try.prog) _ B 30 30 9 i (.string ⟨#[]⟩) 1 16 Try.underlying30 hi hz0 hz1 hz2 rfl (by decide) v xs.length (xs.map Value.string) hA ⟨w.heap.size, 0, none⟩ 1 1 [.string x] rfl (cellS_new w (.string x) 9) (by intro u hu; rw [List.mem_singleton.1 hu]; rfl) (by unfold maxLen; omega) (by omega) (Nat.le_trans hB BA.size)
  refine ⟨v', w', hr, ?_, (BA.mono hB).trans ((Below.refl _ _).grown q2 (Nat.le_trans hB BA.size) (fun q hq => (World.ownsRow.lt hA q hq).1)), fun k hk hn => (q2.block k (by have := BA.size; omega) (fun e => hn e.symm)).trans (BA.block k hk)⟩
  unfold OT
  rw [List.length_append, List.map_append]; exact q1
end Go.Proofs.Ytlaigjapnmgjeaa
