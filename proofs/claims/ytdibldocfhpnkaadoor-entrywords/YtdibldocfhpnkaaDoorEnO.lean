/- Records compared; records that came in. -/
import Derived.Test.YtdibldocfhpnkaaDoorEnN
import Derived.Test.YtdibldocfhpnkaaDoorSbA
import Derived.Laws.StructEq
import Derived.ProofKit
import Derived.OpenShut
import Derived.Deep.Slices
namespace Go.Proofs.YtdibldocfhpnkaaDoor
open Go.ChangeShapes Go.WideShapes Go.ChangeAt Go.RowKit
set_option linter.unusedVariables false

def sameE (a b : EntP) : Bool := (a.q == b.q) && ((a.a == b.a) && ((a.k == b.k) && ((a.n == b.n) && ((a.m.toList == b.m.toList) && ((a.t.toList == b.t.toList) && ((a.c == b.c) && ((a.u == b.u) && (a.d == b.d))))))))
theorem fieldsE : (Tryd.prog.fieldsOf 23).toList.map (fun f => f.type) = [2, 2, 2, 3, 9, 9, 3, 3, 3] := by kernel_rfl
set_option maxRecDepth 100000 in
theorem ent_eql (a b : EntP) (W : World) : (binOp .eql 23 (.agg (entV a)) (.agg (entV b))).run Tryd.prog W = .ok (.bool (sameE a b)) W := by
  rw [run_eql_struct, run_equalIn_agg W 9999 23 _ _ (by kernel_rfl) (by kernel_rfl)]
  unfold Program.fieldsOf
  rw [Tryd.underlying23]
  obtain ⟨q, a, k, n, m, t, c, u, d⟩ := a
  obtain ⟨q', a', k', n', m', t', c', u', d'⟩ := b
  unfold sameE entV
  simp only
  simp [Op.eqFields, part, go_sem, Tryd.underlying2, Tryd.underlying3, Tryd.underlying9, Tryd.isAgg2, Tryd.isAgg3, Tryd.isAgg9]
  by_cases h1 : q = q'
  case neg => simp [h1]
  by_cases h2 : a = a'
  case neg => simp [h2]
  by_cases h3 : k = k'
  case neg => simp [h3]
  by_cases h4 : n = n'
  case neg => simp [h4]
  by_cases h5 : m.toList = m'.toList
  case neg => simp [h5]
  by_cases h6 : t.toList = t'.toList
  case neg => simp [h6]
  by_cases h7 : c = c'
  case neg => simp [h7]
  by_cases h8 : u = u'
  case neg => simp [h8]
  by_cases h9 : d = d'
  case neg => simp [h9]
  simp [h1, h2, h3, h4, h5, h6, h7, h8, h9]
theorem sameE_iff (a b : EntP) : sameE a b = true ↔ a = b := by
  obtain ⟨q, a, k, n, m, t, c, u, d⟩ := a
  obtain ⟨q', a', k', n', m', t', c', u', d'⟩ := b
  unfold sameE
  simp only [Bool.and_eq_true, beq_iff_eq, EntP.mk.injEq]
  constructor
  · rintro ⟨h1, h2, h3, h4, h5, h6, h7, h8, h9⟩
    rw [ByteArray.toList_eq, ByteArray.toList_eq] at h5 h6
    exact ⟨h1, h2, h3, h4, bytes_eqR h5, bytes_eqR h6, h7, h8, h9⟩
  · rintro ⟨h1, h2, h3, h4, h5, h6, h7, h8, h9⟩
    exact ⟨h1, h2, h3, h4, by rw [h5], by rw [h6], h7, h8, h9⟩
set_option maxRecDepth 100000 in
theorem open_entry {H : Type} {enc : TypeId × Value → H} {w : World} {r : Reach} {b0 base : Nat} {held : Bool} {v : Value} {d : DataW H} {p : List MemPlace}
    (hv : Value.okWide Tryd.prog w r b0 23 v) (h : DataW.Trod enc Tryd.prog w base (fun _ => true) held 23 v d p) :
    ∃ e : EntP, v = .agg (entV e) ∧ e.m.size ≤ maxLen ∧ e.t.size ≤ maxLen := by
  have k2 : Tryd.prog.cellsOf 2 = 1 := by kernel_rfl
  have k3 : Tryd.prog.cellsOf 3 = 1 := by kernel_rfl
  have k9 : Tryd.prog.cellsOf 9 = 1 := by kernel_rfl
  obtain ⟨cs, rfl, hsz⟩ := okWide_struct Tryd.underlying23 hv
  obtain ⟨c0, c1, c2, c3, c4, c5, c6, c7, c8, rfl⟩ : ∃ c0 c1 c2 c3 c4 c5 c6 c7 c8, cs = #[c0, c1, c2, c3, c4, c5, c6, c7, c8] := by
    have h2 := hsz.trans (show Tryd.prog.cellsOf 23 = 9 by kernel_rfl)
    obtain ⟨l⟩ := cs
    match l, h2 with
    | [x0, x1, x2, x3, x4, x5, x6, x7, x8], _ => exact ⟨x0, x1, x2, x3, x4, x5, x6, x7, x8, rfl⟩
  obtain ⟨fuel, hf⟩ := h
  obtain ⟨xs, n, _, hx, _, hxl, hg⟩ := DataW.trod_struct Tryd.underlying23 hf
  match xs, hxl, hx, hg with
  | [y0, y1, y2, y3, y4, y5, y6, y7, y8], _, hx, hg =>
    have g0 := hg 0 _ rfl
    have g1 := hg 1 _ rfl
    have g2 := hg 2 _ rfl
    have g3 := hg 3 _ rfl
    have g4 := hg 4 _ rfl
    have g5 := hg 5 _ rfl
    have g6 := hg 6 _ rfl
    have g7 := hg 7 _ rfl
    have g8 := hg 8 _ rfl
    simp [Value.cells, k2, k3, k9] at g0 g1 g2 g3 g4 g5 g6 g7 g8
    obtain ⟨s0, e0, _⟩ := DataW.trod_int Tryd.underlying2 g0
    obtain ⟨s1, e1, _⟩ := DataW.trod_int Tryd.underlying2 g1
    obtain ⟨s2, e2, _⟩ := DataW.trod_int Tryd.underlying2 g2
    obtain ⟨s3, e3, _⟩ := DataW.trod_int Tryd.underlying3 g3
    obtain ⟨s4, e4, _, z4⟩ := DataW.trod_string Tryd.underlying9 g4
    obtain ⟨s5, e5, _, z5⟩ := DataW.trod_string Tryd.underlying9 g5
    obtain ⟨s6, e6, _⟩ := DataW.trod_int Tryd.underlying3 g6
    obtain ⟨s7, e7, _⟩ := DataW.trod_int Tryd.underlying3 g7
    obtain ⟨s8, e8, _⟩ := DataW.trod_int Tryd.underlying3 g8
    have e0' : c0 = .int .i64 s0 := by simpa using e0
    have e1' : c1 = .int .i64 s1 := by simpa using e1
    have e2' : c2 = .int .i64 s2 := by simpa using e2
    have e3' : c3 = .int .i64 s3 := by simpa using e3
    have e4' : c4 = .string s4 := by simpa using e4
    have e5' : c5 = .string s5 := by simpa using e5
    have e6' : c6 = .int .i64 s6 := by simpa using e6
    have e7' : c7 = .int .i64 s7 := by simpa using e7
    have e8' : c8 = .int .i64 s8 := by simpa using e8
    subst e0' e1' e2' e3' e4' e5' e6' e7' e8'
    exact ⟨⟨s0, s1, s2, s3, s4, s5, s6, s7, s8⟩, rfl, z4, z5⟩
end Go.Proofs.YtdibldocfhpnkaaDoor
