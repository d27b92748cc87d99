/- A response that came in. -/
import Derived.Test.YtflgjhknobnnaaaDoorFsA
import Derived.Lib.SmallJoins
namespace Go.Proofs.YtflgjhknobnnaaaDoor
open Go.ChangeShapes Go.WideShapes Go.ChangeAt Go.RowKit
set_option linter.unusedVariables false

theorem array5 {α : Type} {a : Array α} (h : a.size = 5) : ∃ x0 x1 x2 x3 x4, a = #[x0, x1, x2, x3, x4] := by
  obtain ⟨l⟩ := a
  match l, h with
  | [x0, x1, x2, x3, x4], _ => exact ⟨x0, x1, x2, x3, x4, rfl⟩
theorem slice_of {H : Type} {enc : TypeId × Value → H} {w : World} {base : Nat} {held : Bool} {n : Nat} {v : Value} {t e : TypeId} {y : DataW H × List MemPlace} (ht : Tryd.prog.underlying t = some (.slice e))
    (h : DataW.trod enc Tryd.prog w base (fun _ => true) held n t [v] = some y) : ∃ a x c, v = .slice a x c := by
  rcases Go.Deep.open_slice ht h with ⟨hcs, _⟩ | ⟨a, len, cap, _, _, _, _, hcs, _⟩
  · exact ⟨none, 0, 0, by simpa using hcs⟩
  · exact ⟨some a, len, cap, by simpa using hcs⟩
theorem open_resp {H : Type} {enc : TypeId × Value → H} {w : World} {r : Reach} {b0 base : Nat} {held : Bool} {v : Value} {d : DataW H} {p : List MemPlace}
    (hv : Value.okWide Tryd.prog w r b0 29 v) (h : DataW.Trod enc Tryd.prog w base (fun _ => true) held 29 v d p) :
    ∃ (code minor : Int) (reason : ByteArray) (a b : Option Addr) (n c x y : Nat) (fs : Fs), v = .agg #[.int .i64 code, .string reason, .int .i64 minor, .slice a n c, .slice b x y] ∧ Fds w.heap.size w (.slice a n c) fs ∧
      (∀ f ∈ fs, f.1.size ≤ maxLen ∧ f.2.size ≤ maxLen) ∧ ∃ d0 d1 d2 d3 d4, d = .agg [d0, d1, d2, d3, d4] ∧ ((d3 = .nil ∧ fs = []) ∨ ∃ sp, d3 = .slice (fs.map datF) sp) := by
  have ki : Tryd.prog.cellsOf 3 = 1 := by kernel_rfl
  have ks : Tryd.prog.cellsOf 9 = 1 := by kernel_rfl
  have kf : Tryd.prog.cellsOf 22 = 1 := by kernel_rfl
  have kb : Tryd.prog.cellsOf 27 = 1 := by kernel_rfl
  obtain ⟨cs, rfl, hsz⟩ := okWide_struct Tryd.underlying29 hv
  obtain ⟨c0, c1, c2, c3, c4, rfl⟩ := array5 (hsz.trans (show Tryd.prog.cellsOf 29 = 5 by kernel_rfl))
  obtain ⟨fuel, hf⟩ := h
  obtain ⟨xs, n, _, hx, _, hxl, hg⟩ := DataW.trod_struct Tryd.underlying29 hf
  match xs, hxl, hx, hg with
  | [y0, y1, y2, y3, y4], _, hx, hg =>
    have g0 := hg 0 _ rfl
    have g1 := hg 1 _ rfl
    have g2 := hg 2 _ rfl
    have g3 := hg 3 _ rfl
    have g4 := hg 4 _ rfl
    simp [Value.cells, ki] at g0
    simp [Value.cells, ks] at g1
    simp [Value.cells, ki] at g2
    simp [Value.cells, kf] at g3
    simp [Value.cells, kb] at g4
    obtain ⟨code, e0, _, _⟩ := DataW.trod_int Tryd.underlying3 g0
    obtain ⟨reason, e1, _, _⟩ := DataW.trod_string Tryd.underlying9 g1
    obtain ⟨minor, e2, _, _⟩ := DataW.trod_int Tryd.underlying3 g2
    obtain ⟨a3, n3, x3, e3⟩ := slice_of Tryd.underlying22 g3
    obtain ⟨a4, n4, x4, e4⟩ := slice_of Tryd.underlying27 g4
    subst e3 e4
    obtain ⟨fs, q1, q2, q3⟩ := open_fields (w := w) (a := a3) (len := n3) (cap := x3) (x := y3) ⟨_, by simpa [Value.cells] using g3⟩
    simp only [Prod.mk.injEq] at hx
    have e0' : c0 = .int .i64 code := by simpa using e0
    have e1' : c1 = .string reason := by simpa using e1
    have e2' : c2 = .int .i64 minor := by simpa using e2
    subst e0' e1' e2'
    exact ⟨code, minor, reason, a3, a4, n3, x3, n4, x4, fs, rfl, q1, q2, _, _, _, _, _, hx.1, q3⟩
end Go.Proofs.YtflgjhknobnnaaaDoor
