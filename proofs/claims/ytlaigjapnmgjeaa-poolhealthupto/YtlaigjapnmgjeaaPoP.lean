/- Calls of a pool that came in. -/
import Derived.Test.YtlaigjapnmgjeaaPoL
import Derived.ProofKit
import Derived.OpenShut
import Derived.Deep.Slices
import Derived.Deep.SlicePairs
namespace Go.Proofs.Ytlaigjapnmgjeaa
open Go.ChangeShapes Go.WideShapes Go.ChangeAt Go.RowKit
set_option linter.unusedVariables false

theorem op_lt {w : World} {x : Addr} {v : Value} (h : w.cell? x = some v) : x.block < w.heap.size := by
  unfold World.cell? at h
  rcases Nat.lt_or_ge x.block w.heap.size with c | c
  · exact c
  · simp [Array.getElem?_eq_none c] at h
/-- The eight cells of a call. -/
def Op8 (w : World) (b o : Nat) (k h : Int) (s : KS) : Prop := InR k ∧ InR h ∧ s.size ≤ maxLen ∧ ∃ (u : KS) (xa : Option Addr) (xl xc : Nat) (nw fl co : Int), InR nw ∧ InR fl ∧ InR co ∧ w.cell? ⟨b, o, none⟩ = some (.int .i64 k) ∧ w.cell? ⟨b, o + 1, none⟩ = some (.int .i64 h) ∧ w.cell? ⟨b, o + 2, none⟩ = some (.string s) ∧ w.cell? ⟨b, o + 3, none⟩ = some (.string u) ∧ w.cell? ⟨b, o + 4, none⟩ = some (.slice xa xl xc) ∧ w.cell? ⟨b, o + 5, none⟩ = some (.int .i64 nw) ∧ w.cell? ⟨b, o + 6, none⟩ = some (.int .i64 fl) ∧ w.cell? ⟨b, o + 7, none⟩ = some (.int .i64 co)
/-- Calls that came in. -/
def OpsP (w : World) (a : Option Addr) (len : Nat) : Prop := len ≤ maxLen ∧ (0 < len → ∃ b off, a = some ⟨b, off, none⟩ ∧ b < w.heap.size ∧ ∀ i, i < len → ∃ k h s, Op8 w b (off + i * 8) k h s)
theorem op_cells : Try.prog.cellsOf 34 = 8 := by kernel_rfl
theorem op_cells64 : Try.prog.cellsOf 2 = 1 := by kernel_rfl
theorem op_cellsI : Try.prog.cellsOf 3 = 1 := by kernel_rfl
theorem op_cellsS : Try.prog.cellsOf 9 = 1 := by kernel_rfl
theorem op_cellsT : Try.prog.cellsOf 30 = 1 := by kernel_rfl
theorem op_cellsU : Try.prog.cellsOf 32 = 2 := by kernel_rfl
theorem op_add (b off n : Nat) : (Addr.add ⟨b, off, none⟩ n) = ⟨b, off + n, none⟩ := by simp [Addr.add]
theorem op_bd {z : Int} (h : (Lit.int .i64 z).wf = true) : InR z := bounds_i64 h
set_option maxRecDepth 100000 in
set_option maxHeartbeats 1000000 in
theorem open_opsP {H : Type} {enc : TypeId × Value → H} {w : World} {base : Nat} {held : Bool} {a : Option Addr} {len cap : Nat} {x : DataW H × List MemPlace}
    (h : ∃ fuel, DataW.trod enc Try.prog w base (fun _ => true) held fuel 22 (Value.slice a len cap).cells.toList = some x) : OpsP w a len := by
  obtain ⟨fuel, hf⟩ := h
  rcases Go.Deep.open_slice Try.underlying22 hf with ⟨hcs, hx⟩ | ⟨ad, l, c, m, n, D, Pl, hcs, hb, hl, hm, hmm, hx, hc⟩
  · simp [Value.cells] at hcs
    obtain ⟨rfl, rfl, rfl⟩ := hcs
    exact ⟨Nat.zero_le _, fun h => absurd h (Nat.lt_irrefl _)⟩
  · simp [Value.cells] at hcs
    obtain ⟨rfl, rfl, rfl⟩ := hcs
    have hmm' : m = cap := by simpa using hmm
    subst hmm'
    have each : ∀ i, i < len → ∃ (k h : Int) (s u : KS) (xa : Option Addr) (xl xc : Nat) (nw fl co : Int), InR k ∧ InR h ∧ s.size ≤ maxLen ∧ InR nw ∧ InR fl ∧ InR co ∧ w.cell? (ad.add (i * 8)) = some (.int .i64 k) ∧ w.cell? (ad.add (i * 8 + 1)) = some (.int .i64 h) ∧ w.cell? (ad.add (i * 8 + 2)) = some (.string s) ∧ w.cell? (ad.add (i * 8 + 3)) = some (.string u) ∧ w.cell? (ad.add (i * 8 + 4)) = some (.slice xa xl xc) ∧ w.cell? (ad.add (i * 8 + 5)) = some (.int .i64 nw) ∧ w.cell? (ad.add (i * 8 + 6)) = some (.int .i64 fl) ∧ w.cell? (ad.add (i * 8 + 7)) = some (.int .i64 co) := by
      intro i hi
      obtain ⟨cs', h1, h2⟩ := hc i (by omega)
      rw [op_cells] at h1
      obtain ⟨_, hlen, hcell⟩ := World.cells?_some h1
      obtain ⟨xs, k, hk, hxy, _, hxl, hf⟩ := DataW.trod_struct Try.underlying34 h2
      match xs, hxl, cs', hlen with
      | [y0, y1, y2, y3, y4, y5, y6], _, [v0, v1, v2, v3, v4, v5, v6, v7], _ =>
        have g0 := hf 0 _ rfl
        have g1 := hf 1 _ rfl
        have g2 := hf 2 _ rfl
        have g3 := hf 3 _ rfl
        have g4 := hf 4 _ rfl
        have g5 := hf 5 _ rfl
        have g6 := hf 6 _ rfl
        simp [op_cellsS, op_cellsI, op_cells64, op_cellsU] at g0 g1 g2 g3 g4 g5 g6
        obtain ⟨ys, k', _, _, _, hyl, hu⟩ := DataW.trod_struct Try.underlying32 g3
        match ys, hyl with
        | [u0, u1], _ =>
          have j0 := hu 0 _ rfl
          have j1 := hu 1 _ rfl
          simp [op_cellsS, op_cellsT] at j0 j1
          have e0 := hcell 0 (by omega)
          have e1 := hcell 1 (by omega)
          have e2 := hcell 2 (by omega)
          have e3 := hcell 3 (by omega)
          have e4 := hcell 4 (by omega)
          have e5 := hcell 5 (by omega)
          have e6 := hcell 6 (by omega)
          have e7 := hcell 7 (by omega)
          rw [Go.Deep.add_add] at e0 e1 e2 e3 e4 e5 e6 e7
          obtain ⟨z0, a0, _, w0⟩ := DataW.trod_int Try.underlying3 g0
          obtain ⟨z1, a1, _, w1⟩ := DataW.trod_int Try.underlying3 g1
          obtain ⟨s2, a2, _, w2⟩ := DataW.trod_string Try.underlying9 g2
          obtain ⟨s3, a3, _, _⟩ := DataW.trod_string Try.underlying9 j0
          obtain ⟨z5, a5, _, w5⟩ := DataW.trod_int Try.underlying2 g4
          obtain ⟨z6, a6, _, w6⟩ := DataW.trod_int Try.underlying3 g5
          obtain ⟨z7, a7, _, w7⟩ := DataW.trod_int Try.underlying3 g6
          have a0' : v0 = .int .i64 z0 := by simpa using a0
          have a1' : v1 = .int .i64 z1 := by simpa using a1
          have a2' : v2 = .string s2 := by simpa using a2
          have a3' : v3 = .string s3 := by simpa using a3
          have a5' : v5 = .int .i64 z5 := by simpa using a5
          have a6' : v6 = .int .i64 z6 := by simpa using a6
          have a7' : v7 = .int .i64 z7 := by simpa using a7
          subst a0' a1' a2' a3' a5' a6' a7'
          obtain ⟨xa, xl, xc, hv4⟩ : ∃ xa xl xc, v4 = .slice xa xl xc := by
            rcases DataW.trod_slice Try.underlying30 j1 with ⟨hcs, _⟩ | ⟨a', l', c', _, _, _, _, hcs, _⟩
            · exact ⟨none, 0, 0, by simpa using hcs⟩
            · exact ⟨some a', l', c', by simpa using hcs⟩
          subst hv4
          exact ⟨z0, z1, s2, s3, xa, xl, xc, z5, z6, z7, op_bd w0, op_bd w1, w2, op_bd w5, op_bd w6, op_bd w7, by simpa using e0, by simpa using e1, by simpa using e2, by simpa using e3, by simpa using e4, by simpa using e5, by simpa using e6, by simpa using e7⟩
    refine ⟨by omega, fun hp => ?_⟩
    obtain ⟨b, off, spot⟩ := ad
    obtain ⟨_, _, _, _, _, _, _, _, _, _, _, _, _, _, _, _, hc0, _⟩ := each 0 hp
    have hspot : spot = none := by simpa [Addr.add] using World.cell?_spot hc0
    subst hspot
    refine ⟨b, off, rfl, ?_, fun j hj => ?_⟩
    · have := op_lt hc0
      rwa [op_add] at this
    · obtain ⟨k, h, s, u, xa, xl, xc, nw, fl, co, q0, q1, q2, q3, q4, q5, k0, k1, k2, k3, k4, k5, k6, k7⟩ := each j hj
      rw [op_add] at k0 k1 k2 k3 k4 k5 k6 k7
      exact ⟨k, h, s, q0, q1, q2, u, xa, xl, xc, nw, fl, co, q3, q4, q5, k0, by rw [Nat.add_assoc]; exact k1, by rw [Nat.add_assoc]; exact k2, by rw [Nat.add_assoc]; exact k3, by rw [Nat.add_assoc]; exact k4, by rw [Nat.add_assoc]; exact k5, by rw [Nat.add_assoc]; exact k6, by rw [Nat.add_assoc]; exact k7⟩
end Go.Proofs.Ytlaigjapnmgjeaa
