/- PoolBound: how long the aims are where the bulk is small. -/
import Derived.Test.YtlaigjapnmgjeaaPoP
import Derived.Test.YtlaigjapnmgjeaaRows
namespace Go.Proofs.Ytlaigjapnmgjeaa
open Go.ChangeShapes Go.WideShapes Go.RowKit
set_option linter.unusedVariables false

theorem bulk_mem {H : Type} : ∀ (l : List (DataW H)) (d : DataW H), d ∈ l → Rows.uptoBulk d ≤ Rows.uptoBulkAll l
  | x :: l, d, h => by
    simp only [Rows.uptoBulkAll]
    rcases List.mem_cons.1 h with rfl | h
    · omega
    · have := bulk_mem l d h; omega
set_option maxRecDepth 100000 in
theorem bulk_opsP {H : Type} {enc : TypeId × Value → H} {w : World} {base : Nat} {held : Bool} {a : Option Addr} {len cap : Nat} {d : DataW H} {p : List MemPlace}
    (h : DataW.Trod enc Try.prog w base (fun _ => true) held 22 (Value.slice a len cap) d p) (hd : Rows.uptoBulk d ≤ 1048576) : ∀ b2 o2, a = some ⟨b2, o2, none⟩ → ∀ i, i < len → ∀ s : KS, w.cell? ⟨b2, o2 + i * 8 + 2, none⟩ = some (.string s) → s.size ≤ 281474976710656 := by
  obtain ⟨fuel, hf⟩ := h
  rcases Go.Deep.open_slice Try.underlying22 hf with ⟨hcs, hx⟩ | ⟨ad, l, c, m, n, D, Pl, hcs, hb, hl, hm, hmm, hx, hc⟩
  · simp [Value.cells] at hcs
    obtain ⟨rfl, rfl, rfl⟩ := hcs
    intro b2 o2 e
    cases e
  · simp [Value.cells] at hcs
    obtain ⟨rfl, rfl, rfl⟩ := hcs
    have hmm' : m = cap := by simpa using hmm
    subst hmm'
    intro b2 o2 e i hi s hs
    cases e
    obtain ⟨rfl, _⟩ := Prod.mk.inj hx
    simp only [Rows.uptoBulk] at hd
    have k := bulk_mem ((List.range len).map D) (D i) (List.mem_map.2 ⟨i, List.mem_range.2 (by omega), rfl⟩)
    have key : s.size ≤ Rows.uptoBulk (D i) := by
      clear hd k
      obtain ⟨cs', h1, h2⟩ := hc i (by omega)
      rw [op_cells] at h1
      obtain ⟨_, hlen, hcell⟩ := World.cells?_some h1
      obtain ⟨xs, kk, hk, hxy, _, hxl, hf⟩ := DataW.trod_struct Try.underlying34 h2
      match xs, hxl, cs', hlen with
      | [y0, y1, y2, y3, y4, y5, y6], _, [v0, v1, v2, v3, v4, v5, v6, v7], _ =>
        have g2 := hf 2 _ rfl
        simp [op_cellsS] at g2
        have e2 := hcell 2 (by omega)
        rw [Go.Deep.add_add, op_add] at e2
        obtain ⟨s2, a2, b2', _⟩ := DataW.trod_string Try.underlying9 g2
        have a2' : v2 = .string s2 := by simpa using a2
        subst a2'
        have e3 : w.cell? ⟨b2, o2 + i * 8 + 2, none⟩ = some (.string s2) := by rw [Nat.add_assoc]; simpa using e2
        rw [hs] at e3
        have e4 : s = s2 := by cases e3; rfl
        subst e4
        have hD : D i = .agg ([y0, y1, y2, y3, y4, y5, y6].map (·.1)) := (Prod.mk.inj hxy).1
        rw [hD]
        have hy : y2.1 = .lit (.string s.data.toList) := by rw [b2']
        simp only [List.map_cons, List.map_nil, Rows.uptoBulk, Rows.uptoBulkAll, hy]
        have e5 : s.data.toList.length = s.size := rfl
        omega
    omega
end Go.Proofs.Ytlaigjapnmgjeaa
