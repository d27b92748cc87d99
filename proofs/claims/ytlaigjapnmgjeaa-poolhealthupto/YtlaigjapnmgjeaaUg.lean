/- PoolHealth: the upstreams that came in, where the bulk is small. -/
import Derived.Test.YtlaigjapnmgjeaaPoW
import Derived.Test.YtlaigjapnmgjeaaHlC
import Derived.Deep.Strs
namespace Go.Proofs.Ytlaigjapnmgjeaa
open Go.ChangeShapes Go.WideShapes Go.RowKit
set_option linter.unusedVariables false

set_option maxRecDepth 100000 in
set_option maxHeartbeats 1000000 in
theorem bulk_upH {H : Type} {enc : TypeId × Value → H} {w : World} {base : Nat} {held : Bool} {a : Option Addr} {len cap : Nat} {d : DataW H} {p : List MemPlace}
    (h : DataW.Trod enc Try.prog w base (fun _ => true) held 22 (Value.slice a len cap) d p) (hd : Rows.uptoBulk d ≤ 1048576) : ∀ b2 o2, a = some ⟨b2, o2, none⟩ → ∀ i, i < len → ∀ (u : KS) xa xl xc, w.cell? ⟨b2, o2 + i * 8 + 3, none⟩ = some (.string u) → w.cell? ⟨b2, o2 + i * 8 + 4, none⟩ = some (.slice xa xl xc) → u.size ≤ 281474976710656 ∧ (xl ≤ 1000 → ∃ xs : List KS, xs.length = xl ∧ Tx w xa xs) := by
  obtain ⟨fuel, hf⟩ := h
  rcases Go.Deep.open_slice Try.underlying22 hf with ⟨hcs, hx⟩ | ⟨ad, l, c, m, n, D, Pl, hcs, hb, hl, hm, hmm, hx, hc⟩
  · simp [Value.cells] at hcs
    obtain ⟨rfl, rfl, rfl⟩ := hcs
    intro b2 o2 e
    cases e
  · simp [Value.cells] at hcs
    obtain ⟨rfl, rfl, rfl⟩ := hcs
    have hmm' : m = cap := by simpa using hmm
    subst hmm'
    intro b2 o2 e i hi u xa xl xc hu hxs
    cases e
    obtain ⟨rfl, _⟩ := Prod.mk.inj hx
    simp only [Rows.uptoBulk] at hd
    have k := bulk_mem ((List.range len).map D) (D i) (List.mem_map.2 ⟨i, List.mem_range.2 (by omega), rfl⟩)
    have hdi : Rows.uptoBulk (D i) ≤ 1048576 := by omega
    clear hd k
    obtain ⟨cs', h1, h2⟩ := hc i (by omega)
    rw [op_cells] at h1
    obtain ⟨_, hlen, hcell⟩ := World.cells?_some h1
    obtain ⟨ys, kk, hk, hxy, _, hxl, hf⟩ := DataW.trod_struct Try.underlying34 h2
    match ys, hxl, cs', hlen with
    | [y0, y1, y2, y3, y4, y5, y6], _, [v0, v1, v2, v3, v4, v5, v6, v7], _ =>
      have g3 := hf 3 _ rfl
      simp [op_cellsU] at g3
      obtain ⟨zs, k', _, hzy, _, hyl, hus⟩ := DataW.trod_struct Try.underlying32 g3
      match zs, hyl with
      | [u0, u1], _ =>
        have j0 := hus 0 _ rfl
        have j1 := hus 1 _ rfl
        simp [op_cellsS, op_cellsT] at j0 j1
        have e3 := hcell 3 (by omega)
        have e4 := hcell 4 (by omega)
        rw [Go.Deep.add_add, op_add] at e3 e4
        obtain ⟨s3, a3, b3', _⟩ := DataW.trod_string Try.underlying9 j0
        have a3' : v3 = .string s3 := by simpa using a3
        subst a3'
        have e5 : w.cell? ⟨b2, o2 + i * 8 + 3, none⟩ = some (.string s3) := by rw [Nat.add_assoc]; simpa using e3
        rw [hu] at e5
        have e6 : u = s3 := by cases e5; rfl
        subst e6
        have e7 : w.cell? ⟨b2, o2 + i * 8 + 4, none⟩ = some v4 := by rw [Nat.add_assoc]; simpa using e4
        rw [hxs] at e7
        have e8 : v4 = .slice xa xl xc := by cases e7; rfl
        subst e8
        have hD : D i = .agg ([y0, y1, y2, y3, y4, y5, y6].map (·.1)) := (Prod.mk.inj hxy).1
        have hY : y3.1 = .agg ([u0, u1].map (·.1)) := by rw [hzy]
        have hy : u0.1 = .lit (.string u.data.toList) := by rw [b3']
        have hsz : u.data.toList.length = u.size := rfl
        rw [hD] at hdi
        simp only [List.map_cons, List.map_nil, Rows.uptoBulk, Rows.uptoBulkAll, hY, hy] at hdi
        refine ⟨by omega, fun hxl => ?_⟩
        rcases Go.Deep.open_strs Try.underlying30 Try.underlying9 (by kernel_rfl) j1 with ⟨hcs, hx2⟩ | ⟨ax, lx, cx, mx, Sx, hcs, hbx, hlx, hmx, hmmx, hx2, hcx⟩
        · have : Value.slice xa xl xc = .slice none 0 0 := by simpa using hcs
          injection this with q1 q2 q3
          subst q1 q2 q3
          exact ⟨[], rfl, Nat.zero_le _, fun s hs => (by cases hs), fun hp => absurd hp (Nat.lt_irrefl _)⟩
        · have : Value.slice xa xl xc = .slice (some ax) lx cx := by simpa using hcs
          injection this with q1 q2 q3
          subst q1 q2 q3
          have hu1 : u1.1 = .slice ((List.range xl).map fun i => .lit (.string (Sx i).data.toList)) ((List.range (mx - xl)).map fun j => .lit (.string (Sx (xl + j)).data.toList)) := by rw [hx2]
          rw [hu1] at hdi
          simp only [Rows.uptoBulk] at hdi
          have hmle : xl ≤ mx := by
            have : mx = xc := by simpa using hmmx
            omega
          have each : ∀ j, j < xl → (Sx j).size ≤ 281474976710656 := fun j hj => by
            have kb := bulk_mem ((List.range xl).map fun i => (DataW.lit (.string (Sx i).data.toList) : DataW H)) (.lit (.string (Sx j).data.toList)) (List.mem_map.2 ⟨j, List.mem_range.2 hj, rfl⟩)
            simp only [Rows.uptoBulk] at kb
            have e9 : (Sx j).data.toList.length = (Sx j).size := rfl
            omega
          refine ⟨(List.range xl).map Sx, by simp, by simpa using hxl, fun s hs => ?_, fun hp => ?_⟩
          · obtain ⟨j, hj, rfl⟩ := List.mem_map.1 hs
            exact each j (List.mem_range.1 hj)
          · have hp' : 0 < xl := by simpa using hp
            obtain ⟨bx, ox, spot⟩ := ax
            have hc0 := (hcx 0 (by omega)).1
            have hspot : spot = none := by simpa [Addr.add] using World.cell?_spot hc0
            subst hspot
            refine ⟨bx, ox, rfl, ?_, fun j hj => ?_⟩
            · have := op_lt hc0
              rwa [op_add] at this
            · have hj' : j < xl := by simpa using hj
              have hcj := (hcx j (by omega)).1
              rw [op_add] at hcj
              rw [hcj]
              simp [hj']
end Go.Proofs.Ytlaigjapnmgjeaa
