/- Texts that the proof leans on, one behind the other: TpO OpT TpS -/
import Derived.Test.YthmhaflkkigenaaGreatDoorTb
import Derived.Lib.SmallJoins
import Derived.SizedLaws
import Derived.Deep.Strs
import Derived.Test.YthmhaflkkigenaaGreatDoorTd
import Derived.Deep.Slices
import Derived.Deep.SlicePairs
/- Out of the row's condition: the table of the powers of ten. -/
namespace Go.Proofs.YthmhaflkkigenaaGreatDoor
open Go.RowKit
set_option linter.unusedVariables false

theorem tcell_lt {w : World} {b : Nat} {i : Nat} {v : Value} (h : w.cell? ⟨b, i, none⟩ = some v) : b < w.heap.size := by
  unfold World.cell? at h
  rcases Nat.lt_or_ge b w.heap.size with c | c
  · exact c
  · simp [Array.getElem?_eq_none c] at h
theorem tpow_of {l : List (String × DataW Unit)} {W : World} (hl : l.filter (fun x => x.1 == "internal/strconv.uint64pow10") = [("internal/strconv.uint64pow10", Lib.tabData .u64 Lib.pow10Tab)]) (h : laidMetH Tryz.prog l W) : PowT W := by
  have h1 := laidMetH.filter (fun x => x.1 == "internal/strconv.uint64pow10") h
  rw [hl, MakeChecks.laidMetH_plain _ _ _ (by kernel_rfl)] at h1
  have p1 := Lib.tabIs_of_head gPow (by kernel_rfl) Tryz.underlying115 Tryz.underlying103 (by kernel_rfl) (by kernel_rfl) h1
  have c : W.cell? ⟨1, 0, none⟩ = some (.int .u64 1) := p1.cell gPow 0 (by decide)
  exact ⟨p1, tcell_lt c⟩
end Go.Proofs.YthmhaflkkigenaaGreatDoor

/- Texts that came in. -/
namespace Go.Proofs.YthmhaflkkigenaaGreatDoor
open Go.ChangeShapes Go.WideShapes Go.ChangeAt Go.RowKit
set_option linter.unusedVariables false

/-- Texts that came in. -/
def datT {H : Type} (x : ByteArray) : DataW H := .lit (.string x.data.toList)
theorem open_texts {H : Type} {enc : TypeId × Value → H} {w : World} {base : Nat} {held : Bool} {a : Option Addr} {len cap : Nat} {x : DataW H × List MemPlace}
    (h : ∃ fuel, DataW.trod enc Tryz.prog w base (fun _ => true) held fuel 33 (Value.slice a len cap).cells.toList = some x) :
    ∃ xs : List ByteArray, Txs w.heap.size w (.slice a len cap) xs ∧ ((x.1 = .nil ∧ xs = []) ∨ ∃ sp, x.1 = .slice (xs.map datT) sp) := by
  obtain ⟨fuel, hf⟩ := h
  rcases Go.Deep.open_strs Tryz.underlying33 Tryz.underlying9 (by kernel_rfl) hf with ⟨hcs, hx⟩ | ⟨ad, l, c, m, Sx, hcs, hb, hl, hm, hmm, hx, hc⟩
  · simp [Value.cells] at hcs
    obtain ⟨rfl, rfl, rfl⟩ := hcs
    exact ⟨[], ⟨none, 0, rfl, fun _ => rfl, Nat.le_refl _, Nat.zero_le _, fun h => absurd h (Nat.lt_irrefl _)⟩, .inl ⟨by rw [hx], rfl⟩⟩
  · simp [Value.cells] at hcs
    obtain ⟨rfl, rfl, rfl⟩ := hcs
    have hmm' : m = cap := by simpa using hmm
    subst hmm'
    have hln : ((List.range len).map Sx).length = len := by simp
    refine ⟨(List.range len).map Sx, ⟨_, _, by rw [hln], (fun e => by cases e), by rw [hln]; exact hl, hm, fun hp => ?_⟩, .inr ⟨(List.range (m - len)).map fun j => .lit (.string (Sx (len + j)).data.toList), ?_⟩⟩
    · rw [hln] at hp
      obtain ⟨b, off, spot⟩ := ad
      have hspot : spot = none := by simpa [Addr.add] using World.cell?_spot (hc 0 (by omega)).1
      subst hspot
      have hcc : ∀ i, i < m → World.cell? w ⟨b, off + i, none⟩ = some (.string (Sx i)) := fun i hi => by
        have k := (hc i hi).1
        rw [addr_add] at k
        exact k
      refine ⟨b, off, rfl, ?_, fun j hj => ?_⟩
      · have k := hcc 0 (by omega)
        unfold World.cell? at k
        rcases Nat.lt_or_ge b w.heap.size with g | g
        · exact g
        · simp [Array.getElem?_eq_none g] at k
      · rw [hln] at hj
        have e : ((List.range len).map Sx)[j]'(by rw [hln]; exact hj) = Sx j := by simp
        rw [e]
        exact hcc j (by omega)
    · rw [hx, List.map_map]; rfl
end Go.Proofs.YthmhaflkkigenaaGreatDoor

/- Slots that came in, and how large their texts are. -/
namespace Go.Proofs.YthmhaflkkigenaaGreatDoor
open Go.ChangeShapes Go.WideShapes Go.ChangeAt Go.RowKit
set_option linter.unusedVariables false

theorem scell_lt {w : World} {p : Addr} {v : Value} (h : w.cell? p = some v) : p.block < w.heap.size := by
  unfold World.cell? at h
  rcases Nat.lt_or_ge p.block w.heap.size with c | c
  · exact c
  · simp [Array.getElem?_eq_none c] at h
/-- A slot's reading: its hosts' may be nothing or a row. -/
def DatS {H : Type} (s : SlotP) (d : DataW H) : Prop := ∃ dh, d = .agg [.lit (.string s.n.data.toList), dh, .lit (.int .i64 s.q), .lit (.int .i64 s.c), .lit (.int .i64 s.p), .lit (.int .i64 s.r), .lit (.int .i64 s.b), .lit (.int .i64 s.u)] ∧ ((dh = .nil ∧ s.h = []) ∨ ∃ sp, dh = .slice (s.h.map datT) sp)
structure IBd (s : SlotP) : Prop where
  q : -9223372036854775808 ≤ s.q ∧ s.q ≤ 9223372036854775807
  c : -9223372036854775808 ≤ s.c ∧ s.c ≤ 9223372036854775807
  p : -9223372036854775808 ≤ s.p ∧ s.p ≤ 9223372036854775807
  r : -9223372036854775808 ≤ s.r ∧ s.r ≤ 9223372036854775807
  b : -9223372036854775808 ≤ s.b ∧ s.b ≤ 9223372036854775807
  u : -9223372036854775808 ≤ s.u ∧ s.u ≤ 9223372036854775807
theorem sl_cells : Tryz.prog.cellsOf 35 = 8 := by kernel_rfl
theorem sl_cellsS : Tryz.prog.cellsOf 9 = 1 := by kernel_rfl
theorem sl_cellsT : Tryz.prog.cellsOf 33 = 1 := by kernel_rfl
theorem sl_cellsI : Tryz.prog.cellsOf 3 = 1 := by kernel_rfl
set_option maxRecDepth 100000 in
set_option maxHeartbeats 1000000 in
theorem open_slots {H : Type} {enc : TypeId × Value → H} {w : World} {base : Nat} {held : Bool} {a : Option Addr} {len cap : Nat} {x : DataW H × List MemPlace}
    (h : ∃ fuel, DataW.trod enc Tryz.prog w base (fun _ => true) held fuel 23 (Value.slice a len cap).cells.toList = some x) :
    ∃ ts : List SlotP, Sls w.heap.size w (.slice a len cap) ts ∧ (∀ s ∈ ts, IBd s) ∧ ((x.1 = .nil ∧ ts = []) ∨ ∃ (ds sp : List (DataW H)), x.1 = .slice ds sp ∧ ds.length = ts.length ∧ ∀ (i : Nat) (h1 : i < ts.length) (h2 : i < ds.length), DatS ts[i] ds[i]) := by
  obtain ⟨fuel, hf⟩ := h
  rcases Go.Deep.open_slice Tryz.underlying23 hf with ⟨hcs, hx⟩ | ⟨ad, l, c, m, n, D, Pl, hcs, hb, hl, hm, hmm, hx, hc⟩
  · simp [Value.cells] at hcs
    obtain ⟨rfl, rfl, rfl⟩ := hcs
    exact ⟨[], ⟨none, 0, rfl, fun _ => rfl, Nat.le_refl _, Nat.zero_le _, fun h => absurd h (Nat.lt_irrefl _)⟩, (fun s hs => by cases hs), .inl ⟨by rw [hx], rfl⟩⟩
  · simp [Value.cells] at hcs
    obtain ⟨rfl, rfl, rfl⟩ := hcs
    have hmm' : m = cap := by simpa using hmm
    subst hmm'
    have each : ∀ i, i < len → ∃ q : SlotP, (∃ ha hc, w.cell? (ad.add (i * 8)) = some (.string q.n) ∧ w.cell? (ad.add (i * 8 + 1)) = some (.slice ha q.h.length hc) ∧ w.cell? (ad.add (i * 8 + 2)) = some (.int .i64 q.q) ∧ w.cell? (ad.add (i * 8 + 3)) = some (.int .i64 q.c) ∧ w.cell? (ad.add (i * 8 + 4)) = some (.int .i64 q.p) ∧ w.cell? (ad.add (i * 8 + 5)) = some (.int .i64 q.r) ∧ w.cell? (ad.add (i * 8 + 6)) = some (.int .i64 q.b) ∧ w.cell? (ad.add (i * 8 + 7)) = some (.int .i64 q.u) ∧ Txs w.heap.size w (.slice ha q.h.length hc) q.h) ∧ IBd q ∧ DatS q (D i) := by
      intro i hi
      obtain ⟨cs', h1, h2⟩ := hc i (by omega)
      rw [sl_cells] at h1
      obtain ⟨_, hlen, hcell⟩ := World.cells?_some h1
      obtain ⟨xs, k, hk, hxy, _, hxl, hf⟩ := DataW.trod_struct Tryz.underlying35 h2
      match xs, hxl, cs', hlen with
      | [y0, y1, y2, y3, y4, y5, y6, y7], _, [v0, v1, v2, v3, v4, v5, v6, v7], _ =>
        have g0 := hf 0 _ rfl
        have g1 := hf 1 _ rfl
        have g2 := hf 2 _ rfl
        have g3 := hf 3 _ rfl
        have g4 := hf 4 _ rfl
        have g5 := hf 5 _ rfl
        have g6 := hf 6 _ rfl
        have g7 := hf 7 _ rfl
        simp [sl_cellsS, sl_cellsT, sl_cellsI] at g0 g1 g2 g3 g4 g5 g6 g7
        have e0 := hcell 0 (by omega)
        have e1 := hcell 1 (by omega)
        have e2 := hcell 2 (by omega)
        have e3 := hcell 3 (by omega)
        have e4 := hcell 4 (by omega)
        have e5 := hcell 5 (by omega)
        have e6 := hcell 6 (by omega)
        have e7 := hcell 7 (by omega)
        rw [Go.Deep.add_add] at e0 e1 e2 e3 e4 e5 e6 e7
        obtain ⟨s0, a0, b0, _⟩ := DataW.trod_string Tryz.underlying9 g0
        obtain ⟨z2, a2, b2, w2⟩ := DataW.trod_int Tryz.underlying3 g2
        obtain ⟨z3, a3, b3, w3⟩ := DataW.trod_int Tryz.underlying3 g3
        obtain ⟨z4, a4, b4, w4⟩ := DataW.trod_int Tryz.underlying3 g4
        obtain ⟨z5, a5, b5, w5⟩ := DataW.trod_int Tryz.underlying3 g5
        obtain ⟨z6, a6, b6, w6⟩ := DataW.trod_int Tryz.underlying3 g6
        obtain ⟨z7, a7, b7, w7⟩ := DataW.trod_int Tryz.underlying3 g7
        have a0' : v0 = .string s0 := by simpa using a0
        have a2' : v2 = .int .i64 z2 := by simpa using a2
        have a3' : v3 = .int .i64 z3 := by simpa using a3
        have a4' : v4 = .int .i64 z4 := by simpa using a4
        have a5' : v5 = .int .i64 z5 := by simpa using a5
        have a6' : v6 = .int .i64 z6 := by simpa using a6
        have a7' : v7 = .int .i64 z7 := by simpa using a7
        subst a0' a2' a3' a4' a5' a6' a7' b0 b2 b3 b4 b5 b6 b7
        obtain ⟨xa, xl, xc, hv1⟩ : ∃ xa xl xc, v1 = .slice xa xl xc := by
          rcases DataW.trod_slice Tryz.underlying33 g1 with ⟨hcs, _⟩ | ⟨a', l', c', _, _, _, _, hcs, _⟩
          · exact ⟨none, 0, 0, by simpa using hcs⟩
          · exact ⟨some a', l', c', by simpa using hcs⟩
        subst hv1
        obtain ⟨bs, hS, hd⟩ := open_texts (a := xa) (len := xl) (cap := xc) ⟨_, g1⟩
        have hxl2 : bs.length = xl := by
          obtain ⟨a', c', e, _⟩ := hS
          obtain ⟨_, e2, _⟩ := slice_inj e
          exact e2.symm
        subst hxl2
        simp only [Prod.mk.injEq] at hxy
        refine ⟨⟨s0, bs, z2, z3, z4, z5, z6, z7⟩, ⟨xa, xc, by simpa using e0, by simpa using e1, by simpa using e2, by simpa using e3, by simpa using e4, by simpa using e5, by simpa using e6, by simpa using e7, hS⟩, ⟨bounds_i64 w2, bounds_i64 w3, bounds_i64 w4, bounds_i64 w5, bounds_i64 w6, bounds_i64 w7⟩, y1.1, ?_, hd⟩
        rw [hxy.1]
        rfl
    haveI : Inhabited SlotP := ⟨⟨⟨#[]⟩, [], 0, 0, 0, 0, 0, 0⟩⟩
    obtain ⟨q, hq⟩ := Go.Deep.choose_lt each
    have hln : ((List.range len).map q).length = len := by simp
    refine ⟨(List.range len).map q, ⟨_, _, by rw [hln], (fun e => by cases e), by rw [hln]; exact hl, hm, fun hp => ?_⟩, ?_, .inr ⟨(List.range len).map D, _, by rw [hx], by simp, fun i h1 h2 => ?_⟩⟩
    · rw [hln] at hp
      obtain ⟨b, off, spot⟩ := ad
      have hc0 := (hq 0 hp).1
      obtain ⟨_, _, hc0, _⟩ := hc0
      have hspot : spot = none := by simpa [Addr.add] using World.cell?_spot hc0
      subst hspot
      refine ⟨b, off, rfl, ?_, fun j hj => ?_⟩
      · have := scell_lt hc0
        rwa [addr_add] at this
      · have hj' : j < len := by rw [hln] at hj; exact hj
        have e : ((List.range len).map q)[j]'hj = q j := by simp
        rw [e]
        obtain ⟨ha, hc, k0, k1, k2, k3, k4, k5, k6, k7, kt⟩ := (hq j hj').1
        rw [addr_add] at k0 k1 k2 k3 k4 k5 k6 k7
        exact ⟨ha, hc, k0, by rw [Nat.add_assoc]; exact k1, by rw [Nat.add_assoc]; exact k2, by rw [Nat.add_assoc]; exact k3, by rw [Nat.add_assoc]; exact k4, by rw [Nat.add_assoc]; exact k5, by rw [Nat.add_assoc]; exact k6, by rw [Nat.add_assoc]; exact k7, kt⟩
    · intro s hs
      obtain ⟨i, hi, rfl⟩ := List.mem_map.1 hs
      have := List.mem_range.1 hi
      exact (hq i this).2.1
    · have h1' : i < len := by rw [hln] at h1; exact h1
      have e : ((List.range len).map q)[i]'h1 = q i := by simp
      have e2 : ((List.range len).map D)[i]'h2 = D i := by simp
      rw [e, e2]
      exact (hq i h1').2.2
end Go.Proofs.YthmhaflkkigenaaGreatDoor
