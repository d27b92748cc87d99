/- RobinOrder: its state; numbers that came in. -/
import Derived.Test.YtnfpbkllpkbdiaaRbS
import Derived.ProofKit
import Derived.OpenShut
import Derived.Deep.Slices
namespace Go.Proofs.Ytnfpbkllpkbdiaa
open Go.ChangeShapes Go.WideShapes Go.ChangeAt Go.RowKit
set_option linter.unusedVariables false

theorem and_mask (n : Int) (m : Nat) (hm : m < 9223372036854775808) : ∃ k : Nat, k ≤ m ∧ bits .and .i64 n (m : Int) = (k : Int) := by
  have h2 : (BitVec.ofInt 64 (m : Int)).toNat = m := by
    rw [BitVec.ofInt_natCast, BitVec.toNat_ofNat]; exact Nat.mod_eq_of_lt (by omega)
  have hk : (BitVec.ofInt 64 n &&& BitVec.ofInt 64 (m : Int)).toNat ≤ m := by
    rw [BitVec.toNat_and, h2]; exact Nat.and_le_right
  refine ⟨(BitVec.ofInt 64 n &&& BitVec.ofInt 64 (m : Int)).toNat, hk, ?_⟩
  show IntKind.i64.wrap ((BitVec.ofInt 64 n &&& BitVec.ofInt 64 (m : Int)).toNat : Int) = _
  rw [IntKind.wrap_i64]
  generalize (BitVec.ofInt 64 n &&& BitVec.ofInt 64 (m : Int)).toNat = k at *
  omega
theorem cell_lt {w : World} {x : Addr} {v : Value} (h : w.cell? x = some v) : x.block < w.heap.size := by
  unfold World.cell? at h
  rcases Nat.lt_or_ge x.block w.heap.size with c | c
  · exact c
  · simp [Array.getElem?_eq_none c] at h
def Nums (w : World) (a : Option Addr) (len : Nat) : Prop := len ≤ maxLen ∧ (0 < len → ∃ b off, a = some ⟨b, off, none⟩ ∧ b < w.heap.size ∧ ∀ i, i < len → ∃ z, w.cell? ⟨b, off + i, none⟩ = some (.int .i64 z))
theorem open_nums {H : Type} {enc : TypeId × Value → H} {w : World} {base : Nat} {held : Bool} {a : Option Addr} {len cap : Nat} {x : DataW H × List MemPlace}
    (h : ∃ fuel, DataW.trod enc Try.prog w base (fun _ => true) held fuel 28 (Value.slice a len cap).cells.toList = some x) : Nums w a len := by
  obtain ⟨fuel, hf⟩ := h
  rcases open_ints Try.underlying28 Try.underlying3 (by kernel_rfl) hf with ⟨hcs, _⟩ | ⟨x, l, c, zs, hcs, _, hl, hm, hz, _, hcell, hwz⟩
  · simp [Value.cells] at hcs
    obtain ⟨rfl, rfl, rfl⟩ := hcs
    exact ⟨Nat.zero_le _, fun h => absurd h (Nat.lt_irrefl _)⟩
  · simp [Value.cells] at hcs
    obtain ⟨rfl, rfl, rfl⟩ := hcs
    have hz' : zs.length = cap := by simpa using hz
    refine ⟨Nat.le_trans hl hm, fun hp => ?_⟩
    obtain ⟨b, off, rfl, hc⟩ := ints_at hcell (by omega)
    exact ⟨b, off, rfl, cell_lt (hc 0 (by omega)), fun i hi => ⟨_, hc i (by omega)⟩⟩
theorem not_robin_flow {w : World} {b g off c : Nat} {q cr la : Int} {l : List Fl} (h : IsR w b q cr la) (k : FO w g off c l) : b ≠ g := by
  rintro rfl
  obtain ⟨cur, e, _⟩ := k
  unfold IsR at h
  rw [h] at e
  injection e with e
  injection e with _ e3 _
  exact absurd e3 (by decide)
theorem isr_ex {b c : Nat} {w w' : World} {q cr la : Int} (h : IsR w c q cr la) (x : Ex b w w') (hne : c ≠ b) : IsR w' c q cr la := by
  have hl := h.lt
  unfold IsR at *
  rw [x.block c hl hne]; exact h
theorem fo_ex {b g off c : Nat} {w w' : World} {l : List Fl} (h : FO w g off c l) (x : Ex b w w') (hne : g ≠ b) : FO w' g off c l := by
  have hl := h.lt
  obtain ⟨cur, e, r⟩ := h
  exact ⟨cur, (x.block g hl hne).trans e, r⟩
theorem go_ex {b B : Nat} {w w' : World} {v : Value} {gs : List Fl} {q cr la : Int} (h : GO B w v gs) (x : Ex b w w') (hr : IsR w b q cr la) : GO B w' v gs :=
  h.move fun k cur hk => x.block k (Array.getElem?_eq_some_iff.1 hk).1 (fun e => by
    subst e
    unfold IsR at hr
    rw [hr] at hk
    injection hk with e
    injection e with _ e3 _
    exact absurd e3 (by decide))
theorem go_flow {B : Nat} {w : World} {v : Value} {gs : List Fl} {g off c o : Nat} {l : List Fl} {x : Value} (h : GO B w v gs) (hf : FO w g off c l) : GO B (w.setCell ⟨g, o, none⟩ x) v gs :=
  h.move fun k cur hk => Below.heap_setCell _ _ _ _ (fun e : k = g => by
    subst e
    obtain ⟨cur2, e, _⟩ := hf
    rw [hk] at e
    injection e with e
    injection e with _ e3 _
    exact absurd e3 (by decide))
/-- One number of a flow turned. -/
theorem FO.set1 {w : World} {g off c : Nat} {l : List Fl} (h : FO w g off c l) (j : Nat) (hj : j < l.length) (b : Int) : FO (w.setCell ⟨g, off + j * 2 + 1, none⟩ (.int .i64 b)) g off c (l.set j ((l.getD j (0, 0)).1, b)) := by
  obtain ⟨cur, h1, h2, h3, h4⟩ := h
  have k2 := heap_set (v := .int .i64 b) h1 (show off + j * 2 + 1 < cur.size by omega)
  refine ⟨_, k2, by simp [h2], by simpa using h3, fun i hi => ?_⟩
  have hi' : i < l.length := by simpa using hi
  have r := h4 i hi'
  rw [getD_set l j i _ hj]
  simp only [Array.getElem?_setIfInBounds]
  by_cases q : j = i
  · subst q
    rw [show (if j = j then ((l.getD j (0, 0)).1, b) else l.getD j (0, 0)) = ((l.getD j (0, 0)).1, b) from if_pos rfl]
    exact ⟨by rw [if_neg (by omega)]; exact r.1, by rw [if_pos rfl, if_pos (by omega)]⟩
  · rw [if_neg q, if_neg (by omega), if_neg (by omega)]
    exact r
theorem isr_set {w : World} {b g o : Nat} {q cr la : Int} {x : Value} (h : IsR w b q cr la) (hne : b ≠ g) : IsR (w.setCell ⟨g, o, none⟩ x) b q cr la := by
  unfold IsR at *
  rw [Below.heap_setCell _ _ _ _ hne]; exact h
/-- The state of RobinOrder's rounds. -/
structure SO (w : World) (A B gf cf : Nat) (q b : Int) (wr : World) (l : List Fl) (cr la : Int) : Prop where
  fo : FO wr gf 0 cf l
  fs : Fsh b l
  ra : IsR wr A q cr la
  rb : IsR wr B q cr la
  be : Below w.heap.size w wr
  c0 : 0 ≤ cr
  c1 : cr < 64
set_option maxRecDepth 100000 in
theorem grant_neq (a b : Int) (W : World) : (binOp .neq 36 (.agg #[.int .i64 a, .int .i64 b]) (.agg #[.int .i64 a, .int .i64 b])).run Try.prog W = .ok (.bool false) W := by
  rw [run_neq_struct, run_equalIn_agg W 9999 36 _ _ (by kernel_rfl) (by kernel_rfl)]
  unfold Program.fieldsOf
  rw [Try.underlying36]
  simp [Op.eqFields, part, go_sem, Try.underlying3, Try.isAgg3]
end Go.Proofs.Ytnfpbkllpkbdiaa
