/- Out of the row's condition: the tables of the bounds; how long the bytes are where the bulk is small. -/
import Derived.Test.YtdibldocfhpnkaaDoorEnA
import Derived.Test.YtdibldocfhpnkaaDoorTpO
import Derived.Test.YtdibldocfhpnkaaDoorRows
import Derived.WalkKit
import Derived.OpenShut
import Derived.ChangeOld
import Derived.ChangeSlices
namespace Go.Proofs.YtdibldocfhpnkaaDoor
open Go.ChangeShapes Go.WideShapes Go.RowKit
set_option linter.unusedVariables false

theorem gLeast : Tryd.prog.globalNamed "tollbar/entry.least" = some 0 := by kernel_rfl
theorem gMost : Tryd.prog.globalNamed "tollbar/entry.most" = some 1 := by kernel_rfl
def leastTab : List Int := [1, 0, 0, 1, 0, 0, 0]
def mostTab : List Int := [1125899906842624, 1125899906842624, 1125899906842624, 2147483647, 999, 1125899906842624, 1125899906842624]
theorem lm_of {l : List (String × DataW Unit)} {W : World} (hl : l.filter (fun x => x.1 == "tollbar/entry.least") = [("tollbar/entry.least", Lib.tabData .i64 leastTab)]) (hm : l.filter (fun x => x.1 == "tollbar/entry.most") = [("tollbar/entry.most", Lib.tabData .i64 mostTab)]) (h : laidMetH Tryd.prog l W) : LmT W := by
  have h1 := laidMetH.filter (fun x => x.1 == "tollbar/entry.least") h
  rw [hl, MakeChecks.laidMetH_plain _ _ _ (by kernel_rfl)] at h1
  have p1 := Lib.tabIs_of_head gLeast (by kernel_rfl) Tryd.underlying48 Tryd.underlying2 (by kernel_rfl) (by kernel_rfl) h1
  have h2 := laidMetH.filter (fun x => x.1 == "tollbar/entry.most") h
  rw [hm, MakeChecks.laidMetH_plain _ _ _ (by kernel_rfl)] at h2
  have p2 := Lib.tabIs_of_head gMost (by kernel_rfl) Tryd.underlying48 Tryd.underlying2 (by kernel_rfl) (by kernel_rfl) h2
  have c1 : W.cell? ⟨0, 0, none⟩ = some (.int .i64 1) := p1.cell gLeast 0 (by decide)
  have c2 : W.cell? ⟨1, 0, none⟩ = some (.int .i64 1125899906842624) := p2.cell gMost 0 (by decide)
  exact ⟨c1, p1.cell gLeast 1 (by decide), p1.cell gLeast 2 (by decide), p1.cell gLeast 3 (by decide), p1.cell gLeast 4 (by decide), p1.cell gLeast 5 (by decide), p1.cell gLeast 6 (by decide),
    c2, p2.cell gMost 1 (by decide), p2.cell gMost 2 (by decide), p2.cell gMost 3 (by decide), p2.cell gMost 4 (by decide), p2.cell gMost 5 (by decide), p2.cell gMost 6 (by decide), tcell_lt c1, tcell_lt c2⟩
theorem bulk_lits {H : Type} {k : IntKind} : ∀ zs : List Int, Rows.uptoBulkAll (H := H) (lits k zs) = zs.length
  | [] => rfl
  | z :: zs => by
    have e : lits (H := H) k (z :: zs) = .lit (.int k z) :: lits k zs := rfl
    rw [e]
    simp only [Rows.uptoBulkAll, Rows.uptoBulk, List.length_cons]
    rw [bulk_lits zs]
    omega
theorem bulk_bytes {H : Type} {enc : TypeId × Value → H} {w : World} {base : Nat} {held : Bool} {a : Option Addr} {len cap : Nat} {d : DataW H} {p : List MemPlace}
    (h : DataW.Trod enc Tryd.prog w base (fun _ => true) held 25 (Value.slice a len cap) d p) : len ≤ Rows.uptoBulk d := by
  obtain ⟨fuel, hf⟩ := h
  rcases open_ints Tryd.underlying25 Tryd.underlying5 (by kernel_rfl) hf with ⟨hcs, hx⟩ | ⟨x, l, c, zs, hcs, _, hl, hm, hz, hx, hcell, hwz⟩
  · simp [Value.cells] at hcs
    obtain ⟨rfl, rfl, rfl⟩ := hcs
    exact Nat.zero_le _
  · simp [Value.cells] at hcs
    obtain ⟨rfl, rfl, rfl⟩ := hcs
    have hz' : zs.length = cap := by simpa using hz
    obtain ⟨rfl, _⟩ := Prod.mk.inj hx
    simp only [Rows.uptoBulk]
    rw [bulk_lits, bulk_lits, List.length_take, List.length_drop]
    omega
end Go.Proofs.YtdibldocfhpnkaaDoor
