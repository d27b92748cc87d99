/- Out of the row's condition: the table of the powers of ten. -/
import Derived.Test.YthbjdbookiejeabGreatDoorLvA
namespace Go.Proofs.YthbjdbookiejeabGreatDoor
open Go.RowKit
set_option linter.unusedVariables false

theorem pow_of {l : List (String × DataW Unit)} {W : World} (hl : l.filter (fun x => x.1 == "internal/strconv.uint64pow10") = [("internal/strconv.uint64pow10", Lib.tabData .u64 Lib.pow10Tab)]) (h : laidMetH Tryz.prog l W) : PowT W := by
  have h1 := laidMetH.filter (fun x => x.1 == "internal/strconv.uint64pow10") h
  rw [hl, MakeChecks.laidMetH_plain _ _ _ (by kernel_rfl)] at h1
  have p1 := Lib.tabIs_of_head gPow (by kernel_rfl) Tryz.underlying166 Tryz.underlying142 (by kernel_rfl) (by kernel_rfl) h1
  have c : W.cell? ⟨1, 0, none⟩ = some (.int .u64 1) := p1.cell gPow 0 (by decide)
  exact ⟨p1, lcell_lt c⟩
end Go.Proofs.YthbjdbookiejeabGreatDoor
