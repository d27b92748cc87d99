/- Whatever the two numbers, TableBounds answers true: each of a slot's numbers may be from its least to its greatest, and no other; as many hosts, and slots, as may be; no condition but the tables that the card ties. -/
import Derived.Test.YtjdplideehlblaaDoorTh0
import Derived.Test.YtjdplideehlblaaDoorTh1
import Derived.Test.YtjdplideehlblaaDoorTh2
import Derived.Test.YtjdplideehlblaaDoorTh3
import Derived.Test.YtjdplideehlblaaDoorTh4
import Derived.Test.YtjdplideehlblaaDoorTh5
import Derived.Test.YtjdplideehlblaaDoorRows
import Derived.Test.YtjdplideehlblaaDoorCards
import Derived.Test.YtjdplideehlblaaDoorTie
import Derived.Test.YtjdplideehlblaaDoorTj
import Derived.WalkKit
import Derived.ProofKit
import Derived.OpenShut
import Derived.ShutString
import Derived.ChangeOld
import Derived.Below
import Derived.LaidMore
import Derived.Lay
import Derived.Stop.Joined
import Derived.SevenTiedAt
import Derived.Shelf.Vars
import Derived.Deep.DeepHandedRow
import Derived.Deep.DeepWitnessRowRef
/- TableBounds' walk, put together (written by tce.py). -/
namespace Go.Proofs.YtjdplideehlblaaDoor
open Go.ChangeShapes Go.WideShapes Go.ChangeAt Go.RowKit
set_option linter.unusedVariables false
theorem bounds_walk (wh n : Int) (w : World) (hM : MaxL w) (hP : PowT w) :
    Calls Tryd.prog 6 #[.int .i64 wh, .int .i64 n] w fun e w' => e = .returned (.bool true) ∧ Below w.heap.size w w' := by
  have HA : Hid (Calls Tryd.prog 7 #[] w fun e w' => e = .returned (.bool true) ∧ Below w.heap.size w w') := alive9_any w hM hP
  obtain ⟨kk, hkk, hbits⟩ := and_mask wh 1023 (by decide)
  have hm6 := mod6 kk
  have hlt : kk % 6 < 6 := Nat.mod_lt _ (by decide)
  obtain ⟨cc, hcc, hbitc⟩ := and_mask n 31 (by decide)
  generalize kk % 6 = k at hm6 hlt
  obtain rfl | rfl | rfl | rfl | rfl | rfl : k = 0 ∨ k = 1 ∨ k = 2 ∨ k = 3 ∨ k = 4 ∨ k = 5 := by omega
  · by_cases hlo : (256 : Int) ≤ n
    · by_cases hhi : n ≤ (1048576 : Int)
      · exact bounds_in0 wh n w HA kk cc hbits hm6 hcc hbitc hlo hhi
      · exact bounds_hi0 wh n w HA kk cc hbits hm6 hcc hbitc hlo hhi
    · exact bounds_lo0 wh n w HA kk cc hbits hm6 hcc hbitc hlo
  · by_cases hlo : (1 : Int) ≤ n
    · by_cases hhi : n ≤ (64 : Int)
      · exact bounds_in1 wh n w HA kk cc hbits hm6 hcc hbitc hlo hhi
      · exact bounds_hi1 wh n w HA kk cc hbits hm6 hcc hbitc hlo hhi
    · exact bounds_lo1 wh n w HA kk cc hbits hm6 hcc hbitc hlo
  · by_cases hlo : (1 : Int) ≤ n
    · by_cases hhi : n ≤ (64 : Int)
      · exact bounds_in2 wh n w HA kk cc hbits hm6 hcc hbitc hlo hhi
      · exact bounds_hi2 wh n w HA kk cc hbits hm6 hcc hbitc hlo hhi
    · exact bounds_lo2 wh n w HA kk cc hbits hm6 hcc hbitc hlo
  · by_cases hlo : (1 : Int) ≤ n
    · by_cases hhi : n ≤ (1048576 : Int)
      · exact bounds_in3 wh n w HA kk cc hbits hm6 hcc hbitc hlo hhi
      · exact bounds_hi3 wh n w HA kk cc hbits hm6 hcc hbitc hlo hhi
    · exact bounds_lo3 wh n w HA kk cc hbits hm6 hcc hbitc hlo
  · by_cases hlo : (1 : Int) ≤ n
    · by_cases hhi : n ≤ (1048576 : Int)
      · exact bounds_in4 wh n w HA kk cc hbits hm6 hcc hbitc hlo hhi
      · exact bounds_hi4 wh n w HA kk cc hbits hm6 hcc hbitc hlo hhi
    · exact bounds_lo4 wh n w HA kk cc hbits hm6 hcc hbitc hlo
  · by_cases hlo : (1 : Int) ≤ n
    · by_cases hhi : n ≤ (1048576 : Int)
      · exact bounds_in5 wh n w HA kk cc hbits hm6 hcc hbitc hlo hhi
      · exact bounds_hi5 wh n w HA kk cc hbits hm6 hcc hbitc hlo hhi
    · exact bounds_lo5 wh n w HA kk cc hbits hm6 hcc hbitc hlo
end Go.Proofs.YtjdplideehlblaaDoor

/- Whatever the two numbers, TableBounds answers true: each of a slot's numbers may be from its least to its greatest, and no other; as many hosts, and slots, as may be; no condition but the tables that the card ties. -/
namespace Go.Proofs.YtjdplideehlblaaDoor.tableBounds
open Go.ChangeShapes Go.WideShapes Go.ChangeAt Go.RowKit
open Go.ChangeMaps (open_string shut_string)
set_option linter.unusedVariables false

theorem own : ownKnob Tryd.prog.godebug = none := by kernel_rfl
theorem maxL_of {W : World} (hsh : W.ShapedOpen Tryd.prog) : MaxL W :=
  cell_of_shapedOpen_int (P := Tryd.prog) (g := 1) (t := 3) (zero := #[.int .i64 0]) hsh (of_decide_eq_true (by kernel_rfl)) (by kernel_rfl) rfl (by kernel_rfl) (by kernel_rfl) Tryd.underlying3
noncomputable def laidWorld (os : Os) : World := World.laidAll Tryd.prog os Rows.tableBoundsRow.laid
theorem laid_met (os : Os) : laidMetH Tryd.prog Rows.tableBoundsRow.laid ((laidWorld os).forCall (fun _ _ => 0) ⟨#[], #[.int .i64 0, .int .i64 0], []⟩).memory := by
  rw [MakeChecks.laidMetH_plain _ _ _ (by kernel_rfl)]
  exact laidMet_laidAll _ (by kernel_rfl) (by kernel_rfl)
set_option maxRecDepth 100000 in
theorem lifted (os : Os) (started : os.Started) (H : Type) (enc : TypeId × Value → H) (F : Stop.Interp) :
    ReturnsInHanded {} Tryd.checked os 6 .any ((OpenSpec.ofChange Rows.tableBoundsSpec).preRow enc Tryd.prog Tryd.f6 Rows.tableBoundsRow.domain false Rows.tableBoundsRow.laid) (((OpenSpec.ofChange Rows.tableBoundsSpec).at F).post enc Tryd.prog Tryd.f6 false true false false) := by
  obtain ⟨places, hx⟩ := (⟨[], by kernel_rfl⟩ : ∃ places, DataW.whole enc Tryd.prog ((laidWorld os).forCall (fun _ _ => 0) ⟨#[], #[.int .i64 0, .int .i64 0], []⟩).memory Tryd.f6.params.toList Rows.tableBoundsSpec.vars false (#[.int .i64 0, .int .i64 0] : Array Value).toList 8 = some ([.lit (.int .i64 0), .lit (.int .i64 0)], [], places))
  refine returnsInHanded_of_row (C := Tryd.checked) (s := OpenSpec.ofChange Rows.tableBoundsSpec) own started (by kernel_rfl) Tryd.func6
    (witness_row_atRef (enc := enc) (C := Tryd.checked) false (laidWorld os) #[.int .i64 0, .int .i64 0] rfl (by kernel_rfl) (by kernel_rfl) (by kernel_rfl)
      (OpenSpec.preRow_of_cond 8 hx (by kernel_rfl) (fun k hk => by cases hk) (by kernel_rfl) (laid_met os))) ?_
  intro W base args ds gs before hval0 hW _ hcond hsz hlaid hsh _
  have hM := maxL_of hsh
  clear hsh
  have hval : ∀ (j : Nat) t v, Tryd.f6.params[j]? = some t → args[j]? = some v → Value.okWide Tryd.prog W .any base t v := hval0
  have hW' := hW
  obtain ⟨p, q, hA0, hV, rfl, hfz, hnd⟩ := hW
  have hA : DataW.TrodAll enc Tryd.prog W 0 (fun _ => true) true Tryd.f6.params.toList args.toList ds p := hA0
  rw [Tryd.params6] at hA hval
  obtain ⟨v0, vs0, d0, ds0, p0, q0, hargs, rfl, rfl, h0, r0⟩ := trodAll_cons hA
  obtain ⟨v1, vs1, d1, ds1, p1, q1, rfl, rfl, rfl, h1, r1⟩ := trodAll_cons r0
  obtain ⟨rfl, rfl, rfl⟩ := trodAll_nil r1
  obtain rfl : args = #[v0, v1] := by cases args; simp_all
  obtain ⟨rfl, rfl⟩ := trodVars_none hV
  obtain ⟨a0, rfl, rfl, rfl, w0⟩ := open_int Tryd.underlying3 (hval 0 3 v0 rfl rfl) h0
  obtain ⟨a1, rfl, rfl, rfl, w1⟩ := open_int Tryd.underlying3 (hval 1 3 v1 rfl rfl) h1
  clear hA0 hval0
  have hP := tpow_of (l := Rows.tableBoundsRow.laid) (by kernel_rfl) hlaid
  refine (bounds_walk a0 a1 W hM hP).mono fun e W' ⟨he, bel⟩ => ?_
  subst he
  exact ⟨_, rfl, _, _, _, [], _, [], hW', trodAll_mk1 (shut_bool Tryd.underlying4 _), (trodAll_cons_mk (shut_int Tryd.underlying3 w0) (trodAll_cons_mk (shut_int Tryd.underlying3 w1) trodAll_mk0)), rfl, bel.frame _, fun h => by cases h⟩

theorem over : Rows.TableBoundsSaid :=
  OpenClaim.holds_of_cond 6 Tryd.f6 rfl rfl rfl rfl rfl rfl rfl ⟨rfl, rfl, rfl, rfl, rfl⟩ rfl rfl rfl rfl rfl (by kernel_rfl) Tryd.func6 (by kernel_rfl)
    (of_decide_eq_true (by kernel_rfl)) (by unfold Func.isWrapper; first | (rw [if_pos (by decide +kernel)]; kernel_rfl) | (rw [if_neg (by decide +kernel)]; exact ⟨rfl, rfl⟩))
    (fun os started H enc _ F => by rw [OpenClaim.pre_eq_preRow]; exact lifted os started H enc F)

end Go.Proofs.YtjdplideehlblaaDoor.tableBounds
namespace Go.Proofs.YtjdplideehlblaaDoor
/-- The statement: the tied card. -/
theorem tableBounds_holds : Rows.TableBoundsCardSaid :=
  Claim7.holds_tied_plain_at .later [] _ _ _ _
    tableBounds.over (fun _ h => by cases h) (by kernel_rfl) (fun _ h => by cases h) tableBounds_row_tie rfl ⟨rfl, rfl⟩ (by kernel_rfl) rfl
    (fun f fn hf hfn => by
      obtain rfl : f = 6 := Option.some.inj ((show Tryd.prog.funcNamed "tollbar/tollbarlaw09.TableBounds" = some 6 by kernel_rfl).symm.trans hf) |>.symm
      obtain rfl : fn = Tryd.f6 := (Option.some.inj (Tryd.func6.symm.trans hfn)).symm
      exact ⟨by kernel_rfl, fun j t ht => by
        rw [Tryd.params6] at ht
        have hm : t ∈ [3, 3] := by simpa using Array.mem_of_getElem? ht
        have hall : ([3, 3].all fun u => !Tryd.prog.wantsStandIn u) = true := by kernel_rfl
        exact (show Tryd.prog.wantsStandIn t = false by simpa using List.all_eq_true.1 hall t hm)⟩)
    (by kernel_rfl)
#print axioms tableBounds_holds
end Go.Proofs.YtjdplideehlblaaDoor
