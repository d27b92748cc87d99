/- Whatever the text, TableReads answers true: it is the table, or has the error, that the document says; no condition but the tables that the card ties. -/
import Derived.Test.YthmhaflkkigenaaGreatDoorTw
import Derived.Test.YthmhaflkkigenaaGreatDoorTf
import Derived.Test.YthmhaflkkigenaaGreatDoorRows
import Derived.Test.YthmhaflkkigenaaGreatDoorCards
import Derived.Test.YthmhaflkkigenaaGreatDoorTie
import Derived.Test.YthmhaflkkigenaaGreatDoorTj
import Derived.WalkKit
import Derived.ProofKit
import Derived.OpenShut
import Derived.ShutString
import Derived.ChangeOld
import Derived.Below
import Derived.LaidMore
import Derived.Lay
import Derived.Stop.Joined
import Derived.SevenTiedAt
import Derived.Shelf.Vars
import Derived.Deep.DeepHandedRow
import Derived.Deep.DeepWitnessRowRef
/- TableReads walked. -/
namespace Go.Proofs.YthmhaflkkigenaaGreatDoor
open Go.ChangeShapes Go.WideShapes Go.ChangeAt Go.RowKit
set_option linter.unusedVariables false

theorem code_eq (s : ByteArray) : readE s = codeR s := by
  unfold readE codeR
  rw [good_ref]
  cases h : refGood s
  · rfl
  · have hl : lineO s = true := by
      unfold refGood at h
      rw [Bool.and_eq_true] at h
      exact h.1
    rw [tab_ok hl]
theorem code_zero {s : ByteArray} (h : codeR s = 0) : s.size ≤ 4096 ∧ tabX s = refTab s ∧ refTab s = (lineW s).map (fun l => slotP (piecew l)) := by
  unfold codeR at h
  split at h
  · omega
  · split at h
    · omega
    · rename_i h1 h2
      have hg : refGood s = true := by cases c : refGood s <;> simp_all
      have hl : lineO s = true := by
        unfold refGood at hg
        rw [Bool.and_eq_true] at hg
        exact hg.1
      exact ⟨by omega, tab_ok hl, rfl⟩
set_option maxRecDepth 100000 in
set_option maxHeartbeats 1000000 in
theorem read_all (s : ByteArray) (w : World) (hM : MaxL w) (hP : PowT w) : Calls Tryz.prog 5 #[.string s] w (ReadR w s) := by
  by_cases hs : 4096 < s.size
  · unfold ReadR
    have e2 : readE s = 2 := by unfold readE; rw [if_pos hs]
    simp only [e2, if_neg (show ¬ (2 : Int) = 0 by decide)]
    have hsi : (4096 : Int) < (s.size : Int) := by omega
    clear e2 hs
    go_enter Tryz.func5, Tryz.ntmps5
    go_wp2
    refine bodyPost_ret (results_tmp2 rfl _ _ _) rfl ?_
    exact ⟨rfl, Below.refl _ _⟩
  · exact read_any s w (by omega) hM hP
theorem read_form {w w' : World} {s : ByteArray} {e : Ending} (h : ReadR w s e w') : ∃ a n c k, e = .returned (.tuple #[.slice a n c, .int .i64 k]) := by
  unfold ReadR at h
  split at h
  · obtain ⟨a, c, xs, rfl, _⟩ := h; exact ⟨_, _, _, _, rfl⟩
  · exact ⟨_, _, _, _, h.1⟩
theorem sls_nil (w : World) (B : Nat) : Sls B w (.slice none 0 0) [] := ⟨none, 0, rfl, fun _ => rfl, Nat.le_refl _, Nat.zero_le _, fun h => absurd h (Nat.lt_irrefl _)⟩
set_option maxRecDepth 100000 in
set_option maxHeartbeats 1000000 in
theorem reads_walk (s : ByteArray) (w : World) (hs : s.size ≤ maxLen) (hM : MaxL w) (hP : PowT w) :
    Calls Tryz.prog 3 #[.string s] w fun e w' => e = .returned (.bool true) ∧ Below w.heap.size w w' := by
  have HA : Hid (Calls Tryz.prog 4 #[] w fun e w' => e = .returned (.bool true) ∧ Below w.heap.size w w') := alive9_any w hM hP
  have HR : Hid (∀ W, Below w.heap.size w W → Calls Tryz.prog 5 #[.string s] W (ReadR W s)) := fun W hW => read_all s W (hM.below hW) (hP.below hW)
  have HF : Hid (∀ W, Calls Tryz.prog 6 #[.string s] W (RefR W s)) := fun W => r9read_any s W
  have HN1 : Hid (∀ W, Calls Tryz.prog 8 #[.string s] W fun e w' => e = .returned (.bool (nameP s)) ∧ w' = W) := fun W => name_any s W hs
  have HN2 : Hid (∀ W, Calls Tryz.prog 9 #[.string s] W fun e w' => e = .returned (.bool (nameP s)) ∧ w' = W) := fun W => r9name_any s W hs
  have HS : Hid (∀ (W1 W2 : World) (e1 e2 : Ending) (W0 : World), ReadR W0 s e1 W1 → RefR W1 s e2 W2 → Below W0.heap.size W0 W2 ∧ ∃ a n c b m d k, e1 = .returned (.tuple #[.slice a n c, .int .i64 k]) ∧ e2 = .returned (.tuple #[.slice b m d, .int .i64 k]) ∧ Calls Tryz.prog 7 #[.slice a n c, .slice b m d] W2 fun e w' => e = .returned (.bool true) ∧ Below W2.heap.size W2 w') := by
    intro W1 W2 e1 e2 W0 h1 h2
    obtain ⟨b, m, d, rfl, B2, g1, g2⟩ := h2
    unfold ReadR at h1
    rw [code_eq] at h1
    by_cases hc : codeR s = 0
    · rw [if_pos hc] at h1
      obtain ⟨a, c, xs, rfl, hx, hO, B1⟩ := h1
      obtain ⟨hz, ht, hr⟩ := code_zero hc
      have hSl := g1 hc
      have hlm := hSl.len
      have hSx := hO.sls
      rw [hx, ht] at hSx
      have hlx := hSx.len
      have hlw := lineW_bd s
      have hll : (refTab s).length ≤ 4096 := by rw [hr, List.length_map]; omega
      refine ⟨B1.trans (B2.mono B1.size), a, xs.length, c, b, m, d, 0, rfl, by rw [hc], ?_⟩
      have k := r9same_eq (refTab s) a c b d W2 (by omega) (fun t ht' => ?_) (by rw [hlx.1]; exact Sls.mono (Sls.keep hSx B2) B2.size) (by rw [hlm.1]; exact hSl)
      · rw [hlx.1] at k
        have e : m = xs.length := by omega
        rw [e]; exact k
      · rw [hr] at ht'
        obtain ⟨l, hl, rfl⟩ := List.mem_map.1 ht'
        have a1 := piecew_length l
        have b1 : Lib.countB l ⟨#[32]⟩ ≤ l.size := Lib.countB_le ⟨#[32]⟩ (by decide) l.size l (Nat.le_refl _)
        have := hlw.2 l hl
        show ((piecew l).drop 8).length ≤ _
        rw [List.length_drop]; omega
    · rw [if_neg hc] at h1
      obtain ⟨rfl, B1⟩ := h1
      obtain ⟨rfl, rfl, rfl⟩ := g2 hc
      exact ⟨B1.trans (B2.mono B1.size), none, 0, 0, none, 0, 0, codeR s, rfl, rfl, r9same_eq [] none 0 none 0 W2 (Nat.zero_le _) (fun t ht => by cases ht) (sls_nil _ _) (sls_nil _ _)⟩
  clear hs hM hP
  generalize nameP s = nb at *
  go_enter Tryz.func3, Tryz.ntmps3
  go_wp2_with fail
  refine HA.out.mono ?_
  rintro e w1 ⟨rfl, B1⟩
  go_wp2_with fail
  refine (HR.out _ B1).mono ?_
  intro e1 w2 h2
  obtain ⟨a, n, c, k, rfl⟩ := read_form h2
  have H2 : Hid (ReadR w1 s (.returned (.tuple #[.slice a n c, .int .i64 k])) w2) := h2
  clear h2
  go_wp2_with fail
  refine (HF.out _).mono ?_
  intro e2 w3 h3
  obtain ⟨B3, a', n', c', b, m, d, k', f1, rfl, hC⟩ := HS.out _ _ _ _ _ H2.out h3
  injection f1 with f1
  injection f1 with f1
  have f2 : (a = a' ∧ n = n' ∧ c = c') ∧ k = k' := by simpa using f1
  obtain ⟨⟨rfl, rfl, rfl⟩, rfl⟩ := f2
  have HC : Hid (Calls Tryz.prog 7 #[.slice a n c, .slice b m d] w3 fun e w' => e = .returned (.bool true) ∧ Below w3.heap.size w3 w') := hC
  clear hC h3 H2 f1 HS HR HF
  go_wp2_with fail
  refine HC.out.mono ?_
  rintro e w4 ⟨rfl, B4⟩
  go_wp2_with fail
  refine (HN1.out _).mono ?_
  rintro e w5 ⟨rfl, rfl⟩
  go_wp2_with fail
  refine (HN2.out _).mono ?_
  rintro e w6 ⟨rfl, rfl⟩
  have D3 := B1.trans (B3.mono B1.size)
  go_wp2
  go_ret
  exact ⟨rfl, D3.trans (B4.mono D3.size)⟩
end Go.Proofs.YthmhaflkkigenaaGreatDoor

/- Whatever the text, TableReads answers true: it is the table, or has the error, that the document says; no condition but the tables that the card ties. -/
namespace Go.Proofs.YthmhaflkkigenaaGreatDoor.tableReads
open Go.ChangeShapes Go.WideShapes Go.ChangeAt Go.RowKit
open Go.ChangeMaps (open_string shut_string)
set_option linter.unusedVariables false

theorem own : ownKnob Tryz.prog.godebug = none := by kernel_rfl
theorem maxL_of {W : World} (hsh : W.ShapedOpen Tryz.prog) : MaxL W :=
  cell_of_shapedOpen_int (P := Tryz.prog) (g := 0) (t := 3) (zero := #[.int .i64 0]) hsh (of_decide_eq_true (by kernel_rfl)) (by kernel_rfl) rfl (by kernel_rfl) (by kernel_rfl) Tryz.underlying3
noncomputable def laidWorld (os : Os) : World := World.laidAll Tryz.prog os Rows.tableReadsRow.laid
theorem laid_met (os : Os) : laidMetH Tryz.prog Rows.tableReadsRow.laid ((laidWorld os).forCall (fun _ _ => 0) ⟨#[], #[.string ⟨#[]⟩], []⟩).memory := by
  rw [MakeChecks.laidMetH_plain _ _ _ (by kernel_rfl)]
  exact laidMet_laidAll _ (by kernel_rfl) (by kernel_rfl)
set_option maxRecDepth 100000 in
theorem lifted (os : Os) (started : os.Started) (H : Type) (enc : TypeId × Value → H) (F : Stop.Interp) :
    ReturnsInHanded {} Tryz.checked os 3 .any ((OpenSpec.ofChange Rows.tableReadsSpec).preRow enc Tryz.prog Tryz.f3 Rows.tableReadsRow.domain false Rows.tableReadsRow.laid) (((OpenSpec.ofChange Rows.tableReadsSpec).at F).post enc Tryz.prog Tryz.f3 false true false false) := by
  obtain ⟨places, hx⟩ := (⟨[], by kernel_rfl⟩ : ∃ places, DataW.whole enc Tryz.prog ((laidWorld os).forCall (fun _ _ => 0) ⟨#[], #[.string ⟨#[]⟩], []⟩).memory Tryz.f3.params.toList Rows.tableReadsSpec.vars false (#[.string ⟨#[]⟩] : Array Value).toList 8 = some ([.lit (.string [])], [], places))
  refine returnsInHanded_of_row (C := Tryz.checked) (s := OpenSpec.ofChange Rows.tableReadsSpec) own started (by kernel_rfl) Tryz.func3
    (witness_row_atRef (enc := enc) (C := Tryz.checked) false (laidWorld os) #[.string ⟨#[]⟩] rfl (by kernel_rfl) (by kernel_rfl) (by kernel_rfl)
      (OpenSpec.preRow_of_cond 8 hx (by kernel_rfl) (fun k hk => by cases hk) (by kernel_rfl) (laid_met os))) ?_
  intro W base args ds gs before hval0 hW _ hcond hsz hlaid hsh _
  have hM := maxL_of hsh
  clear hsh
  have hval : ∀ (j : Nat) t v, Tryz.f3.params[j]? = some t → args[j]? = some v → Value.okWide Tryz.prog W .any base t v := hval0
  have hW' := hW
  obtain ⟨p, q, hA0, hV, rfl, hfz, hnd⟩ := hW
  have hA : DataW.TrodAll enc Tryz.prog W 0 (fun _ => true) true Tryz.f3.params.toList args.toList ds p := hA0
  rw [Tryz.params3] at hA hval
  obtain ⟨v0, vs0, d0, ds0, p0, q0, hargs, rfl, rfl, h0, r0⟩ := trodAll_cons hA
  obtain ⟨rfl, rfl, rfl⟩ := trodAll_nil r0
  obtain rfl : args = #[v0] := by cases args; simp_all
  obtain ⟨rfl, rfl⟩ := trodVars_none hV
  obtain ⟨a0, rfl, rfl, rfl, w0⟩ := open_string Tryz.underlying9 (hval 0 9 v0 rfl rfl) h0
  clear hA0 hval0
  have hP := tpow_of (l := Rows.tableReadsRow.laid) (by kernel_rfl) hlaid
  refine (reads_walk a0 W w0 hM hP).mono fun e W' ⟨he, bel⟩ => ?_
  subst he
  exact ⟨_, rfl, _, _, _, [], _, [], hW', trodAll_mk1 (shut_bool Tryz.underlying4 _), (trodAll_cons_mk (shut_string Tryz.underlying9 w0) trodAll_mk0), rfl, bel.frame _, fun h => by cases h⟩

theorem over : Rows.TableReadsSaid :=
  OpenClaim.holds_of_cond 3 Tryz.f3 rfl rfl rfl rfl rfl rfl rfl ⟨rfl, rfl, rfl, rfl, rfl⟩ rfl rfl rfl rfl rfl (by kernel_rfl) Tryz.func3 (by kernel_rfl)
    (of_decide_eq_true (by kernel_rfl)) (by unfold Func.isWrapper; first | (rw [if_pos (by decide +kernel)]; kernel_rfl) | (rw [if_neg (by decide +kernel)]; exact ⟨rfl, rfl⟩))
    (fun os started H enc _ F => by rw [OpenClaim.pre_eq_preRow]; exact lifted os started H enc F)

end Go.Proofs.YthmhaflkkigenaaGreatDoor.tableReads
namespace Go.Proofs.YthmhaflkkigenaaGreatDoor
/-- The statement: the tied card. -/
theorem tableReads_holds : Rows.TableReadsCardSaid :=
  Claim7.holds_tied_plain_at .later [] _ _ _ _
    tableReads.over (fun _ h => by cases h) (by kernel_rfl) (fun _ h => by cases h) tableReads_row_tie rfl ⟨rfl, rfl⟩ (by kernel_rfl) rfl
    (fun f fn hf hfn => by
      obtain rfl : f = 3 := Option.some.inj ((show Tryz.prog.funcNamed "tollbar/tollbarlaw09.TableReads" = some 3 by kernel_rfl).symm.trans hf) |>.symm
      obtain rfl : fn = Tryz.f3 := (Option.some.inj (Tryz.func3.symm.trans hfn)).symm
      exact ⟨by kernel_rfl, fun j t ht => by
        rw [Tryz.params3] at ht
        have hm : t ∈ [9] := by simpa using Array.mem_of_getElem? ht
        have hall : ([9].all fun u => !Tryz.prog.wantsStandIn u) = true := by kernel_rfl
        exact (show Tryz.prog.wantsStandIn t = false by simpa using List.all_eq_true.1 hall t hm)⟩)
    (by kernel_rfl)
#print axioms tableReads_holds
end Go.Proofs.YthmhaflkkigenaaGreatDoor
