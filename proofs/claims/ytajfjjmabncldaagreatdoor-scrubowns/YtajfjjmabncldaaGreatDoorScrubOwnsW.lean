/- Whatever the code, the way and the bytes behind, ScrubOwns answers true: the gate's own responses are read as just themselves, without a body, and close, or not, as they say; no condition. -/
import Derived.Test.YtajfjjmabncldaaGreatDoorSkA
import Derived.Test.YtajfjjmabncldaaGreatDoorSk5
import Derived.Test.YtajfjjmabncldaaGreatDoorSk9
import Derived.Test.YtajfjjmabncldaaGreatDoorSk2
import Derived.Test.YtajfjjmabncldaaGreatDoorRows
import Derived.Test.YtajfjjmabncldaaGreatDoorCards
import Derived.Test.YtajfjjmabncldaaGreatDoorTie
import Derived.WalkKit
import Derived.ProofKit
import Derived.OpenShut
import Derived.ShutString
import Derived.ChangeOld
import Derived.Below
import Derived.LaidMore
import Derived.Lay
import Derived.Stop.Joined
import Derived.SevenTiedAt
import Derived.Shelf.Vars
import Derived.Deep.DeepHandedRow
import Derived.Deep.DeepWitnessRowRef
/- ScrubOwns: the walk. -/
namespace Go.Proofs.YtajfjjmabncldaaGreatDoor
open Go.ChangeShapes Go.WideShapes Go.ChangeAt Go.RowKit
set_option linter.unusedVariables false

theorem own_closes (t : Bool) : closesF (ownFs t) 1 = t := by cases t <;> kernel_rfl
theorem own_len (t : Bool) : (ownFs t).length ≤ 2 ∧ ((ownFs t).all fun f => decide (f.1.size ≤ 100) && decide (f.2.size ≤ 100)) = true := by cases t <;> exact ⟨by decide +kernel, by kernel_rfl⟩
theorem own_bd (t : Bool) : FBd 1048576 (ownFs t) := fun f hf => by
  have k := List.all_eq_true.1 (own_len t).2 f hf
  simp only [Bool.and_eq_true, decide_eq_true_eq] at k
  omega
theorem and255 (n : Int) : ∃ k : Nat, k < 256 ∧ bits .and .i64 n 255 = (k : Int) := by
  have h2 : (BitVec.ofInt 64 (255 : Int)).toNat = 255 := by decide
  have hk : (BitVec.ofInt 64 n &&& BitVec.ofInt 64 (255 : Int)).toNat ≤ 255 := by
    rw [BitVec.toNat_and, h2]; exact Nat.and_le_right
  refine ⟨(BitVec.ofInt 64 n &&& BitVec.ofInt 64 (255 : Int)).toNat, by omega, ?_⟩
  show IntKind.i64.wrap ((BitVec.ofInt 64 n &&& BitVec.ofInt 64 (255 : Int)).toNat : Int) = _
  rw [IntKind.wrap_i64]
  generalize (BitVec.ofInt 64 n &&& BitVec.ofInt 64 (255 : Int)).toNat = k at *
  omega
set_option maxRecDepth 100000 in
set_option maxHeartbeats 4000000 in
theorem owns12_walk (code : Int) (t : Bool) (more : List UInt8) (kb len cap : Nat) (a : Option Addr) (w : World) (hs : Src w kb (.slice a len cap) more) (hk : 0 < more.length → kb < w.heap.size) (hn : a = none → cap = 0) (hM : MaxL w) (hP : PowT w) :
    Calls Tryz.prog 8 #[.int .i64 code, .bool t, .slice a len cap] w fun e w' => e = .returned (.bool true) ∧ Below w.heap.size w w' := by
  have HAL := hidS (alive12_any w hM hP)
  have hl := hs.len
  by_cases hbig : 1000 < len
  · have h1 : (1000 : Int) < (len : Int) := by omega
    clear hs hk hn hM hP hl
    go_enter Tryz.func8, Tryz.ntmps8
    go_wp2_with fail
    refine HAL.out.mono ?_
    rintro e w1 ⟨rfl, B1⟩
    clear HAL
    go_wp2
    go_ret
    exact ⟨rfl, B1⟩
  · have h1 : ¬ (1000 : Int) < (len : Int) := by omega
    obtain ⟨hl1, hl2, hl3⟩ := hl
    subst hl1
    obtain ⟨d, hd, hb0⟩ := and255 code
    obtain ⟨n1, n2, n3, n4, n5⟩ := own_n d hd t
    have H1 : Hid (∀ W, Below w.heap.size w W → Calls Tryz.prog 19 #[.int .i64 (200 + (d : Int)), .bool t] W fun e w' => ∃ ao co, e = .returned (.agg #[.int .i64 (200 + (d : Int)), .string (reasonS (200 + (d : Int))), .int .i64 1, .slice ao (ownFs t).length co, .slice none 0 0]) ∧ OwnF (W.heap.size + 1) w' (.slice ao (ownFs t).length co) (ownFs t) ∧ Below W.heap.size W w') := fun W B => scown_any _ t W (hP.below B)
    have H2 : Hid (∀ (W : World) (ao : Option Addr) (co : Nat), Below w.heap.size w W → Fds W.heap.size W (.slice ao (ownFs t).length co) (ownFs t) → Calls Tryz.prog 33 #[.agg #[.int .i64 (200 + (d : Int)), .string (reasonS (200 + (d : Int))), .int .i64 1, .slice ao (ownFs t).length co, .slice none 0 0]] W fun e w' => ∃ v, e = .returned v ∧ OwnG W.heap.size w' v (ownB d t) ∧ Below W.heap.size W w') := fun W ao co B F => wresp_any (200 + (d : Int)) 1 (reasonS (200 + (d : Int))) (ownFs t) [] ao none 0 co 0 (by omega) (by omega) (by decide +kernel) (by omega) (by omega) n1 n2 W (hP.below B) (by omega) F (own_bd t) (by have := (own_len t).1; omega) ⟨none, 0, rfl, Nat.le_refl _, Nat.zero_le _, fun h => absurd h (Nat.lt_irrefl _)⟩ (fun q => absurd q (Nat.lt_irrefl _)) (fun _ => rfl) (Nat.zero_le _)
    have H4 : Hid (∀ W (fa : Option Addr) (fc : Nat), Below w.heap.size w W → Fds W.heap.size W (.slice fa (ownFs t).length fc) (ownFs t) → Calls Tryz.prog 35 #[.slice fa (ownFs t).length fc, .int .i64 1] W fun e w' => e = .returned (.bool t) ∧ Below W.heap.size W w') := fun W fa fc B F => by
      have k := closes_any (ownFs t) fa fc 1 W F (own_bd t) (by have := (own_len t).1; omega) (hM.below B)
      rw [own_closes] at k
      exact k
    have H3 : Hid (∀ (W : World) (g c : Nat), Below w.heap.size w W → Src W g (.slice (some ⟨g, 0, none⟩) (ownB d t ++ more).length c) (ownB d t ++ more) → g < W.heap.size → Calls Tryz.prog 32 #[.slice (some ⟨g, 0, none⟩) (ownB d t ++ more).length c, .string ⟨#[71, 69, 84]⟩, .bool false] W fun e w' => ∃ fa ba fc bc, e = .returned (.tuple #[.agg #[.int .i64 (200 + (d : Int)), .string (reasonS (200 + (d : Int))), .int .i64 1, .slice fa (ownFs t).length fc, .slice ba 0 bc], .int .i64 (ownB d t).length, .bool true]) ∧ OwnF W.heap.size w' (.slice fa (ownFs t).length fc) (ownFs t) ∧ Below W.heap.size W w') := fun W g c B S hg => by
      refine (hresp_any (ownB d t ++ more) ⟨#[71, 69, 84]⟩ false g c _ W S (fun _ => hg) (hM.below B) (by rw [List.length_append]; omega)).mono ?_
      rintro e w' ⟨fa, ba, fc, bc, he, F, O, Bl⟩
      rw [show respQ (ownB d t ++ more) ⟨#[71, 69, 84]⟩ false = ownQ d t from own_more d hd t more] at he F
      exact ⟨fa, ba, fc, bc, he, F, Bl⟩
    have HT : Hid (∀ (W : World) (g kg c : Nat), Below w.heap.size w W → Src W kg (.slice (some ⟨g, 0, none⟩) (ownB d t).length c) (ownB d t) → kg < W.heap.size → _) := fun W g kg c B S hg => two_src S (fun _ => hg) (hs.keep hk B) (fun q => Nat.lt_of_lt_of_le (hk q) B.size) (fun q => by cases q) hn (by have := n4; omega)
    have HS := hidS hs
    clear hs hk hn hM hP
    obtain ⟨B0, hB0⟩ : ∃ x, x = ownB d t := ⟨_, rfl⟩
    rw [← hB0] at H2 H3 HT n4 n5
    go_enter Tryz.func8, Tryz.ntmps8
    go_wp2_with fail
    refine HAL.out.mono ?_
    rintro e w1 ⟨rfl, B1⟩
    clear HAL
    have hbt : bits BinOp.and IntKind.i64 code 255 = (d : Int) := hb0
    clear hb0
    go_wp2_with fail
    refine (H1.out _ B1).mono ?_
    rintro e w2 ⟨ao, co, rfl, O2, B2⟩
    have C2 := B1.trans (B2.mono B1.size)
    have U3 : Below w2.heap.size w2 (w2.alloc (.cells #[.int .i64 (200 + (d : Int)), .string (reasonS (200 + (d : Int))), .int .i64 1, .slice ao (ownFs t).length co, .slice none 0 0] 40)) := (Below.refl _ _).alloc (Nat.le_refl _) _
    have C3 := hidS (C2.trans (U3.mono C2.size))
    have F3 := hidS (O2.fds.over U3)
    have k3 := tblk_new w2 (.cells #[.int .i64 (200 + (d : Int)), .string (reasonS (200 + (d : Int))), .int .i64 1, .slice ao (ownFs t).length co, .slice none 0 0] 40)
    clear H1 B1 B2 O2 C2 U3
    go_wp2_with fail
    refine (H2.out _ ao co C3.out F3.out).mono ?_
    rintro e w4 ⟨v4, rfl, O4, B4⟩
    have C4 := hidS (C3.out.trans (B4.mono C3.out.size))
    obtain ⟨g4, c4, rfl, _, _⟩ := O4.form
    obtain ⟨kg, S4, _, hl4⟩ := O4.src
    obtain ⟨v5, w5, g6, n6, c6, w6, r5, r6, S6, hg6, hl6, B6⟩ := HT.out _ g4 kg c4 C4.out S4 hl4
    have HA5 := hidS r5
    have HA6 := hidS r6
    obtain rfl := S6.len.1
    have B6' := B4.trans (B6.mono B4.size)
    have C6 := hidS (C3.out.trans (B6'.mono C3.out.size))
    have k6 := tblk_below k3 B6'
    have F6 := hidS (F3.out.over B6')
    have H3' := hidS (H3.out _ g6 c6 C6.out S6 hl6)
    clear H2 H3 HT r5 r6 S4 S6 hl4 hg6 hl6 B4 B6 B6' O4 C4 k3 F3 HS hbt hB0 n1 n2 n3 n4 n5 hd hl2 hl3 hbig h1
    generalize B0 ++ more = BC at *
    generalize BC.length = bcl at *
    generalize B0.length = bl at *
    generalize more.length = ml at *
    generalize reasonS (200 + (d : Int)) = rs at *
    generalize (200 + (d : Int)) = cd at *
    go_wp2_with (at_builtin; first | refine wpList_append_run2 rfl _ _ 23 23 rfl _ _ _ w5 rfl rfl HA5.out ?_ | refine wpList_append_run2 rfl _ _ 23 23 rfl _ _ _ w6 rfl rfl HA6.out ?_)
    refine H3'.out.mono ?_
    rintro e w7 ⟨fa, ba, fc, bc, rfl, F7, B7⟩
    clear H3' HA5 HA6
    have U8 : Below w7.heap.size w7 (w7.alloc (.cells #[.int .i64 cd, .string rs, .int .i64 1, .slice fa (ownFs t).length fc, .slice ba 0 bc] 40)) := (Below.refl _ _).alloc (Nat.le_refl _) _
    have B8 := B7.trans (U8.mono B7.size)
    have k8 := tblk_new w7 (.cells #[.int .i64 cd, .string rs, .int .i64 1, .slice fa (ownFs t).length fc, .slice ba 0 bc] 40)
    have C8 := hidS (C6.out.trans (B8.mono C6.out.size))
    have k8' := tblk_below k6 B8
    have F8 := hidS (F6.out.over B8)
    have G8 := hidS (F7.fds.over U8)
    clear F7 B7 U8 B8 k6 F6 C6
    have H4' := hidS (H4.out _ fa fc C8.out G8.out)
    clear H4
    go_wp2_with fail
    refine H4'.out.mono ?_
    rintro e w9 ⟨rfl, B9⟩
    have HR := hidS (rsame_eq (ownFs t) fa ao fc co w9 (G8.out.over B9) (F8.out.over B9))
    have C9 := hidS (C8.out.trans (B9.mono C8.out.size))
    have c7 : w9.cell? ⟨w7.heap.size, 3, none⟩ = some (.slice fa (ownFs t).length fc) := tblk_cell (tblk_below k8 B9) rfl
    have c2 : w9.cell? ⟨w2.heap.size, 3, none⟩ = some (.slice ao (ownFs t).length co) := tblk_cell (tblk_below k8' B9) rfl
    clear H4' B9 k8 k8' F8 G8 C8
    go_wp2_with fail
    refine HR.out.mono ?_
    rintro e w10 ⟨rfl, B10⟩
    clear HR c7 c2
    have C10 := C9.out.trans (B10.mono C9.out.size)
    clear C9 B10
    go_wp2
    go_ret
    exact ⟨rfl, C10⟩
end Go.Proofs.YtajfjjmabncldaaGreatDoor

/- Out of the row's condition: the table of the powers of ten. -/
namespace Go.Proofs.YtajfjjmabncldaaGreatDoor
open Go.RowKit
set_option linter.unusedVariables false

theorem pow_of {l : List (String × DataW Unit)} {W : World} (hl : l.filter (fun x => x.1 == "internal/strconv.uint64pow10") = [("internal/strconv.uint64pow10", Lib.tabData .u64 Lib.pow10Tab)]) (h : laidMetH Tryz.prog l W) : PowT W := by
  have h1 := laidMetH.filter (fun x => x.1 == "internal/strconv.uint64pow10") h
  rw [hl, MakeChecks.laidMetH_plain _ _ _ (by kernel_rfl)] at h1
  have p1 := Lib.tabIs_of_head gPow (by kernel_rfl) Tryz.underlying210 Tryz.underlying190 (by kernel_rfl) (by kernel_rfl) h1
  have c : W.cell? ⟨0, 0, none⟩ = some (.int .u64 1) := p1.cell gPow 0 (by decide)
  exact ⟨p1, cell_lt c⟩
end Go.Proofs.YtajfjjmabncldaaGreatDoor

/- Whatever the code, the way and the bytes behind, ScrubOwns answers true: the gate's own responses are read as just themselves, without a body, and close, or not, as they say; no condition. -/
namespace Go.Proofs.YtajfjjmabncldaaGreatDoor.scrubOwns
open Go.ChangeShapes Go.WideShapes Go.ChangeAt Go.RowKit
open Go.ChangeMaps (open_string shut_string)
set_option linter.unusedVariables false

theorem own : ownKnob Tryz.prog.godebug = none := by kernel_rfl
theorem laidOut : laidOutB Tryz.prog = true := by kernel_rfl
theorem maxL_of {W : World} (hsh : W.ShapedOpen Tryz.prog) : MaxL W :=
  cell_of_shapedOpen_int (P := Tryz.prog) (g := 1) (t := 3) (zero := #[.int .i64 0]) hsh (of_decide_eq_true (by kernel_rfl)) (by kernel_rfl) rfl (by kernel_rfl) (by kernel_rfl) Tryz.underlying3
noncomputable def laidWorld (os : Os) : World := World.laidAll Tryz.prog os Rows.scrubOwnsRow.laid
theorem laid_met (os : Os) : laidMetH Tryz.prog Rows.scrubOwnsRow.laid ((laidWorld os).forCall (fun _ _ => 0) ⟨#[], #[.int .i64 0, .bool false, .slice none 0 0], []⟩).memory := by
  rw [MakeChecks.laidMetH_plain _ _ _ (by kernel_rfl)]
  exact laidMet_laidAll _ (by kernel_rfl) (by kernel_rfl)
set_option maxRecDepth 100000 in
theorem lifted (os : Os) (started : os.Started) (H : Type) (enc : TypeId × Value → H) (F : Stop.Interp) :
    ReturnsInHanded {} Tryz.checked os 8 .any ((OpenSpec.ofChange Rows.scrubOwnsSpec).preRow enc Tryz.prog Tryz.f8 Rows.scrubOwnsRow.domain false Rows.scrubOwnsRow.laid) (((OpenSpec.ofChange Rows.scrubOwnsSpec).at F).post enc Tryz.prog Tryz.f8 false true false false) := by
  obtain ⟨places, hx⟩ := (⟨[], by kernel_rfl⟩ : ∃ places, DataW.whole enc Tryz.prog ((laidWorld os).forCall (fun _ _ => 0) ⟨#[], #[.int .i64 0, .bool false, .slice none 0 0], []⟩).memory Tryz.f8.params.toList Rows.scrubOwnsSpec.vars false (#[.int .i64 0, .bool false, .slice none 0 0] : Array Value).toList 8 = some ([.lit (.int .i64 0), .lit (.bool false), .nil], [], places))
  refine returnsInHanded_of_row (C := Tryz.checked) (s := OpenSpec.ofChange Rows.scrubOwnsSpec) own started (by kernel_rfl) Tryz.func8
    (witness_row_atRef (enc := enc) (C := Tryz.checked) false (laidWorld os) #[.int .i64 0, .bool false, .slice none 0 0] rfl (by kernel_rfl) (by kernel_rfl) (by kernel_rfl)
      (OpenSpec.preRow_of_cond 8 hx (by kernel_rfl) (fun k hk => by cases hk) (by kernel_rfl) (laid_met os))) ?_
  intro W base args ds gs before hval0 hW _ hcond hsz hlaid hsh _
  have hM := maxL_of hsh
  clear hsh
  have hval : ∀ (j : Nat) t v, Tryz.f8.params[j]? = some t → args[j]? = some v → Value.okWide Tryz.prog W .any base t v := hval0
  have hW' := hW
  obtain ⟨p, q, hA0, hV, rfl, hfz, hnd⟩ := hW
  have hA : DataW.TrodAll enc Tryz.prog W 0 (fun _ => true) true Tryz.f8.params.toList args.toList ds p := hA0
  rw [Tryz.params8] at hA hval
  obtain ⟨v0, vs0, d0, ds0, p0, q0, hargs, rfl, rfl, h0, r0⟩ := trodAll_cons hA
  obtain ⟨v1, vs1, d1, ds1, p1, q1, rfl, rfl, rfl, h1, r1⟩ := trodAll_cons r0
  obtain ⟨v2, vs2, d2, ds2, p2, q2, rfl, rfl, rfl, h2, r2⟩ := trodAll_cons r1
  obtain ⟨rfl, rfl, rfl⟩ := trodAll_nil r2
  obtain rfl : args = #[v0, v1, v2] := by cases args; simp_all
  obtain ⟨rfl, rfl⟩ := trodVars_none hV
  obtain ⟨a0, rfl, rfl, rfl, w0⟩ := open_int Tryz.underlying3 (hval 0 3 v0 rfl rfl) h0
  obtain ⟨a1, rfl, rfl, rfl⟩ := open_bool Tryz.underlying4 (hval 1 4 v1 rfl rfl) h1
  obtain ⟨a2, len2, cap2, rfl⟩ := okWide_slice Tryz.underlying23 (hval 2 23 v2 rfl rfl)
  have k2 := h2
  have lt2 : ∀ x ∈ p2, x.block < W.heap.size := by obtain ⟨m, hm⟩ := k2; exact DataW.trod_lt m _ _ _ hm
  obtain ⟨kb2, b2, w2, hk2, hn2⟩ := open_bytes h2
  clear hA0 hval0
  have hP := pow_of (l := Rows.scrubOwnsRow.laid) (by kernel_rfl) hlaid
  refine (owns12_walk a0 a1 b2 kb2 len2 cap2 a2 W w2 hk2 hn2 hM hP).mono fun e W' ⟨he, bel⟩ => ?_
  subst he
  exact ⟨_, rfl, _, _, _, [], _, [], hW', trodAll_mk1 (shut_bool Tryz.underlying4 _), (trodAll_cons_mk (shut_int Tryz.underlying3 w0) (trodAll_cons_mk (shut_bool Tryz.underlying4 a1) (trodAll_cons_mk (Below.trod laidOut (by kernel_rfl) (of_decide_eq_true (by kernel_rfl)) k2 bel lt2) trodAll_mk0))), rfl, bel.frame _, fun h => by cases h⟩

theorem over : Rows.ScrubOwnsSaid :=
  OpenClaim.holds_of_cond 8 Tryz.f8 rfl rfl rfl rfl rfl rfl rfl ⟨rfl, rfl, rfl, rfl, rfl⟩ rfl rfl rfl rfl rfl (by kernel_rfl) Tryz.func8 (by kernel_rfl)
    (of_decide_eq_true (by kernel_rfl)) (by unfold Func.isWrapper; first | (rw [if_pos (by decide +kernel)]; kernel_rfl) | (rw [if_neg (by decide +kernel)]; exact ⟨rfl, rfl⟩))
    (fun os started H enc _ F => by rw [OpenClaim.pre_eq_preRow]; exact lifted os started H enc F)

end Go.Proofs.YtajfjjmabncldaaGreatDoor.scrubOwns
namespace Go.Proofs.YtajfjjmabncldaaGreatDoor
/-- The statement: the tied card. -/
theorem scrubOwns_holds : Rows.ScrubOwnsCardSaid :=
  Claim7.holds_tied_plain_at .later [] _ _ _ _
    scrubOwns.over (fun _ h => by cases h) (by kernel_rfl) (fun _ h => by cases h) scrubOwns_row_tie rfl ⟨rfl, rfl⟩ (by kernel_rfl) rfl
    (fun f fn hf hfn => by
      obtain rfl : f = 8 := Option.some.inj ((show Tryz.prog.funcNamed "tollbar/tollbarlaw12.ScrubOwns" = some 8 by kernel_rfl).symm.trans hf) |>.symm
      obtain rfl : fn = Tryz.f8 := (Option.some.inj (Tryz.func8.symm.trans hfn)).symm
      exact ⟨by kernel_rfl, fun j t ht => by
        rw [Tryz.params8] at ht
        have hm : t ∈ [3, 4, 23] := by simpa using Array.mem_of_getElem? ht
        have hall : ([3, 4, 23].all fun u => !Tryz.prog.wantsStandIn u) = true := by kernel_rfl
        exact (show Tryz.prog.wantsStandIn t = false by simpa using List.all_eq_true.1 hall t hm)⟩)
    (by kernel_rfl)
#print axioms scrubOwns_holds
end Go.Proofs.YtajfjjmabncldaaGreatDoor
