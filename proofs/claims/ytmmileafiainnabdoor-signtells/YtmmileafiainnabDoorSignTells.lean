/- Whatever the number, SignTells answers true: it is told as the document says, and one from 0 to 10^15 is read back; three tables of the library are taken as the program's own text lays them, to which the card ties them. -/
import Derived.Test.YtmmileafiainnabDoorRows
import Derived.Test.YtmmileafiainnabDoorCards
import Derived.Test.YtmmileafiainnabDoorTie
import Derived.Test.YtmmileafiainnabDoorNumC
import Derived.Test.YtmmileafiainnabDoorNumF
import Derived.WalkKit
import Derived.ProofKit
import Derived.OpenShut
import Derived.ShutString
import Derived.ChangeOld
import Derived.Below
import Derived.LaidMore
import Derived.Stop.Joined
import Derived.SevenTiedAt
namespace Go.Proofs.YtmmileafiainnabDoor.signTells
open Go.ChangeShapes Go.WideShapes Go.ChangeAt Go.RowKit
open Go.ChangeMaps (open_string shut_string)
set_option linter.unusedVariables false

theorem own : ownKnob Tryd.prog.godebug = none := by kernel_rfl

set_option maxRecDepth 100000 in
set_option maxHeartbeats 2000000 in
theorem walk (n : Int) (h0 : -9223372036854775808 ≤ n) (h1 : n ≤ 9223372036854775807) (w : World) (ht : Tabs w) :
    Calls Tryd.prog 5 #[.int .i64 n] w fun e w' => e = .returned (.bool true) ∧ Below w.heap.size w w' := by
  have H0 : Hid (-9223372036854775808 ≤ n) := h0
  have H1 : Hid (n ≤ 9223372036854775807) := h1
  have hsz1 : Hid (∀ k : Nat, k ≤ 1000000000000000 → (⟨(Lib.decDigits k).toArray⟩ : ByteArray).size ≤ maxLen) := fun k hk => by
    rw [size_of]; have := dec_len 15 k (Nat.lt_of_le_of_lt hk (by decide)); unfold maxLen; omega
  have hsz2 : Hid (∀ k : Nat, k ≤ 1000000000000000 → (⟨(hexT k).toArray⟩ : ByteArray).size ≤ maxLen) := fun k hk => by
    rw [size_of]; have := hexGo_len 16 16 k [] (Nat.lt_of_le_of_lt hk (by decide)) (by decide); have h3 : (hexT k).length ≤ 0 + (16 + 1) := this; unfold maxLen; omega
  clear h0 h1
  go_enter Tryd.func5, Tryd.ntmps5
  go_wp2_with fail
  refine (numbers_any _ ht).mono ?_
  rintro e w1 ⟨rfl, B1⟩
  have t1 := ht.below B1
  clear ht
  go_wp2_with fail
  refine (text_any n H0.out H1.out _ t1).mono ?_
  rintro e w2 ⟨rfl, B2⟩
  have t2 := t1.below B2
  have C2 := B1.trans (B2.mono B1.size)
  clear t1 B1 B2
  go_wp2_with fail
  refine (rtext_any n H0.out H1.out _).mono ?_
  rintro e w3 ⟨rfl, B3⟩
  have t3 := t2.below B3
  have C3 := C2.trans (B3.mono C2.size)
  clear t2 C2 B3
  go_wp2_with fail
  refine (hexText_any n (by have := H1.out; omega) _ t3.tz (by have := t3.size; omega)).mono ?_
  rintro e w4 ⟨rfl, B4⟩
  have t4 := t3.below B4
  have C4 := C3.trans (B4.mono C3.size)
  clear t3 C3 B4
  go_wp2_with fail
  refine (rhexText_any n H1.out _).mono ?_
  rintro e w5 ⟨rfl, B5⟩
  have t5 := t4.below B5
  have C5 := C4.trans (B5.mono C4.size)
  clear t4 C4 B5
  by_cases c : n < 0
  · go_wp2
    go_ret
    exact ⟨rfl, C5⟩
  · by_cases d : (1000000000000000 : Int) < n
    · go_wp2
      go_ret
      exact ⟨rfl, C5⟩
    · obtain ⟨k, rfl⟩ := Int.eq_ofNat_of_zero_le (show 0 ≤ n by omega)
      have hk : k ≤ 1000000000000000 := by omega
      have E1 : Hid (numI 10 18 ⟨(Lib.itoa (k : Int)).toArray⟩ = k ∧ numB 10 18 ⟨(Lib.itoa (k : Int)).toArray⟩ = true) := by
        rw [Hid, show Lib.itoa (k : Int) = Lib.decDigits k by rw [Lib.itoa, if_neg (by omega), Int.toNat_natCast]]; exact back_dec k hk
      have E2 : Hid (numI 16 15 ⟨(hexT ((k : Int).toNat)).toArray⟩ = k ∧ numB 16 15 ⟨(hexT ((k : Int).toNat)).toArray⟩ = true) := by
        rw [Hid, Int.toNat_natCast]; exact back_hex k hk
      have S1 : Hid ((⟨(Lib.itoa (k : Int)).toArray⟩ : ByteArray).size ≤ maxLen) := by
        rw [Hid, show Lib.itoa (k : Int) = Lib.decDigits k by rw [Lib.itoa, if_neg (by omega), Int.toNat_natCast]]; exact hsz1.out k hk
      have S2 : Hid ((⟨(hexT ((k : Int).toNat)).toArray⟩ : ByteArray).size ≤ maxLen) := by
        rw [Hid, Int.toNat_natCast]; exact hsz2.out k hk
      clear hk
      go_wp2_with fail
      refine (text_any (k : Int) H0.out H1.out _ t5).mono ?_
      rintro e w6 ⟨rfl, B6⟩
      have t6 := t5.below B6
      have C6 := C5.trans (B6.mono C5.size)
      clear t5 C5 B6
      go_wp2_with fail
      refine (decimal_any _ _ S1.out).mono ?_
      rw [E1.out.1, E1.out.2]
      rintro e w7 ⟨rfl, rfl⟩
      go_wp2_with fail
      refine (hexText_any (k : Int) (by have := H1.out; omega) _ t6.tz (by have := t6.size; omega)).mono ?_
      rintro e w8 ⟨rfl, B8⟩
      have C8 := C6.trans (B8.mono C6.size)
      clear t6 C6 B8
      go_wp2_with fail
      refine (hex_any _ _ S2.out).mono ?_
      rw [E2.out.1, E2.out.2]
      rintro e w9 ⟨rfl, rfl⟩
      go_wp2
      go_ret
      exact ⟨rfl, C8⟩

theorem door_met (os : Os) (args : Array Value) : laidMetH Tryd.prog Rows.signTellsRow.laid ((World.doorLaid Tryd.prog 34 os).forCall (fun _ _ => 0) ⟨#[], args, []⟩).memory :=
  laidMetH_of_parts3 (fuel := 8) (laidMet_of_run' 8 (by kernel_rfl) (by kernel_rfl)) (by kernel_rfl) (by kernel_rfl)

set_option maxRecDepth 100000 in
theorem lifted (os : Os) (started : os.Started) (H : Type) (enc : TypeId × Value → H) :
    ReturnsInHanded {} Tryd.checked os 5 .any (fun w args => (Rows.signTellsSpec.pre enc Tryd.prog Tryd.f5 [] false w args ∧ laidMetH Tryd.prog Rows.signTellsRow.laid w) ∧ sizedMet enc Tryd.prog Tryd.f5 (OpenSpec.ofChange Rows.signTellsSpec) false w args)
      (Rows.signTellsSpec.post enc Tryd.prog Tryd.f5 false true false false) := by
  refine returnsInHanded_of_change_and (C := Tryd.checked) (X := fun w _ => laidMetH Tryd.prog Rows.signTellsRow.laid w) (fun _ _ _ hh h => h.of_heap hh) own started (by kernel_rfl) Tryd.func5
    (ChangeSpec.witness_shaped (enc := enc) (C := Tryd.checked) (os := os) (X := fun w _ => laidMetH Tryd.prog Rows.signTellsRow.laid w) false (World.doorLaid Tryd.prog 34 os) #[.int .i64 0] 8 rfl (World.shaped_of_RefB (by kernel_rfl) (by kernel_rfl)) (by kernel_rfl) (by kernel_rfl) (by kernel_rfl) (door_met os _)) ?_
  intro W base args ds gs before hval0 hW _ _ hL _
  have hval : ∀ (j : Nat) t v, Tryd.f5.params[j]? = some t → args[j]? = some v → Value.okWide Tryd.prog W .any base t v := hval0
  have hW' := hW
  obtain ⟨p, q, hA0, hV, rfl, hfz, hnd⟩ := hW
  have hA : DataW.TrodAll enc Tryd.prog W 0 (fun _ => true) true Tryd.f5.params.toList args.toList ds p := hA0
  rw [Tryd.params5] at hA hval
  obtain ⟨v0, d0, rfl, rfl, h0⟩ := trodAll_one hA
  obtain ⟨rfl, rfl⟩ := trodVars_none hV
  obtain ⟨a0, rfl, rfl, rfl, w0⟩ := open_int Tryd.underlying2 (hval 0 2 v0 rfl rfl) h0
  have bd := bounds_i64 w0
  have ht := tabs_of rfl hL
  clear hA0 hval0 hL
  simp only [List.append_nil] at hW'
  refine (walk a0 bd.1 bd.2 W ht).mono fun e W' ⟨he, bel⟩ => ?_
  subst he
  exact ⟨_, rfl, _, _, _, [], _, [], hW', trodAll_mk1 (shut_bool Tryd.underlying4 _), (trodAll_mk1 (shut_int Tryd.underlying2 w0)), rfl, bel.frame _, fun h => by cases h⟩

theorem over : Rows.SignTellsSaid :=
  OpenClaim.holds_of_wide 5 Tryd.f5 rfl rfl rfl rfl rfl rfl rfl ⟨rfl, rfl, rfl, rfl, rfl⟩ rfl rfl rfl rfl rfl (by kernel_rfl) Tryd.func5 (by kernel_rfl)
    (of_decide_eq_true (by kernel_rfl)) (by unfold Func.isWrapper; first | (rw [if_pos (by decide +kernel)]; kernel_rfl) | (rw [if_neg (by decide +kernel)]; exact ⟨rfl, rfl⟩))
    (fun os started H enc _ => lifted os started H enc)

end Go.Proofs.YtmmileafiainnabDoor.signTells
namespace Go.Proofs.YtmmileafiainnabDoor
/-- The statement: the tied card. -/
theorem signTells_holds : Rows.SignTellsCardSaid :=
  Claim7.holds_tied_plain_at .later [] [.data, .data, .data] true (true, "d3564400d67a145fdf1f71e11edeb064b66404200a0ebbbef9a4726148c05bf1") false
    signTells.over (fun _ h => by cases h) (by kernel_rfl) (fun _ h => by cases h) signTells_row_tie rfl ⟨rfl, rfl⟩ (by kernel_rfl) rfl
    (fun f fn hf hfn => by
      obtain rfl : f = 5 := Option.some.inj ((show Tryd.prog.funcNamed "tollbar/tollbarlaw02.SignTells" = some 5 by kernel_rfl).symm.trans hf) |>.symm
      obtain rfl : fn = Tryd.f5 := (Option.some.inj (Tryd.func5.symm.trans hfn)).symm
      exact ⟨by kernel_rfl, fun j t ht => by
        rw [Tryd.params5] at ht
        have hm : t ∈ [2] := by simpa using Array.mem_of_getElem? ht
        have hall : ([2].all fun u => !Tryd.prog.wantsStandIn u) = true := by kernel_rfl
        exact (show Tryd.prog.wantsStandIn t = false by simpa using List.all_eq_true.1 hall t hm)⟩)
    (by kernel_rfl)
#print axioms signTells_holds
end Go.Proofs.YtmmileafiainnabDoor
