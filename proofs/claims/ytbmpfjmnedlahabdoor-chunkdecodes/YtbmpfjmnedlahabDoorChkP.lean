/- ChunkDecodes, walked. -/
import Derived.Test.YtbmpfjmnedlahabDoorChkG
import Derived.Test.YtbmpfjmnedlahabDoorChkO
import Derived.Test.YtbmpfjmnedlahabDoorSamB
namespace Go.Proofs.YtbmpfjmnedlahabDoor
open Go.RowKit
set_option linter.unusedVariables false

set_option maxRecDepth 100000 in
set_option maxHeartbeats 2000000 in
theorem decodes_walk (kb len cap : Nat) (a : Option Addr) (b : List UInt8) (most : Int) (w : World) (hb : Src w kb (.slice a len cap) b) (hkb : 0 < b.length → kb < w.heap.size) (hmost : most ≤ 9223372036854775807) (hM : MaxL w) (hT : TzOk w) :
    Calls Tryd.prog 4 #[.slice a len cap, .int .i64 most] w fun e w' => e = .returned (.bool true) ∧ Below w.heap.size w w' := by
  have hlb := hb.len.1
  go_enter Tryd.func4, Tryd.ntmps4
  go_wp2_with fail
  refine (alive6_any _ hM hT).mono ?_
  rintro e w1 ⟨rfl, B1⟩
  by_cases hlen : len ≤ 5000
  · have i1 : (len : Int) ≤ 5000 := by omega
    have HD : Hid (Calls Tryd.prog 14 #[.slice a len cap, .int .i64 most] w1 (DecQ w1 (decR most.toNat b))) := decode_any b kb _ most w1 (hb.keep hkb B1) (fun q => Nat.lt_of_lt_of_le (hkb q) B1.size) (hM.below B1) (by omega) hmost
    have HR : Hid (∀ W, Below w.heap.size w W → Calls Tryd.prog 15 #[.slice a len cap, .int .i64 most] W (DecQ W (decR most.toNat b))) := fun W hW => rdecode_any b kb _ most W (hb.keep hkb hW) (fun q => Nat.lt_of_lt_of_le (hkb q) hW.size) (by omega) hmost
    clear hb hlb hkb hM hT hlen hmost
    generalize decR most.toNat b = R at *
    obtain ⟨x, n, er⟩ := R
    go_wp2_with fail
    refine HD.out.mono ?_
    rintro e w2 ⟨v2, rfl, O2, B2⟩
    have C2 := B1.trans (B2.mono B1.size)
    go_wp2_with fail
    refine (HR.out _ C2).mono ?_
    rintro e w3 ⟨v3, rfl, O3, B3⟩
    have C3 := C2.trans (B3.mono C2.size)
    obtain ⟨k2, S2, _⟩ := (O2.keep B3).src
    obtain ⟨k3, S3, _⟩ := O3.src
    have HSM : Hid (Calls Tryd.prog 16 #[v2, v3] w3 fun e w' => e = .returned (.bool true) ∧ Below w3.heap.size w3 w') := sameBytes_eq x _ _ _ _ w3 S2 S3
    clear S2 S3 O2 O3 HD HR
    go_wp2_with fail
    refine HSM.out.mono ?_
    rintro e w4 ⟨rfl, B4⟩
    go_wp2
    go_ret
    exact ⟨rfl, C3.trans (B4.mono C3.size)⟩
  · have i1 : (5000 : Int) < (len : Int) := by omega
    clear hb hkb hM hT hlen hlb
    go_wp2
    go_ret
    exact ⟨rfl, B1⟩
end Go.Proofs.YtbmpfjmnedlahabDoor
