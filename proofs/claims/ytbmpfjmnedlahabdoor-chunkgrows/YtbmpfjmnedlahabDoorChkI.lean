/- ChunkGrows, walked. -/
import Derived.Test.YtbmpfjmnedlahabDoorChkG
import Derived.Test.YtbmpfjmnedlahabDoorChkH
import Derived.Test.YtbmpfjmnedlahabDoorTwo
import Derived.Test.YtbmpfjmnedlahabDoorSamB
namespace Go.Proofs.YtbmpfjmnedlahabDoor
open Go.RowKit
set_option linter.unusedVariables false

set_option maxRecDepth 100000 in
set_option maxHeartbeats 4000000 in
theorem grows6_walk (kb len cap : Nat) (a : Option Addr) (b : List UInt8) (kc lenc capc : Nat) (ac : Option Addr) (c : List UInt8) (most : Int) (w : World) (hb : Src w kb (.slice a len cap) b) (hkb : 0 < b.length → kb < w.heap.size) (hnb : a = none → cap = 0) (hc : Src w kc (.slice ac lenc capc) c) (hkc : 0 < c.length → kc < w.heap.size) (hnc : ac = none → capc = 0) (hmost : most ≤ 9223372036854775807) (hM : MaxL w) (hT : TzOk w) :
    Calls Tryd.prog 7 #[.slice a len cap, .slice ac lenc capc, .int .i64 most] w fun e w' => e = .returned (.bool true) ∧ Below w.heap.size w w' := by
  have hlb := hb.len.1
  have hlc := hc.len.1
  go_enter Tryd.func7, Tryd.ntmps7
  go_wp2_with fail
  refine (alive6_any _ hM hT).mono ?_
  rintro e w1 ⟨rfl, B1⟩
  by_cases hlen : len ≤ 3000 ∧ lenc ≤ 3000
  · obtain ⟨g1, g2⟩ := hlen
    have i1 : (len : Int) ≤ 3000 := by omega
    have i2 : (lenc : Int) ≤ 3000 := by omega
    have hkb1 : 0 < b.length → kb < w1.heap.size := fun q => Nat.lt_of_lt_of_le (hkb q) B1.size
    have HD1 : Hid (Calls Tryd.prog 14 #[.slice a len cap, .int .i64 most] w1 (DecQ w1 (decR most.toNat b))) := decode_any b kb _ most w1 (hb.keep hkb B1) hkb1 (hM.below B1) (by omega) hmost
    have HB : Hid (Src w kb (.slice a len cap) b) := hb
    have HC : Hid (Src w kc (.slice ac lenc capc) c) := hc
    have HM : Hid (MaxL w) := hM
    have HLB : Hid (b.length = len) := hlb
    have HLC : Hid (c.length = lenc) := hlc
    have HKB : Hid (0 < b.length → kb < w.heap.size) := hkb
    have HKC : Hid (0 < c.length → kc < w.heap.size) := hkc
    have HAPP : Hid (Done (decR most.toNat b) → decR most.toNat (b ++ c) = decR most.toNat b) := decR_app _ _ _
    have HOK : Hid (okR (decR most.toNat b)) := decR_ok _ _
    clear hb hc hlb hlc hkb hkc hkb1 hM hT
    go_wp2_with fail
    refine HD1.out.mono ?_
    rintro e w2 ⟨v2, rfl, O2, B2⟩
    have C2 := B1.trans (B2.mono B1.size)
    obtain ⟨v3, w3, g4, n4, c4, w4, r3, r4, S4, hg4, hg4', B4⟩ := two_src (HB.out.keep HKB.out C2) (fun q => Nat.lt_of_lt_of_le (HKB.out q) C2.size) (HC.out.keep HKC.out C2) (fun q => Nat.lt_of_lt_of_le (HKC.out q) C2.size) hnb hnc (by have := HLB.out; have := HLC.out; omega)
    have C4 := C2.trans (B4.mono C2.size)
    have O4 := O2.keep B4
    have HD2 : Hid (Calls Tryd.prog 14 #[.slice (some ⟨g4, 0, none⟩) n4 c4, .int .i64 most] w4 (DecQ w4 (decR most.toNat (b ++ c)))) := decode_any (b ++ c) g4 _ most w4 S4 (fun _ => hg4') (HM.out.below C4) (by rw [List.length_append]; have := HLB.out; have := HLC.out; omega) hmost
    clear O2 B1 B2 B4 C2 S4 hg4 hg4' HD1 hnb hnc
    generalize decR most.toNat (b ++ c) = Q at *
    generalize decR most.toNat b = R at *
    obtain ⟨x, n, er⟩ := R
    simp only at O4 HAPP HOK
    obtain ⟨a2, c2, rfl, _⟩ := O4.form
    go_wp2_with (first | (at_builtin; refine wpList_append_run2 rfl _ _ 24 24 rfl _ _ _ w3 rfl rfl r3 ?_) | (at_builtin; refine wpList_append_run2 rfl _ _ 24 24 rfl _ _ _ w4 rfl rfl r4 ?_))
    refine HD2.out.mono ?_
    rintro e w5 ⟨v5, rfl, O5, B5⟩
    have C5 := C4.trans (B5.mono C4.size)
    have O6 := O4.keep B5
    by_cases hd : n ≠ 0 ∨ er ≠ 0
    · have hQ := HAPP.out hd
      subst hQ
      simp only at O5
      obtain ⟨k1, S1, _⟩ := O6.src
      obtain ⟨k2, S2, _⟩ := O5.src
      obtain ⟨a5, c5, rfl, _⟩ := O5.form
      have HSM : Hid (Calls Tryd.prog 16 #[.slice a2 x.length c2, .slice a5 x.length c5] w5 fun e w' => e = .returned (.bool true) ∧ Below w5.heap.size w5 w') := sameBytes_eq x _ _ _ _ w5 S1 S2
      clear S1 S2 O5 O6 O4 HD2 HAPP HOK B5
      by_cases hn : n = 0
      · subst hn
        have he : (er != 0) = true := by simpa using hd
        go_wp2_with fail
        refine HSM.out.mono ?_
        rintro e w7 ⟨rfl, B7⟩
        go_wp2
        go_ret
        exact ⟨rfl, C5.trans (B7.mono C5.size)⟩
      · have hn' : (0 : Int) < (n : Int) := by omega
        clear hd
        go_wp2_with fail
        refine HSM.out.mono ?_
        rintro e w7 ⟨rfl, B7⟩
        go_wp2
        go_ret
        exact ⟨rfl, C5.trans (B7.mono C5.size)⟩
    · have hn : n = 0 := by
        rcases Nat.eq_zero_or_pos n with q | q
        · exact q
        · exact absurd (.inl (by omega)) hd
      have he : er = 0 := by
        by_cases q : er = 0
        · exact q
        · exact absurd (.inr q) hd
      subst hn he
      have hx : x = [] := HOK.out.1 rfl
      subst hx
      clear HAPP HOK O6 O5 O4 B5 HD2 hd
      go_wp2
      go_ret
      exact ⟨rfl, C5⟩
  · have hor : (3000 : Int) < (len : Int) ∨ ((len : Int) ≤ 3000 ∧ (3000 : Int) < (lenc : Int)) := by omega
    clear hb hc hkb hkc hnb hnc hlen hlb hlc hM hT
    rcases hor with h | ⟨h, h'⟩
    · go_wp2
      go_ret
      exact ⟨rfl, B1⟩
    · go_wp2
      go_ret
      exact ⟨rfl, B1⟩
end Go.Proofs.YtbmpfjmnedlahabDoor
