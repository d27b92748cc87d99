/- The reference's Encode; ChunkEncodes, walked. -/
import Derived.Test.YtbmpfjmnedlahabDoorChkG
import Derived.Test.YtbmpfjmnedlahabDoorRHexT
import Derived.Test.YtbmpfjmnedlahabDoorJoinA
import Derived.Test.YtbmpfjmnedlahabDoorSamB
namespace Go.Proofs.YtbmpfjmnedlahabDoor
open Go.RowKit
set_option linter.unusedVariables false

theorem Hid.mk' {p : Prop} (h : p) : Hid p := h
theorem join_q (X Y : List UInt8) (k1 k2 : Nat) (v1 v2 : Value) (w : World) (h1 : Src w k1 v1 X) (hk1 : 0 < X.length → k1 < w.heap.size) (h2 : Src w k2 v2 Y) (hk2 : 0 < Y.length → k2 < w.heap.size) (hmax : X.length + Y.length ≤ 140737488355328) :
    Calls Tryd.prog 38 #[v1, v2] w fun e w' => ∃ a n c, e = .returned (.slice a n c) ∧ Own w.heap.size w' (.slice a n c) (X ++ Y) ∧ Below w.heap.size w w' := by
  refine (join_any X Y k1 k2 v1 v2 w h1 hk1 h2 hk2 hmax).mono ?_
  rintro e w' ⟨v', rfl, O, B⟩
  obtain ⟨a, c, rfl, _⟩ := O.form
  exact ⟨a, _, c, rfl, O, B⟩

set_option maxRecDepth 100000 in
set_option maxHeartbeats 8000000 in
theorem rencode_one (b : List UInt8) (kb : Nat) (v : Value) (x : Int) (hx : x < 1) (w : World) (hs : Src w kb v b) (hk : 0 < b.length → kb < w.heap.size) (hlen : b.length ≤ 1048576) :
    Calls Tryd.prog 18 #[v, .int .i64 x] w fun e w' => ∃ v', e = .returned v' ∧ Own w.heap.size w' v' (encL (b.length + 1) 1 b) ∧ Below w.heap.size w w' := by
  have HS : Hid (Src w kb v b) := hs
  have HP0 : Hid ([] ++ encL (b.length + 1) 1 b = encL (b.length + 1) 1 b) := rfl
  have HK : Hid (0 < b.length → kb < w.heap.size) := hk
  have hcs := conv_same
  obtain ⟨R, hR0⟩ : ∃ R, R = encL (b.length + 1) 1 b := ⟨_, rfl⟩
  rw [← hR0]
  have HP1 : Hid ([] ++ encL (b.length + 1) 1 b = R) := by rw [Hid, hR0]; rfl
  clear hs hk hR0 HP0
  obtain ⟨n, hn⟩ : ∃ n, n = b.length := ⟨_, rfl⟩
  rw [← hn] at hlen HP1 HK
  have HN : Hid (n = b.length) := hn
  clear hn
  have O0 := Own.empty w.heap.size w (Nat.le_refl _)
  have B0 : Below w.heap.size w (w.alloc (.cells #[] 5)) := (Below.refl _ _).alloc (Nat.le_refl _) _
  have hS1 := HS.out.keep (fun q => HK.out (by have := HN.out; omega)) B0
  go_enter Tryd.func18, Tryd.ntmps18
  go_wp2_with fail
  go_loopw [0, 5] (fun v0 v5 wr => ∃ (f : Nat) (rest acc : List UInt8), rest.length < f ∧ rest.length ≤ n ∧ acc.length ≤ 24 * (n - rest.length) ∧ Src wr kb v0 rest ∧ Own w.heap.size wr v5 acc ∧ Hid (acc ++ encL f 1 rest = R) ∧ Below w.heap.size w wr) (fun v0 _ _ => lenOf v0)
  case atStart => exact ⟨n + 1, b, [], by have := HN.out; omega, by have := HN.out; omega, by simp, hS1, O0, HP1, B0⟩
  case round =>
    obtain ⟨f, rest, acc, hf, hrn, hacc, hS, hO, hR, hB⟩ := hrel
    clear HP1 HS O0 B0 hS1
    obtain ⟨f, rfl⟩ : ∃ f', f = f' + 1 := ⟨f - 1, by omega⟩
    obtain ⟨a0, c0, rfl, h1, h2, h3⟩ := hS
    obtain ⟨r, hr⟩ : ∃ r, r = rest.length := ⟨_, rfl⟩
    have HR : Hid (r = rest.length) := hr
    rw [← hr] at hf hrn hacc h1 ⊢
    unfold maxLen at h2
    have hrI : (r : Int) ≤ 1048576 := by omega
    obtain ⟨a5, c5, rfl, hn5⟩ := hO.form
    by_cases hp : 0 < r
    · obtain ⟨off, rfl, hc⟩ := h3 (by omega)
      have HSR : Hid (Src wr kb (.slice (some ⟨kb, off, none⟩) r c0) rest) := ⟨_, _, by rw [HR.out], by have := HR.out; omega, by unfold maxLen; omega, fun _ => ⟨off, rfl, hc⟩⟩
      obtain ⟨N, hN⟩ : ∃ N, N = min 1 r := ⟨_, rfl⟩
      have hN1 : 1 ≤ N := by omega
      have hNr : N ≤ r := by omega
      have HX : Hid (acc ++ (hexT N ++ [13, 10]) ++ (rest.take N ++ [13, 10]) ++ encL f 1 (rest.drop N) = R) := by
        have h := hR.out
        rw [encL_next f 1 rest (by omega), ← hr, ← hN] at h
        rw [Hid, ← h]
        simp [List.append_assoc]
      have HH : Hid (Calls Tryd.prog 39 #[.int .i64 (N : Int)] wr fun e w' => e = .returned (.string ⟨(hexT N).toArray⟩) ∧ Below wr.heap.size wr w') := rhex_nat N (by omega) wr
      have hxl := hexT_len N
      have HTL : Hid ((rest.take N).length = N) := by rw [Hid, List.length_take]; omega
      have hw0 := hB.size
      have hkb : kb < w.heap.size := HK.out (by omega)
      have HO : Hid (Own w.heap.size wr (.slice a5 acc.length c5) acc) := hO
      have HACC : Hid (acc.length + (hexT N).length ≤ 30000000) := by rw [Hid]; omega
      have HL4 : Hid ((acc ++ (hexT N ++ [13, 10]) ++ (rest.take N ++ [13, 10])).length ≤ 24 * (n - (r - N))) := by
        rw [Hid]; simp only [List.length_append]; rw [HTL.out]; show _ + (_ + 2) + (_ + 2) ≤ _; omega
      have HHX : Hid (∃ T : ByteArray, T = (⟨(hexT N).toArray⟩ : ByteArray) ++ ⟨#[13, 10]⟩ ∧ T.data.toList = hexT N ++ [13, 10] ∧ T.size = (hexT N).length + 2) := ⟨_, rfl, tx_cat _ _, sz_tx _ _⟩
      obtain ⟨xt, hxt⟩ : ∃ xt, xt = hexT N := ⟨_, rfl⟩
      rw [← hxt] at HX HH hxl HL4 HHX HACC
      have hcase : (1 < r ∧ N = 1) ∨ (¬ 1 < r ∧ N = r) := by omega
      clear hr hR h3 hc hN hO hxt
      rcases hcase with ⟨g1, g2⟩ | ⟨g1, g2⟩
      all_goals
        subst g2
        have g3 := g1
        go_wp2_with fail
        refine HH.out.mono ?_
        rintro e w1 ⟨rfl, B1⟩
        have C1 := hB.trans (B1.mono hB.size)
        obtain ⟨T, hT1, hT2, hT3⟩ := HHX.out
        have hsum := sum_run w1 ⟨xt.toArray⟩ ⟨#[13, 10]⟩ (by show xt.length + 2 ≤ _; omega)
        rw [← hT1] at hsum
        obtain ⟨vc, wc, rc, Sc, Bc, hgc⟩ := conv_src w1 T (by unfold maxLen; omega)
        have Cc := C1.trans (Bc.mono C1.size)
        obtain ⟨k5, S5, hk5⟩ := ((HO.out.keep B1).keep Bc).src
        have HJ1 : Hid (Calls Tryd.prog 38 #[.slice a5 acc.length c5, vc] wc fun e w' => ∃ a n c, e = .returned (.slice a n c) ∧ Own wc.heap.size w' (.slice a n c) (acc ++ (xt ++ [13, 10])) ∧ Below wc.heap.size wc w') := by
          have h := join_q acc T.data.toList k5 w1.heap.size _ _ wc S5 (fun q => (hk5 q).2) Sc (fun _ => hgc) (by have := HACC.out; rw [hT2, List.length_append]; show _ + (_ + 2) ≤ _; omega)
          rw [hT2] at h
          exact h
        have SR1 := (HSR.out.keepB (B := w.heap.size) (fun _ => hkb) (B1.mono hw0)).keepB (B := w.heap.size) (fun _ => hkb) (Bc.mono C1.size)
        clear Sc S5 hk5 hT1 hT2 hT3
        go_wp2_with fail
        refine HJ1.out.mono ?_
        rintro e w2 ⟨a2, n2, c2, rfl, O2, B2⟩
        have C2 := Cc.trans (B2.mono Cc.size)
        have BA : Below w2.heap.size w2 (w2.alloc (.cells #[.int .u8 13, .int .u8 10] 5)) := (Below.refl _ _).alloc (Nat.le_refl _) _
        have CA := C2.trans (BA.mono C2.size)
        have SR2 := SR1.keepB (B := w.heap.size) (fun _ => hkb) (B2.mono Cc.size)
        have SRA := SR2.keepB (B := w.heap.size) (fun _ => hkb) (BA.mono C2.size)
        have hkA : kb < (w2.alloc (.cells #[.int .u8 13, .int .u8 10] 5)).heap.size := Nat.lt_of_lt_of_le hkb CA.size
        have HJ2' := fun m (hm : m ≤ rest.length) (hl : (rest.take m).length ≤ 1048576) => join_q (rest.take m) [13, 10] kb w2.heap.size _ _ _ (SRA.take hm) (fun _ => hkA) (lit_src w2 [13, 10] 2 _ (0, 0) rfl (by decide) rfl) (fun _ => by simp) (by show _ + 2 ≤ _; omega)
        have HJ2 := Hid.mk' HJ2'
        clear HJ2'
        have O2A := O2.keep BA
        obtain ⟨k6, S6, hk6⟩ := O2A.src
        have HO2A : Hid (Own wc.heap.size (w2.alloc (.cells #[.int .u8 13, .int .u8 10] 5)) (.slice a2 n2 c2) (acc ++ (xt ++ [13, 10]))) := O2A
        clear O2 S6 hk6 O2A SR1
        go_wp2_with fail
        refine (HJ2.out _ (by have := HR.out; omega) (by rw [HTL.out]; omega)).mono ?_
        rintro e w3 ⟨a3, n3, c3, rfl, O3, B3⟩
        have C3 := CA.trans (B3.mono CA.size)
        obtain ⟨k3, S3, hk3⟩ := O3.src
        obtain ⟨k7, S7, hk7⟩ := (HO2A.out.keep B3).src
        have HJ3' := join_any _ _ k7 k3 _ _ w3 S7 (fun q => (hk7 q).2) S3 (fun q => (hk3 q).2) (by have := HACC.out; simp only [List.length_append]; rw [HTL.out]; show _ + (_ + 2) + (_ + 2) ≤ _; omega)
        have HJ3 := Hid.mk' HJ3'
        clear HJ3'
        have SR3 := SR2.keepB (B := w.heap.size) (fun _ => hkb) ((BA.mono C2.size).trans (B3.mono CA.size))
        clear S3 S7 hk3 hk7 O3 HJ2 SRA
        go_wp2_with fail
        refine HJ3.out.mono ?_
        rintro e w4 ⟨v4, rfl, O4, B4⟩
        have C4 := C3.trans (B4.mono C3.size)
        have HO4 := Hid.mk' (O4.mono C3.size)
        have HS4 := Hid.mk' (SR3.keepB (B := w.heap.size) (fun _ => hkb) (B4.mono C3.size))
        clear O4 SR3 SR2 HJ3
        go_wp2
        all_goals
          go_roundw
          case rel =>
            refine ⟨f, rest.drop _, _, ?_, ?_, ?_, ?_, HO4.out, HX, C4⟩
            · rw [List.length_drop, ← HR.out]; omega
            · rw [List.length_drop, ← HR.out]; omega
            · rw [List.length_drop, ← HR.out]; exact HL4.out
            · first
                | exact HS4.out.cut (by have := HR.out; omega) (fun h => by rw [if_neg (by omega)]; simp [addr_add])
                | exact HS4.out.cut (by have := HR.out; omega) (fun h => if_neg (by omega))
                | (have hx := HS4.out.cut (m := N) (a' := if c0 = N then some ⟨kb, off, none⟩ else some ⟨kb, off + N, none⟩) (by have := HR.out; omega) (fun h => by rw [if_neg (by omega)]; simp [addr_add])
                   rw [Nat.sub_self] at hx
                   exact hx)
                | exact HS4.out.cut (by have := HR.out; omega) (fun _ => by simp [addr_add])
          case measure => simp [lenOf]; omega
    · have HE : Hid (acc ++ [48, 13, 10, 13, 10] = R) := by rw [Hid, ← hR.out, encL_end f 1 rest (by omega)]
      obtain rfl : r = 0 := by omega
      have BA : Below wr.heap.size wr (wr.alloc (.cells #[.int .u8 48, .int .u8 13, .int .u8 10, .int .u8 13, .int .u8 10] 5 (5, 6))) := (Below.refl _ _).alloc (Nat.le_refl _) _
      obtain ⟨k5, S5, hk5⟩ := (hO.keep BA).src
      have HJ : Hid (Calls Tryd.prog 38 #[.slice a5 acc.length c5, .slice (some ⟨wr.heap.size, 0, none⟩) 5 5] (wr.alloc (.cells #[.int .u8 48, .int .u8 13, .int .u8 10, .int .u8 13, .int .u8 10] 5 (5, 6))) fun e w' => ∃ v', e = .returned v' ∧ Own w.heap.size w' v' R ∧ Below w.heap.size w w') := by
        refine (join_any acc [48, 13, 10, 13, 10] k5 wr.heap.size _ _ _ S5 (fun q => (hk5 q).2) (lit_src wr [48, 13, 10, 13, 10] 5 _ (5, 6) rfl (by decide) rfl) (fun _ => by simp) (by show _ + 5 ≤ _; omega)).mono ?_
        rintro e w' ⟨v', rfl, O', B'⟩
        rw [HE.out] at O'
        exact ⟨v', rfl, O'.mono (Nat.le_trans hB.size BA.size), (hB.trans (BA.mono hB.size)).trans (B'.mono (Nat.le_trans hB.size BA.size))⟩
      clear h3 hR HE hr S5 hk5 BA hO
      go_wp2_with fail
      refine HJ.out.mono ?_
      rintro e w2 ⟨v2, rfl, O2, C2⟩
      go_wp2
      go_ret
      exact ⟨_, rfl, O2, C2⟩

set_option maxRecDepth 100000 in
set_option maxHeartbeats 8000000 in
theorem rencode_big (b : List UInt8) (kb : Nat) (v : Value) (sz : Nat) (hx : 1 ≤ sz) (hszb : sz ≤ 9223372036854775807) (w : World) (hs : Src w kb v b) (hk : 0 < b.length → kb < w.heap.size) (hlen : b.length ≤ 1048576) :
    Calls Tryd.prog 18 #[v, .int .i64 (sz : Int)] w fun e w' => ∃ v', e = .returned v' ∧ Own w.heap.size w' v' (encL (b.length + 1) sz b) ∧ Below w.heap.size w w' := by
  have HS : Hid (Src w kb v b) := hs
  have HP0 : Hid ([] ++ encL (b.length + 1) sz b = encL (b.length + 1) sz b) := rfl
  have HK : Hid (0 < b.length → kb < w.heap.size) := hk
  have hcs := conv_same
  obtain ⟨R, hR0⟩ : ∃ R, R = encL (b.length + 1) sz b := ⟨_, rfl⟩
  rw [← hR0]
  have HP1 : Hid ([] ++ encL (b.length + 1) sz b = R) := by rw [Hid, hR0]; rfl
  clear hs hk hR0 HP0
  obtain ⟨n, hn⟩ : ∃ n, n = b.length := ⟨_, rfl⟩
  rw [← hn] at hlen HP1 HK
  have HN : Hid (n = b.length) := hn
  clear hn
  have O0 := Own.empty w.heap.size w (Nat.le_refl _)
  have B0 : Below w.heap.size w (w.alloc (.cells #[] 5)) := (Below.refl _ _).alloc (Nat.le_refl _) _
  have hS1 := HS.out.keep (fun q => HK.out (by have := HN.out; omega)) B0
  go_enter Tryd.func18, Tryd.ntmps18
  go_wp2_with fail
  go_loopw [0, 5] (fun v0 v5 wr => ∃ (f : Nat) (rest acc : List UInt8), rest.length < f ∧ rest.length ≤ n ∧ acc.length ≤ 24 * (n - rest.length) ∧ Src wr kb v0 rest ∧ Own w.heap.size wr v5 acc ∧ Hid (acc ++ encL f sz rest = R) ∧ Below w.heap.size w wr) (fun v0 _ _ => lenOf v0)
  case atStart => exact ⟨n + 1, b, [], by have := HN.out; omega, by have := HN.out; omega, by simp, hS1, O0, HP1, B0⟩
  case round =>
    obtain ⟨f, rest, acc, hf, hrn, hacc, hS, hO, hR, hB⟩ := hrel
    clear HP1 HS O0 B0 hS1
    obtain ⟨f, rfl⟩ : ∃ f', f = f' + 1 := ⟨f - 1, by omega⟩
    obtain ⟨a0, c0, rfl, h1, h2, h3⟩ := hS
    obtain ⟨r, hr⟩ : ∃ r, r = rest.length := ⟨_, rfl⟩
    have HR : Hid (r = rest.length) := hr
    rw [← hr] at hf hrn hacc h1 ⊢
    unfold maxLen at h2
    have hrI : (r : Int) ≤ 1048576 := by omega
    obtain ⟨a5, c5, rfl, hn5⟩ := hO.form
    by_cases hp : 0 < r
    · obtain ⟨off, rfl, hc⟩ := h3 (by omega)
      have HSR : Hid (Src wr kb (.slice (some ⟨kb, off, none⟩) r c0) rest) := ⟨_, _, by rw [HR.out], by have := HR.out; omega, by unfold maxLen; omega, fun _ => ⟨off, rfl, hc⟩⟩
      obtain ⟨N, hN⟩ : ∃ N, N = min sz r := ⟨_, rfl⟩
      have hN1 : 1 ≤ N := by omega
      have hNr : N ≤ r := by omega
      have HX : Hid (acc ++ (hexT N ++ [13, 10]) ++ (rest.take N ++ [13, 10]) ++ encL f sz (rest.drop N) = R) := by
        have h := hR.out
        rw [encL_next f sz rest (by omega), ← hr, ← hN] at h
        rw [Hid, ← h]
        simp [List.append_assoc]
      have HH : Hid (Calls Tryd.prog 39 #[.int .i64 (N : Int)] wr fun e w' => e = .returned (.string ⟨(hexT N).toArray⟩) ∧ Below wr.heap.size wr w') := rhex_nat N (by omega) wr
      have hxl := hexT_len N
      have HTL : Hid ((rest.take N).length = N) := by rw [Hid, List.length_take]; omega
      have hw0 := hB.size
      have hkb : kb < w.heap.size := HK.out (by omega)
      have HO : Hid (Own w.heap.size wr (.slice a5 acc.length c5) acc) := hO
      have HACC : Hid (acc.length + (hexT N).length ≤ 30000000) := by rw [Hid]; omega
      have HL4 : Hid ((acc ++ (hexT N ++ [13, 10]) ++ (rest.take N ++ [13, 10])).length ≤ 24 * (n - (r - N))) := by
        rw [Hid]; simp only [List.length_append]; rw [HTL.out]; show _ + (_ + 2) + (_ + 2) ≤ _; omega
      have HHX : Hid (∃ T : ByteArray, T = (⟨(hexT N).toArray⟩ : ByteArray) ++ ⟨#[13, 10]⟩ ∧ T.data.toList = hexT N ++ [13, 10] ∧ T.size = (hexT N).length + 2) := ⟨_, rfl, tx_cat _ _, sz_tx _ _⟩
      obtain ⟨xt, hxt⟩ : ∃ xt, xt = hexT N := ⟨_, rfl⟩
      rw [← hxt] at HX HH hxl HL4 HHX HACC
      have hcase : (sz < r ∧ N = sz) ∨ (¬ sz < r ∧ N = r) := by omega
      clear hr hR h3 hc hN hO hxt
      rcases hcase with ⟨g1, g2⟩ | ⟨g1, g2⟩
      all_goals
        subst g2
        have g3 := g1
        go_wp2_with fail
        refine HH.out.mono ?_
        rintro e w1 ⟨rfl, B1⟩
        have C1 := hB.trans (B1.mono hB.size)
        obtain ⟨T, hT1, hT2, hT3⟩ := HHX.out
        have hsum := sum_run w1 ⟨xt.toArray⟩ ⟨#[13, 10]⟩ (by show xt.length + 2 ≤ _; omega)
        rw [← hT1] at hsum
        obtain ⟨vc, wc, rc, Sc, Bc, hgc⟩ := conv_src w1 T (by unfold maxLen; omega)
        have Cc := C1.trans (Bc.mono C1.size)
        obtain ⟨k5, S5, hk5⟩ := ((HO.out.keep B1).keep Bc).src
        have HJ1 : Hid (Calls Tryd.prog 38 #[.slice a5 acc.length c5, vc] wc fun e w' => ∃ a n c, e = .returned (.slice a n c) ∧ Own wc.heap.size w' (.slice a n c) (acc ++ (xt ++ [13, 10])) ∧ Below wc.heap.size wc w') := by
          have h := join_q acc T.data.toList k5 w1.heap.size _ _ wc S5 (fun q => (hk5 q).2) Sc (fun _ => hgc) (by have := HACC.out; rw [hT2, List.length_append]; show _ + (_ + 2) ≤ _; omega)
          rw [hT2] at h
          exact h
        have SR1 := (HSR.out.keepB (B := w.heap.size) (fun _ => hkb) (B1.mono hw0)).keepB (B := w.heap.size) (fun _ => hkb) (Bc.mono C1.size)
        clear Sc S5 hk5 hT1 hT2 hT3
        go_wp2_with fail
        refine HJ1.out.mono ?_
        rintro e w2 ⟨a2, n2, c2, rfl, O2, B2⟩
        have C2 := Cc.trans (B2.mono Cc.size)
        have BA : Below w2.heap.size w2 (w2.alloc (.cells #[.int .u8 13, .int .u8 10] 5)) := (Below.refl _ _).alloc (Nat.le_refl _) _
        have CA := C2.trans (BA.mono C2.size)
        have SR2 := SR1.keepB (B := w.heap.size) (fun _ => hkb) (B2.mono Cc.size)
        have SRA := SR2.keepB (B := w.heap.size) (fun _ => hkb) (BA.mono C2.size)
        have hkA : kb < (w2.alloc (.cells #[.int .u8 13, .int .u8 10] 5)).heap.size := Nat.lt_of_lt_of_le hkb CA.size
        have HJ2' := fun m (hm : m ≤ rest.length) (hl : (rest.take m).length ≤ 1048576) => join_q (rest.take m) [13, 10] kb w2.heap.size _ _ _ (SRA.take hm) (fun _ => hkA) (lit_src w2 [13, 10] 2 _ (0, 0) rfl (by decide) rfl) (fun _ => by simp) (by show _ + 2 ≤ _; omega)
        have HJ2 := Hid.mk' HJ2'
        clear HJ2'
        have O2A := O2.keep BA
        obtain ⟨k6, S6, hk6⟩ := O2A.src
        have HO2A : Hid (Own wc.heap.size (w2.alloc (.cells #[.int .u8 13, .int .u8 10] 5)) (.slice a2 n2 c2) (acc ++ (xt ++ [13, 10]))) := O2A
        clear O2 S6 hk6 O2A SR1
        go_wp2_with fail
        refine (HJ2.out _ (by have := HR.out; omega) (by rw [HTL.out]; omega)).mono ?_
        rintro e w3 ⟨a3, n3, c3, rfl, O3, B3⟩
        have C3 := CA.trans (B3.mono CA.size)
        obtain ⟨k3, S3, hk3⟩ := O3.src
        obtain ⟨k7, S7, hk7⟩ := (HO2A.out.keep B3).src
        have HJ3' := join_any _ _ k7 k3 _ _ w3 S7 (fun q => (hk7 q).2) S3 (fun q => (hk3 q).2) (by have := HACC.out; simp only [List.length_append]; rw [HTL.out]; show _ + (_ + 2) + (_ + 2) ≤ _; omega)
        have HJ3 := Hid.mk' HJ3'
        clear HJ3'
        have SR3 := SR2.keepB (B := w.heap.size) (fun _ => hkb) ((BA.mono C2.size).trans (B3.mono CA.size))
        clear S3 S7 hk3 hk7 O3 HJ2 SRA
        go_wp2_with fail
        refine HJ3.out.mono ?_
        rintro e w4 ⟨v4, rfl, O4, B4⟩
        have C4 := C3.trans (B4.mono C3.size)
        have HO4 := Hid.mk' (O4.mono C3.size)
        have HS4 := Hid.mk' (SR3.keepB (B := w.heap.size) (fun _ => hkb) (B4.mono C3.size))
        clear O4 SR3 SR2 HJ3
        go_wp2
        all_goals
          go_roundw
          case rel =>
            refine ⟨f, rest.drop _, _, ?_, ?_, ?_, ?_, HO4.out, HX, C4⟩
            · rw [List.length_drop, ← HR.out]; omega
            · rw [List.length_drop, ← HR.out]; omega
            · rw [List.length_drop, ← HR.out]; exact HL4.out
            · first
                | exact HS4.out.cut (by have := HR.out; omega) (fun h => by rw [if_neg (by omega)]; simp [addr_add])
                | exact HS4.out.cut (by have := HR.out; omega) (fun h => if_neg (by omega))
                | (have hx := HS4.out.cut (m := N) (a' := if c0 = N then some ⟨kb, off, none⟩ else some ⟨kb, off + N, none⟩) (by have := HR.out; omega) (fun h => by rw [if_neg (by omega)]; simp [addr_add])
                   rw [Nat.sub_self] at hx
                   exact hx)
                | exact HS4.out.cut (by have := HR.out; omega) (fun _ => by simp [addr_add])
          case measure => simp [lenOf]; omega
    · have HE : Hid (acc ++ [48, 13, 10, 13, 10] = R) := by rw [Hid, ← hR.out, encL_end f sz rest (by omega)]
      obtain rfl : r = 0 := by omega
      have BA : Below wr.heap.size wr (wr.alloc (.cells #[.int .u8 48, .int .u8 13, .int .u8 10, .int .u8 13, .int .u8 10] 5 (5, 6))) := (Below.refl _ _).alloc (Nat.le_refl _) _
      obtain ⟨k5, S5, hk5⟩ := (hO.keep BA).src
      have HJ : Hid (Calls Tryd.prog 38 #[.slice a5 acc.length c5, .slice (some ⟨wr.heap.size, 0, none⟩) 5 5] (wr.alloc (.cells #[.int .u8 48, .int .u8 13, .int .u8 10, .int .u8 13, .int .u8 10] 5 (5, 6))) fun e w' => ∃ v', e = .returned v' ∧ Own w.heap.size w' v' R ∧ Below w.heap.size w w') := by
        refine (join_any acc [48, 13, 10, 13, 10] k5 wr.heap.size _ _ _ S5 (fun q => (hk5 q).2) (lit_src wr [48, 13, 10, 13, 10] 5 _ (5, 6) rfl (by decide) rfl) (fun _ => by simp) (by show _ + 5 ≤ _; omega)).mono ?_
        rintro e w' ⟨v', rfl, O', B'⟩
        rw [HE.out] at O'
        exact ⟨v', rfl, O'.mono (Nat.le_trans hB.size BA.size), (hB.trans (BA.mono hB.size)).trans (B'.mono (Nat.le_trans hB.size BA.size))⟩
      clear h3 hR HE hr S5 hk5 BA hO
      go_wp2_with fail
      refine HJ.out.mono ?_
      rintro e w2 ⟨v2, rfl, O2, C2⟩
      go_wp2
      go_ret
      exact ⟨_, rfl, O2, C2⟩

theorem rencode_any (b : List UInt8) (kb : Nat) (v : Value) (size : Int) (w : World) (hs : Src w kb v b) (hk : 0 < b.length → kb < w.heap.size) (hlen : b.length ≤ 1048576) (hsz : size ≤ 9223372036854775807) :
    Calls Tryd.prog 18 #[v, .int .i64 size] w fun e w' => ∃ v', e = .returned v' ∧ Own w.heap.size w' v' (encR size b) ∧ Below w.heap.size w w' := by
  unfold encR
  by_cases h : size < 1
  · rw [show (max size 1).toNat = 1 by omega]
    exact rencode_one b kb v size h w hs hk hlen
  · obtain ⟨sz, rfl⟩ := Int.eq_ofNat_of_zero_le (show 0 ≤ size by omega)
    rw [show (max (sz : Int) 1).toNat = sz by omega]
    exact rencode_big b kb v sz (by omega) (by omega) w hs hk hlen

set_option maxHeartbeats 2000000 in
theorem encodes_walk (kb len cap : Nat) (a : Option Addr) (b : List UInt8) (size : Int) (w : World) (hb : Src w kb (.slice a len cap) b) (hkb : 0 < b.length → kb < w.heap.size) (hsz : size ≤ 9223372036854775807) (hM : MaxL w) (hT : TzOk w) :
    Calls Tryd.prog 5 #[.slice a len cap, .int .i64 size] w fun e w' => e = .returned (.bool true) ∧ Below w.heap.size w w' := by
  have hlb := hb.len.1
  go_enter Tryd.func5, Tryd.ntmps5
  go_wp2_with fail
  refine (alive6_any _ hM hT).mono ?_
  rintro e w1 ⟨rfl, B1⟩
  by_cases hlen : len ≤ 600
  · have i1 : (len : Int) ≤ 600 := by omega
    have HE : Hid (Calls Tryd.prog 17 #[.slice a len cap, .int .i64 size] w1 fun e w' => ∃ v', e = .returned v' ∧ Own w1.heap.size w' v' (encR size b) ∧ Below w1.heap.size w1 w') := encode_any b kb _ size w1 (hb.keep hkb B1) (fun q => Nat.lt_of_lt_of_le (hkb q) B1.size) (hT.below B1) (by omega) hsz
    have HR : Hid (∀ W, Below w.heap.size w W → Calls Tryd.prog 18 #[.slice a len cap, .int .i64 size] W fun e w' => ∃ v', e = .returned v' ∧ Own W.heap.size w' v' (encR size b) ∧ Below W.heap.size W w') := fun W hW => rencode_any b kb _ size W (hb.keep hkb hW) (fun q => Nat.lt_of_lt_of_le (hkb q) hW.size) (by omega) hsz
    clear hb hlb hkb hM hT hlen hsz
    generalize encR size b = X at *
    go_wp2_with fail
    refine HE.out.mono ?_
    rintro e w2 ⟨v2, rfl, O2, B2⟩
    have C2 := B1.trans (B2.mono B1.size)
    go_wp2_with fail
    refine (HR.out _ C2).mono ?_
    rintro e w3 ⟨v3, rfl, O3, B3⟩
    have C3 := C2.trans (B3.mono C2.size)
    obtain ⟨k2, S2, _⟩ := (O2.keep B3).src
    obtain ⟨k3, S3, _⟩ := O3.src
    have HSM : Hid (Calls Tryd.prog 16 #[v2, v3] w3 fun e w' => e = .returned (.bool true) ∧ Below w3.heap.size w3 w') := sameBytes_eq X _ _ _ _ w3 S2 S3
    clear S2 S3 O2 O3 HE HR
    go_wp2_with fail
    refine HSM.out.mono ?_
    rintro e w4 ⟨rfl, B4⟩
    go_wp2
    go_ret
    exact ⟨rfl, C3.trans (B4.mono C3.size)⟩
  · have i1 : (600 : Int) < (len : Int) := by omega
    clear hb hkb hM hT hlen hlb
    go_wp2
    go_ret
    exact ⟨rfl, B1⟩
end Go.Proofs.YtbmpfjmnedlahabDoor
