/- Encode. -/
import Derived.Test.YtbmpfjmnedlahacDoorRow
import Derived.Test.YtbmpfjmnedlahacDoorHexT
import Derived.Lib.LaidTab
import Derived.LaidSub
import Derived.MakeChecks
namespace Go.Proofs.YtbmpfjmnedlahacDoor
open Go.RowKit
set_option linter.unusedVariables false

theorem hexGo_len (f : Nat) : ∀ (u : Nat) (acc : List UInt8), (hexGo f u acc).length ≤ f + acc.length := by
  induction f with
  | zero => intro u acc; rw [hexGo]; omega
  | succ f ih =>
    intro u acc
    rw [hexGo]
    split
    · rw [List.length_cons]; omega
    · have := ih (u / 16) (hexD (u % 16) :: acc)
      rw [List.length_cons] at this
      omega
theorem hexT_len (n : Nat) : (hexT n).length ≤ 17 := by have := hexGo_len 17 n []; unfold hexT; simpa using this
/-- A body in chunks of sz bytes. -/
def encL : Nat → Nat → List UInt8 → List UInt8
  | 0, _, _ => []
  | f + 1, sz, l => if l.length = 0 then [48, 13, 10, 13, 10] else hexT (min sz l.length) ++ [13, 10] ++ l.take (min sz l.length) ++ [13, 10] ++ encL f sz (l.drop (min sz l.length))
def encR (size : Int) (l : List UInt8) : List UInt8 := encL (l.length + 1) (max size 1).toNat l
theorem encL_end (f sz : Nat) (l : List UInt8) (h : l.length = 0) : encL (f + 1) sz l = [48, 13, 10, 13, 10] := by rw [encL, if_pos h]
theorem encL_next (f sz : Nat) (l : List UInt8) (h : ¬ l.length = 0) : encL (f + 1) sz l = hexT (min sz l.length) ++ [13, 10] ++ l.take (min sz l.length) ++ [13, 10] ++ encL f sz (l.drop (min sz l.length)) := by rw [encL, if_neg h]
/-- The table that the telling of a size reads. -/
def TzOk (w : World) : Prop := w.cell? ⟨3, 15, none⟩ = some (.int .u8 4)
theorem gTz : Tryd.prog.globalNamed "math/bits.deBruijn64tab" = some 3 := by kernel_rfl
def tzTab : List Int := [0, 1, 56, 2, 57, 49, 28, 3, 61, 58, 42, 50, 38, 29, 17, 4, 62, 47, 59, 36, 45, 43, 51, 22, 53, 39, 33, 30, 24, 18, 12, 5, 63, 55, 48, 27, 60, 41, 37, 16, 46, 35, 44, 21, 52, 32, 23, 11, 54, 26, 40, 15, 34, 20, 31, 10, 25, 14, 19, 9, 13, 8, 7, 6]
theorem tz_of_head {W : World} (h2 : laidMetH Tryd.prog [("math/bits.deBruijn64tab", Lib.tabData .u8 tzTab)] W) : TzOk W := by
  rw [MakeChecks.laidMetH_plain _ _ _ (by kernel_rfl)] at h2
  have p2 := Lib.tabIs_of_head gTz (by kernel_rfl) Tryd.underlying96 Tryd.underlying5 (by kernel_rfl) (by kernel_rfl) h2
  exact p2.cell gTz 15 (by decide)
theorem TzOk.lt {w : World} (h : TzOk w) : 3 < w.heap.size := cell_lt h
theorem TzOk.below {w w' : World} (h : TzOk w) (b : Below w.heap.size w w') : TzOk w' := (b.cell (p := ⟨3, 15, none⟩) h.lt).trans h
theorem TzOk.belowB {B : Nat} {w w' : World} (h : TzOk w) (hB : 3 < B) (b : Below B w w') : TzOk w' := (b.cell (p := ⟨3, 15, none⟩) hB).trans h
theorem tx_cat (x : List UInt8) (y : Array UInt8) : ((⟨x.toArray⟩ : ByteArray) ++ ⟨y⟩).data.toList = x ++ y.toList := by rw [cat_data]
theorem sz_tx (x : List UInt8) (y : Array UInt8) : ((⟨x.toArray⟩ : ByteArray) ++ ⟨y⟩).size = x.length + y.size := by rw [cat_data]; show (x ++ y.toList).length = _; simp

set_option maxRecDepth 100000 in
set_option maxHeartbeats 8000000 in
theorem encode_any (b : List UInt8) (kb : Nat) (v : Value) (size : Int) (w : World) (hs : Src w kb v b) (hk : 0 < b.length → kb < w.heap.size) (hT : TzOk w) (hlen : b.length ≤ 1048576) (hsz : size ≤ 9223372036854775807) :
    Calls Tryd.prog 10 #[v, .int .i64 size] w fun e w' => ∃ v', e = .returned v' ∧ Own w.heap.size w' v' (encR size b) ∧ Below w.heap.size w w' := by
  have HS : Hid (Src w kb v b) := hs
  obtain ⟨sz, hszz⟩ : ∃ sz : Nat, (sz : Int) = max size 1 := ⟨(max size 1).toNat, by omega⟩
  have HP0 : Hid ([] ++ encL (b.length + 1) sz b = encR size b) := by rw [Hid, List.nil_append]; unfold encR; rw [← hszz, Int.toNat_natCast]
  have HZ : Hid ((sz : Int) = max size 1) := hszz
  have hsz1 : 1 ≤ sz := by omega
  have HK : Hid (0 < b.length → kb < w.heap.size) := hk
  have HT : Hid (TzOk w) := hT
  have hlt := hT.lt
  generalize encR size b = R at *
  clear hs hszz hk hT hsz
  obtain ⟨n, hn⟩ : ∃ n, n = b.length := ⟨_, rfl⟩
  rw [← hn] at hlen HP0 HK
  have HN : Hid (n = b.length) := hn
  clear hn
  go_enter Tryd.func10, Tryd.ntmps10
  go_wp2_with fail
  go_loopw [0, 5] (fun v0 v5 wr => ∃ (f : Nat) (rest acc : List UInt8), rest.length < f ∧ rest.length ≤ n ∧ acc.length ≤ 24 * (n - rest.length) ∧ Src wr kb v0 rest ∧ Own w.heap.size wr v5 acc ∧ Hid (acc ++ encL f sz rest = R) ∧ Below w.heap.size w wr) (fun v0 _ _ => lenOf v0)
  case atStart => exact ⟨n + 1, b, [], by have := HN.out; omega, by have := HN.out; omega, by simp, HS.out, Own.nil _ _, HP0, Below.refl _ _⟩
  case round =>
    obtain ⟨f, rest, acc, hf, hrn, hacc, hS, hO, hR, hB⟩ := hrel
    clear HP0 HS
    obtain ⟨f, rfl⟩ : ∃ f', f = f' + 1 := ⟨f - 1, by omega⟩
    obtain ⟨a0, c0, rfl, h1, h2, h3⟩ := hS
    obtain ⟨r, hr⟩ : ∃ r, r = rest.length := ⟨_, rfl⟩
    have HR : Hid (r = rest.length) := hr
    rw [← hr] at hf hrn hacc h1 ⊢
    unfold maxLen at h2
    have hrI : (r : Int) ≤ 1048576 := by omega
    by_cases hp : 0 < r
    · obtain ⟨off, rfl, hc⟩ := h3 (by omega)
      have HSR : Hid (Src wr kb (.slice (some ⟨kb, off, none⟩) r c0) rest) := ⟨_, _, by rw [HR.out], by have := HR.out; omega, by unfold maxLen; omega, fun _ => ⟨off, rfl, hc⟩⟩
      obtain ⟨N, hN⟩ : ∃ N, N = min sz r := ⟨_, rfl⟩
      have hmin : min (max size 1) (r : Int) = (N : Int) := by rw [← HZ.out]; omega
      have hN1 : 1 ≤ N := by omega
      have hNr : N ≤ r := by omega
      have HX : Hid (acc ++ (hexT N ++ [13, 10]) ++ rest.take N ++ [13, 10] ++ encL f sz (rest.drop N) = R) := by
        have h := hR.out
        rw [encL_next f sz rest (by omega), ← hr, ← hN] at h
        rw [Hid, ← h]
        simp [List.append_assoc]
      have hTw : TzOk wr := HT.out.belowB hlt hB
      have HH : Hid (Calls Tryd.prog 13 #[.int .i64 (N : Int)] wr fun e w' => e = .returned (.string ⟨(hexT N).toArray⟩) ∧ Below wr.heap.size wr w') := by
        have h := hexText_any (N : Int) (by omega) wr hTw hTw.lt
        rw [Int.toNat_natCast] at h
        exact h
      have hxl := hexT_len N
      have HTL : Hid ((rest.take N).length = N) := by rw [Hid, List.length_take]; omega
      have hw0 := hB.size
      clear hr hN hR hTw h3 hc
      go_wp2_with fail
      refine HH.out.mono ?_
      rintro e w1 ⟨rfl, B1⟩
      have C1 := hB.trans (B1.mono hB.size)
      have hsum := sum_run w1 ⟨(hexT N).toArray⟩ ⟨#[13, 10]⟩ (by show (hexT N).length + 2 ≤ _; omega)
      obtain ⟨v2, w2, r2, O2, B2⟩ := own_append_str (s := (⟨(hexT N).toArray⟩ ++ ⟨#[13, 10]⟩ : ByteArray)) (hO.keep B1) (by rw [sz_tx]; show _ + (_ + 2) ≤ _; omega) C1.size
      rw [tx_cat] at O2
      have C2 := C1.trans B2
      have S2 : Src w2 kb (.slice (some ⟨kb, off, none⟩) r c0) rest := (HSR.out.keepB (B := w.heap.size) (fun q => HK.out (by have := HR.out; omega)) (B1.mono hw0)).keepB (fun q => HK.out (by have := HR.out; omega)) B2
      obtain ⟨v3, w3, r3, O3, B3⟩ := own_append O2 (S2.take (m := N) (by have := HR.out; omega)) (fun e => by cases e) (by rw [HTL.out]; simp only [List.length_append]; show _ + (_ + 2) + _ ≤ _; omega) C2.size
      have C3 := C2.trans B3
      obtain ⟨v4, w4, r4, O4, B4⟩ := own_append_str (s := ⟨#[13, 10]⟩) O3 (by simp only [List.length_append]; rw [HTL.out]; show _ + (_ + 2) + _ + 2 ≤ _; omega) C3.size
      have C4 := C3.trans B4
      have HO4 : Hid (Own w.heap.size w4 v4 (acc ++ (hexT N ++ [13, 10]) ++ rest.take N ++ [13, 10])) := O4
      have HS4 : Hid (Src w4 kb (.slice (some ⟨kb, off, none⟩) r c0) rest) := (S2.keepB (fun q => HK.out (by have := HR.out; omega)) B3).keepB (fun q => HK.out (by have := HR.out; omega)) B4
      have HL4 : Hid ((acc ++ (hexT N ++ [13, 10]) ++ rest.take N ++ [13, 10]).length ≤ 24 * (n - (r - N))) := by
        rw [Hid]; simp only [List.length_append]; rw [HTL.out]; show _ + (_ + 2) + _ + 2 ≤ _; omega
      clear O2 O3 O4 S2 HSR hO
      generalize (⟨(hexT N).toArray⟩ ++ ⟨#[13, 10]⟩ : ByteArray) = TT at *
      go_wp2_with (first | (at_builtin; refine wpList_append_run2 rfl _ _ 25 9 rfl _ _ _ w2 rfl rfl r2 ?_) | (at_builtin; refine wpList_append_run2 rfl _ _ 25 25 rfl _ _ _ w3 rfl rfl r3 ?_) | (at_builtin; refine wpList_append_run2 rfl _ _ 25 9 rfl _ _ _ w4 rfl rfl r4 ?_))
      all_goals
        go_roundw
        case rel =>
          refine ⟨f, rest.drop N, _, by rw [List.length_drop, ← HR.out]; omega, by rw [List.length_drop, ← HR.out]; omega, by rw [List.length_drop, ← HR.out]; exact HL4.out, ?_, HO4.out, HX, C4⟩
          first
            | exact HS4.out.cut (by have := HR.out; omega) (fun h => by rw [if_neg (by omega)]; simp [addr_add])
            | exact HS4.out.cut (by have := HR.out; omega) (fun _ => rfl)
            | (have hx := HS4.out.cut (m := N) (a' := some ⟨kb, off, none⟩) (by have := HR.out; omega) (fun h => by omega); rw [show c0 - N = 0 by omega] at hx; exact hx)
        case measure => simp [lenOf]; omega
    · have HE : Hid (acc ++ [48, 13, 10, 13, 10] = R) := by rw [Hid, ← hR.out, encL_end f sz rest (by omega)]
      obtain rfl : r = 0 := by omega
      obtain ⟨v2, w2, r2, O2, B2⟩ := own_append_str (s := ⟨#[48, 13, 10, 13, 10]⟩) hO (by show _ + 5 ≤ _; omega) hB.size
      have HO : Hid (Own w.heap.size w2 v2 R) := by rw [Hid, ← HE.out]; exact O2
      have C2 := hB.trans B2
      clear h3 hR O2 HE hr
      go_wp2_with (at_builtin; refine wpList_append_run2 rfl _ _ 25 9 rfl _ _ _ w2 rfl rfl r2 ?_)
      go_ret
      exact ⟨_, rfl, HO.out, C2⟩
end Go.Proofs.YtbmpfjmnedlahacDoor
