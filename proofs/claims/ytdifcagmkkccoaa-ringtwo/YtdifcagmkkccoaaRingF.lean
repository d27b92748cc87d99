/- SameBytes of equal lists; the document's example of a ring. -/
import Derived.Test.YtdifcagmkkccoaaRingE
import Derived.Laws.IdiomStrings
import Derived.Lib.SlBytesConst
import Derived.Deep.QuietTactic
import Derived.BigQuiet
namespace Go.Proofs.Ytdifcagmkkccoaa
open Go.RowKit
set_option linter.unusedVariables false

set_option maxHeartbeats 1000000 in
theorem sameBytes_eq (xs : List UInt8) (k1 k2 : Nat) (v1 v2 : Value) (w : World) (h1 : Src w k1 v1 xs) (h2 : Src w k2 v2 xs) :
    Calls Try.prog 15 #[v1, v2] w fun e w' => e = .returned (.bool true) ∧ Below w.heap.size w w' := by
  obtain ⟨a1, c1, rfl, l1, m1, f1⟩ := h1
  obtain ⟨a2, c2, rfl, l2, m2, f2⟩ := h2
  unfold maxLen at m1 m2
  rcases Nat.eq_zero_or_pos xs.length with h0 | hp
  · rw [h0]
    clear f1 f2
    go_enter Try.func15, Try.ntmps15
    go_wp2_with fail
    refine wp_loop_rounds 1 ?_
    rw [rounds_succ]
    go_wp2
    go_ret
    exact ⟨rfl, Below.refl _ _⟩
  · obtain ⟨o1, rfl, g1⟩ := f1 hp
    obtain ⟨o2, rfl, g2⟩ := f2 hp
    clear f1 f2
    have hn : xs.length ≤ 9223372036854775807 := by omega
    clear m1 m2
    go_enter Try.func15, Try.ntmps15
    go_wp2_with fail
    go_loopw [5] (fun vi wr => ∃ k d : Nat, k ≤ xs.length ∧ vi = .int .i64 k ∧ wr = w.drewN d) (fun vi _ => xs.length - (intOf vi).toNat)
    case atStart => exact ⟨0, 0, Nat.zero_le _, rfl, by simp [World.drewN_zero]⟩
    case round =>
      obtain ⟨k, d, hk, rfl, rfl⟩ := hrel
      by_cases hlt : k < xs.length
      · have q1 : w.cell? ⟨k1, o1 + k, none⟩ = some (.int .u8 (xs[k].toNat : Int)) := g1 k hlt
        have q2 : w.cell? ⟨k2, o2 + k, none⟩ = some (.int .u8 (xs[k].toNat : Int)) := g2 k hlt
        generalize (xs[k].toNat : Int) = x at *
        clear g1 g2
        go_wp2
        go_quiet (fail)
        go_wp2
        go_roundw
        case rel => exact ⟨k + 1, _, by omega, by go_num, rfl⟩
        case measure => simp [intOf]; omega
      · go_wp2
        go_ret
        exact ⟨rfl, by refine ⟨?_, ?_, ?_, ?_, ?_⟩ <;> simp [World.drewN]⟩

/-- A row of bytes in a block of its own is a slice. -/
theorem src_row {w : World} {g n : Nat} {l : List UInt8} (h : w.heap[g]? = some (.cells (rowB l).toArray 5)) (hl : l.length = n) (hm : n ≤ maxLen) : Src w g (.slice (some ⟨g, 0, none⟩) n n) l := by
  subst hl
  refine ⟨_, _, rfl, Nat.le_refl _, hm, fun _ => ⟨0, rfl, fun j hj => ?_⟩⟩
  refine ring_cell h ?_
  rw [Nat.zero_add, List.getElem?_toArray]
  unfold rowB
  rw [List.getElem?_map, List.getElem?_eq_getElem hj]; rfl
theorem Src.below {w w' : World} {k : Nat} {v : Value} {b : List UInt8} (h : Src w k v b) (hk : k < w.heap.size) (hB : Below w.heap.size w w') : Src w' k v b := h.frame (hB.block k hk)
/-- Bytes made of a text. -/
theorem conv_src (w : World) (s : ByteArray) (hs : s.size ≤ maxLen) : ∃ v w1, (convert 9 35 (.string s)).run Try.prog w = .ok v w1 ∧ Src w1 w.heap.size v s.data.toList ∧ Below w.heap.size w w1 ∧ w.heap.size < w1.heap.size := by
  refine ⟨_, _, run_bytes_of_string w 9 35 5 s Try.underlying9 Try.underlying35 Try.underlying5, ?_, ?_, ?_⟩
  · refine ⟨_, _, rfl, grownCap_ge _ _ _ _, grownCap_le_maxLen _ _ _ _ hs, fun _ => ⟨0, rfl, fun j hj => ?_⟩⟩
    have hb := new_at w.drew (.cells (bytesRow s (grownCap w s.size 0 5)) 5 ((bytesRow s (grownCap w s.size 0 5)).size, (bytesRow s (grownCap w s.size 0 5)).size + 1))
    have hsz : w.drew.heap.size = w.heap.size := rfl
    rw [hsz] at hb
    have e : (bytesRow s (grownCap w s.size 0 5))[j]? = some (bv s.data.toList[j]) := by
      unfold bytesRow
      have hj' : j < s.data.size := by simpa using hj
      rw [Array.getElem?_append_left (by simpa using hj'), Array.getElem?_map, Array.getElem?_eq_getElem hj']
      rfl
    unfold World.cell?
    rw [hb]
    show (bytesRow s (grownCap w s.size 0 5))[0 + j]? = _
    rw [Nat.zero_add, e]
  · exact ((Below.refl _ _).drew).alloc (Nat.le_refl _) _
  · simp
theorem conv_back {w : World} {k : Nat} {a : Option Addr} {n c : Nat} {b : List UInt8} (h : Src w k (.slice a n c) b) (hp : 0 < n) : (convert 35 9 (.slice a n c)).run Try.prog w = .ok (.string ⟨b.toArray⟩) w := by
  obtain ⟨a', c', e, h1, h2, h3⟩ := h
  injection e with e1 e2 e3
  subst e1 e2 e3
  obtain ⟨off, rfl, hc⟩ := h3 hp
  exact run_convert_bytes_back (P := Try.prog) w 35 9 5 ⟨k, off, none⟩ c b Try.underlying35 Try.underlying5 Try.underlying9 (fun j hj => by rw [addr_add]; exact hc j hj)

theorem conv_same (w : World) (C : Array Value) (n c : Nat) : (convert 35 35 (.slice (some ⟨w.heap.size, 0, none⟩) n c)).run Try.prog (w.alloc (.cells C 5)) = .ok (.slice (some ⟨w.heap.size, 0, none⟩) n c) (w.alloc (.cells C 5 (C.size, C.size + 1))) :=
  Lib.run_convert_bytes_const w 35 5 C n c Try.underlying35 Try.underlying5
theorem lit_src (w : World) (l : List UInt8) (n : Nat) (row : Array Value) (fz : Nat × Nat) (hl : l.length = n) (hm : n ≤ maxLen) (hr : (rowB l).toArray = row) : Src (w.alloc (.cells row 5 fz)) w.heap.size (.slice (some ⟨w.heap.size, 0, none⟩) n n) l := by
  subst hr hl
  refine ⟨_, _, rfl, Nat.le_refl _, hm, fun _ => ⟨0, rfl, fun j hj => ?_⟩⟩
  have h := new_at w (.cells (rowB l).toArray 5 fz)
  have e : (rowB l).toArray[0 + j]? = some (bv l[j]) := by
    rw [Nat.zero_add, List.getElem?_toArray]
    unfold rowB
    rw [List.getElem?_map, List.getElem?_eq_getElem hj]; rfl
  unfold World.cell?
  rw [h]
  exact e

set_option maxRecDepth 100000 in
set_option maxHeartbeats 4000000 in
theorem alive_any (w : World) : Calls Try.prog 8 #[] w fun e w' => e = .returned (.bool true) ∧ Below w.heap.size w w' := by
  have hcs := conv_same
  go_enter Try.func8, Try.ntmps8
  go_wp2_with fail
  refine (new_m 10 _).mono ?_
  rintro e w1 ⟨mb, rfl, hb, hm, hB⟩
  have e0 : mst 10 = 10 := by decide
  rw [e0] at hm
  clear e0
  have HB : Hid (w.heap.size = mb) := hb
  clear hb
  go_wp2_with fail
  refine (newr_any mb _ hm.lt).mono ?_
  generalize hrr : w1.heap.size = r
  rintro e w2 ⟨rfl, R2, B2⟩
  have HR : Hid (w.heap.size ≤ r) := by rw [Hid, ← hrr]; exact hB.size
  have M2 := Below.isM B2 (hrr ▸ hm.lt) hm
  have C2 : Below w.heap.size w w2 := hB.trans (B2.mono HR.out)
  clear hm B2 hB hrr
  have hr2 := R2.lt r rfl
  have hm2 := M2.lt
  have B3 : Below w2.heap.size w2 (w2.alloc (.cells #[.int .u8 97, .int .u8 98, .int .u8 99, .int .u8 100, .int .u8 101, .int .u8 102] 5 (6, 7))) := (Below.refl _ _).alloc (Nat.le_refl _) _
  have P3 := put_yes r mb w2.heap.size _ [] [97, 98, 99, 100, 101, 102] (.slice (some ⟨w2.heap.size, 0, none⟩) 6 6) 10 0 0 (w2.alloc (.cells #[.int .u8 97, .int .u8 98, .int .u8 99, .int .u8 100, .int .u8 101, .int .u8 102] 5 (6, 7))) (R2.keep (Kp.ofBelow (T := fun _ => False) B3) (fun _ _ c => c)) (Below.isM B3 M2.lt M2) (lit_src w2 _ 6 _ _ rfl (by decide) rfl) (by simp) (by omega) (by omega) (by omega) (by omega) (by decide) (by decide)
  have HP3 : Hid (Calls Try.prog 12 #[.pointer (some ⟨r, 0, none⟩), .slice (some ⟨w2.heap.size, 0, none⟩) 6 6] (w2.alloc (.cells #[.int .u8 97, .int .u8 98, .int .u8 99, .int .u8 100, .int .u8 101, .int .u8 102] 5 (6, 7))) fun e w' => e = .returned (.bool true) ∧ ∃ S' : Nat → Prop, Rg w' r mb S' [97, 98, 99, 100, 101, 102] ∧ IsM w' mb 10 6 0 ∧ (∀ i, S' i → w.heap.size ≤ i) ∧ Below w.heap.size w w') := by
    refine P3.mono ?_
    rintro e w' ⟨rfl, S', q1, q2, q3, q4⟩
    have hrw := HR.out
    have hmw := HB.out
    have hw2 := C2.size
    refine ⟨rfl, S', q1, q2, fun i hi => ?_, (C2.trans (B3.mono C2.size)).trans (q4.below (Nat.le_trans C2.size B3.size) (fun k hk c => ?_))⟩
    · have hsz : w2.heap.size ≤ (w2.alloc (.cells #[.int .u8 97, .int .u8 98, .int .u8 99, .int .u8 100, .int .u8 101, .int .u8 102] 5 (6, 7))).heap.size := B3.size
      rcases q3 i hi with c | c
      · omega
      · omega
    · rcases c with c | c <;> omega
  clear P3 B3 R2 M2 C2
  go_wp2_with fail
  refine HP3.out.mono ?_
  rintro e w3 ⟨rfl, S3, R3, M3, F3, C3⟩
  clear HP3 hr2 hm2
  have HT := take_any3 r mb S3 [97, 98, 99, 100, 101, 102] 2 10 6 0 w3 R3 M3 (by omega) (by omega) (by omega) (by decide)
  have HT3 : Hid (Calls Try.prog 14 #[.pointer (some ⟨r, 0, none⟩), .int .i64 2] w3 fun e w' => ∃ g, e = .returned (.slice (some ⟨g, 0, none⟩) 2 2) ∧ Src w' g (.slice (some ⟨g, 0, none⟩) 2 2) [97, 98] ∧ Rg w' r mb S3 [99, 100, 101, 102] ∧ IsM w' mb 10 4 6 ∧ Below w.heap.size w w') := by
    refine HT.mono ?_
    rintro e w' ⟨rfl, q1, q2, q3, q4⟩
    have hmw := HB.out
    exact ⟨_, rfl, src_row (l := [97, 98]) q1 rfl (by decide), q2, q3, C3.trans (q4.below C3.size (fun k hk c => by rcases c with c | c; have := F3 k c; omega; omega))⟩
  clear HT R3 M3 C3
  go_wp2_with fail
  refine HT3.out.mono ?_
  rintro e w4 ⟨g4, rfl, S4, R4, M4, C4⟩
  clear HT3
  have hcb := conv_back S4 (by decide)
  clear S4
  have B5 : Below w4.heap.size w4 (w4.alloc (.cells #[.int .u8 48, .int .u8 49, .int .u8 50, .int .u8 51, .int .u8 52, .int .u8 53, .int .u8 54] 5 (7, 8))) := (Below.refl _ _).alloc (Nat.le_refl _) _
  have HP5 : Hid (Calls Try.prog 12 #[.pointer (some ⟨r, 0, none⟩), .slice (some ⟨w4.heap.size, 0, none⟩) 7 7] (w4.alloc (.cells #[.int .u8 48, .int .u8 49, .int .u8 50, .int .u8 51, .int .u8 52, .int .u8 53, .int .u8 54] 5 (7, 8))) fun e w' => e = .returned (.bool false) ∧ Rg w' r mb S3 [99, 100, 101, 102] ∧ IsM w' mb 10 4 6 ∧ Below w.heap.size w w') := by
    have R5 := R4.keep (Kp.ofBelow (T := fun _ => False) B5) (fun _ _ c => c)
    refine (put_no r mb S3 [99, 100, 101, 102] _ 7 7 10 4 6 _ R5 (Below.isM B5 M4.lt M4) (by omega) (by omega) (by omega) (by decide)).mono ?_
    rintro e w' ⟨rfl, q1, q2⟩
    have hmS := R4.nomb
    have hmw := HB.out
    exact ⟨rfl, R5.keep (Kp.ofBut (T := fun i => i = mb) q2 rfl) (fun i hi e => hmS (e ▸ hi)), q1, (C4.trans (B5.mono C4.size)).trans (q2.below (by omega))⟩
  clear B5 R4 M4 C4
  go_wp2_with fail
  refine HP5.out.mono ?_
  rintro e w6 ⟨rfl, R6, M6, C6⟩
  clear HP5 hcb
  have B7 : Below w6.heap.size w6 (w6.alloc (.cells #[.int .u8 48, .int .u8 49, .int .u8 50, .int .u8 51, .int .u8 52, .int .u8 53] 5 (6, 7))) := (Below.refl _ _).alloc (Nat.le_refl _) _
  have HP7 : Hid (Calls Try.prog 12 #[.pointer (some ⟨r, 0, none⟩), .slice (some ⟨w6.heap.size, 0, none⟩) 6 6] (w6.alloc (.cells #[.int .u8 48, .int .u8 49, .int .u8 50, .int .u8 51, .int .u8 52, .int .u8 53] 5 (6, 7))) fun e w' => e = .returned (.bool true) ∧ ∃ S' : Nat → Prop, Rg w' r mb S' [99, 100, 101, 102, 48, 49, 50, 51, 52, 53] ∧ IsM w' mb 10 10 6 ∧ (∀ i, S' i → w.heap.size ≤ i) ∧ Below w.heap.size w w') := by
    have hSl := R6.lt
    have hml := M6.lt
    have P7 := put_yes r mb w6.heap.size S3 [99, 100, 101, 102] [48, 49, 50, 51, 52, 53] (.slice (some ⟨w6.heap.size, 0, none⟩) 6 6) 10 4 6 (w6.alloc (.cells #[.int .u8 48, .int .u8 49, .int .u8 50, .int .u8 51, .int .u8 52, .int .u8 53] 5 (6, 7))) (R6.keep (Kp.ofBelow (T := fun _ => False) B7) (fun _ _ c => c)) (Below.isM B7 M6.lt M6) (lit_src w6 _ 6 _ _ rfl (by decide) rfl) (by simp) (fun c => Nat.lt_irrefl _ (hSl _ c)) (by omega) (by omega) (by omega) (by decide) (by decide)
    refine P7.mono ?_
    rintro e w' ⟨rfl, S', q1, q2, q3, q4⟩
    have hmw := HB.out
    have hsz : w6.heap.size ≤ (w6.alloc (.cells #[.int .u8 48, .int .u8 49, .int .u8 50, .int .u8 51, .int .u8 52, .int .u8 53] 5 (6, 7))).heap.size := B7.size
    have h6 := C6.size
    refine ⟨rfl, S', q1, q2, fun i hi => ?_, (C6.trans (B7.mono C6.size)).trans (q4.below (by omega) (fun k hk c => ?_))⟩
    · rcases q3 i hi with c | c
      · exact F3 i c
      · omega
    · rcases c with c | c
      · have := F3 k c; omega
      · omega
  clear B7 R6 M6 C6
  go_wp2_with fail
  refine HP7.out.mono ?_
  rintro e w8 ⟨rfl, S8, R8, M8, F8, C8⟩
  clear HP7
  have HP8 : Hid (Calls Try.prog 16 #[.pointer (some ⟨r, 0, none⟩), .int .i64 5] w8 fun e w' => ∃ g, e = .returned (.slice (some ⟨g, 0, none⟩) 5 5) ∧ Src w' g (.slice (some ⟨g, 0, none⟩) 5 5) [99, 100, 101, 102, 48] ∧ Rg w' r mb S8 [99, 100, 101, 102, 48, 49, 50, 51, 52, 53] ∧ IsM w' mb 10 10 6 ∧ Below w.heap.size w w') := by
    refine (peek_any r mb S8 [99, 100, 101, 102, 48, 49, 50, 51, 52, 53] 5 w8 R8 (by decide)).mono ?_
    rintro e w' ⟨rfl, q1, q2⟩
    exact ⟨_, rfl, src_row (l := [99, 100, 101, 102, 48]) q1 rfl (by decide), R8.keep (Kp.ofBelow (T := fun _ => False) q2) (fun _ _ c => c), Below.isM q2 M8.lt M8, C8.trans (q2.mono C8.size)⟩
  clear R8 M8 C8
  go_wp2_with fail
  refine HP8.out.mono ?_
  rintro e w9 ⟨g9, rfl, S9, R9, M9, C9⟩
  clear HP8
  have hcb := conv_back S9 (by decide)
  clear S9
  have HL : Hid (Calls Try.prog 20 #[.pointer (some ⟨r, 0, none⟩)] w9 fun e w' => e = .returned (.int .i64 10) ∧ w' = w9) := len_any r mb S8 [99, 100, 101, 102, 48, 49, 50, 51, 52, 53] w9 R9
  clear R9
  go_wp2_with fail
  refine HL.out.mono ?_
  rintro e w10 ⟨rfl, rfl⟩
  clear HL
  go_wp2_with fail
  refine (held_q mb 10 10 6 _ M9).mono ?_
  rintro e w11 ⟨rfl, rfl⟩
  go_wp2
  go_ret
  exact ⟨rfl, C9⟩
end Go.Proofs.Ytdifcagmkkccoaa
