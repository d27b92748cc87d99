/- Whatever the numbers, RingFull answers true: a ring takes as much as the meter has room for, and not one byte more; no condition. -/
import Derived.Test.YtdifcagmkkccoaaRows
import Derived.WalkKit
import Derived.ProofKit
import Derived.OpenShut
import Derived.Test.YtdifcagmkkccoaaRingG
namespace Go.Proofs.Ytdifcagmkkccoaa.ringFull
open Go.ChangeShapes Go.WideShapes Go.ChangeAt Go.RowKit
set_option linter.unusedVariables false

theorem own : ownKnob Try.prog.godebug = none := by kernel_rfl
theorem and_mask (n : Int) (m : Nat) (hm : m < 9223372036854775808) : ∃ k : Nat, k ≤ m ∧ bits .and .i64 n (m : Int) = (k : Int) := by
  have h2 : (BitVec.ofInt 64 (m : Int)).toNat = m := by
    rw [BitVec.ofInt_natCast, BitVec.toNat_ofNat]; exact Nat.mod_eq_of_lt (by omega)
  have hk : (BitVec.ofInt 64 n &&& BitVec.ofInt 64 (m : Int)).toNat ≤ m := by
    rw [BitVec.toNat_and, h2]; exact Nat.and_le_right
  refine ⟨(BitVec.ofInt 64 n &&& BitVec.ofInt 64 (m : Int)).toNat, hk, ?_⟩
  show IntKind.i64.wrap ((BitVec.ofInt 64 n &&& BitVec.ofInt 64 (m : Int)).toNat : Int) = _
  rw [IntKind.wrap_i64]
  generalize (BitVec.ofInt 64 n &&& BitVec.ofInt 64 (m : Int)).toNat = k at *
  omega

/-- Two rings with so many bytes. -/
def Two (w0 w : World) (mb a b x y : Nat) (m p : Int) : Prop := ∃ F X Y, X.length = x ∧ Y.length = y ∧ Many F w0 w mb [a, b] [X, Y] m p
def zrow (k : Nat) : Array Value := (rowB (List.replicate k 0)).toArray
section
variable {w0 w : World} {mb a b x y : Nat} {m p : Int}
theorem Two.isM (h : Two w0 w mb a b x y m p) : IsM w mb m ((x : Int) + y) p := by
  obtain ⟨U, X, Y, rfl, rfl, h⟩ := h
  have := h.isM
  rw [show ((tot [X, Y] : Nat) : Int) = (X.length : Int) + Y.length by simp [tot]] at this
  exact this
theorem Two.drewN (h : Two w0 w mb a b x y m p) (n : Nat) : Two w0 (w.drewN n) mb a b x y m p := by
  obtain ⟨U, X, Y, h1, h2, h⟩ := h; exact ⟨U, X, Y, h1, h2, h.drewN n⟩
theorem Two.bel (h : Two w0 w mb a b x y m p) : Below w0.heap.size w0 w := by obtain ⟨U, X, Y, h1, h2, h⟩ := h; exact h.bel
theorem two_put (i r : Nat) (row : List UInt8) (k : Nat) (hk : row.length = k) (hm : k ≤ maxLen) (h : Two w0 w mb a b x y m p) (hi : [a, b][i]? = some r) (C : Array Value) (hC : (rowB row).toArray = C) :
    Calls Try.prog 12 #[.pointer (some ⟨r, 0, none⟩), .slice (some ⟨w.heap.size, 0, none⟩) k k] (w.alloc (.cells C 5)) fun e w' =>
      e = .returned (.bool (decide ((x : Int) + y + k ≤ m))) ∧ Two w0 w' mb a b (if i = 0 ∧ (x : Int) + y + k ≤ m then x + k else x) (if i ≠ 0 ∧ (x : Int) + y + k ≤ m then y + k else y) m p := by
  subst hC
  obtain ⟨U, X, Y, rfl, rfl, h⟩ := h
  have e1 : ((tot [X, Y] : Nat) : Int) = (X.length : Int) + Y.length := by simp [tot]
  have hi2 : i = 0 ∨ i = 1 := by
    have := (List.getElem?_eq_some_iff.1 hi).1
    simp at this; omega
  rcases hi2 with rfl | rfl
  · refine (many_put 0 r w.heap.size X row _ (h.alloc _) hi rfl (src_row (new_at _ _) hk hm) (.inr rfl)).mono ?_
    rintro e w' ⟨rfl, q1, q2, q3⟩
    rw [hk, e1] at q1
    rw [hk, e1]
    refine ⟨rfl, ?_⟩
    by_cases c : (X.length : Int) + Y.length + k ≤ m
    · rw [if_pos c] at q1
      rw [if_pos ⟨rfl, c⟩, if_neg (fun q => q.1 rfl)]
      exact ⟨_, X ++ row, Y, by rw [List.length_append, hk], rfl, q1⟩
    · rw [if_neg c] at q1
      rw [if_neg (fun q => c q.2), if_neg (fun q => c q.2)]
      exact ⟨_, X, Y, rfl, rfl, q1⟩
  · refine (many_put 1 r w.heap.size Y row _ (h.alloc _) hi rfl (src_row (new_at _ _) hk hm) (.inr rfl)).mono ?_
    rintro e w' ⟨rfl, q1, q2, q3⟩
    rw [hk, e1] at q1
    rw [hk, e1]
    refine ⟨rfl, ?_⟩
    by_cases c : (X.length : Int) + Y.length + k ≤ m
    · rw [if_pos c] at q1
      rw [if_neg (fun q => absurd q.1 (by decide)), if_pos ⟨by decide, c⟩]
      exact ⟨_, X, Y ++ row, rfl, by rw [List.length_append, hk], q1⟩
    · rw [if_neg c] at q1
      rw [if_neg (fun q => c q.2), if_neg (fun q => c q.2)]
      exact ⟨_, X, Y, rfl, rfl, q1⟩
theorem two_put_no (i r : Nat) (row : List UInt8) (k : Nat) (hk : row.length = k) (hm : k ≤ maxLen) (h : Two w0 w mb a b x y m p) (hi : [a, b][i]? = some r) (C : Array Value) (hC : (rowB row).toArray = C) (hn : m < (x : Int) + y + k) :
    Calls Try.prog 12 #[.pointer (some ⟨r, 0, none⟩), .slice (some ⟨w.heap.size, 0, none⟩) k k] (w.alloc (.cells C 5)) fun e w' => e = .returned (.bool false) ∧ Two w0 w' mb a b x y m p := by
  have := two_put i r row k hk hm h hi C hC
  rw [decide_eq_false (by omega), if_neg (fun q => by have := q.2; omega), if_neg (fun q => by have := q.2; omega)] at this
  exact this
theorem two_puta (row : List UInt8) (k : Nat) (hk : row.length = k) (hm : k ≤ maxLen) (h : Two w0 w mb a b x y m p) (C : Array Value) (hC : (rowB row).toArray = C) (hn : (x : Int) + y + k ≤ m) (x' : Nat) (hx : x + k = x') :
    Calls Try.prog 12 #[.pointer (some ⟨a, 0, none⟩), .slice (some ⟨w.heap.size, 0, none⟩) k k] (w.alloc (.cells C 5)) fun e w' => e = .returned (.bool true) ∧ Two w0 w' mb a b x' y m p := by
  have := two_put 0 a row k hk hm h rfl C hC
  rw [decide_eq_true hn, if_pos ⟨rfl, hn⟩, if_neg (fun q => q.1 rfl), hx] at this
  exact this
theorem two_putb (row : List UInt8) (k : Nat) (hk : row.length = k) (hm : k ≤ maxLen) (h : Two w0 w mb a b x y m p) (C : Array Value) (hC : (rowB row).toArray = C) (hn : (x : Int) + y + k ≤ m) (y' : Nat) (hy : y + k = y') :
    Calls Try.prog 12 #[.pointer (some ⟨b, 0, none⟩), .slice (some ⟨w.heap.size, 0, none⟩) k k] (w.alloc (.cells C 5)) fun e w' => e = .returned (.bool true) ∧ Two w0 w' mb a b x y' m p := by
  have := two_put 1 b row k hk hm h rfl C hC
  rw [decide_eq_true hn, if_neg (fun q => absurd q.1 (by decide)), if_pos ⟨by decide, hn⟩, hy] at this
  exact this
theorem two_lena (h : Two w0 w mb a b x y m p) : Calls Try.prog 20 #[.pointer (some ⟨a, 0, none⟩)] w fun e w' => e = .returned (.int .i64 x) ∧ w' = w := by
  obtain ⟨U, X, Y, rfl, rfl, h⟩ := h; exact many_len 0 a X h rfl rfl
theorem two_lenb (h : Two w0 w mb a b x y m p) : Calls Try.prog 20 #[.pointer (some ⟨b, 0, none⟩)] w fun e w' => e = .returned (.int .i64 y) ∧ w' = w := by
  obtain ⟨U, X, Y, rfl, rfl, h⟩ := h; exact many_len 1 b Y h rfl rfl
theorem two_dropa (h : Two w0 w mb a b x y m p) (p' : Int) (hp : gvP ((x : Int) + y) p x = p') : Calls Try.prog 17 #[.pointer (some ⟨a, 0, none⟩)] w fun e w' => e = .returned (.int .i64 x) ∧ Two w0 w' mb a b 0 y m p' := by
  obtain ⟨U, X, Y, rfl, rfl, h⟩ := h
  refine (many_drop 0 a X h rfl rfl).mono ?_
  rintro e w' ⟨rfl, q1, q2, q3⟩
  have e1 : ((tot [X, Y] : Nat) : Int) = (X.length : Int) + Y.length := by simp [tot]
  rw [e1, hp] at q1
  exact ⟨rfl, _, [], Y, rfl, rfl, q1⟩
theorem two_dropb (h : Two w0 w mb a b x y m p) (p' : Int) (hp : gvP ((x : Int) + y) p y = p') : Calls Try.prog 17 #[.pointer (some ⟨b, 0, none⟩)] w fun e w' => e = .returned (.int .i64 y) ∧ Two w0 w' mb a b x 0 m p' := by
  obtain ⟨U, X, Y, rfl, rfl, h⟩ := h
  refine (many_drop 1 b Y h rfl rfl).mono ?_
  rintro e w' ⟨rfl, q1, q2, q3⟩
  have e1 : ((tot [X, Y] : Nat) : Int) = (X.length : Int) + Y.length := by simp [tot]
  rw [e1, hp] at q1
  exact ⟨rfl, _, X, [], rfl, rfl, q1⟩
theorem two_room (h : Two w0 w mb a b x y m p) (q : Nat) (hq : m - ((x : Int) + y) = q) (h2 : m ≤ 1099511627776) : Calls Try.prog 21 #[.pointer (some ⟨mb, 0, none⟩)] w fun e w' => e = .returned (.int .i64 q) ∧ Two w0 w' mb a b x y m p := by
  refine (room_q mb m _ p w h.isM (by omega) (by omega) h2).mono ?_
  rintro e w' ⟨rfl, k, rfl⟩
  exact ⟨by rw [hq], h.drewN k⟩
end
theorem make_z (w : World) (n : Nat) (h : n ≤ 281474976710656) : (Instr.makeSlice 35 (.int .i64 (n : Int)) (.int .i64 (n : Int))).run Try.prog w = .ok (.slice (some ⟨w.heap.size, 0, none⟩) n n) (w.alloc (.cells (zrow n) 5)) := make_bytes w n h

set_option maxRecDepth 100000 in
set_option maxHeartbeats 8000000 in
theorem walk (most n : Int) (w : World) : Calls Try.prog 5 #[.int .i64 most, .int .i64 n] w fun e w' => e = .returned (.bool true) ∧ Below w.heap.size w w' := by
  obtain ⟨M, hM, hbM0⟩ := and_mask most 1023 (by decide)
  obtain ⟨N, hN, hbN0⟩ := and_mask n 1023 (by decide)
  have hbM : bits BinOp.and IntKind.i64 most 1023 = (M : Int) := hbM0
  have hbN : bits BinOp.and IntKind.i64 n 1023 = (N : Int) := hbN0
  clear hbM0 hbN0
  have hms : mst (M : Int) = M := by unfold mst; omega
  have hmk := fun w => make_z w N (by omega)
  go_enter Try.func5, Try.ntmps5
  go_wp2_with fail
  refine (alive_any _).mono ?_
  rintro e w1 ⟨rfl, B1⟩
  go_wp2_with fail
  refine (new_m (M : Int) _).mono ?_
  rw [hms]
  rintro e w2 ⟨mb, rfl, hb2, M2, B2⟩
  have C2 := B1.trans (B2.mono B1.size)
  have T0 := many_start (w0 := w) M2 (by omega) (by omega) (by have := B1.size; omega) C2
  clear B1 B2 hb2 C2 hms
  go_wp2_with fail
  refine (many_new T0).mono ?_
  rintro e w3 ⟨a, rfl, hra, T1, B3⟩
  clear hra T0 B3
  go_wp2_with fail
  refine (many_new T1).mono ?_
  rintro e w4 ⟨b, rfl, hrb, T2, B4⟩
  have W4 : Two w w4 mb a b 0 0 (M : Int) 0 := ⟨_, [], [], rfl, rfl, T2⟩
  clear hrb T1 B4 T2 M2
  obtain ⟨x, hx⟩ : ∃ x, x = if N ≤ M then N else 0 := ⟨_, rfl⟩
  have hxM : x ≤ M := by rw [hx]; split <;> omega
  have HP : Hid (Calls Try.prog 12 #[.pointer (some ⟨a, 0, none⟩), .slice (some ⟨w4.heap.size, 0, none⟩) N N] (w4.alloc (.cells (zrow N) 5)) fun e w' => e = .returned (.bool (decide ((N : Int) ≤ (M : Int)))) ∧ Two w w' mb a b x 0 (M : Int) 0) := by
    by_cases c : N ≤ M
    · rw [decide_eq_true (by omega), hx, if_pos c]
      exact two_puta (List.replicate N 0) N (by simp) (by unfold maxLen; omega) W4 _ rfl (by omega) N (by omega)
    · rw [decide_eq_false (by omega), hx, if_neg c]
      exact two_put_no 0 a (List.replicate N 0) N (by simp) (by unfold maxLen; omega) W4 rfl _ rfl (by omega)
  clear W4 hx
  go_wp2_with fail
  refine HP.out.mono ?_
  rintro e w5 ⟨rfl, W5⟩
  clear HP hmk
  have HR : Hid (Calls Try.prog 21 #[.pointer (some ⟨mb, 0, none⟩)] w5 fun e w' => e = .returned (.int .i64 ((M - x : Nat) : Int)) ∧ Two w w' mb a b x 0 (M : Int) 0) := two_room W5 (M - x) (by omega) (by omega)
  clear W5
  go_wp2_with fail
  refine HR.out.mono ?_
  rintro e w6 ⟨rfl, W6⟩
  clear HR
  generalize hq : M - x = q at *
  have HQ : Hid (M - x = q) := hq
  clear hq
  have hmk1 : ∀ w : World, (Instr.makeSlice 35 (.int .i64 ((q : Int) + 1)) (.int .i64 ((q : Int) + 1))).run Try.prog w = .ok (.slice (some ⟨w.heap.size, 0, none⟩) (q + 1) (q + 1)) (w.alloc (.cells (zrow (q + 1)) 5)) := fun w => make_z w (q + 1) (by have := HQ.out; omega)
  have hmk2 := fun w => make_z w q (by have := HQ.out; omega)
  have hqm : (q : Int) + 1 ≤ 1024 := by have := HQ.out; omega
  have HP : Hid (Calls Try.prog 12 #[.pointer (some ⟨b, 0, none⟩), .slice (some ⟨w6.heap.size, 0, none⟩) (q + 1) (q + 1)] (w6.alloc (.cells (zrow (q + 1)) 5)) fun e w' => e = .returned (.bool false) ∧ Two w w' mb a b x 0 (M : Int) 0) :=
    two_put_no 1 b (List.replicate (q + 1) 0) (q + 1) (by simp) (by unfold maxLen; omega) W6 rfl _ rfl (by have := HQ.out; omega)
  clear W6
  go_wp2_with fail
  refine HP.out.mono ?_
  rintro e w7 ⟨rfl, W7⟩
  clear HP hmk1
  have HP : Hid (Calls Try.prog 12 #[.pointer (some ⟨b, 0, none⟩), .slice (some ⟨w7.heap.size, 0, none⟩) q q] (w7.alloc (.cells (zrow q) 5)) fun e w' => e = .returned (.bool true) ∧ Two w w' mb a b x q (M : Int) 0) :=
    two_putb (List.replicate q 0) q (by simp) (by unfold maxLen; omega) W7 _ rfl (by have := HQ.out; omega) q (by omega)
  clear W7
  go_wp2_with fail
  refine HP.out.mono ?_
  rintro e w8 ⟨rfl, W8⟩
  clear HP hmk2
  have HP : Hid (Calls Try.prog 12 #[.pointer (some ⟨a, 0, none⟩), .slice (some ⟨w8.heap.size, 0, none⟩) 1 1] (w8.alloc (.cells #[.int .u8 1] 5)) fun e w' => e = .returned (.bool false) ∧ Two w w' mb a b x q (M : Int) 0) :=
    two_put_no 0 a [1] 1 rfl (by decide) W8 rfl _ rfl (by have := HQ.out; omega)
  clear W8
  go_wp2_with fail
  refine HP.out.mono ?_
  rintro e w9 ⟨rfl, W9⟩
  clear HP
  go_wp2_with fail
  refine (two_lena W9).mono ?_
  rintro e w10 ⟨rfl, rfl⟩
  obtain ⟨p1, hp1⟩ : ∃ p1, gvP ((x : Int) + q) 0 x = p1 := ⟨_, rfl⟩
  have HP1 : Hid (gvP ((x : Int) + q) 0 x = p1) := hp1
  clear hp1
  go_wp2_with fail
  refine (two_dropa W9 p1 HP1.out).mono ?_
  rintro e w11 ⟨rfl, W11⟩
  clear W9
  have HR : Hid (Calls Try.prog 21 #[.pointer (some ⟨mb, 0, none⟩)] w11 fun e w' => e = .returned (.int .i64 (x : Int)) ∧ Two w w' mb a b 0 q (M : Int) p1) := two_room W11 x (by have := HQ.out; omega) (by omega)
  clear W11
  go_wp2_with fail
  refine HR.out.mono ?_
  rintro e w12 ⟨rfl, W12⟩
  clear HR
  have hmk3 := fun w => make_z w x (by omega)
  have HP : Hid (Calls Try.prog 12 #[.pointer (some ⟨b, 0, none⟩), .slice (some ⟨w12.heap.size, 0, none⟩) x x] (w12.alloc (.cells (zrow x) 5)) fun e w' => e = .returned (.bool true) ∧ Two w w' mb a b 0 M (M : Int) p1) :=
    two_putb (List.replicate x 0) x (by simp) (by unfold maxLen; omega) W12 _ rfl (by have := HQ.out; omega) M (by have := HQ.out; omega)
  clear W12
  go_wp2_with fail
  refine HP.out.mono ?_
  rintro e w13 ⟨rfl, W13⟩
  clear HP hmk3
  go_wp2_with fail
  refine (two_lenb W13).mono ?_
  rintro e w14 ⟨rfl, rfl⟩
  have HR : Hid (Calls Try.prog 21 #[.pointer (some ⟨mb, 0, none⟩)] w14 fun e w' => e = .returned (.int .i64 ((0 : Nat) : Int)) ∧ Two w w' mb a b 0 M (M : Int) p1) := two_room W13 0 (by omega) (by omega)
  clear W13
  go_wp2_with fail
  refine HR.out.mono ?_
  rintro e w15 ⟨rfl, W15⟩
  clear HR
  obtain ⟨p2, hp2⟩ : ∃ p2, gvP (((0 : Nat) : Int) + M) p1 M = p2 := ⟨_, rfl⟩
  have HP2 : Hid (gvP (((0 : Nat) : Int) + M) p1 M = p2) := hp2
  clear hp2
  go_wp2_with fail
  refine (two_dropb W15 p2 HP2.out).mono ?_
  rintro e w16 ⟨rfl, W16⟩
  clear W15
  have W17 : IsM w16 mb (M : Int) 0 p2 := W16.isM
  have hpk : (if (0 : Int) ≤ p2 then p2 else 0) = M := by
    have h1 := HP1.out
    have h2 := HP2.out
    have h3 := HQ.out
    unfold gvP pst at h1 h2
    revert h1 h2
    split <;> split <;> (try split) <;> (try split) <;> (try split) <;> intro h1 h2 <;> (try split) <;> omega
  have HK : Hid ((if (0 : Int) ≤ p2 then p2 else 0) = M) := hpk
  have C16 := W16.bel
  clear hpk W16
  go_wp2_with fail
  refine (held_q mb _ _ _ _ W17).mono ?_
  rintro e w17 ⟨rfl, rfl⟩
  go_wp2_with fail
  refine (peak_q mb _ _ _ (M : Int) _ W17 HK.out).mono ?_
  rintro e w18 ⟨rfl, rfl⟩
  clear HK HP1 HP2 HQ
  go_wp2
  go_ret
  exact ⟨rfl, C16⟩

set_option maxRecDepth 100000 in
theorem lifted (os : Os) (started : os.Started) (H : Type) (enc : TypeId × Value → H) :
    ReturnsInHanded {} Try.checked os 5 .any (Rows.ringFullSpec.pre6 enc Try.prog Try.f5 Rows.ringFullRow.domain false) (Rows.ringFullSpec.post enc Try.prog Try.f5 false true false false) := by
  refine returnsInHanded_of_change (C := Try.checked) own started (by kernel_rfl) Try.func5
    (ChangeSpec.witness6 (enc := enc) (C := Try.checked) false ⟨#[], #[.int .i64 0, .int .i64 0], []⟩ 8 (by kernel_rfl) (by kernel_rfl) (by kernel_rfl) (by kernel_rfl)) ?_
  intro W base args ds gs before hval0 hW hcnd _
  have hval : ∀ (j : Nat) t v, Try.f5.params[j]? = some t → args[j]? = some v → Value.okWide Try.prog W .any base t v := hval0
  have hW' := hW
  obtain ⟨p, q, hA0, hV, rfl, hfz, hnd⟩ := hW
  have hA : DataW.TrodAll enc Try.prog W 0 (fun _ => true) true Try.f5.params.toList args.toList ds p := hA0
  rw [Try.params5] at hA hval
  obtain ⟨v0, vs0, d0, ds0, p0, q0, hargs, rfl, rfl, h0, r0⟩ := trodAll_cons hA
  obtain ⟨v1, vs1, d1, ds1, p1, q1, rfl, rfl, rfl, h1, r1⟩ := trodAll_cons r0
  obtain ⟨rfl, rfl, rfl⟩ := trodAll_nil r1
  obtain rfl : args = #[v0, v1] := by cases args; simp_all
  obtain ⟨rfl, rfl⟩ := trodVars_none hV
  obtain ⟨a0, rfl, rfl, rfl, w0⟩ := open_int Try.underlying3 (hval 0 3 v0 rfl rfl) h0
  obtain ⟨a1, rfl, rfl, rfl, w1⟩ := open_int Try.underlying3 (hval 1 3 v1 rfl rfl) h1
  clear hA0 hval0
  refine (walk a0 a1 W).mono fun e W' ⟨he, bel⟩ => ?_
  subst he
  exact ⟨_, rfl, _, _, _, [], _, [], hW', trodAll_mk1 (shut_bool Try.underlying4 _), (trodAll_cons_mk (shut_int Try.underlying3 w0) (trodAll_cons_mk (shut_int Try.underlying3 w1) trodAll_mk0)), rfl, bel.frame _, fun h => by cases h⟩

theorem over : Rows.ringFullRow.holds Try.pinned (OpenSpec.ofChange Rows.ringFullSpec) :=
  OpenClaim.holds_of_wide 5 Try.f5 rfl rfl rfl rfl rfl rfl rfl ⟨rfl, rfl, rfl, rfl, rfl⟩ rfl rfl rfl rfl rfl (by kernel_rfl) Try.func5 (by kernel_rfl)
    (of_decide_eq_true (by kernel_rfl)) (by unfold Func.isWrapper; first | (rw [if_pos (by decide +kernel)]; kernel_rfl) | (rw [if_neg (by decide +kernel)]; exact ⟨rfl, rfl⟩))
    (fun os started H enc _ => lifted os started H enc)

end Go.Proofs.Ytdifcagmkkccoaa.ringFull
namespace Go.Proofs.Ytdifcagmkkccoaa
/-- The statement. -/
theorem ringFull_holds : Rows.RingFullSaid := ringFull.over
#print axioms ringFull_holds
end Go.Proofs.Ytdifcagmkkccoaa
