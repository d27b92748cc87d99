/- What tells lines. -/
import Derived.Test.YthbjdbookiejeabGreatDoorLnE
import Derived.Test.YthbjdbookiejeabGreatDoorShFmt
import Derived.Lib.AppendIntMem
import Derived.Lib.LaidTab
import Derived.LaidSub
import Derived.MakeChecks
namespace Go.Proofs.YthbjdbookiejeabGreatDoor
open Go.RowKit
set_option linter.unusedVariables false

/-- The table that the telling of a number reads. -/
structure PowT (w : World) : Prop where
  pow : Lib.TabIs Tryz.prog w "internal/strconv.uint64pow10" .u64 Lib.pow10Tab
  lt : 1 < w.heap.size
theorem gPow : Tryz.prog.globalNamed "internal/strconv.uint64pow10" = some 1 := by kernel_rfl
theorem PowT.below {w w' : World} (h : PowT w) (b : Below w.heap.size w w') : PowT w' := ⟨var?_below b gPow h.lt h.pow, Nat.lt_of_lt_of_le h.lt b.size⟩
def itoaS (n : Int) : ByteArray := ⟨(Lib.itoa n).toArray⟩
theorem text_any (n : Int) (h0 : -9223372036854775808 ≤ n) (h1 : n ≤ 9223372036854775807) (w : World) (ht : PowT w) :
    Calls Tryz.prog 43 #[.int .i64 n] w fun e w' => e = .returned (.string (itoaS n)) ∧ Below w.heap.size w w' := by
  have HP : Hid (Lib.TabIs Tryz.prog w "internal/strconv.uint64pow10" .u64 Lib.pow10Tab) := ht.pow
  clear ht
  go_enter Tryz.func43, Tryz.ntmps43
  go_wp2_with fail
  refine (Tryz.strconv_FormatInt_10 n h0 h1 _ HP.out).mono ?_
  rintro e w1 ⟨rfl, k, os, hw⟩
  have hB : Below w.heap.size w w1 := by rw [hw]; exact Lib.below_grow _ w (Nat.le_refl _) k os
  clear hw
  go_wp2
  go_ret
  exact ⟨rfl, hB⟩
theorem lcat_size (a b : ByteArray) : (a ++ b).size = a.size + b.size := by rw [ByteArray.size_append]
theorem lcat_run (W : World) (a b : ByteArray) (h : a.size + b.size ≤ 281474976710656) : (Op.stringOp .add a b).run Tryz.prog W = .ok (.string (a ++ b)) W :=
  run_string_add_sum W a b (by omega)
def verT (m : Int) : ByteArray := ⟨#[72, 84, 84, 80, 47, 49, 46]⟩ ++ itoaS m
theorem version_any (n : Int) (h0 : -9223372036854775808 ≤ n) (h1 : n ≤ 9223372036854775807) (hi : (itoaS n).size ≤ 21) (w : World) (ht : PowT w) :
    Calls Tryz.prog 86 #[.int .i64 n] w fun e w' => e = .returned (.string (verT n)) ∧ Below w.heap.size w w' := by
  have H : Hid (∀ W, Below w.heap.size w W → Calls Tryz.prog 43 #[.int .i64 n] W fun e w' => e = .returned (.string (itoaS n)) ∧ Below W.heap.size W w') := fun W b => text_any n h0 h1 W (ht.below b)
  have hw : IntKind.i64.wrap n = n := by simp [IntKind.wrap, IntKind.bits, IntKind.signed]; omega
  have hc := fun W : World => lcat_run W ⟨#[72, 84, 84, 80, 47, 49, 46]⟩ (itoaS n) (by show 7 + _ ≤ _; omega)
  clear h0 h1 ht hi
  unfold verT
  generalize itoaS n = t at *
  have B0 := Below.refl w.heap.size w
  go_enter Tryz.func86, Tryz.ntmps86
  go_wp2_with fail
  refine (H.out _ B0).mono ?_
  rintro e w1 ⟨rfl, B1⟩
  go_wp2
  go_ret
  exact ⟨rfl, B1⟩

/-- A request's line. -/
def reqT (m t v : ByteArray) : ByteArray := m ++ ⟨#[32]⟩ ++ t ++ ⟨#[32]⟩ ++ v ++ ⟨#[13, 10]⟩
structure PI (w : World) (o : Obj) (W : World) : Prop where
  below : Below w.heap.size w W
  own : W.heap[w.heap.size]? = some o
theorem PI.drew {w W : World} {o : Obj} (h : PI w o W) : PI w o W.drew := ⟨h.below.drew, h.own⟩
theorem PI.next {w W W' : World} {o : Obj} (h : PI w o W) (k : Below W.heap.size W W') : PI w o W' := ⟨h.below.trans (k.mono h.below.size), tblk_below h.own k⟩
theorem PI.new (w : World) (o : Obj) : PI w o (w.alloc o) := ⟨(Below.refl _ _).alloc (Nat.le_refl _) _, tblk_new w o⟩

set_option maxRecDepth 100000 in
set_option maxHeartbeats 2000000 in
theorem reqline_any {f1 f2 : Option Addr} {l1 k1 l2 k2 : Nat} (m t : ByteArray) (n : Int) (h0 : -9223372036854775808 ≤ n) (h1 : n ≤ 9223372036854775807) (hi : (itoaS n).size ≤ 21) (w : World) (ht : PowT w) (hm : m.size ≤ 4294967296) (hl : t.size ≤ 4294967296) :
    Calls Tryz.prog 49 #[.agg #[.string m, .string t, .int .i64 n, .slice f1 l1 k1, .slice f2 l2 k2]] w fun e w' => e = .returned (.string (reqT m t (verT n))) ∧ Below w.heap.size w w' := by
  have hv : (verT n).size ≤ 28 := by unfold verT; rw [lcat_size]; show 7 + _ ≤ _; omega
  have H : Hid (∀ W, PI w (.cells #[.string m, .string t, .int .i64 n, .slice f1 l1 k1, .slice f2 l2 k2] 26) W → Calls Tryz.prog 86 #[.int .i64 n] W fun e w' => e = .returned (.string (verT n)) ∧ PI w (.cells #[.string m, .string t, .int .i64 n, .slice f1 l1 k1, .slice f2 l2 k2] 26) w' ∧ w'.cell? ⟨w.heap.size, 0, none⟩ = some (.string m) ∧ w'.cell? ⟨w.heap.size, 1, none⟩ = some (.string t) ∧ w'.cell? ⟨w.heap.size, 2, none⟩ = some (.int .i64 n)) := fun W i => (version_any n h0 h1 hi W (ht.below i.below)).mono fun e w' z => ⟨z.1, i.next z.2, tblk_cell (i.next z.2).own rfl, tblk_cell (i.next z.2).own rfl, tblk_cell (i.next z.2).own rfl⟩
  generalize verT n = v at *
  have c1 := fun W : World => lcat_run W m ⟨#[32]⟩ (by show _ + 1 ≤ _; omega)
  have c2 := fun W : World => lcat_run W (m ++ ⟨#[32]⟩) t (by rw [lcat_size]; show _ + 1 + _ ≤ _; omega)
  have c3 := fun W : World => lcat_run W (m ++ ⟨#[32]⟩ ++ t) ⟨#[32]⟩ (by rw [lcat_size, lcat_size]; show _ + 1 + _ + 1 ≤ _; omega)
  have c4 := fun W : World => lcat_run W (m ++ ⟨#[32]⟩ ++ t ++ ⟨#[32]⟩) v (by rw [lcat_size, lcat_size, lcat_size]; show _ + 1 + _ + 1 + _ ≤ _; omega)
  have c5 := fun W : World => lcat_run W (m ++ ⟨#[32]⟩ ++ t ++ ⟨#[32]⟩ ++ v) ⟨#[13, 10]⟩ (by rw [lcat_size, lcat_size, lcat_size, lcat_size]; show _ + 1 + _ + 1 + _ + 2 ≤ _; omega)
  have I0 := PI.new w (.cells #[.string m, .string t, .int .i64 n, .slice f1 l1 k1, .slice f2 l2 k2] 26)
  clear h0 h1 ht hi hm hl hv
  unfold reqT
  go_enter Tryz.func49, Tryz.ntmps49
  go_wp2_with fail
  go_region_held3 (fun W => W.cell? ⟨w.heap.size, 0, none⟩ = some (.string m) ∧ W.cell? ⟨w.heap.size, 1, none⟩ = some (.string t) ∧ W.cell? ⟨w.heap.size, 2, none⟩ = some (.int .i64 n)) (go_keep) (first | (go_at_call 86; refine (H.out _ (by first | assumption | exact PI.drew I0 | exact PI.drew (by assumption))).mono ?_; rintro e w' ⟨rfl, hI, hS0, hS1, hS2⟩))
  go_wp2
  go_ret
  exact ⟨rfl, hI.below⟩

set_option maxHeartbeats 1000000 in
theorem codetext_any (n : Int) (h0 : -9223372036854775808 ≤ n) (h1 : n ≤ 9223372036854775807) (hi : (itoaS n).size = 3) (hn : hasP (itoaS n) ⟨#[45]⟩ = false) (w : World) (ht : PowT w) :
    Calls Tryz.prog 87 #[.int .i64 n] w fun e w' => e = .returned (.string (itoaS n)) ∧ Below w.heap.size w w' := by
  have H : Hid (∀ W, Below w.heap.size w W → Calls Tryz.prog 43 #[.int .i64 n] W fun e w' => e = .returned (.string (itoaS n)) ∧ Below W.heap.size W w') := fun W b => text_any n h0 h1 W (ht.below b)
  have hw : IntKind.i64.wrap n = n := by simp [IntKind.wrap, IntKind.bits, IntKind.signed]; omega
  have HC : Hid (∀ W, Calls Tryz.prog 89 #[.string (itoaS n), .string ⟨#[45]⟩] W fun e w' => e = .returned (.tuple #[.string (itoaS n), .bool false]) ∧ w' = W) := fun W => by
    have k := cutprefix_any (itoaS n) ⟨#[45]⟩ W
    unfold cutP at k
    rw [hn, if_neg (by decide)] at k
    exact k
  have hc := fun W : World => lcat_run W ⟨#[]⟩ (itoaS n) (by show 0 + _ ≤ _; omega)
  have he : (⟨#[]⟩ : ByteArray) ++ itoaS n = itoaS n := by
    obtain ⟨⟨l⟩⟩ := itoaS n
    exact ByteArray.empty_append
  rw [he] at hc
  have hz : ((itoaS n).size : Int) = 3 := by omega
  clear h0 h1 ht hi he hn
  generalize itoaS n = t at *
  have B0 := Below.refl w.heap.size w
  go_enter Tryz.func87, Tryz.ntmps87
  go_wp2_with fail
  refine (H.out _ B0).mono ?_
  rintro e w1 ⟨rfl, B1⟩
  go_wp2_with fail
  refine (HC.out _).mono ?_
  rintro e w2 ⟨rfl, rfl⟩
  go_wp2
  go_ret
  exact ⟨rfl, B1⟩

/-- A response's line. -/
def staT (v c r : ByteArray) : ByteArray := v ++ ⟨#[32]⟩ ++ c ++ ⟨#[32]⟩ ++ r ++ ⟨#[13, 10]⟩
set_option maxRecDepth 100000 in
set_option maxHeartbeats 2000000 in
theorem statline_any {f1 f2 : Option Addr} {l1 k1 l2 k2 : Nat} (code n : Int) (r : ByteArray) (hi : (itoaS n).size ≤ 21) (h0 : -9223372036854775808 ≤ n) (h1 : n ≤ 9223372036854775807) (hc0 : -9223372036854775808 ≤ code) (hc1 : code ≤ 9223372036854775807) (hc3 : (itoaS code).size = 3) (hcn : hasP (itoaS code) ⟨#[45]⟩ = false) (w : World) (ht : PowT w) (hm : r.size ≤ 4294967296) :
    Calls Tryz.prog 50 #[.agg #[.int .i64 code, .string r, .int .i64 n, .slice f1 l1 k1, .slice f2 l2 k2]] w fun e w' => e = .returned (.string (staT (verT n) (itoaS code) r)) ∧ Below w.heap.size w w' := by
  have hv : (verT n).size ≤ 28 := by unfold verT; rw [lcat_size]; show 7 + _ ≤ _; omega
  have H : Hid (∀ W, PI w (.cells #[.int .i64 code, .string r, .int .i64 n, .slice f1 l1 k1, .slice f2 l2 k2] 34) W → Calls Tryz.prog 86 #[.int .i64 n] W fun e w' => e = .returned (.string (verT n)) ∧ PI w (.cells #[.int .i64 code, .string r, .int .i64 n, .slice f1 l1 k1, .slice f2 l2 k2] 34) w' ∧ w'.cell? ⟨w.heap.size, 0, none⟩ = some (.int .i64 code) ∧ w'.cell? ⟨w.heap.size, 1, none⟩ = some (.string r) ∧ w'.cell? ⟨w.heap.size, 2, none⟩ = some (.int .i64 n)) := fun W i => (version_any n h0 h1 hi W (ht.below i.below)).mono fun e w' z => ⟨z.1, i.next z.2, tblk_cell (i.next z.2).own rfl, tblk_cell (i.next z.2).own rfl, tblk_cell (i.next z.2).own rfl⟩
  have HC : Hid (∀ W, PI w (.cells #[.int .i64 code, .string r, .int .i64 n, .slice f1 l1 k1, .slice f2 l2 k2] 34) W → Calls Tryz.prog 87 #[.int .i64 code] W fun e w' => e = .returned (.string (itoaS code)) ∧ PI w (.cells #[.int .i64 code, .string r, .int .i64 n, .slice f1 l1 k1, .slice f2 l2 k2] 34) w' ∧ w'.cell? ⟨w.heap.size, 0, none⟩ = some (.int .i64 code) ∧ w'.cell? ⟨w.heap.size, 1, none⟩ = some (.string r) ∧ w'.cell? ⟨w.heap.size, 2, none⟩ = some (.int .i64 n)) := fun W i => (codetext_any code hc0 hc1 hc3 hcn W (ht.below i.below)).mono fun e w' z => ⟨z.1, i.next z.2, tblk_cell (i.next z.2).own rfl, tblk_cell (i.next z.2).own rfl, tblk_cell (i.next z.2).own rfl⟩
  clear hcn
  generalize verT n = v at *
  generalize itoaS code = c at *
  have c1 := fun W : World => lcat_run W v ⟨#[32]⟩ (by show _ + 1 ≤ _; omega)
  have c2 := fun W : World => lcat_run W (v ++ ⟨#[32]⟩) c (by rw [lcat_size]; show _ + 1 + _ ≤ _; omega)
  have c3 := fun W : World => lcat_run W (v ++ ⟨#[32]⟩ ++ c) ⟨#[32]⟩ (by rw [lcat_size, lcat_size]; show _ + 1 + _ + 1 ≤ _; omega)
  have c4 := fun W : World => lcat_run W (v ++ ⟨#[32]⟩ ++ c ++ ⟨#[32]⟩) r (by rw [lcat_size, lcat_size, lcat_size]; show _ + 1 + _ + 1 + _ ≤ _; omega)
  have c5 := fun W : World => lcat_run W (v ++ ⟨#[32]⟩ ++ c ++ ⟨#[32]⟩ ++ r) ⟨#[13, 10]⟩ (by rw [lcat_size, lcat_size, lcat_size, lcat_size]; show _ + 1 + _ + 1 + _ + 2 ≤ _; omega)
  have I0 := PI.new w (.cells #[.int .i64 code, .string r, .int .i64 n, .slice f1 l1 k1, .slice f2 l2 k2] 34)
  clear h0 h1 ht hi hm hv hc0 hc1 hc3
  unfold staT
  go_enter Tryz.func50, Tryz.ntmps50
  go_wp2_with fail
  go_region_held3 (fun W => W.cell? ⟨w.heap.size, 0, none⟩ = some (.int .i64 code) ∧ W.cell? ⟨w.heap.size, 1, none⟩ = some (.string r) ∧ W.cell? ⟨w.heap.size, 2, none⟩ = some (.int .i64 n)) (go_keep) (first | (go_at_call 86; refine (H.out _ (by first | assumption | exact PI.drew I0 | exact PI.drew (by assumption))).mono ?_; rintro e w' ⟨rfl, hI, hS0, hS1, hS2⟩) | (go_at_call 87; refine (HC.out _ (by first | assumption | exact PI.drew I0 | exact PI.drew (by assumption))).mono ?_; rintro e w' ⟨rfl, hI, hS0, hS1, hS2⟩))
  go_wp2
  go_ret
  exact ⟨rfl, hI.below⟩
end Go.Proofs.YthbjdbookiejeabGreatDoor
