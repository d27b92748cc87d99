/- Texts that the proof leans on, one behind the other: Base NumM Dig HexR DecR Byt Row LinA LinB SamB OwG -/
import Derived.Test.YtkdnckkdofoaoaaGreatDoorRows
import Derived.WalkKit
import Derived.WalkSpells
import Derived.WalkLawsBesides
import Derived.ProofKit
import Derived.OpenShut
import Derived.Below
import Derived.Laws.Pointers
import Derived.Laws.CopyOwn
import Derived.Laws.IdiomStrings
import Derived.Lib.SlBytesConst
import Derived.Lib.Walk
import Derived.Deep.QuietTactic
import Derived.BigQuiet
import Derived.Maps.AppendAt
import Derived.Laws.OwnMore
import Derived.Laws.Concat
import Derived.Lib.AppendStr
import Derived.Deep.Strs
/- Small lemmas that several texts share. -/
namespace Go.Proofs.YtkdnckkdofoaoaaGreatDoor
open Go.RowKit
set_option linter.unusedVariables false

theorem ret_b {x y : Bool} (h : x = y) : Ending.returned (.bool x) = .returned (.bool y) := by rw [h]
theorem take_snoc (s : ByteArray) (k : Nat) (h : k < s.size) : s.data.toList.take (k + 1) = s.data.toList.take k ++ [s[k]] := by
  rw [List.take_succ_eq_append_getElem (by simpa using h)]; rfl
theorem empty_of {s : ByteArray} (h : s.size = 0) : s = ⟨#[]⟩ := by
  obtain ⟨⟨l⟩⟩ := s
  cases l with
  | nil => rfl
  | cons a l => exact absurd (show (a :: l).length = 0 from h) (by simp)
theorem isEmpty_of {s : ByteArray} (h : ¬ s.size = 0) : s.toList.isEmpty = false := by
  rw [ByteArray.toList_eq, List.isEmpty_eq_false_iff]
  intro e
  exact h (congrArg List.length e)
theorem byte_bd (b : UInt8) : (0 : Int) ≤ (b.toNat : Int) ∧ (b.toNat : Int) < 256 := by have := b.toNat_lt; omega
end Go.Proofs.YtkdnckkdofoaoaaGreatDoor

/- Plain lemmas on the numbers that texts of digits are. -/
namespace Go.Proofs.YtkdnckkdofoaoaaGreatDoor
open Go.RowKit
set_option linter.unusedVariables false

/-- What a byte counts; 16 of a byte that is no digit. -/
def dgI (c : Int) : Int := if 48 ≤ c ∧ c ≤ 57 then c - 48 else if 97 ≤ c ∧ c ≤ 102 then c - 87 else if 65 ≤ c ∧ c ≤ 70 then c - 55 else 16
def dgN (b : UInt8) : Nat := (dgI (b.toNat : Int)).toNat
theorem dgI_bd (c : Int) : 0 ≤ dgI c ∧ dgI c ≤ 16 := by unfold dgI; split <;> (try split) <;> (try split) <;> omega
theorem dgN_cast (b : UInt8) : ((dgN b : Nat) : Int) = dgI (b.toNat : Int) := by unfold dgN; have := dgI_bd (b.toNat : Int); omega
theorem dgN_le (b : UInt8) : dgN b ≤ 16 := by have := dgN_cast b; have := dgI_bd (b.toNat : Int); omega

/-- The number of a text of digits of a base, if all are. -/
def stepV (base : Nat) (o : Option Nat) (b : UInt8) : Option Nat := o.bind fun n => if dgN b < base then some (n * base + dgN b) else none
def vN (base : Nat) (l : List UInt8) : Option Nat := l.foldl (stepV base) (some 0)
theorem vN_snoc (base : Nat) (l : List UInt8) (b : UInt8) : vN base (l ++ [b]) = stepV base (vN base l) b := by
  unfold vN; rw [List.foldl_append]; rfl
theorem fold_none (base : Nat) : ∀ l : List UInt8, l.foldl (stepV base) none = none
  | [] => rfl
  | b :: l => by rw [List.foldl_cons]; exact fold_none base l
theorem vN_bad (base : Nat) (l l' : List UInt8) (b : UInt8) (h : ¬ dgN b < base) : vN base (l ++ b :: l') = none := by
  unfold vN
  rw [List.foldl_append, List.foldl_cons]
  have e : stepV base (l.foldl (stepV base) (some 0)) b = none := by
    cases l.foldl (stepV base) (some 0) with
    | none => rfl
    | some n => simp [stepV, h]
  rw [e, fold_none]
theorem drop_at (s : ByteArray) (k : Nat) (h : k < s.size) : s.data.toList = s.data.toList.take k ++ s[k] :: s.data.toList.drop (k + 1) := by
  have e : s[k] :: s.data.toList.drop (k + 1) = s.data.toList.drop k := (List.drop_eq_getElem_cons (by simpa using h)).symm
  rw [e, List.take_append_drop]
theorem vN_bad_at (base : Nat) (s : ByteArray) (k : Nat) (h : k < s.size) (hb : ¬ dgN s[k] < base) : vN base s.data.toList = none := by
  rw [drop_at s k h]; exact vN_bad base _ _ _ hb
theorem vN_next (base : Nat) (s : ByteArray) (k : Nat) (h : k < s.size) (n : Nat) (hv : vN base (s.data.toList.take k) = some n) (hb : dgN s[k] < base) : vN base (s.data.toList.take (k + 1)) = some (n * base + dgN s[k]) := by
  rw [take_snoc s k h, vN_snoc, hv]; simp [stepV, hb]
theorem fold_lt (base : Nat) : ∀ (l : List UInt8) (a n : Nat), l.foldl (stepV base) (some a) = some n → n < (a + 1) * base ^ l.length
  | [], a, n, h => by simp at h; simp; omega
  | b :: l, a, n, h => by
    rw [List.foldl_cons] at h
    by_cases hd : dgN b < base
    · have e : stepV base (some a) b = some (a * base + dgN b) := by simp [stepV, hd]
      rw [e] at h
      have k := fold_lt base l _ n h
      rw [List.length_cons, Nat.pow_succ]
      refine Nat.lt_of_lt_of_le k ?_
      have e2 : (a + 1) * (base ^ l.length * base) = ((a + 1) * base) * base ^ l.length := by rw [Nat.mul_comm (base ^ l.length) base, Nat.mul_assoc]
      rw [e2]
      refine Nat.mul_le_mul_right _ ?_
      rw [Nat.add_mul, Nat.one_mul]
      omega
    · have e : stepV base (some a) b = none := by simp [stepV, hd]
      rw [e, fold_none] at h
      cases h
theorem vN_lt (base : Nat) (l : List UInt8) (n : Nat) (h : vN base l = some n) : n < base ^ l.length := by
  have k := fold_lt base l 0 n h
  simpa using k
theorem vN_take_lt (base most : Nat) (hb : 1 ≤ base) (s : ByteArray) (k : Nat) (hk : k ≤ most) (n : Nat) (hv : vN base (s.data.toList.take k) = some n) : n < base ^ most := by
  refine Nat.lt_of_lt_of_le (vN_lt base _ n hv) (Nat.pow_le_pow_right hb ?_)
  exact Nat.le_trans (List.length_take_le _ _) hk

/-- The number of a text of 1 to most digits, if it is one. -/
def numV (base most : Nat) (s : ByteArray) : Option Nat := if s.size = 0 ∨ most < s.size then none else vN base s.data.toList
def numI (base most : Nat) (s : ByteArray) : Int := ((numV base most s).getD 0 : Nat)
def numB (base most : Nat) (s : ByteArray) : Bool := (numV base most s).isSome
theorem num_out {base most : Nat} {s : ByteArray} (h : s.size = 0 ∨ most < s.size) : numI base most s = 0 ∧ numB base most s = false := by
  unfold numI numB numV; rw [if_pos h]; exact ⟨rfl, rfl⟩
theorem num_bad {base most : Nat} {s : ByteArray} (h : vN base s.data.toList = none) : numI base most s = 0 ∧ numB base most s = false := by
  unfold numI numB numV; rw [h]; split <;> exact ⟨rfl, rfl⟩
theorem num_ok {base most : Nat} {s : ByteArray} {n : Nat} (h : ¬ (s.size = 0 ∨ most < s.size)) (hv : vN base s.data.toList = some n) : numI base most s = n ∧ numB base most s = true := by
  unfold numI numB numV; rw [if_neg h, hv]; exact ⟨rfl, rfl⟩
theorem ret2_ib {x y : Int} {a b : Bool} (h : x = y) (k : a = b) : Ending.returned (.tuple #[.int .i64 x, .bool a]) = .returned (.tuple #[.int .i64 y, .bool b]) := by rw [h, k]
end Go.Proofs.YtkdnckkdofoaoaaGreatDoor

/- What a digit counts. -/
namespace Go.Proofs.YtkdnckkdofoaoaaGreatDoor
open Go.RowKit
set_option linter.unusedVariables false

theorem ret_i {k : IntKind} {a b : Int} (h : a = b) : Ending.returned (.int k a) = .returned (.int k b) := by rw [h]

set_option maxHeartbeats 1000000 in
theorem digit_any (c : Int) (w : World) (h0 : 0 ≤ c) (h1 : c < 256) : Calls Tryz.prog 197 #[.int .u8 c] w fun e w' => e = .returned (.int .i64 (dgI c)) ∧ w' = w := by
  by_cases a : 48 ≤ c
  · by_cases b : c ≤ 57
    · have E : Hid (c - 48 = dgI c) := by rw [Hid, dgI, if_pos ⟨a, b⟩]
      go_enter Tryz.func197, Tryz.ntmps197
      go_wp2
      go_ret
      exact ⟨ret_i (by rw [← E.out]), rfl⟩
    · by_cases d : 97 ≤ c
      · by_cases f : c ≤ 102
        · have E : Hid (c - 97 + 10 = dgI c) := by rw [Hid, dgI, if_neg (by omega), if_pos ⟨d, f⟩]; omega
          go_enter Tryz.func197, Tryz.ntmps197
          go_wp2
          go_ret
          exact ⟨ret_i (by rw [← E.out]), rfl⟩
        · have E : Hid (16 = dgI c) := by rw [Hid, dgI, if_neg (by omega), if_neg (by omega), if_neg (by omega)]
          have g : 65 ≤ c := by omega
          have g' : ¬ c ≤ 70 := by omega
          go_enter Tryz.func197, Tryz.ntmps197
          go_wp2
          go_ret
          exact ⟨ret_i E.out, rfl⟩
      · by_cases g : 65 ≤ c
        · by_cases g' : c ≤ 70
          · have E : Hid (c - 65 + 10 = dgI c) := by rw [Hid, dgI, if_neg (by omega), if_neg (by omega), if_pos ⟨g, g'⟩]; omega
            go_enter Tryz.func197, Tryz.ntmps197
            go_wp2
            go_ret
            exact ⟨ret_i (by rw [← E.out]), rfl⟩
          · have E : Hid (16 = dgI c) := by rw [Hid, dgI, if_neg (by omega), if_neg (by omega), if_neg (by omega)]
            go_enter Tryz.func197, Tryz.ntmps197
            go_wp2
            go_ret
            exact ⟨ret_i E.out, rfl⟩
        · have E : Hid (16 = dgI c) := by rw [Hid, dgI, if_neg (by omega), if_neg (by omega), if_neg (by omega)]
          go_enter Tryz.func197, Tryz.ntmps197
          go_wp2
          go_ret
          exact ⟨ret_i E.out, rfl⟩
  · have E : Hid (16 = dgI c) := by rw [Hid, dgI, if_neg (by omega), if_neg (by omega), if_neg (by omega)]
    have d : ¬ 97 ≤ c := by omega
    have g : ¬ 65 ≤ c := by omega
    go_enter Tryz.func197, Tryz.ntmps197
    go_wp2
    go_ret
    exact ⟨ret_i E.out, rfl⟩

end Go.Proofs.YtkdnckkdofoaoaaGreatDoor

/- What the reading of numbers answers of every text: sign's and the reference's. -/
namespace Go.Proofs.YtkdnckkdofoaoaaGreatDoor
open Go.RowKit
set_option linter.unusedVariables false

set_option maxHeartbeats 1000000 in
theorem number16 (s : ByteArray) (w : World) (hs : s.size ≤ maxLen) :
    Calls Tryz.prog 171 #[.string s, .int .i64 16, .int .i64 15] w fun e w' => e = .returned (.tuple #[.int .i64 (numI 16 15 s), .bool (numB 16 15 s)]) ∧ w' = w := by
  unfold maxLen at hs
  by_cases hz : s.size = 0
  · have he := empty_of hz
    subst he
    go_enter Tryz.func171, Tryz.ntmps171
    go_wp2
    go_ret2
    exact ⟨ret2_ib (num_out (.inl rfl)).1.symm (num_out (.inl rfl)).2.symm, rfl⟩
  · have hne := isEmpty_of hz
    by_cases hm : (15 : Int) < (s.size : Int)
    · have E : Hid (numI 16 15 s = 0 ∧ numB 16 15 s = false) := num_out (.inr (by omega))
      go_enter Tryz.func171, Tryz.ntmps171
      go_wp2
      go_ret2
      exact ⟨ret2_ib E.out.1.symm E.out.2.symm, rfl⟩
    · have hout : Hid (¬ (s.size = 0 ∨ 15 < s.size)) := by rw [Hid]; omega
      clear hz
      go_enter Tryz.func171, Tryz.ntmps171
      go_wp2
      go_loop [8, 21] (fun vn vi => ∃ k n : Nat, k ≤ s.size ∧ vi = .int .i64 k ∧ vn = .int .i64 n ∧ Hid (vN 16 (s.data.toList.take k) = some n)) (fun _ vi => s.size - (intOf vi).toNat)
      case atStart => exact ⟨0, 0, Nat.zero_le _, rfl, rfl, rfl⟩
      case round =>
        obtain ⟨k, n, hk, rfl, rfl, hv⟩ := hrel
        by_cases hlt : k < s.size
        · have bd := byte_bd s[k]
          have hn : n < 72057594037927936 := vN_take_lt 16 14 (by decide) s k (by omega) n hv.out
          have hd := dgI_bd (s[k].toNat : Int)
          have HD : Hid (((dgN s[k] : Nat) : Int) = dgI (s[k].toNat : Int)) := dgN_cast s[k]
          go_wp2_with fail
          refine (digit_any _ _ bd.1 bd.2).mono ?_
          rintro e w' ⟨rfl, rfl⟩
          by_cases hb : 16 ≤ dgI (s[k].toNat : Int)
          · have E : Hid (numI 16 15 s = 0 ∧ numB 16 15 s = false) := num_bad (vN_bad_at 16 s k hlt (by have := HD.out; omega))
            go_wp2
            go_ret2
            exact ⟨ret2_ib E.out.1.symm E.out.2.symm, rfl⟩
          · have E : Hid (vN 16 (s.data.toList.take (k + 1)) = some (n * 16 + dgN s[k])) := vN_next 16 s k hlt n hv.out (by have := HD.out; omega)
            go_wp2
            go_round
            case rel => exact ⟨k + 1, n * 16 + dgN s[k], by omega, by go_num, by have := HD.out; rw [Int.natCast_add, Int.natCast_mul, this]; rfl, E⟩
            case measure => simp [intOf]; omega
        · go_wp2
          go_ret2
          have hk' : k = s.size := by omega
          subst hk'
          have h := hv.out
          rw [List.take_of_length_le (by simp)] at h
          exact ⟨ret2_ib (num_ok hout.out h).1.symm (num_ok hout.out h).2.symm, rfl⟩

theorem hex_any (s : ByteArray) (w : World) (hs : s.size ≤ maxLen) :
    Calls Tryz.prog 172 #[.string s] w fun e w' => e = .returned (.tuple #[.int .i64 (numI 16 15 s), .bool (numB 16 15 s)]) ∧ w' = w := by
  go_enter Tryz.func172, Tryz.ntmps172
  go_wp2_with fail
  refine (number16 s _ hs).mono ?_
  rintro e w' ⟨rfl, rfl⟩
  go_wp2
  go_ret2
  exact ⟨rfl, rfl⟩

end Go.Proofs.YtkdnckkdofoaoaaGreatDoor

/- Decimal: what it answers of every text. -/
namespace Go.Proofs.YtkdnckkdofoaoaaGreatDoor
open Go.RowKit
set_option linter.unusedVariables false

set_option maxHeartbeats 1000000 in
theorem number10 (s : ByteArray) (w : World) (hs : s.size ≤ maxLen) :
    Calls Tryz.prog 171 #[.string s, .int .i64 10, .int .i64 18] w fun e w' => e = .returned (.tuple #[.int .i64 (numI 10 18 s), .bool (numB 10 18 s)]) ∧ w' = w := by
  unfold maxLen at hs
  by_cases hz : s.size = 0
  · have he := empty_of hz
    subst he
    go_enter Tryz.func171, Tryz.ntmps171
    go_wp2
    go_ret2
    exact ⟨ret2_ib (num_out (.inl rfl)).1.symm (num_out (.inl rfl)).2.symm, rfl⟩
  · have hne := isEmpty_of hz
    by_cases hm : (18 : Int) < (s.size : Int)
    · have E : Hid (numI 10 18 s = 0 ∧ numB 10 18 s = false) := num_out (.inr (by omega))
      go_enter Tryz.func171, Tryz.ntmps171
      go_wp2
      go_ret2
      exact ⟨ret2_ib E.out.1.symm E.out.2.symm, rfl⟩
    · have hout : Hid (¬ (s.size = 0 ∨ 18 < s.size)) := by rw [Hid]; omega
      clear hz
      go_enter Tryz.func171, Tryz.ntmps171
      go_wp2
      go_loop [8, 21] (fun vn vi => ∃ k n : Nat, k ≤ s.size ∧ vi = .int .i64 k ∧ vn = .int .i64 n ∧ Hid (vN 10 (s.data.toList.take k) = some n)) (fun _ vi => s.size - (intOf vi).toNat)
      case atStart => exact ⟨0, 0, Nat.zero_le _, rfl, rfl, rfl⟩
      case round =>
        obtain ⟨k, n, hk, rfl, rfl, hv⟩ := hrel
        by_cases hlt : k < s.size
        · have bd := byte_bd s[k]
          have hn : n < 100000000000000000 := vN_take_lt 10 17 (by decide) s k (by omega) n hv.out
          have hd := dgI_bd (s[k].toNat : Int)
          have HD : Hid (((dgN s[k] : Nat) : Int) = dgI (s[k].toNat : Int)) := dgN_cast s[k]
          go_wp2_with fail
          refine (digit_any _ _ bd.1 bd.2).mono ?_
          rintro e w' ⟨rfl, rfl⟩
          by_cases hb : 10 ≤ dgI (s[k].toNat : Int)
          · have E : Hid (numI 10 18 s = 0 ∧ numB 10 18 s = false) := num_bad (vN_bad_at 10 s k hlt (by have := HD.out; omega))
            go_wp2
            go_ret2
            exact ⟨ret2_ib E.out.1.symm E.out.2.symm, rfl⟩
          · have E : Hid (vN 10 (s.data.toList.take (k + 1)) = some (n * 10 + dgN s[k])) := vN_next 10 s k hlt n hv.out (by have := HD.out; omega)
            go_wp2
            go_round
            case rel => exact ⟨k + 1, n * 10 + dgN s[k], by omega, by go_num, by have := HD.out; rw [Int.natCast_add, Int.natCast_mul, this]; rfl, E⟩
            case measure => simp [intOf]; omega
        · go_wp2
          go_ret2
          have hk' : k = s.size := by omega
          subst hk'
          have h := hv.out
          rw [List.take_of_length_le (by simp)] at h
          exact ⟨ret2_ib (num_ok hout.out h).1.symm (num_ok hout.out h).2.symm, rfl⟩

theorem decimal_any (s : ByteArray) (w : World) (hs : s.size ≤ maxLen) :
    Calls Tryz.prog 143 #[.string s] w fun e w' => e = .returned (.tuple #[.int .i64 (numI 10 18 s), .bool (numB 10 18 s)]) ∧ w' = w := by
  go_enter Tryz.func143, Tryz.ntmps143
  go_wp2_with fail
  refine (number10 s _ hs).mono ?_
  rintro e w' ⟨rfl, rfl⟩
  go_wp2
  go_ret2
  exact ⟨rfl, rfl⟩

end Go.Proofs.YtkdnckkdofoaoaaGreatDoor

/- Bytes in memory: slices that are read, rows that grow, texts made of bytes; arguments that are lists of bytes. -/
namespace Go.Proofs.YtkdnckkdofoaoaaGreatDoor
open Go.ChangeShapes Go.WideShapes Go.ChangeAt Go.RowKit
set_option linter.unusedVariables false

/-- Blocks outside T stay; new ones may come. -/
structure Kp (T : Nat → Prop) (w w' : World) : Prop where
  os : w'.os = w.os
  tape : w'.tape = w.tape
  output : w'.output = w.output
  size : w.heap.size ≤ w'.heap.size
  block : ∀ k, k < w.heap.size → ¬ T k → w'.heap[k]? = w.heap[k]?
theorem Kp.refl (T : Nat → Prop) (w : World) : Kp T w w := ⟨rfl, rfl, rfl, Nat.le_refl _, fun _ _ _ => rfl⟩
theorem Kp.trans {T T' : Nat → Prop} {u v w : World} (h : Kp T u v) (k : Kp T' v w) (ht : ∀ i, T' i → T i ∨ u.heap.size ≤ i) : Kp T u w :=
  ⟨k.os.trans h.os, k.tape.trans h.tape, k.output.trans h.output, Nat.le_trans h.size k.size, fun i hi hn =>
    (k.block i (Nat.lt_of_lt_of_le hi h.size) (fun c => by rcases ht i c with c | c; exact hn c; omega)).trans (h.block i hi hn)⟩
theorem Kp.mono {T T' : Nat → Prop} {u v : World} (h : Kp T u v) (ht : ∀ i, T i → T' i) : Kp T' u v :=
  ⟨h.os, h.tape, h.output, h.size, fun i hi hn => h.block i hi (fun c => hn (ht i c))⟩
theorem Kp.then {T : Nat → Prop} {u v w : World} (h : Kp T u v) (k : Kp T v w) : Kp T u w := h.trans k (fun _ c => .inl c)
theorem Kp.ofBelow {T : Nat → Prop} {u v : World} (h : Below u.heap.size u v) : Kp T u v :=
  ⟨h.os, h.tape, h.output, h.size, fun i hi _ => h.block i hi⟩
theorem Kp.alloc (T : Nat → Prop) (w : World) (o : Obj) : Kp T w (w.alloc o) := Kp.ofBelow ((Below.refl _ _).alloc (Nat.le_refl _) _)
theorem Kp.below {T : Nat → Prop} {B : Nat} {u v : World} (h : Kp T u v) (hB : B ≤ u.heap.size) (ht : ∀ k, k < B → ¬ T k) : Below B u v :=
  ⟨h.os, h.tape, h.output, h.size, fun k hk => h.block k (Nat.lt_of_lt_of_le hk hB) (ht k hk)⟩
theorem slice_inj {a a' : Option Addr} {n n' c c' : Nat} (h : Value.slice a n c = Value.slice a' n' c') : a = a' ∧ n = n' ∧ c = c' := by cases h; exact ⟨rfl, rfl, rfl⟩
theorem heap_lt {w : World} {b : Nat} {o : Obj} (h : w.heap[b]? = some o) : b < w.heap.size := (Array.getElem?_eq_some_iff.1 h).1
theorem Kp.at {T : Nat → Prop} {c : Nat} {w w' : World} (h : Kp T w w') (hc : ¬ T c) {o : Obj} (k : w.heap[c]? = some o) : w'.heap[c]? = some o :=
  (h.block c (heap_lt k) hc).trans k

def bv (b : UInt8) : Value := .int .u8 (b.toNat : Int)
theorem ring_cell {w : World} {b i : Nat} {c : Array Value} {t : TypeId} {v : Value} (h : w.heap[b]? = some (.cells c t)) (hv : c[i]? = some v) : w.cell? ⟨b, i, none⟩ = some v := by
  simp [World.cell?, h, hv]
theorem ring_z {w : World} {b i : Nat} {c : Array Value} {t : TypeId} (h : w.heap[b]? = some (.cells c t)) : w.frozen? ⟨b, i, none⟩ = false := by
  simp [World.frozen?, h]
theorem ring_set {w : World} {b i : Nat} {c : Array Value} {t : TypeId} {v : Value} (h : w.heap[b]? = some (.cells c t)) : (w.setCell ⟨b, i, none⟩ v).heap[b]? = some (.cells (c.setIfInBounds i v) t) := by
  simp [World.setCell, Array.getElem?_modify, h]
theorem new_at (w : World) (o : Obj) : (w.alloc o).heap[w.heap.size]? = some o := by
  show (w.heap.push o)[w.heap.size]? = _; simp
theorem addr_add (b o i : Nat) : (⟨b, o, none⟩ : Addr).add i = ⟨b, o + i, none⟩ := by unfold Addr.add; split <;> simp_all
/-- A slice of bytes, lying in block k if it has any. -/
def Src (w : World) (k : Nat) (v : Value) (b : List UInt8) : Prop := ∃ a c, v = .slice a b.length c ∧ b.length ≤ c ∧ c ≤ maxLen ∧ (0 < b.length → ∃ off, a = some ⟨k, off, none⟩ ∧ ∀ (j : Nat) (hj : j < b.length), w.cell? ⟨k, off + j, none⟩ = some (bv b[j]))
theorem Src.frame {w w' : World} {k : Nat} {v : Value} {b : List UInt8} (h : Src w k v b) (hk : w'.heap[k]? = w.heap[k]?) : Src w' k v b := by
  obtain ⟨a, c, e, h1, h2, h3⟩ := h
  refine ⟨a, c, e, h1, h2, fun hp => ?_⟩
  obtain ⟨off, ea, hc⟩ := h3 hp
  refine ⟨off, ea, fun j hj => ?_⟩
  rw [← hc j hj]
  simp [World.cell?, hk]

theorem bvs_one (l : List UInt8) : ∀ v ∈ l.map bv, v.oneCell' = true := by
  intro v hv
  obtain ⟨b, _, rfl⟩ := List.mem_map.1 hv
  rfl
theorem infoB : (Tryz.prog.info? 5).map (·.size) = some 1 := by kernel_rfl
def lenOf (v : Value) : Nat := match v with | .slice _ n _ => n | _ => 0
theorem Src.rest {w : World} {k off c : Nat} {b : List UInt8} (n : Nat) (hn : n ≤ b.length) (h1 : b.length ≤ c) (h2 : c ≤ maxLen) (h3 : ∀ (j : Nat) (hj : j < b.length), w.cell? ⟨k, off + j, none⟩ = some (bv b[j])) (a : Option Addr) (ha : n < b.length → a = some ⟨k, off + n, none⟩) :
    Src w k (.slice a (b.length - n) (c - n)) (b.drop n) := by
  refine ⟨a, c - n, by rw [List.length_drop], by rw [List.length_drop]; omega, by omega, fun hp => ?_⟩
  rw [List.length_drop] at hp
  refine ⟨off + n, ha (by omega), fun j hj => ?_⟩
  rw [List.length_drop] at hj
  rw [List.getElem_drop, Nat.add_assoc]
  exact h3 (n + j) (by omega)

/-- A row of bytes. -/
def rowB (l : List UInt8) : List Value := l.map bv
theorem infoB3 : (Tryz.prog.info? 5).map (fun i => (i.zero, i.size, i.bytes)) = some (some (.int .u8 0), 1, 1) := by kernel_rfl
theorem made_zero (n : Nat) : madeCells (Value.int .u8 0).cells n = (rowB (List.replicate n 0)).toArray := by
  unfold madeCells rowB
  apply Array.toList_inj.1
  apply List.ext_getElem?
  intro i
  rcases Nat.lt_or_ge i n with h | h
  · simp [h, Value.cells, bv, Nat.mod_one]
  · rw [List.getElem?_eq_none (by simpa using h), List.getElem?_eq_none (by simpa using h)]
theorem make_bytes (w : World) (n : Nat) (h : n ≤ 281474976710656) : (Instr.makeSlice 22 (.int .i64 (n : Int)) (.int .i64 (n : Int))).run Tryz.prog w = .ok (.slice (some ⟨w.heap.size, 0, none⟩) n n) (w.alloc (.cells (rowB (List.replicate n 0)).toArray 5)) := by
  obtain ⟨i, hi, hz0, hz1, hz2⟩ := info_parts infoB3
  have k := run_make (P := Tryz.prog) w 22 5 i (.int .u8 0) Tryz.underlying22 hi hz0 .i64 .i64 n n (by omega) (by omega) (by rw [hz2]; omega) (by omega)
  rw [Int.toNat_natCast, hz1, Nat.mul_one, made_zero] at k
  exact k
theorem rowB_length (l : List UInt8) : (rowB l).length = l.length := by simp [rowB]
theorem rowB_take (l : List UInt8) (k : Nat) : (rowB l).take k = rowB (l.take k) := by simp [rowB, List.map_take]
theorem rowB_drop (l : List UInt8) (k : Nat) : (rowB l).drop k = rowB (l.drop k) := by simp [rowB, List.map_drop]
theorem rowB_app (l k : List UInt8) : rowB (l ++ k) = rowB l ++ rowB k := by simp [rowB]

/-- A row of bytes in a block of its own is a slice. -/
theorem src_row {w : World} {g n : Nat} {l : List UInt8} (h : w.heap[g]? = some (.cells (rowB l).toArray 5)) (hl : l.length = n) (hm : n ≤ maxLen) : Src w g (.slice (some ⟨g, 0, none⟩) n n) l := by
  subst hl
  refine ⟨_, _, rfl, Nat.le_refl _, hm, fun _ => ⟨0, rfl, fun j hj => ?_⟩⟩
  refine ring_cell h ?_
  rw [Nat.zero_add, List.getElem?_toArray]
  unfold rowB
  rw [List.getElem?_map, List.getElem?_eq_getElem hj]; rfl
theorem Src.below {w w' : World} {k : Nat} {v : Value} {b : List UInt8} (h : Src w k v b) (hk : k < w.heap.size) (hB : Below w.heap.size w w') : Src w' k v b := h.frame (hB.block k hk)
/-- Bytes made of a text. -/
theorem conv_src (w : World) (s : ByteArray) (hs : s.size ≤ maxLen) : ∃ v w1, (convert 9 22 (.string s)).run Tryz.prog w = .ok v w1 ∧ Src w1 w.heap.size v s.data.toList ∧ Below w.heap.size w w1 ∧ w.heap.size < w1.heap.size := by
  refine ⟨_, _, run_bytes_of_string w 9 22 5 s Tryz.underlying9 Tryz.underlying22 Tryz.underlying5, ?_, ?_, ?_⟩
  · refine ⟨_, _, rfl, grownCap_ge _ _ _ _, grownCap_le_maxLen _ _ _ _ hs, fun _ => ⟨0, rfl, fun j hj => ?_⟩⟩
    have hb := new_at w.drew (.cells (bytesRow s (grownCap w s.size 0 5)) 5 ((bytesRow s (grownCap w s.size 0 5)).size, (bytesRow s (grownCap w s.size 0 5)).size + 1))
    have hsz : w.drew.heap.size = w.heap.size := rfl
    rw [hsz] at hb
    have e : (bytesRow s (grownCap w s.size 0 5))[j]? = some (bv s.data.toList[j]) := by
      unfold bytesRow
      have hj' : j < s.data.size := by simpa using hj
      rw [Array.getElem?_append_left (by simpa using hj'), Array.getElem?_map, Array.getElem?_eq_getElem hj']
      rfl
    unfold World.cell?
    rw [hb]
    show (bytesRow s (grownCap w s.size 0 5))[0 + j]? = _
    rw [Nat.zero_add, e]
  · exact ((Below.refl _ _).drew).alloc (Nat.le_refl _) _
  · simp
theorem conv_back {w : World} {k : Nat} {a : Option Addr} {n c : Nat} {b : List UInt8} (h : Src w k (.slice a n c) b) (hp : 0 < n) : (convert 22 9 (.slice a n c)).run Tryz.prog w = .ok (.string ⟨b.toArray⟩) w := by
  obtain ⟨a', c', e, h1, h2, h3⟩ := h
  obtain ⟨e1, e2, e3⟩ := slice_inj e
  subst e1 e2 e3
  obtain ⟨off, rfl, hc⟩ := h3 hp
  exact run_convert_bytes_back (P := Tryz.prog) w 22 9 5 ⟨k, off, none⟩ c b Tryz.underlying22 Tryz.underlying5 Tryz.underlying9 (fun j hj => by rw [addr_add]; exact hc j hj)

theorem conv_same (w : World) (C : Array Value) (n c : Nat) : (convert 22 22 (.slice (some ⟨w.heap.size, 0, none⟩) n c)).run Tryz.prog (w.alloc (.cells C 5)) = .ok (.slice (some ⟨w.heap.size, 0, none⟩) n c) (w.alloc (.cells C 5 (C.size, C.size + 1))) :=
  Lib.run_convert_bytes_const w 22 5 C n c Tryz.underlying22 Tryz.underlying5
theorem lit_src (w : World) (l : List UInt8) (n : Nat) (row : Array Value) (fz : Nat × Nat) (hl : l.length = n) (hm : n ≤ maxLen) (hr : (rowB l).toArray = row) : Src (w.alloc (.cells row 5 fz)) w.heap.size (.slice (some ⟨w.heap.size, 0, none⟩) n n) l := by
  subst hr hl
  refine ⟨_, _, rfl, Nat.le_refl _, hm, fun _ => ⟨0, rfl, fun j hj => ?_⟩⟩
  have h := new_at w (.cells (rowB l).toArray 5 fz)
  have e : (rowB l).toArray[0 + j]? = some (bv l[j]) := by
    rw [Nat.zero_add, List.getElem?_toArray]
    unfold rowB
    rw [List.getElem?_map, List.getElem?_eq_getElem hj]; rfl
  unfold World.cell?
  rw [h]
  exact e

/-- The bytes X, in block g, which the walk itself has made. -/
def Acc (w : World) (g : Nat) (v : Value) (X : List UInt8) : Prop := v.ownBlock = some g ∧ w.ownsRow 0 5 1 v X.length (rowB X)
theorem Acc.form {w : World} {g : Nat} {v : Value} {X : List UInt8} (h : Acc w g v X) : ∃ c, v = .slice (some ⟨g, 0, none⟩) X.length c := by
  obtain ⟨h1, h2, h3 | ⟨g', c, cur, hv, _⟩⟩ := h
  · rw [h3.1] at h1; cases h1
  · rw [hv] at h1
    have : g' = g := by simpa [Value.ownBlock] using h1
    subst this
    exact ⟨c, hv⟩
theorem Acc.src {w : World} {g : Nat} {v : Value} {X : List UInt8} (h : Acc w g v X) : Src w g v X := by
  obtain ⟨c, hv⟩ := h.form
  obtain ⟨h1, h2⟩ := h
  have h3 := h2
  obtain ⟨h4, h5 | ⟨g', c', cur, hv', _, hg, hl, hm, hs, ht⟩⟩ := h2
  · rw [hv] at h5; cases h5.1
  · rw [hv] at hv'
    obtain ⟨e1, e2, e3⟩ := slice_inj hv'
    have eg : g = g' := by simpa using e1
    subst e3
    refine ⟨_, _, hv, hl, hm, fun _ => ⟨0, rfl, fun j hj => ?_⟩⟩
    have k := (hv ▸ h3 : w.ownsRow 0 5 1 (.slice (some ⟨g, 0, none⟩) X.length c) X.length (rowB X)).cellAt j (by omega)
    rw [Nat.zero_add, k]
    unfold rowB
    rw [List.getElem?_map, List.getElem?_eq_getElem hj]; rfl
theorem Acc.lt {w : World} {g : Nat} {v : Value} {X : List UInt8} (h : Acc w g v X) : g < w.heap.size := by
  obtain ⟨h1, h2, h3 | ⟨g', c, cur, hv, _, hg, _⟩⟩ := h
  · rw [h3.1] at h1; cases h1
  · rw [hv] at h1
    have : g' = g := by simpa [Value.ownBlock] using h1
    subst this
    exact heap_lt hg
theorem Acc.frame {w w' : World} {g : Nat} {v : Value} {X : List UInt8} (h : Acc w g v X) (hk : w'.heap[g]? = w.heap[g]?) : Acc w' g v X := by
  obtain ⟨h1, h2, h3 | ⟨g', c, cur, hv, hb, hg, r⟩⟩ := h
  · rw [h3.1] at h1; cases h1
  · have hg' := h1
    rw [hv] at hg'
    have : g' = g := by simpa [Value.ownBlock] using hg'
    subst this
    exact ⟨h1, h2, .inr ⟨g', c, cur, hv, hb, hk.trans hg, r⟩⟩
theorem Acc.empty (w : World) : Acc (w.alloc (.cells #[] 5)) w.heap.size (.slice (some ⟨w.heap.size, 0, none⟩) 0 0) [] :=
  ⟨rfl, rfl, .inr ⟨w.heap.size, 0, #[], rfl, Nat.zero_le _, new_at _ _, Nat.le_refl _, by decide, rfl, rfl⟩⟩
/-- Bytes appended. -/
theorem acc_append {w : World} {g k : Nat} {v : Value} {X Y : List UInt8} {a : Option Addr} {n c : Nat} (h : Acc w g v X) (hs : Src w k (.slice a n c) Y) (hnil : a = none → c = 0) (hmax : X.length + Y.length ≤ 140737488355328) :
    ∃ v' w' g', (Builtin.append_ #[22, 22] 22 #[v, .slice a n c]).run Tryz.prog w = .ok v' w' ∧ Acc w' g' v' (X ++ Y) ∧ (g' = g ∨ (w.heap.size ≤ g' ∧ g' < w'.heap.size)) ∧ Kp (fun k => k = g) w w' := by
  obtain ⟨i, hi, hz0, hz1, hz2⟩ := info_parts infoB3
  obtain ⟨a', c', e, h1, h2, h3⟩ := hs
  obtain ⟨e1, e2, e3⟩ := slice_inj e
  subst e1 e2 e3
  have hmx : X.length + Y.length ≤ maxLen := by unfold maxLen; omega
  cases a with
  | none =>
    have hc := hnil rfl
    have hy : Y = [] := by
      rcases Nat.eq_zero_or_pos Y.length with q | q
      · exact List.eq_nil_of_length_eq_zero q
      · obtain ⟨_, q, _⟩ := h3 q; cases q
    subst hy hc
    refine ⟨v, w, g, run_append_owned_none w 0 22 22 5 i 1 Tryz.underlying22 hi v _ _ h.2, by rw [List.append_nil]; exact h, .inl rfl, Kp.refl _ _⟩
  | some ad =>
    obtain ⟨v', w', hr, q1, q2, q3, q4⟩ := run_append_own_at (P := Tryz.prog) w 0 22 22 5 i (.int .u8 0) 1 1 Tryz.underlying22 hi hz0 hz1 hz2 rfl (by decide) v X.length (rowB X) h.2 ad Y.length c (rowB Y) (by rw [rowB_length]; omega)
      (fun j u hj => by
        unfold rowB at hj
        rw [List.getElem?_map] at hj
        obtain ⟨x, hx, rfl⟩ := Option.map_eq_some_iff.1 hj
        have hjl := (List.getElem?_eq_some_iff.1 hx).1
        obtain ⟨off, ha, hc⟩ := h3 (by omega)
        have : ad = ⟨k, off, none⟩ := by simpa using ha
        subst this
        rw [addr_add, hc j hjl, (List.getElem?_eq_some_iff.1 hx).2]) (bvs_one _) hmx (by omega) (Nat.zero_le _)
    have hk : Kp (fun k => k = g) w w' := ⟨q2.os, q2.tape, q2.output, q2.size, fun j hj hn => q2.block j hj (fun c => hn (by rw [h.1] at c; exact Option.some.inj c))⟩
    have hrow : w'.ownsRow 0 5 1 v' (X ++ Y).length (rowB (X ++ Y)) := by rw [List.length_append, rowB_app]; exact q1
    rcases q4 with q4 | q4
    · exact ⟨v', w', g, hr, ⟨q4.trans h.1, hrow⟩, .inl rfl, hk⟩
    · exact ⟨v', w', w.heap.size, hr, ⟨q4, hrow⟩, .inr ⟨Nat.le_refl _, Acc.lt ⟨q4, hrow⟩⟩, hk⟩
theorem Src.take {w : World} {k n m c : Nat} {a : Option Addr} {b : List UInt8} (h : Src w k (.slice a n c) b) (hm : m ≤ b.length) : Src w k (.slice a m c) (b.take m) := by
  obtain ⟨a', c', e, h1, h2, h3⟩ := h
  obtain ⟨e1, e2, e3⟩ := slice_inj e
  subst e1 e2 e3
  have hl : (b.take m).length = m := by rw [List.length_take]; omega
  refine ⟨a, c, by rw [hl], by omega, h2, fun hp => ?_⟩
  obtain ⟨off, ha, hc⟩ := h3 (by omega)
  exact ⟨off, ha, fun j hj => by rw [List.getElem_take]; exact hc j (by omega)⟩
theorem Src.cut {w : World} {k n m c : Nat} {a a' : Option Addr} {b : List UInt8} (h : Src w k (.slice a n c) b) (hm : m ≤ b.length) (ha' : m < c → a' = a.map (fun x => x.add m)) : Src w k (.slice a' (n - m) (c - m)) (b.drop m) := by
  obtain ⟨a0, c', e, h1, h2, h3⟩ := h
  obtain ⟨e1, e2, e3⟩ := slice_inj e
  subst e1 e2 e3
  refine ⟨a', c - m, by rw [List.length_drop], by rw [List.length_drop]; omega, by omega, fun hp => ?_⟩
  rw [List.length_drop] at hp
  obtain ⟨off, ha, hc⟩ := h3 (by omega)
  refine ⟨off + m, by rw [ha' (by omega), ha]; simp [addr_add], fun j hj => ?_⟩
  rw [List.length_drop] at hj
  rw [List.getElem_drop, Nat.add_assoc]
  exact hc (m + j) (by omega)
/-- An empty slice lies wherever one says. -/
theorem Src.any {w : World} {k g B : Nat} {v : Value} {b : List UInt8} (h : Src w k v b) (hk : 0 < b.length → k < B) : ∃ k', (k' < B ∨ k' = g) ∧ Src w k' v b := by
  rcases Nat.eq_zero_or_pos b.length with c | c
  · obtain ⟨a, c', e, h1, h2, h3⟩ := h
    exact ⟨g, .inr rfl, a, c', e, h1, h2, fun q => by omega⟩
  · exact ⟨k, .inl (hk c), h⟩
theorem wpList_append_run {P : Program} {w : World} {ops : Array Oper} {rest : List Oper} {o : Oper} {a : Act} {Q : Exit → Act → World → Prop} (hgd : o.guard = none) (s x : Operand) (t : TypeId)
    (ho : o.op = .call { callee := .builtin .append, args := #[s, x], argTypes := #[t, t] }) (vs vx v' : Value) (w' : World) (hs : a.eval s = vs) (hx : a.eval x = vx) (hr : (Builtin.append_ #[t, t] o.type #[vs, vx]).run P w = .ok v' w')
    (h : wpList P ops Q rest (a.put o.dst v') w') : wpList P ops Q (o :: rest) a w := by
  refine wpList_plain hgd fun K hK => ?_
  unfold Oper.wp execOp
  simp only [ho, resolve, invoke, builtin, Sem.run_bind, Sem.run_pure, Result.andThen_ok, List.map_toArray, List.map_cons, List.map_nil, hs, hx, hr]
  exact hK _ _ h
theorem and_mask (n : Int) (m : Nat) (hm : m < 9223372036854775808) : ∃ k : Nat, k ≤ m ∧ bits .and .i64 n (m : Int) = (k : Int) := by
  have h2 : (BitVec.ofInt 64 (m : Int)).toNat = m := by
    rw [BitVec.ofInt_natCast, BitVec.toNat_ofNat]; exact Nat.mod_eq_of_lt (by omega)
  have hk : (BitVec.ofInt 64 n &&& BitVec.ofInt 64 (m : Int)).toNat ≤ m := by
    rw [BitVec.toNat_and, h2]; exact Nat.and_le_right
  refine ⟨(BitVec.ofInt 64 n &&& BitVec.ofInt 64 (m : Int)).toNat, hk, ?_⟩
  show IntKind.i64.wrap ((BitVec.ofInt 64 n &&& BitVec.ofInt 64 (m : Int)).toNat : Int) = _
  rw [IntKind.wrap_i64]
  generalize (BitVec.ofInt 64 n &&& BitVec.ofInt 64 (m : Int)).toNat = k at *
  omega
theorem cell_lt {w : World} {x : Addr} {v : Value} (h : w.cell? x = some v) : x.block < w.heap.size := by
  unfold World.cell? at h
  rcases Nat.lt_or_ge x.block w.heap.size with c | c
  · exact c
  · simp [Array.getElem?_eq_none c] at h
theorem open_bytes {H : Type} {enc : TypeId × Value → H} {w : World} {base : Nat} {held : Bool} {a : Option Addr} {len cap : Nat} {x : DataW H × List MemPlace}
    (h : ∃ fuel, DataW.trod enc Tryz.prog w base (fun _ => true) held fuel 22 (Value.slice a len cap).cells.toList = some x) : ∃ kb b, Src w kb (.slice a len cap) b ∧ (0 < b.length → kb < w.heap.size) ∧ (a = none → cap = 0) := by
  obtain ⟨fuel, hf⟩ := h
  rcases open_ints Tryz.underlying22 Tryz.underlying5 (by kernel_rfl) hf with ⟨hcs, _⟩ | ⟨x, l, c, zs, hcs, _, hl, hm, hz, _, hcell, hwz⟩
  · simp [Value.cells] at hcs
    obtain ⟨rfl, rfl, rfl⟩ := hcs
    exact ⟨0, [], ⟨none, 0, rfl, Nat.le_refl _, Nat.zero_le _, fun h => absurd h (Nat.lt_irrefl _)⟩, fun h => absurd h (Nat.lt_irrefl _), fun _ => rfl⟩
  · simp [Value.cells] at hcs
    obtain ⟨rfl, rfl, rfl⟩ := hcs
    have hz' : zs.length = cap := by simpa using hz
    have hbl : ((zs.take len).map fun z => z.toNat.toUInt8).length = len := by rw [List.length_map, List.length_take]; omega
    rcases Nat.eq_zero_or_pos len with h0 | h0
    · subst h0
      exact ⟨0, [], ⟨some x, cap, rfl, Nat.zero_le _, hm, fun h => absurd h (Nat.lt_irrefl _)⟩, fun h => absurd h (Nat.lt_irrefl _), fun h => by cases h⟩
    · obtain ⟨b, off, rfl, hc⟩ := ints_at hcell (by omega)
      refine ⟨b, (zs.take len).map fun z => z.toNat.toUInt8, ⟨_, cap, by rw [hbl], by rw [hbl]; exact hl, hm, fun _ => ⟨off, rfl, fun j hj => ?_⟩⟩, fun _ => cell_lt (hc 0 (by omega)), fun h => by cases h⟩
      have hj' : j < len := by rw [hbl] at hj; exact hj
      rw [hc j (by omega)]
      have hg : zs.getD j 0 = zs[j]'(by omega) := by simp [List.getD, List.getElem?_eq_getElem (show j < zs.length by omega)]
      have hb := bounds_u8 (hwz _ (List.getElem_mem (show j < zs.length by omega)))
      rw [hg, List.getElem_map, List.getElem_take]
      unfold bv
      generalize zs[j]'(by omega) = z at hb
      have e : (z.toNat.toUInt8.toNat : Int) = z := by
        have : z.toNat.toUInt8.toNat = z.toNat := by simp; omega
        rw [this]; omega
      rw [e]
end Go.Proofs.YtkdnckkdofoaoaaGreatDoor

/- A row of bytes that grows in memory of the walk's own. -/
namespace Go.Proofs.YtkdnckkdofoaoaaGreatDoor
open Go.ChangeShapes Go.WideShapes Go.ChangeAt Go.RowKit
set_option linter.unusedVariables false

/-- The bytes X, in a block from B on. -/
def Own (B : Nat) (w : World) (v : Value) (X : List UInt8) : Prop := w.ownsRow B 5 1 v X.length (rowB X)
theorem Own.form {B : Nat} {w : World} {v : Value} {X : List UInt8} (h : Own B w v X) : ∃ a c, v = .slice a X.length c ∧ (a = none → c = 0) := by
  obtain ⟨h1, ⟨h2, h3⟩ | ⟨g, c, cur, hv, _⟩⟩ := h
  · exact ⟨none, 0, by rw [h2, h3], fun _ => rfl⟩
  · exact ⟨_, c, hv, fun e => by cases e⟩
theorem Own.src {B : Nat} {w : World} {v : Value} {X : List UInt8} (h : Own B w v X) : ∃ k, Src w k v X ∧ (0 < X.length → B ≤ k ∧ k < w.heap.size) := by
  have h0 := h
  obtain ⟨h1, ⟨h2, h3⟩ | ⟨g, c, cur, hv, hB, hg, hl, hm, hs, ht⟩⟩ := h
  · refine ⟨0, ⟨none, 0, by rw [h2, h3], by omega, Nat.zero_le _, fun q => by omega⟩, fun q => by omega⟩
  · refine ⟨g, ⟨_, c, hv, hl, hm, fun _ => ⟨0, rfl, fun j hj => ?_⟩⟩, fun _ => ⟨hB, heap_lt hg⟩⟩
    have k := (hv ▸ h0 : w.ownsRow B 5 1 (.slice (some ⟨g, 0, none⟩) X.length c) X.length (rowB X)).cellAt j (by omega)
    rw [Nat.zero_add, k]
    unfold rowB
    rw [List.getElem?_map, List.getElem?_eq_getElem hj]; rfl
theorem Own.keep {B : Nat} {w w' : World} {v : Value} {X : List UInt8} (h : Own B w v X) (b : Below w.heap.size w w') : Own B w' v X := by
  obtain ⟨h1, h2⟩ := h
  refine ⟨h1, ?_⟩
  rcases h2 with h2 | ⟨g, cap, cur, hv, hg, hh, r⟩
  · exact .inl h2
  · exact .inr ⟨g, cap, cur, hv, hg, (b.block g (Array.getElem?_eq_some_iff.1 hh).1).trans hh, r⟩
theorem Own.mono {B C : Nat} {w : World} {v : Value} {X : List UInt8} (h : Own B w v X) (hC : C ≤ B) : Own C w v X := by
  obtain ⟨h1, h2⟩ := h
  refine ⟨h1, ?_⟩
  rcases h2 with h2 | ⟨g, cap, cur, hv, hg, r⟩
  · exact .inl h2
  · exact .inr ⟨g, cap, cur, hv, Nat.le_trans hC hg, r⟩
theorem Own.empty (B : Nat) (w : World) (hB : B ≤ w.heap.size) : Own B (w.alloc (.cells #[] 5)) (.slice (some ⟨w.heap.size, 0, none⟩) 0 0) [] :=
  ⟨rfl, .inr ⟨w.heap.size, 0, #[], rfl, hB, new_at _ _, Nat.le_refl _, by decide, rfl, rfl⟩⟩
theorem Own.nil (B : Nat) (w : World) : Own B w (.slice none 0 0) [] := World.ownsRow_nil _ _ _ _
/-- Bytes appended. -/
theorem own_append {B : Nat} {w : World} {k : Nat} {v : Value} {X Y : List UInt8} {a : Option Addr} {n c : Nat} (h : Own B w v X) (hs : Src w k (.slice a n c) Y) (hnil : a = none → c = 0) (hmax : X.length + Y.length ≤ 140737488355328) (hB : B ≤ w.heap.size) :
    ∃ v' w', (Builtin.append_ #[22, 22] 22 #[v, .slice a n c]).run Tryz.prog w = .ok v' w' ∧ Own B w' v' (X ++ Y) ∧ Below B w w' := by
  obtain ⟨i, hi, hz0, hz1, hz2⟩ := info_parts infoB3
  obtain ⟨a', c', e, h1, h2, h3⟩ := hs
  obtain ⟨e1, e2, e3⟩ := slice_inj e
  subst e1 e2 e3
  have hmx : X.length + Y.length ≤ maxLen := by unfold maxLen; omega
  cases a with
  | none =>
    have hc := hnil rfl
    have hy : Y = [] := by
      rcases Nat.eq_zero_or_pos Y.length with q | q
      · exact List.eq_nil_of_length_eq_zero q
      · obtain ⟨_, q, _⟩ := h3 q; cases q
    subst hy hc
    exact ⟨v, w, run_append_owned_none w B 22 22 5 i 1 Tryz.underlying22 hi v _ _ h, by rw [List.append_nil]; exact h, Below.refl _ _⟩
  | some ad =>
    obtain ⟨v', w', hr, q1, q2, q3, q4⟩ := run_append_own_at (P := Tryz.prog) w B 22 22 5 i (.int .u8 0) 1 1 Tryz.underlying22 hi hz0 hz1 hz2 rfl (by decide) v X.length (rowB X) h ad Y.length c (rowB Y) (by rw [rowB_length]; omega)
      (fun j u hj => by
        unfold rowB at hj
        rw [List.getElem?_map] at hj
        obtain ⟨x, hx, rfl⟩ := Option.map_eq_some_iff.1 hj
        have hjl := (List.getElem?_eq_some_iff.1 hx).1
        obtain ⟨off, ha, hc⟩ := h3 (by omega)
        have : ad = ⟨k, off, none⟩ := by simpa using ha
        subst this
        rw [addr_add, hc j hjl, (List.getElem?_eq_some_iff.1 hx).2]) (bvs_one _) hmx (by omega) hB
    refine ⟨v', w', hr, ?_, (Below.refl _ _).grown q2 hB (fun q hq => (h.lt q hq).1)⟩
    unfold Own
    rw [List.length_append, rowB_app]; exact q1
/-- A text's bytes appended. -/
theorem own_append_str {B : Nat} {w : World} {v : Value} {X : List UInt8} {s : ByteArray} (h : Own B w v X) (hmax : X.length + s.size ≤ 140737488355328) (hB : B ≤ w.heap.size) :
    ∃ v' w', (Builtin.append_ #[22, 9] 22 #[v, .string s]).run Tryz.prog w = .ok v' w' ∧ Own B w' v' (X ++ s.data.toList) ∧ Below B w w' := by
  obtain ⟨i, hi, hz0, hz1, hz2⟩ := info_parts infoB3
  obtain ⟨v', w', hr, q1, q2, q3⟩ := Lib.run_append_own_string (P := Tryz.prog) w B 22 9 22 5 i Tryz.underlying22 Tryz.underlying9 hi hz0 hz1 hz2 v X.length (rowB X) h s (by unfold maxLen; omega) hmax hB
  refine ⟨v', w', hr, ?_, (Below.refl _ _).grown q2 hB (fun q hq => (h.lt q hq).1)⟩
  unfold Own
  rw [List.length_append, rowB_app]; exact q1
theorem wpList_append_run2 {P : Program} {w : World} {ops : Array Oper} {rest : List Oper} {o : Oper} {a : Act} {Q : Exit → Act → World → Prop} (hgd : o.guard = none) (s x : Operand) (t u : TypeId)
    (ho : o.op = .call { callee := .builtin .append, args := #[s, x], argTypes := #[t, u] }) (vs vx v' : Value) (w' : World) (hs : a.eval s = vs) (hx : a.eval x = vx) (hr : (Builtin.append_ #[t, u] o.type #[vs, vx]).run P w = .ok v' w')
    (h : wpList P ops Q rest (a.put o.dst v') w') : wpList P ops Q (o :: rest) a w := by
  refine wpList_plain hgd fun K hK => ?_
  unfold Oper.wp execOp
  simp only [ho, resolve, invoke, builtin, Sem.run_bind, Sem.run_pure, Result.andThen_ok, List.map_toArray, List.map_cons, List.map_nil, hs, hx, hr]
  exact hK _ _ h
theorem Src.len {w : World} {k : Nat} {a : Option Addr} {n c : Nat} {b : List UInt8} (h : Src w k (.slice a n c) b) : b.length = n ∧ n ≤ c ∧ c ≤ maxLen := by
  obtain ⟨a', c', e, h1, h2, h3⟩ := h
  obtain ⟨e1, e2, e3⟩ := slice_inj e
  subst e1 e2 e3
  exact ⟨rfl, h1, h2⟩
theorem Src.keep {w w' : World} {k : Nat} {v : Value} {b : List UInt8} (h : Src w k v b) (hk : 0 < b.length → k < w.heap.size) (hB : Below w.heap.size w w') : Src w' k v b := by
  rcases Nat.eq_zero_or_pos b.length with c | c
  · obtain ⟨x, y, e, q1, q2, q3⟩ := h
    exact ⟨x, y, e, q1, q2, fun q => by omega⟩
  · exact h.frame (hB.block k (hk c))
theorem Src.keepB {B : Nat} {w w' : World} {k : Nat} {v : Value} {b : List UInt8} (h : Src w k v b) (hk : 0 < b.length → k < B) (hB : Below B w w') : Src w' k v b := by
  rcases Nat.eq_zero_or_pos b.length with c | c
  · obtain ⟨x, y, e, q1, q2, q3⟩ := h
    exact ⟨x, y, e, q1, q2, fun q => by omega⟩
  · exact h.frame (hB.block k (hk c))
theorem cat_data (x : List UInt8) (y : Array UInt8) : (⟨x.toArray⟩ : ByteArray) ++ ⟨y⟩ = ⟨(x ++ y.toList).toArray⟩ := by
  apply ByteArray.ext
  show ((⟨x.toArray⟩ : ByteArray) ++ ⟨y⟩).data = _
  rw [ByteArray.data_append]
  apply Array.toList_inj.1
  simp
theorem sum_run (W : World) (a b : ByteArray) (h : a.size + b.size ≤ 281474976710656) : (Op.stringOp .add a b).run Tryz.prog W = .ok (.string (a ++ b)) W :=
  run_string_add_sum W a b (by omega)
theorem ret_bool {x y : Bool} (h : x = y) : Ending.returned (.bool x) = .returned (.bool y) := by rw [h]
end Go.Proofs.YtkdnckkdofoaoaaGreatDoor

/- Lines, byte by byte: where the first of them ends. -/
namespace Go.Proofs.YtkdnckkdofoaoaaGreatDoor
open Go.RowKit
set_option linter.unusedVariables false

/-- What Cut finds from place i on: where the line ends, the error. -/
def cutAt (m : Nat) : Nat → List UInt8 → Option Nat × Int
  | _, [] => (none, 0)
  | i, c :: l =>
    if c = 10 then (none, 20)
    else if c = 13 then
      (if l.head? = none then (none, 0) else if l.head? = some 10 then (some i, 0) else (none, 20))
    else if m ≤ i then (none, 2) else cutAt m (i + 1) l
def cutS (m : Nat) (b : List UInt8) : List UInt8 := match (cutAt m 0 b).1 with | some i => b.take i | none => []
def cutN (m : Nat) (b : List UInt8) : Nat := match (cutAt m 0 b).1 with | some i => i + 2 | none => 0
def cutE (m : Nat) (b : List UInt8) : Int := (cutAt m 0 b).2
theorem cut_hit {m k : Nat} {b : List UInt8} (h : cutAt m 0 b = (some k, 0)) : cutS m b = b.take k ∧ cutN m b = k + 2 ∧ cutE m b = 0 := by
  unfold cutS cutN cutE; rw [h]; exact ⟨rfl, rfl, rfl⟩
theorem cut_miss {m : Nat} {e : Int} {b : List UInt8} (h : cutAt m 0 b = (none, e)) : cutS m b = [] ∧ cutN m b = 0 ∧ cutE m b = e := by
  unfold cutS cutN cutE; rw [h]; exact ⟨rfl, rfl, rfl⟩
theorem drop_head (b : List UInt8) (k : Nat) (h : k < b.length) : b.drop k = b[k] :: b.drop (k + 1) := List.drop_eq_getElem_cons h
theorem cutAt_ten {m k : Nat} {b : List UInt8} (h : k < b.length) (hc : b[k] = 10) : cutAt m k (b.drop k) = (none, 20) := by
  rw [drop_head b k h, cutAt, if_pos hc]
theorem cutAt_bad {m k : Nat} {b : List UInt8} (h : k + 1 < b.length) (hc : b[k] = 13) (hd : b[k + 1] ≠ 10) : cutAt m k (b.drop k) = (none, 20) := by
  rw [drop_head b k (by omega), cutAt, hc, if_neg (by decide), if_pos rfl, drop_head b (k + 1) h, List.head?_cons, if_neg (by simp), if_neg (by simpa using hd)]
theorem cutAt_last {m k : Nat} {b : List UInt8} (h : k + 1 = b.length) (hc : b[k] = 13) : cutAt m k (b.drop k) = (none, 0) := by
  rw [drop_head b k (by omega), cutAt, hc, if_neg (by decide), if_pos rfl, List.drop_eq_nil_of_le (by omega), List.head?_nil, if_pos rfl]
theorem cutAt_end {m k : Nat} {b : List UInt8} (h : k + 1 < b.length) (hc : b[k] = 13) (hd : b[k + 1] = 10) : cutAt m k (b.drop k) = (some k, 0) := by
  rw [drop_head b k (by omega), cutAt, hc, if_neg (by decide), if_pos rfl, drop_head b (k + 1) h, List.head?_cons, if_neg (by simp), if_pos (by rw [hd])]
theorem cutAt_long {m k : Nat} {b : List UInt8} (h : k < b.length) (h1 : b[k] ≠ 10) (h2 : b[k] ≠ 13) (hm : m ≤ k) : cutAt m k (b.drop k) = (none, 2) := by
  rw [drop_head b k h, cutAt, if_neg h1, if_neg h2, if_pos hm]
theorem cutAt_next {m k : Nat} {b : List UInt8} (h : k < b.length) (h1 : b[k] ≠ 10) (h2 : b[k] ≠ 13) (hm : ¬ m ≤ k) : cutAt m k (b.drop k) = cutAt m (k + 1) (b.drop (k + 1)) := by
  rw [drop_head b k h, cutAt, if_neg h1, if_neg h2, if_neg hm]
theorem cutAt_fin {m k : Nat} {b : List UInt8} (h : b.length ≤ k) : cutAt m k (b.drop k) = (none, 0) := by
  rw [List.drop_eq_nil_of_le h, cutAt]
theorem head_app (l more : List UInt8) (h : l.head? ≠ none) : (l ++ more).head? = l.head? := by cases l with | nil => exact absurd rfl h | cons a l => rfl
/-- What is found in a beginning is found in more. -/
theorem cutAt_app (m : Nat) (more : List UInt8) : ∀ (l : List UInt8) (i : Nat), cutAt m i l ≠ (none, 0) → cutAt m i (l ++ more) = cutAt m i l
  | [], i, h => absurd rfl h
  | c :: l, i, h => by
    rw [List.cons_append, cutAt, cutAt]
    rw [cutAt] at h
    by_cases h1 : c = 10
    · rw [if_pos h1, if_pos h1]
    · rw [if_neg h1] at h; rw [if_neg h1, if_neg h1]
      by_cases h2 : c = 13
      · rw [if_pos h2] at h; rw [if_pos h2, if_pos h2]
        by_cases h3 : l.head? = none
        · rw [if_pos h3] at h; exact absurd rfl h
        · rw [head_app l more h3]
      · rw [if_neg h2] at h; rw [if_neg h2, if_neg h2]
        by_cases h3 : m ≤ i
        · rw [if_pos h3, if_pos h3]
        · rw [if_neg h3] at h; rw [if_neg h3, if_neg h3]; exact cutAt_app m more l (i + 1) h
/-- Where a line ends, its end stands. -/
theorem cutAt_some (m : Nat) : ∀ (l : List UInt8) (i k : Nat) (e : Int), cutAt m i l = (some k, e) → e = 0 ∧ ∃ j, k = i + j ∧ j + 2 ≤ l.length ∧ l.take (j + 2) = l.take j ++ [13, 10]
  | [], i, k, e, h => by simp [cutAt] at h
  | c :: l, i, k, e, h => by
    rw [cutAt] at h
    by_cases h1 : c = 10
    · rw [if_pos h1] at h; simp at h
    · rw [if_neg h1] at h
      by_cases h2 : c = 13
      · rw [if_pos h2] at h
        by_cases h3 : l.head? = none
        · rw [if_pos h3] at h; simp at h
        · rw [if_neg h3] at h
          by_cases h4 : l.head? = some 10
          · rw [if_pos h4] at h
            cases l with
            | nil => simp at h4
            | cons d l =>
              have : d = 10 := by simpa using h4
              subst this
              subst h2
              have h5 : i = k ∧ 0 = e := by simpa using h
              refine ⟨h5.2.symm, 0, by omega, by simp, by simp⟩
          · rw [if_neg h4] at h; simp at h
      · rw [if_neg h2] at h
        by_cases h3 : m ≤ i
        · rw [if_pos h3] at h; simp at h
        · rw [if_neg h3] at h
          obtain ⟨e0, j, hj, hl, ht⟩ := cutAt_some m l (i + 1) k e h
          refine ⟨e0, j + 1, by omega, by simp; omega, ?_⟩
          rw [show j + 1 + 2 = (j + 2) + 1 by omega, List.take_succ_cons, List.take_succ_cons, ht]; rfl
theorem cut_cases (m : Nat) (b : List UInt8) : (∃ k, cutAt m 0 b = (some k, 0) ∧ k + 2 ≤ b.length ∧ b.take (k + 2) = b.take k ++ [13, 10]) ∨ ∃ e, cutAt m 0 b = (none, e) := by
  rcases h : cutAt m 0 b with ⟨_ | k, e⟩
  · exact .inr ⟨e, rfl⟩
  · obtain ⟨rfl, j, hj, hl, ht⟩ := cutAt_some m b 0 k e h
    have : k = j := by omega
    subst this
    exact .inl ⟨k, rfl, hl, ht⟩
def plain (s : List UInt8) : Bool := s.all fun c => c != 13 && c != 10
theorem cutAt_plain (m : Nat) (rest : List UInt8) : ∀ (s : List UInt8) (i : Nat), i ≤ m → plain s = true → cutAt m i (s ++ 13 :: 10 :: rest) = if m < i + s.length then (none, 2) else (some (i + s.length), 0)
  | [], i, hi, h => by
    rw [List.nil_append, cutAt, if_neg (by decide), if_pos rfl, if_neg (by simp), if_pos (by simp), if_neg (by simp; omega)]
    simp
  | c :: s, i, hi, h => by
    have h' : (c ≠ 13 ∧ c ≠ 10) ∧ plain s = true := by simpa [plain] using h
    rw [List.cons_append, cutAt, if_neg h'.1.2, if_neg h'.1.1]
    by_cases hm : m ≤ i
    · rw [if_pos hm, if_pos (by simp; omega)]
    · rw [if_neg hm, cutAt_plain m rest s (i + 1) (by omega) h'.2]
      simp only [List.length_cons, Nat.add_assoc, Nat.add_comm 1]
theorem u8_ne {c : UInt8} {n : Nat} (h : ¬ (c.toNat : Int) = n) (hn : n < 256) : c ≠ UInt8.ofNat n := by
  intro e
  apply h
  rw [e]
  have : (UInt8.ofNat n).toNat = n := by simp; omega
  rw [this]
theorem conv_take {w : World} {k off c : Nat} {b : List UInt8} (h : ∀ (j : Nat) (hj : j < b.length), w.cell? ⟨k, off + j, none⟩ = some (bv b[j])) (i : Nat) (hi : i ≤ b.length) : (convert 22 9 (.slice (some ⟨k, off, none⟩) i c)).run Tryz.prog w = .ok (.string ⟨(b.take i).toArray⟩) w := by
  have hl : (b.take i).length = i := by rw [List.length_take]; omega
  have r := run_convert_bytes_back (P := Tryz.prog) w 22 9 5 ⟨k, off, none⟩ c (b.take i) Tryz.underlying22 Tryz.underlying5 Tryz.underlying9 (fun j hj => by rw [addr_add, List.getElem_take]; exact h j (by omega))
  rw [hl] at r
  exact r
end Go.Proofs.YtkdnckkdofoaoaaGreatDoor

/- Cut, of the program and of the reference. -/
namespace Go.Proofs.YtkdnckkdofoaoaaGreatDoor
open Go.RowKit
set_option linter.unusedVariables false

/-- What Cut answers. -/
def cutV (m : Nat) (b : List UInt8) : Value := .tuple #[.string ⟨(cutS m b).toArray⟩, .int .i64 (cutN m b : Nat), .int .i64 (cutE m b)]
theorem cutV_hit {m k : Nat} {b : List UInt8} (h : cutAt m 0 b = (some k, 0)) : cutV m b = .tuple #[.string ⟨(b.take k).toArray⟩, .int .i64 ((k : Int) + 2), .int .i64 0] := by
  obtain ⟨h1, h2, h3⟩ := cut_hit h
  unfold cutV; rw [h1, h2, h3]; rfl
theorem cutV_miss {m : Nat} {e : Int} {b : List UInt8} (h : cutAt m 0 b = (none, e)) : cutV m b = .tuple #[.string ⟨#[]⟩, .int .i64 0, .int .i64 e] := by
  obtain ⟨h1, h2, h3⟩ := cut_miss h
  unfold cutV; rw [h1, h2, h3]; rfl
theorem toNat_ne {c : UInt8} (n : Nat) (d : UInt8) (hd : d.toNat = n) (h : ¬ c = d) : ¬ (c.toNat : Int) = (n : Int) := by
  intro e
  apply h
  apply UInt8.toNat_inj.1
  omega

set_option maxHeartbeats 4000000 in
theorem cut_any (b : List UInt8) (kb : Nat) (v : Value) (most : Int) (w : World) (hs : Src w kb v b) :
    Calls Tryz.prog 115 #[v, .int .i64 most] w fun e w' => e = .returned (cutV most.toNat b) ∧ w' = w := by
  obtain ⟨a, c, rfl, h1, h2, h3⟩ := hs
  obtain ⟨n, hn⟩ : ∃ n, n = b.length := ⟨_, rfl⟩
  obtain ⟨m, hm⟩ : ∃ m, m = most.toNat := ⟨_, rfl⟩
  rw [← hm, ← hn]
  rw [← hn] at h1
  unfold maxLen at h2
  have HN : Hid (n = b.length) := hn
  have HM : Hid (m = most.toNat) := hm
  have H3 : Hid (0 < b.length → ∃ off, a = some ⟨kb, off, none⟩ ∧ ∀ (j : Nat) (hj : j < b.length), w.cell? ⟨kb, off + j, none⟩ = some (bv b[j])) := h3
  clear hn hm h3
  go_enter Tryz.func115, Tryz.ntmps115
  go_wp2
  go_loop [12] (fun vi => ∃ k : Nat, k ≤ n ∧ vi = .int .i64 k ∧ Hid (cutAt m 0 b = cutAt m k (b.drop k))) (fun vi => n - (intOf vi).toNat)
  case atStart => exact ⟨0, Nat.zero_le _, rfl, rfl⟩
  case round =>
    obtain ⟨k, hk, rfl, hA⟩ := hrel
    by_cases hlt : k < n
    · have hlb : k < b.length := by have := HN.out; omega
      obtain ⟨off, rfl, hc⟩ := H3.out (by omega)
      have q1 : w.cell? ⟨kb, off + k, none⟩ = some (.int .u8 (b[k].toNat : Int)) := hc k hlb
      by_cases t1 : b[k] = 10
      · have HR : Hid (cutV m b = .tuple #[.string ⟨#[]⟩, .int .i64 0, .int .i64 20]) := cutV_miss (hA.out.trans (cutAt_ten hlb t1))
        rw [t1] at q1
        have q2 : w.cell? ⟨kb, off + k, none⟩ = some (.int .u8 10) := q1
        clear q1 hc t1 hlb H3 hA
        go_wp2
        refine bodyPost_ret (v := .tuple #[.string ⟨#[]⟩, .int .i64 0, .int .i64 20]) (by simp [results, Tryz.results115, go_sem]) rfl ⟨?_, rfl⟩
        rw [HR.out]
      · by_cases t2 : b[k] = 13
        · rw [t2] at q1
          have q2 : w.cell? ⟨kb, off + k, none⟩ = some (.int .u8 13) := q1
          clear q1
          by_cases t3 : k + 1 < n
          · have hlb1 : k + 1 < b.length := by have := HN.out; omega
            have q3 : w.cell? ⟨kb, off + (k + 1), none⟩ = some (.int .u8 (b[k + 1].toNat : Int)) := hc (k + 1) hlb1
            have hl : ((k : Int) + 1 == (n : Int)) = false := by simp; omega
            have hl' : ((k : Int) == (n : Int) - 1) = false := by simp; omega
            by_cases t4 : b[k + 1] = 10
            · have HR : Hid (cutV m b = .tuple #[.string ⟨(b.take k).toArray⟩, .int .i64 ((k : Int) + 2), .int .i64 0]) := cutV_hit (hA.out.trans (cutAt_end hlb1 t2 t4))
              rw [t4] at q3
              have q4 : w.cell? ⟨kb, off + (k + 1), none⟩ = some (.int .u8 10) := q3
              have hcv := conv_take (c := c) hc k (by omega)
              clear q3 hc t1 t2 t4 hlb hlb1 H3 hA
              go_wp2
              refine bodyPost_ret (v := .tuple #[.string ⟨(b.take k).toArray⟩, .int .i64 ((k : Int) + 2), .int .i64 0]) (by simp [results, Tryz.results115, go_sem]) rfl ⟨?_, rfl⟩
              rw [HR.out]
            · have HR : Hid (cutV m b = .tuple #[.string ⟨#[]⟩, .int .i64 0, .int .i64 20]) := cutV_miss (hA.out.trans (cutAt_bad hlb1 t2 t4))
              have t5 := toNat_ne 10 10 rfl t4
              have t6 : ¬ ((b[k + 1].toNat : Int) = 10) := t5
              clear t5 hc t1 t2 t4 hlb H3 hA
              generalize (b[k + 1].toNat : Int) = y at *
              have t9 : (y != 10) = true := by simpa using t6
              clear hlb1
              go_wp2
              refine bodyPost_ret (v := .tuple #[.string ⟨#[]⟩, .int .i64 0, .int .i64 20]) (by simp [results, Tryz.results115, go_sem]) rfl ⟨?_, rfl⟩
              rw [HR.out]
          · have HR : Hid (cutV m b = .tuple #[.string ⟨#[]⟩, .int .i64 0, .int .i64 0]) := cutV_miss (hA.out.trans (cutAt_last (by have := HN.out; omega) t2))
            obtain rfl : n = k + 1 := by omega
            clear hc t1 t2 hlb H3 hA
            go_wp2
            refine bodyPost_ret (v := .tuple #[.string ⟨#[]⟩, .int .i64 0, .int .i64 0]) (by simp [results, Tryz.results115, go_sem]) rfl ⟨?_, rfl⟩
            rw [HR.out]
        · have t5 : ¬ ((b[k].toNat : Int) = 10) := toNat_ne 10 10 rfl t1
          have t6 : ¬ ((b[k].toNat : Int) = 13) := toNat_ne 13 13 rfl t2
          by_cases t7 : m ≤ k
          · have HR : Hid (cutV m b = .tuple #[.string ⟨#[]⟩, .int .i64 0, .int .i64 2]) := cutV_miss (hA.out.trans (cutAt_long hlb t1 t2 t7))
            have t8 : max most 0 ≤ (k : Int) := by have := HM.out; omega
            clear hc t1 t2 H3 hA
            generalize (b[k].toNat : Int) = y at *
            clear hlb
            go_wp2
            refine bodyPost_ret (v := .tuple #[.string ⟨#[]⟩, .int .i64 0, .int .i64 2]) (by simp [results, Tryz.results115, go_sem]) rfl ⟨?_, rfl⟩
            rw [HR.out]
          · have HX : Hid (cutAt m 0 b = cutAt m (k + 1) (b.drop (k + 1))) := hA.out.trans (cutAt_next hlb t1 t2 t7)
            have t8 : ¬ max most 0 ≤ (k : Int) := by have := HM.out; omega
            clear hc t1 t2 H3 hA
            generalize (b[k].toNat : Int) = y at *
            clear hlb
            go_wp2
            go_round
            case rel => exact ⟨k + 1, by omega, by go_num, HX⟩
            case measure => simp [intOf]; omega
    · have HR : Hid (cutV m b = .tuple #[.string ⟨#[]⟩, .int .i64 0, .int .i64 0]) := cutV_miss (hA.out.trans (cutAt_fin (by have := HN.out; omega)))
      go_wp2
      refine bodyPost_ret (v := .tuple #[.string ⟨#[]⟩, .int .i64 0, .int .i64 0]) (by simp [results, Tryz.results115, go_sem]) rfl ⟨?_, rfl⟩
      rw [HR.out]
end Go.Proofs.YtkdnckkdofoaoaaGreatDoor

/- SameBytes of equal lists. -/
namespace Go.Proofs.YtkdnckkdofoaoaaGreatDoor
open Go.RowKit
set_option linter.unusedVariables false

set_option maxHeartbeats 1000000 in
theorem sameBytes_eq (xs : List UInt8) (k1 k2 : Nat) (v1 v2 : Value) (w : World) (h1 : Src w k1 v1 xs) (h2 : Src w k2 v2 xs) :
    Calls Tryz.prog 25 #[v1, v2] w fun e w' => e = .returned (.bool true) ∧ Below w.heap.size w w' := by
  obtain ⟨a1, c1, rfl, l1, m1, f1⟩ := h1
  obtain ⟨a2, c2, rfl, l2, m2, f2⟩ := h2
  unfold maxLen at m1 m2
  rcases Nat.eq_zero_or_pos xs.length with h0 | hp
  · rw [h0]
    clear f1 f2
    go_enter Tryz.func25, Tryz.ntmps25
    go_wp2_with fail
    refine wp_loop_rounds 1 ?_
    rw [rounds_succ]
    go_wp2
    go_ret
    exact ⟨rfl, Below.refl _ _⟩
  · obtain ⟨o1, rfl, g1⟩ := f1 hp
    obtain ⟨o2, rfl, g2⟩ := f2 hp
    clear f1 f2
    have hn : xs.length ≤ 9223372036854775807 := by omega
    clear m1 m2
    go_enter Tryz.func25, Tryz.ntmps25
    go_wp2_with fail
    go_loopw [5] (fun vi wr => ∃ k d : Nat, k ≤ xs.length ∧ vi = .int .i64 k ∧ wr = w.drewN d) (fun vi _ => xs.length - (intOf vi).toNat)
    case atStart => exact ⟨0, 0, Nat.zero_le _, rfl, by simp [World.drewN_zero]⟩
    case round =>
      obtain ⟨k, d, hk, rfl, rfl⟩ := hrel
      by_cases hlt : k < xs.length
      · have q1 : w.cell? ⟨k1, o1 + k, none⟩ = some (.int .u8 (xs[k].toNat : Int)) := g1 k hlt
        have q2 : w.cell? ⟨k2, o2 + k, none⟩ = some (.int .u8 (xs[k].toNat : Int)) := g2 k hlt
        generalize (xs[k].toNat : Int) = x at *
        clear g1 g2
        go_wp2
        go_quiet (fail)
        go_wp2
        go_roundw
        case rel => exact ⟨k + 1, _, by omega, by go_num, rfl⟩
        case measure => simp [intOf]; omega
      · go_wp2
        go_ret
        exact ⟨rfl, by refine ⟨?_, ?_, ?_, ?_, ?_⟩ <;> simp [World.drewN]⟩

end Go.Proofs.YtkdnckkdofoaoaaGreatDoor

/- A row of bytes of one's own, nothing of which is frozen, though its block bears a mark behind its end: bytes made of a text, and what is appended to them. -/
namespace Go.Proofs.YtkdnckkdofoaoaaGreatDoor
open Go.ChangeShapes Go.WideShapes Go.ChangeAt Go.RowKit
set_option linter.unusedVariables false

def Soft (n : Nat) (fz : Nat × Nat) : Prop := ∀ i, i < n → ¬ (fz.1 ≤ i ∧ i < fz.2)
theorem storeCells_soft (P : Program) (g o : Nat) (t : TypeId) (fz : Nat × Nat) : ∀ (vs : List Value) (i : Nat) (cur : Array Value) (w : World), w.heap[g]? = some (.cells cur t fz) → Soft cur.size fz → o + i + vs.length ≤ cur.size → (∀ v ∈ vs, v.oneCell' = true) →
    (storeCells ⟨g, o, none⟩ vs i).run P w = .ok () (w.setRow g (cur.toList.take (o + i) ++ vs ++ cur.toList.drop (o + i + vs.length)).toArray)
  | [], i, cur, w, hg, _, _, _ => by
    simp only [storeCells, List.append_nil, List.length_nil, Nat.add_zero, List.take_append_drop, Array.toArray_toList]
    rw [setRow_self w g cur t fz hg]
    rfl
  | v :: rest, i, cur, w, hg, hfz, hl, h1 => by
    have hi : o + i < cur.size := by simp at hl; omega
    have hadd : (⟨g, o, none⟩ : Addr).add i = ⟨g, o + i, none⟩ := by unfold Addr.add; split <;> simp_all
    have hcell : w.cell? ⟨g, o + i, none⟩ = some cur[o + i] := by simp [World.cell?, hg, hi]
    have hfro : w.frozen? ⟨g, o + i, none⟩ = false := by
      have k := hfz (o + i) hi
      obtain ⟨lo, hi'⟩ := fz
      simp only [World.frozen?, hg, Bool.and_eq_false_iff, decide_eq_false_iff_not]
      simp only at k
      omega
    have hst : (store ((⟨g, o, none⟩ : Addr).add i) v).run P w = .ok () (w.setRow g (cur.setIfInBounds (o + i) v)) := by
      rw [hadd, run_store P w _ v _ (h1 v (by simp)), hcell]
      simp [hfro, setCell_eq_setRow w g (o + i) cur t fz v hg]
    have ih := storeCells_soft P g o t fz rest (i + 1) (cur.setIfInBounds (o + i) v) (w.setRow g (cur.setIfInBounds (o + i) v)) (setRow_heap w g cur _ t _ hg) (by rw [Array.size_setIfInBounds]; exact hfz) (by simp at hl ⊢; omega) (fun x hx => h1 x (by simp [hx]))
    simp only [storeCells, Sem.run_bind, hst, Result.andThen_ok, ih, setRow_setRow]
    congr 3
    have e := list_seg_step cur.toList (o + i) v rest (by simp at hl ⊢; omega)
    simpa [Array.toList_setIfInBounds, Nat.add_assoc] using e

/-- The bytes X, in a block from B on that the walk itself has made. -/
def OwnG (B : Nat) (w : World) (v : Value) (X : List UInt8) : Prop := ∃ g cap cur fz, v = .slice (some ⟨g, 0, none⟩) X.length cap ∧ B ≤ g ∧ w.heap[g]? = some (.cells cur 5 fz) ∧ Soft cur.size fz ∧ X.length ≤ cap ∧ cap ≤ maxLen ∧ cur.size = cap ∧ cur.toList.take X.length = rowB X
theorem OwnG.form {B : Nat} {w : World} {v : Value} {X : List UInt8} (h : OwnG B w v X) : ∃ g c, v = .slice (some ⟨g, 0, none⟩) X.length c ∧ B ≤ g ∧ g < w.heap.size := by
  obtain ⟨g, cap, cur, fz, hv, hB, hg, _⟩ := h
  exact ⟨g, cap, hv, hB, heap_lt hg⟩
theorem OwnG.mono {B C : Nat} {w : World} {v : Value} {X : List UInt8} (h : OwnG B w v X) (hC : C ≤ B) : OwnG C w v X := by
  obtain ⟨g, cap, cur, fz, hv, hB, r⟩ := h
  exact ⟨g, cap, cur, fz, hv, Nat.le_trans hC hB, r⟩
theorem OwnG.keep {B : Nat} {w w' : World} {v : Value} {X : List UInt8} (h : OwnG B w v X) (b : Below w.heap.size w w') : OwnG B w' v X := by
  obtain ⟨g, cap, cur, fz, hv, hB, hg, r⟩ := h
  exact ⟨g, cap, cur, fz, hv, hB, (b.block g (heap_lt hg)).trans hg, r⟩
theorem OwnG.cells {B g n c : Nat} {w : World} {X : List UInt8} (h : OwnG B w (.slice (some ⟨g, 0, none⟩) n c) X) (j : Nat) (hj : j < X.length) : w.cell? ⟨g, j, none⟩ = some (bv X[j]) := by
  obtain ⟨g', cap, cur, fz, hv, hB, hg, hz, hl, hm, hs, ht⟩ := h
  obtain ⟨e1, e2, e3⟩ := slice_inj hv
  have : g = g' := by simpa using e1
  subst this
  have k : (cur.toList.take X.length)[j]? = (rowB X)[j]? := by rw [ht]
  rw [List.getElem?_take, if_pos hj] at k
  unfold rowB at k
  rw [List.getElem?_map, List.getElem?_eq_getElem hj] at k
  unfold World.cell?
  rw [hg]
  simp only
  rw [← Array.getElem?_toList, k]
  rfl
theorem OwnG.src {B : Nat} {w : World} {v : Value} {X : List UInt8} (h : OwnG B w v X) : ∃ k, Src w k v X ∧ B ≤ k ∧ k < w.heap.size := by
  have h0 := h
  obtain ⟨g, cap, cur, fz, hv, hB, hg, hz, hl, hm, hs, ht⟩ := h
  refine ⟨g, ⟨_, cap, hv, hl, hm, fun _ => ⟨0, rfl, fun j hj => ?_⟩⟩, hB, heap_lt hg⟩
  rw [Nat.zero_add]
  exact (hv ▸ h0).cells j hj
theorem convG (w : World) (s : ByteArray) (hs : s.size ≤ maxLen) : ∃ v w1, (convert 9 22 (.string s)).run Tryz.prog w = .ok v w1 ∧ OwnG w.heap.size w1 v s.data.toList ∧ Below w.heap.size w w1 := by
  refine ⟨_, _, run_bytes_of_string w 9 22 5 s Tryz.underlying9 Tryz.underlying22 Tryz.underlying5, ?_, ((Below.refl _ _).drew).alloc (Nat.le_refl _) _⟩
  have hsz : (bytesRow s (grownCap w s.size 0 5)).size = grownCap w s.size 0 5 := by
    unfold bytesRow
    rw [Array.size_append, Array.size_map, Array.size_replicate]
    have := grownCap_ge w s.size 0 5
    show s.size + _ = _
    omega
  refine ⟨w.heap.size, grownCap w s.size 0 5, _, _, rfl, Nat.le_refl _, new_at w.drew _, fun i hi k => ?_, grownCap_ge _ _ _ _, grownCap_le_maxLen _ _ _ _ hs, hsz, ?_⟩
  · exact absurd k.1 (by simp only; omega)
  · unfold bytesRow
    rw [Array.toList_append, List.take_append_of_le_length (by simp), List.take_of_length_le (by simp)]
    simp [rowB, bv]
theorem rowB_str (s : ByteArray) : Lib.strCells s = rowB s.data.toList := by
  unfold Lib.strCells rowB
  rfl
/-- A text's bytes appended. -/
theorem ownG_append_str {B : Nat} {w : World} {v : Value} {X : List UInt8} {s : ByteArray} (h : OwnG B w v X) (hmax : X.length + s.size ≤ 140737488355328) (hB : B ≤ w.heap.size) :
    ∃ v' w', (Builtin.append_ #[22, 9] 22 #[v, .string s]).run Tryz.prog w = .ok v' w' ∧ OwnG B w' v' (X ++ s.data.toList) ∧ Below B w w' := by
  obtain ⟨i, hi, hz0, hz1, hz2⟩ := info_parts infoB3
  have h0 := h
  obtain ⟨g, cap, cur, fz, rfl, hBg, hg, hz, hl, hm, hs, ht⟩ := h
  have hlen : (X ++ s.data.toList).length = X.length + s.size := by rw [List.length_append]; rfl
  by_cases hroom : X.length + s.size ≤ cap
  · have hf := Lib.run_firstCells_string (P := Tryz.prog) w 1 s
    have hst := storeCells_soft Tryz.prog g X.length 5 fz (Lib.strCells s) 0 cur w hg hz (by rw [Lib.strCells_length]; omega) (Lib.strCells_oneCell s)
    simp only [Nat.add_zero, Lib.strCells_length] at hst
    refine ⟨.slice (some ⟨g, 0, none⟩) (X.length + s.size) cap, w.setRow g (cur.toList.take X.length ++ Lib.strCells s ++ cur.toList.drop (X.length + s.size)).toArray, ?_, ⟨g, cap, _, fz, by rw [hlen], hBg, setRow_heap w g cur _ 5 _ hg, ?_, by omega, hm, ?_, ?_⟩, ?_⟩
    · simp [Builtin.append_, run_underlying Tryz.underlying22, run_underlying Tryz.underlying9, sizeOf, typeInfo, hi, hz1, Builtin.lenOf, hroom, hf, Addr.add_lit, hst]
    · have e : (cur.toList.take X.length ++ Lib.strCells s ++ cur.toList.drop (X.length + s.size)).toArray.size = cur.size := by
        simp only [List.size_toArray, List.length_append, List.length_take, List.length_drop, Array.length_toList, Lib.strCells_length]
        omega
      rw [e]; exact hz
    · simp only [List.size_toArray, List.length_append, List.length_take, List.length_drop, Array.length_toList, Lib.strCells_length]
      omega
    · have e1 : (X ++ s.data.toList).length = (rowB X ++ Lib.strCells s).length := by rw [hlen, List.length_append, rowB_length, Lib.strCells_length]
      rw [ht, e1, List.toList_toArray, List.take_left, rowB_app, rowB_str]
    · exact ⟨rfl, rfl, rfl, by simp, fun k hk => setRow_other w g k _ (fun e => by omega)⟩
  · have holds : ∀ j u, (rowB X)[j]? = some u → w.cell? ((⟨g, 0, none⟩ : Addr).add j) = some u := fun j u hu => by
      have hj : j < X.length := by have := (List.getElem?_eq_some_iff.1 hu).1; rw [rowB_length] at this; exact this
      rw [addr_add, Nat.zero_add, h0.cells j hj]
      unfold rowB at hu
      rw [List.getElem?_map, List.getElem?_eq_getElem hj] at hu
      exact hu
    have hr := Lib.run_append_grow_string (P := Tryz.prog) w 22 9 22 5 i (.int .u8 0) Tryz.underlying22 Tryz.underlying9 hi hz0 ⟨g, 0, none⟩ X.length cap (rowB X) (by rw [hz1, rowB_length]; omega) holds s (by omega) (by omega) (by rw [hz2]; exact growslice_fits (by omega) (by omega))
    have hge := grownCap_ge w (X.length + s.size) cap 5
    refine ⟨_, _, hr, ⟨w.heap.size, _, _, (0, 0), by rw [hlen], hB, new_at w.drew _, fun j _ k => by simp only at k; omega, by rw [hlen]; exact hge, grownCap_le_maxLen _ _ _ _ (by unfold maxLen; omega), ?_, ?_⟩, ?_⟩
    · have hz1 : (Value.int IntKind.u8 0).cells.size = 1 := rfl
      simp only [Array.size_append, List.size_toArray, size_zeroCells, hz1, rowB_length, Lib.strCells_length]
      omega
    · have e1 : (X ++ s.data.toList).length = (rowB X ++ Lib.strCells s).length := by rw [hlen, List.length_append, rowB_length, Lib.strCells_length]
      simp only [Array.toList_append]
      rw [e1, List.take_left, rowB_app, rowB_str]
    · exact ((Below.refl _ _).drew).alloc hB _
/-- Bytes appended. -/
theorem ownG_append {B : Nat} {w : World} {k : Nat} {v : Value} {X Y : List UInt8} {a : Option Addr} {n c : Nat} (h : OwnG B w v X) (hsrc : Src w k (.slice a n c) Y) (hnil : a = none → c = 0) (hmax : X.length + Y.length ≤ 140737488355328) (hB : B ≤ w.heap.size) :
    ∃ v' w', (Builtin.append_ #[22, 22] 22 #[v, .slice a n c]).run Tryz.prog w = .ok v' w' ∧ OwnG B w' v' (X ++ Y) ∧ Below B w w' := by
  obtain ⟨i, hi, hz0, hz1, hz2⟩ := info_parts infoB3
  have h0 := h
  obtain ⟨g, cap, cur, fz, rfl, hBg, hg, hz, hl, hm, hs, ht⟩ := h
  obtain ⟨a', c', e, q1, q2, q3⟩ := hsrc
  obtain ⟨e1, e2, e3⟩ := slice_inj e
  subst e1 e2 e3
  have hlen : (X ++ Y).length = X.length + Y.length := List.length_append
  cases a with
  | none =>
    have hc := hnil rfl
    have hy : Y = [] := by
      rcases Nat.eq_zero_or_pos Y.length with q | q
      · exact List.eq_nil_of_length_eq_zero q
      · obtain ⟨_, q, _⟩ := q3 q; cases q
    subst hy hc
    refine ⟨.slice (some ⟨g, 0, none⟩) X.length cap, w, ?_, by rw [List.append_nil]; exact h0, Below.refl _ _⟩
    simp [Builtin.append_, run_underlying Tryz.underlying22, sizeOf, typeInfo, hi, Builtin.lenOf, hl, Builtin.firstCells, storeCells]
  | some ad =>
    have hnews : ∀ j u, (rowB Y)[j]? = some u → w.cell? (ad.add j) = some u := fun j u hj => by
      unfold rowB at hj
      rw [List.getElem?_map] at hj
      obtain ⟨x, hx, rfl⟩ := Option.map_eq_some_iff.1 hj
      have hjl := (List.getElem?_eq_some_iff.1 hx).1
      obtain ⟨off, ha, hc⟩ := q3 (by omega)
      have : ad = ⟨k, off, none⟩ := by simpa using ha
      subst this
      rw [addr_add, hc j hjl, (List.getElem?_eq_some_iff.1 hx).2]
    by_cases hroom : X.length + Y.length ≤ cap
    · have hf := run_firstCells_some (P := Tryz.prog) w i.size Y.length ad Y.length c (rowB Y) (by rw [rowB_length, hz1]; omega) hnews
      have hst := storeCells_soft Tryz.prog g X.length 5 fz (rowB Y) 0 cur w hg hz (by rw [rowB_length]; omega) (bvs_one _)
      rw [hz1] at hf
      simp only [Nat.add_zero, rowB_length] at hst
      refine ⟨.slice (some ⟨g, 0, none⟩) (X.length + Y.length) cap, w.setRow g (cur.toList.take X.length ++ rowB Y ++ cur.toList.drop (X.length + Y.length)).toArray, ?_, ⟨g, cap, _, fz, by rw [hlen], hBg, setRow_heap w g cur _ 5 _ hg, ?_, by omega, hm, ?_, ?_⟩, ?_⟩
      · simp [Builtin.append_, run_underlying Tryz.underlying22, sizeOf, typeInfo, hi, hz1, Builtin.lenOf, hroom, hf, Addr.add_lit, hst]
      · have e : (cur.toList.take X.length ++ rowB Y ++ cur.toList.drop (X.length + Y.length)).toArray.size = cur.size := by
          simp only [List.size_toArray, List.length_append, List.length_take, List.length_drop, Array.length_toList, rowB_length]
          omega
        rw [e]; exact hz
      · simp only [List.size_toArray, List.length_append, List.length_take, List.length_drop, Array.length_toList, rowB_length]
        omega
      · have e1 : (X ++ Y).length = (rowB X ++ rowB Y).length := by rw [hlen, List.length_append, rowB_length, rowB_length]
        rw [ht, e1, List.toList_toArray, List.take_left, rowB_app]
      · exact ⟨rfl, rfl, rfl, by simp, fun k hk => setRow_other w g k _ (fun e => by omega)⟩
    · have holds : ∀ j u, (rowB X)[j]? = some u → w.cell? ((⟨g, 0, none⟩ : Addr).add j) = some u := fun j u hu => by
        have hj : j < X.length := by have := (List.getElem?_eq_some_iff.1 hu).1; rw [rowB_length] at this; exact this
        rw [addr_add, Nat.zero_add, h0.cells j hj]
        unfold rowB at hu
        rw [List.getElem?_map, List.getElem?_eq_getElem hj] at hu
        exact hu
      have hr := run_append_grow (P := Tryz.prog) w 22 22 5 i (.int .u8 0) Tryz.underlying22 hi hz0 ⟨g, 0, none⟩ X.length cap (rowB X) (by rw [hz1, rowB_length]; omega) holds ad Y.length c (rowB Y) (by rw [hz1, rowB_length]; omega) hnews (by omega) (by omega) (by rw [hz2]; exact growslice_fits (by omega) (by omega))
      have hge := grownCap_ge w (X.length + Y.length) cap 5
      refine ⟨_, _, hr, ⟨w.heap.size, _, _, (0, 0), by rw [hlen], hB, new_at w.drew _, fun j _ k => by simp only at k; omega, by rw [hlen]; exact hge, grownCap_le_maxLen _ _ _ _ (by unfold maxLen; omega), ?_, ?_⟩, ?_⟩
      · have hz1 : (Value.int IntKind.u8 0).cells.size = 1 := rfl
        simp only [Array.size_append, List.size_toArray, size_zeroCells, hz1, rowB_length]
        omega
      · have e1 : (X ++ Y).length = (rowB X ++ rowB Y).length := by rw [hlen, List.length_append, rowB_length, rowB_length]
        simp only [Array.toList_append]
        rw [e1, List.take_left, rowB_app]
      · exact ((Below.refl _ _).drew).alloc hB _
end Go.Proofs.YtkdnckkdofoaoaaGreatDoor
