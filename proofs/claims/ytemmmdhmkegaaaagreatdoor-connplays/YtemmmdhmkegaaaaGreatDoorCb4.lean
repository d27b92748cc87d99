/- Texts that the proof leans on, one behind the other: FrA SgnG DecR LnA PrfA PrfC LnB LnK LnD LnE SufA LnG HtA HtB LnP FsN HtC FsC FrB FrC HtD HtE HtF HtG HtJ -/
import Derived.Test.YtemmmdhmkegaaaaGreatDoorCb3
import Derived.Test.YtemmmdhmkegaaaaGreatDoorCb2
import Derived.Test.YtemmmdhmkegaaaaGreatDoorCb1
import Derived.Deep.RegionHeld3
import Derived.Deep.RegionWith
import Derived.Deep.QuietTactic
import Derived.Laws.RangeAny
import Derived.WalkSmall
import Derived.OwnWalk
/- How long a body is, as plain functions of the fields. -/
namespace Go.Proofs.YtemmmdhmkegaaaaGreatDoor
open Go.RowKit
set_option linter.unusedVariables false

def anyT (xs : List ByteArray) (s : ByteArray) : Bool := xs.any fun x => smT x s
def hasF (fs : Fs) (n p : ByteArray) : Bool := anyT (listF fs n) p
def tCL : ByteArray := ⟨#[67, 111, 110, 116, 101, 110, 116, 45, 76, 101, 110, 103, 116, 104]⟩
def tTE : ByteArray := ⟨#[84, 114, 97, 110, 115, 102, 101, 114, 45, 69, 110, 99, 111, 100, 105, 110, 103]⟩
def tCh : ByteArray := ⟨#[99, 104, 117, 110, 107, 101, 100]⟩
def thereF (fs : Fs) (n : ByteArray) : Bool := decide (0 < (getF fs n).length)
def chunkL (xs : List ByteArray) : Bool := match xs with | [p] => smT p tCh | _ => false
def chunkedF (fs : Fs) : Bool := chunkL (listF fs tTE)
def sameN (first : Int) (ps : List ByteArray) : Bool := ps.all fun q => numB 10 18 q && decide (numI 10 18 q = first)
def lenL (ps : List ByteArray) : Int × Bool := match ps with | [] => (0, false) | p :: r => if (numB 10 18 p && sameN (numI 10 18 p) r) = true then (numI 10 18 p, true) else (0, false)
def lengthF (fs : Fs) : Int × Bool := lenL (listF fs tCL)
def toldF (fs : Fs) (minor : Int) : Int × Int × Int :=
  if (thereF fs tTE && (thereF fs tCL || decide (minor = 0))) = true then (0, 0, 400)
  else if thereF fs tTE = true then (if chunkedF fs = true then (2, 0, 0) else (0, 0, 501))
  else if thereF fs tCL = false then (3, 0, 0)
  else if (lengthF fs).2 = false then (0, 0, 400)
  else if 4096 < (lengthF fs).1 then (0, 0, 413) else (1, (lengthF fs).1, 0)
def reqF (fs : Fs) (minor : Int) : Int × Bool × Int := ((toldF fs minor).2.1, decide ((toldF fs minor).1 = 2), (toldF fs minor).2.2)
theorem smT_congr {n n' : ByteArray} (h : foldS n = foldS n') (a : ByteArray) : smT a n = smT a n' := by unfold smT; rw [h]
theorem getF_congr {n n' : ByteArray} (h : foldS n = foldS n') (fs : Fs) : getF fs n = getF fs n' := by
  unfold getF
  rw [funext fun f : ByteArray × ByteArray => smT_congr h f.1]
theorem listF_congr {n n' : ByteArray} (h : foldS n = foldS n') (fs : Fs) : listF fs n = listF fs n' := by unfold listF; rw [getF_congr h]
theorem numI_bd (s : ByteArray) : 0 ≤ numI 10 18 s ∧ numI 10 18 s < 1000000000000000000 := by
  unfold numI numV
  split
  · exact ⟨by decide, by decide⟩
  · rename_i h
    cases hv : vN 10 s.data.toList with
    | none => exact ⟨by decide, by decide⟩
    | some n =>
      have k := vN_take_lt 10 18 (by decide) s s.size (by omega) n (by rw [List.take_of_length_le (show s.data.toList.length ≤ s.size from Nat.le_refl _)]; exact hv)
      show 0 ≤ (n : Int) ∧ (n : Int) < _
      have e : (10 : Nat) ^ 18 = 1000000000000000000 := by decide
      omega
theorem lenL_bd (ps : List ByteArray) : 0 ≤ (lenL ps).1 ∧ (lenL ps).1 < 1000000000000000000 := by
  unfold lenL
  split
  · exact ⟨by decide, by decide⟩
  · split
    · exact numI_bd _
    · exact ⟨by decide, by decide⟩
theorem listF_mem {fs : Fs} {n x : ByteArray} (h : x ∈ listF fs n) : ∃ y ∈ getF fs n, x ∈ splT y := by
  unfold listF splA at h
  exact List.mem_flatMap.1 h
end Go.Proofs.YtemmmdhmkegaaaaGreatDoor

/- Target: what it answers of every text. -/
namespace Go.Proofs.YtemmmdhmkegaaaaGreatDoor
open Go.RowKit
set_option linter.unusedVariables false

def tgtP (s : ByteArray) : Bool := allB (spanP 33 126) s.data.toList && decide (0 < s.size)

set_option maxHeartbeats 1000000 in
theorem starget_any (s : ByteArray) (w : World) (hs : s.size ≤ maxLen) :
    Calls Tryz.prog 144 #[.string s] w fun e w' => e = .returned (.bool (tgtP s)) ∧ Below w.heap.size w w' := by
  unfold tgtP
  by_cases hz : s.size = 0
  · have he := empty_of hz
    subst he
    go_enter Tryz.func144, Tryz.ntmps144
    go_wp2
    go_ret
    exact ⟨rfl, Below.refl _ _⟩
  · have HZ : Hid (decide (0 < s.size) = true) := by rw [Hid]; simp; omega
    have hne := isEmpty_of hz
    clear hz
    rw [HZ.out]
    go_enter Tryz.func144, Tryz.ntmps144
    go_wp2_with fail
    refine (span_any 33 126 _).mono ?_
    rintro e w1 ⟨p0, q0, rfl, h0, k0, B1⟩
    have HA : Hid (Calls Tryz.prog 170 #[.string s, .func (.func 197) #[] #[.pointer (some ⟨p0, 0, none⟩), .pointer (some ⟨q0, 0, none⟩)]] w1 fun e w' => e = .returned (.bool (allB (spanP 33 126) s.data.toList)) ∧ w' = w1) := all50 s _ _ (spanP 33 126) w1 hs (fun c _ _ => span_call 33 126 c p0 q0 w1 h0 k0)
    clear h0 k0
    go_wp2_with fail
    refine HA.out.mono ?_
    rintro e w2 ⟨rfl, rfl⟩
    go_wp2
    go_ret
    exact ⟨ret_b (by simp), B1⟩

end Go.Proofs.YtemmmdhmkegaaaaGreatDoor

/- Decimal: what it answers of every text. -/
namespace Go.Proofs.YtemmmdhmkegaaaaGreatDoor
open Go.RowKit
set_option linter.unusedVariables false

set_option maxHeartbeats 1000000 in
theorem number10 (s : ByteArray) (w : World) (hs : s.size ≤ maxLen) :
    Calls Tryz.prog 177 #[.string s, .int .i64 10, .int .i64 18] w fun e w' => e = .returned (.tuple #[.int .i64 (numI 10 18 s), .bool (numB 10 18 s)]) ∧ w' = w := by
  unfold maxLen at hs
  by_cases hz : s.size = 0
  · have he := empty_of hz
    subst he
    go_enter Tryz.func177, Tryz.ntmps177
    go_wp2
    go_ret2
    exact ⟨ret2_ib (num_out (.inl rfl)).1.symm (num_out (.inl rfl)).2.symm, rfl⟩
  · have hne := isEmpty_of hz
    by_cases hm : (18 : Int) < (s.size : Int)
    · have E : Hid (numI 10 18 s = 0 ∧ numB 10 18 s = false) := num_out (.inr (by omega))
      go_enter Tryz.func177, Tryz.ntmps177
      go_wp2
      go_ret2
      exact ⟨ret2_ib E.out.1.symm E.out.2.symm, rfl⟩
    · have hout : Hid (¬ (s.size = 0 ∨ 18 < s.size)) := by rw [Hid]; omega
      clear hz
      go_enter Tryz.func177, Tryz.ntmps177
      go_wp2
      go_loop [8, 21] (fun vn vi => ∃ k n : Nat, k ≤ s.size ∧ vi = .int .i64 k ∧ vn = .int .i64 n ∧ Hid (vN 10 (s.data.toList.take k) = some n)) (fun _ vi => s.size - (intOf vi).toNat)
      case atStart => exact ⟨0, 0, Nat.zero_le _, rfl, rfl, rfl⟩
      case round =>
        obtain ⟨k, n, hk, rfl, rfl, hv⟩ := hrel
        by_cases hlt : k < s.size
        · have bd := byte_bd s[k]
          have hn : n < 100000000000000000 := vN_take_lt 10 17 (by decide) s k (by omega) n hv.out
          have hd := dgI_bd (s[k].toNat : Int)
          have HD : Hid (((dgN s[k] : Nat) : Int) = dgI (s[k].toNat : Int)) := dgN_cast s[k]
          go_wp2_with fail
          refine (digit_any _ _ bd.1 bd.2).mono ?_
          rintro e w' ⟨rfl, rfl⟩
          by_cases hb : 10 ≤ dgI (s[k].toNat : Int)
          · have E : Hid (numI 10 18 s = 0 ∧ numB 10 18 s = false) := num_bad (vN_bad_at 10 s k hlt (by have := HD.out; omega))
            go_wp2
            go_ret2
            exact ⟨ret2_ib E.out.1.symm E.out.2.symm, rfl⟩
          · have E : Hid (vN 10 (s.data.toList.take (k + 1)) = some (n * 10 + dgN s[k])) := vN_next 10 s k hlt n hv.out (by have := HD.out; omega)
            go_wp2
            go_round
            case rel => exact ⟨k + 1, n * 10 + dgN s[k], by omega, by go_num, by have := HD.out; rw [Int.natCast_add, Int.natCast_mul, this]; rfl, E⟩
            case measure => simp [intOf]; omega
        · go_wp2
          go_ret2
          have hk' : k = s.size := by omega
          subst hk'
          have h := hv.out
          rw [List.take_of_length_le (by simp)] at h
          exact ⟨ret2_ib (num_ok hout.out h).1.symm (num_ok hout.out h).2.symm, rfl⟩

theorem decimal_any (s : ByteArray) (w : World) (hs : s.size ≤ maxLen) :
    Calls Tryz.prog 149 #[.string s] w fun e w' => e = .returned (.tuple #[.int .i64 (numI 10 18 s), .bool (numB 10 18 s)]) ∧ w' = w := by
  go_enter Tryz.func149, Tryz.ntmps149
  go_wp2_with fail
  refine (number10 s _ hs).mono ?_
  rintro e w' ⟨rfl, rfl⟩
  go_wp2
  go_ret2
  exact ⟨rfl, rfl⟩

end Go.Proofs.YtemmmdhmkegaaaaGreatDoor

/- The small calls of package line: methods, targets, versions, codes, reasons. -/
namespace Go.Proofs.YtemmmdhmkegaaaaGreatDoor
open Go.RowKit
set_option linter.unusedVariables false

def eqS (a b : ByteArray) : Bool := a.toList == b.toList
def mthP (s : ByteArray) : Bool := decide (s.size ≤ 20) && (allB tokP s.data.toList && decide (0 < s.size))
theorem retb {x y : Bool} (h : x = y) : Ending.returned (.bool x) = .returned (.bool y) := by rw [h]

set_option maxHeartbeats 1000000 in
theorem method_any (s : ByteArray) (w : World) (hs : s.size ≤ maxLen) :
    Calls Tryz.prog 105 #[.string s] w fun e w' => e = .returned (.bool (mthP s)) ∧ Below w.heap.size w w' := by
  have HT : Hid (Calls Tryz.prog 143 #[.string s] w fun e w' => e = .returned (.bool (allB tokP s.data.toList && decide (0 < s.size))) ∧ Below w.heap.size w w') := token_any s w hs
  unfold mthP
  unfold maxLen at hs
  generalize (allB tokP s.data.toList && decide (0 < s.size)) = t at *
  by_cases h : s.size ≤ 20
  · have h' : (s.size : Int) ≤ 20 := by omega
    rw [decide_eq_true h, Bool.true_and]
    clear h
    go_enter Tryz.func105, Tryz.ntmps105
    go_wp2_with fail
    refine HT.out.mono ?_
    rintro e w1 ⟨rfl, B1⟩
    go_wp2
    go_ret
    exact ⟨rfl, B1⟩
  · have h' : ¬ (s.size : Int) ≤ 20 := by omega
    rw [decide_eq_false h, Bool.false_and]
    clear h HT
    go_enter Tryz.func105, Tryz.ntmps105
    go_wp2
    go_ret
    exact ⟨rfl, Below.refl _ _⟩

def tarP (s m : ByteArray) : Bool := tgtP s && (decide (s.data.toList.head? = some 47) || (eqS s ⟨#[42]⟩ && eqS m ⟨#[79, 80, 84, 73, 79, 78, 83]⟩))
theorem lit_list (l : List UInt8) : (⟨l.toArray⟩ : ByteArray).toList = l := by rw [ByteArray.toList_eq]
theorem head_eq {s : ByteArray} (h : 0 < s.size) : decide (s.data.toList.head? = some 47) = ((s[0].toNat : Int) == 47) := by
  have e : s.data.toList.head? = some s[0] := by
    rw [List.head?_eq_getElem?, List.getElem?_eq_getElem (show 0 < s.data.toList.length from h)]; rfl
  rw [e]
  by_cases q : s[0] = 47
  · rw [q]; rfl
  · have q2 : ¬ (s[0].toNat : Int) = 47 := fun e => q (UInt8.toNat_inj.1 (show s[0].toNat = 47 by omega))
    rw [decide_eq_false (fun e => q (Option.some.inj e))]
    exact (beq_eq_false_iff_ne.2 q2).symm

set_option maxHeartbeats 1000000 in
theorem target_any (s m : ByteArray) (w : World) (hs : s.size ≤ maxLen) :
    Calls Tryz.prog 106 #[.string s, .string m] w fun e w' => e = .returned (.bool (tarP s m)) ∧ Below w.heap.size w w' := by
  have HT : Hid (Calls Tryz.prog 144 #[.string s] w fun e w' => e = .returned (.bool (tgtP s)) ∧ Below w.heap.size w w') := starget_any s w hs
  unfold tarP
  unfold maxLen at hs
  cases ht : tgtP s
  · rw [ht] at HT
    rw [Bool.false_and]
    clear ht
    go_enter Tryz.func106, Tryz.ntmps106
    go_wp2_with fail
    refine HT.out.mono ?_
    rintro e w1 ⟨rfl, B1⟩
    go_wp2
    go_ret
    exact ⟨rfl, B1⟩
  · rw [ht] at HT
    have hp : 0 < s.size := by
      unfold tgtP at ht
      rw [Bool.and_eq_true] at ht
      exact of_decide_eq_true ht.2
    rw [Bool.true_and, head_eq hp]
    have e1 : eqS s ⟨#[42]⟩ = (s.toList == [42]) := by unfold eqS; congr 1; exact lit_list _
    have e2 : eqS m ⟨#[79, 80, 84, 73, 79, 78, 83]⟩ = (m.toList == [79, 80, 84, 73, 79, 78, 83]) := by unfold eqS; congr 1; exact lit_list _
    rw [e1, e2]
    clear ht e1 e2
    have hp2 : (0 : Int) < (s.size : Int) := by omega
    cases h1 : ((s[0].toNat : Int) == 47)
    · cases h2 : (s.toList == [42])
      · go_enter Tryz.func106, Tryz.ntmps106
        go_wp2_with fail
        refine HT.out.mono ?_
        rintro e w1 ⟨rfl, B1⟩
        go_wp2
        go_ret
        exact ⟨rfl, B1⟩
      · go_enter Tryz.func106, Tryz.ntmps106
        go_wp2_with fail
        refine HT.out.mono ?_
        rintro e w1 ⟨rfl, B1⟩
        go_wp2
        go_ret
        exact ⟨retb (by simp), B1⟩
    · go_enter Tryz.func106, Tryz.ntmps106
      go_wp2_with fail
      refine HT.out.mono ?_
      rintro e w1 ⟨rfl, B1⟩
      go_wp2
      go_ret
      exact ⟨rfl, B1⟩

def v10 : ByteArray := ⟨#[72, 84, 84, 80, 47, 49, 46, 48]⟩
def v11 : ByteArray := ⟨#[72, 84, 84, 80, 47, 49, 46, 49]⟩
def minP (s : ByteArray) : Int × Bool := if eqS s v10 = true then (0, true) else if eqS s v11 = true then (1, true) else (0, false)
theorem minor_any (s : ByteArray) (w : World) : Calls Tryz.prog 108 #[.string s] w fun e w' => e = .returned (.tuple #[.int .i64 (minP s).1, .bool (minP s).2]) ∧ w' = w := by
  unfold minP
  have e1 : eqS s v10 = (s.toList == [72, 84, 84, 80, 47, 49, 46, 48]) := by unfold eqS v10; congr 1; exact lit_list _
  have e2 : eqS s v11 = (s.toList == [72, 84, 84, 80, 47, 49, 46, 49]) := by unfold eqS v11; congr 1; exact lit_list _
  rw [e1, e2]
  clear e1 e2
  cases h1 : (s.toList == [72, 84, 84, 80, 47, 49, 46, 48])
  · cases h2 : (s.toList == [72, 84, 84, 80, 47, 49, 46, 49])
    · go_enter Tryz.func108, Tryz.ntmps108
      go_wp2
      go_ret2
      exact ⟨rfl, rfl⟩
    · go_enter Tryz.func108, Tryz.ntmps108
      go_wp2
      go_ret2
      exact ⟨rfl, rfl⟩
  · go_enter Tryz.func108, Tryz.ntmps108
    go_wp2
    go_ret2
    exact ⟨rfl, rfl⟩

def digP (c : Int) : Bool := decide (48 ≤ c) && decide (c ≤ 57)
theorem lisdigit_any (c : Int) (w : World) : Calls Tryz.prog 146 #[.int .u8 c] w fun e w' => e = .returned (.bool (digP c)) ∧ w' = w := by
  unfold digP
  by_cases a : 48 ≤ c
  · rw [decide_eq_true a]
    go_enter Tryz.func146, Tryz.ntmps146
    go_wp2
    go_ret
    exact ⟨retb (by simp), rfl⟩
  · rw [decide_eq_false a]
    go_enter Tryz.func146, Tryz.ntmps146
    go_wp2
    go_ret
    exact ⟨rfl, rfl⟩
end Go.Proofs.YtemmmdhmkegaaaaGreatDoor

/- Texts that begin with another. -/
namespace Go.Proofs.YtemmmdhmkegaaaaGreatDoor
open Go.RowKit
set_option linter.unusedVariables false

def hasP (s p : ByteArray) : Bool := decide (p.size ≤ s.size) && ((s.extract 0 p.size).toList == p.toList)
def cutP (s p : ByteArray) : ByteArray := if hasP s p = true then s.extract p.size s.size else s

theorem hasprefix_any (s p : ByteArray) (w : World) : Calls Tryz.prog 200 #[.string s, .string p] w fun e w' => e = .returned (.bool (hasP s p)) ∧ w' = w := by
  unfold hasP
  go_enter Tryz.func200, Tryz.ntmps200
  go_wp2
  · rename_i h
    go_ret
    exact ⟨ret_b (by rw [decide_eq_true h, Bool.true_and]), rfl⟩
  · rename_i h
    go_ret
    exact ⟨ret_b (by rw [decide_eq_false h, Bool.false_and]), rfl⟩

end Go.Proofs.YtemmmdhmkegaaaaGreatDoor

/- A text without what it begins with. -/
namespace Go.Proofs.YtemmmdhmkegaaaaGreatDoor
open Go.RowKit
set_option linter.unusedVariables false

theorem cutprefix_sl (s p : ByteArray) (w : World) : Calls Tryz.prog 174 #[.string s, .string p] w fun e w' => e = .returned (.tuple #[.string (cutP s p), .bool (hasP s p)]) ∧ w' = w := by
  have H : Hid (∀ W, Calls Tryz.prog 200 #[.string s, .string p] W fun e w' => e = .returned (.bool (hasP s p)) ∧ w' = W) := fun W => hasprefix_any s p W
  unfold cutP
  cases h : hasP s p
  · rw [h] at H
    clear h
    go_enter Tryz.func174, Tryz.ntmps174
    go_wp2_with fail
    refine (H.out _).mono ?_
    rintro e w1 ⟨rfl, rfl⟩
    go_wp2
    go_ret2
    exact ⟨rfl, rfl⟩
  · rw [h] at H
    have hl : p.size ≤ s.size := by
      unfold hasP at h
      rw [Bool.and_eq_true] at h
      exact of_decide_eq_true h.1
    clear h
    go_enter Tryz.func174, Tryz.ntmps174
    go_wp2_with fail
    refine (H.out _).mono ?_
    rintro e w1 ⟨rfl, rfl⟩
    go_wp2
    go_ret2
    exact ⟨rfl, rfl⟩

theorem cutprefix_any (s p : ByteArray) (w : World) : Calls Tryz.prog 145 #[.string s, .string p] w fun e w' => e = .returned (.tuple #[.string (cutP s p), .bool (hasP s p)]) ∧ w' = w := by
  go_enter Tryz.func145, Tryz.ntmps145
  go_wp2_with fail
  refine (cutprefix_sl s p _).mono ?_
  rintro e w1 ⟨rfl, rfl⟩
  go_wp2
  go_ret2
  exact ⟨rfl, rfl⟩

end Go.Proofs.YtemmmdhmkegaaaaGreatDoor

/- Versions, codes, reasons: what the code of package line answers of every text. -/
namespace Go.Proofs.YtemmmdhmkegaaaaGreatDoor
open Go.RowKit
set_option linter.unusedVariables false

def http : ByteArray := ⟨#[72, 84, 84, 80, 47]⟩
def verN (l : List UInt8) : Bool := match l with
  | [a, b, c] => digP a.toNat && (((b.toNat : Int) == 46) && digP c.toNat)
  | _ => false
def verP (s : ByteArray) : Bool := hasP s http && verN (cutP s http).data.toList
theorem three_of {n : ByteArray} (h : n.size = 3) : ∃ a b c, n = ⟨#[a, b, c]⟩ := by
  obtain ⟨⟨l⟩⟩ := n
  match l, h with
  | [a, b, c], _ => exact ⟨a, b, c, rfl⟩
theorem verN_len {l : List UInt8} (h : ¬ l.length = 3) : verN l = false := by
  unfold verN
  split
  · exact absurd rfl h
  · rfl

set_option maxHeartbeats 1000000 in
theorem isversion_any (s : ByteArray) (w : World) : Calls Tryz.prog 107 #[.string s] w fun e w' => e = .returned (.bool (verP s)) ∧ w' = w := by
  have H : Hid (∀ W, Calls Tryz.prog 145 #[.string s, .string ⟨#[72, 84, 84, 80, 47]⟩] W fun e w' => e = .returned (.tuple #[.string (cutP s http), .bool (hasP s http)]) ∧ w' = W) := fun W => cutprefix_any s http W
  have D : Hid (∀ c W, Calls Tryz.prog 146 #[.int .u8 c] W fun e w' => e = .returned (.bool (digP c)) ∧ w' = W) := fun c W => lisdigit_any c W
  unfold verP
  generalize cutP s http = n at *
  cases h : hasP s http
  · rw [h] at H
    rw [Bool.false_and]
    clear h
    go_enter Tryz.func107, Tryz.ntmps107
    go_wp2_with fail
    refine (H.out _).mono ?_
    rintro e w1 ⟨rfl, rfl⟩
    go_wp2
    go_ret
    exact ⟨rfl, rfl⟩
  · rw [h] at H
    rw [Bool.true_and]
    clear h
    by_cases h3 : n.size = 3
    · obtain ⟨a, b, c, rfl⟩ := three_of h3
      clear h3
      unfold verN
      simp only
      clear D
      go_enter Tryz.func107, Tryz.ntmps107
      go_wp2_with fail
      refine (H.out _).mono ?_
      rintro e w1 ⟨rfl, rfl⟩
      go_wp2
      all_goals go_ret
      all_goals refine ⟨retb ?_, rfl⟩
      all_goals show _ = (digP (((⟨#[a, b, c]⟩ : ByteArray)[0]'(show 0 < 3 by decide)).toNat : Int) && (((((⟨#[a, b, c]⟩ : ByteArray)[1]'(show 1 < 3 by decide)).toNat : Int) == 46) && digP (((⟨#[a, b, c]⟩ : ByteArray)[2]'(show 2 < 3 by decide)).toNat : Int)))
      all_goals generalize (((⟨#[a, b, c]⟩ : ByteArray)[0]'(show 0 < 3 by decide)).toNat : Int) = x at *
      all_goals generalize (((⟨#[a, b, c]⟩ : ByteArray)[1]'(show 1 < 3 by decide)).toNat : Int) = y at *
      all_goals generalize (((⟨#[a, b, c]⟩ : ByteArray)[2]'(show 2 < 3 by decide)).toNat : Int) = z at *
      all_goals unfold digP
      all_goals (rw [Bool.eq_iff_iff]; simp; omega)
    · rw [verN_len (show ¬ n.data.toList.length = 3 from h3)]
      have h3' : ¬ (n.size : Int) = 3 := by omega
      clear h3
      go_enter Tryz.func107, Tryz.ntmps107
      go_wp2_with fail
      refine (H.out _).mono ?_
      rintro e w1 ⟨rfl, rfl⟩
      go_wp2
      go_ret
      exact ⟨rfl, rfl⟩
end Go.Proofs.YtemmmdhmkegaaaaGreatDoor

/- Package line: a block of five cells; the cut at a blank (split off LnC). -/
namespace Go.Proofs.YtemmmdhmkegaaaaGreatDoor
open Go.RowKit
set_option linter.unusedVariables false

theorem lbelow_drewN (B : Nat) (w : World) (k : Nat) : Below B w (w.drewN k) := by refine ⟨?_, ?_, ?_, ?_, ?_⟩ <;> simp [World.drewN]
theorem lblk_z {w : World} {b i : Nat} {c : Array Value} {t : TypeId} (h : w.heap[b]? = some (.cells c t)) : w.frozen? ⟨b, i, none⟩ = false := by simp [World.frozen?, h]
def five (w : World) (b : Nat) (v0 v1 v2 v3 v4 : Value) : World := ((((w.setCell ⟨b, 0, none⟩ v0).setCell ⟨b, 1, none⟩ v1).setCell ⟨b, 2, none⟩ v2).setCell ⟨b, 3, none⟩ v3).setCell ⟨b, 4, none⟩ v4
theorem five_cells {w : World} {b : Nat} {y0 y1 y2 y3 y4 : Value} {t : TypeId} (h : w.heap[b]? = some (.cells #[y0, y1, y2, y3, y4] t)) (v0 v1 v2 v3 v4 : Value) :
    (five w b v0 v1 v2 v3 v4).heap[b]? = some (.cells #[v0, v1, v2, v3, v4] t) := by
  simp [five, World.setCell, Array.getElem?_modify, h]
theorem five_below {B : Nat} {w w' : World} {b : Nat} (v0 v1 v2 v3 v4 : Value) (C : Below B w w') (hb : B ≤ b) : Below B w (five w' b v0 v1 v2 v3 v4) := by
  unfold five
  exact ((((C.setCell (p := ⟨b, 0, none⟩) hb _).setCell (p := ⟨b, 1, none⟩) hb _).setCell (p := ⟨b, 2, none⟩) hb _).setCell (p := ⟨b, 3, none⟩) hb _).setCell (p := ⟨b, 4, none⟩) hb _

end Go.Proofs.YtemmmdhmkegaaaaGreatDoor

/- Request: what it answers of every text. -/
namespace Go.Proofs.YtemmmdhmkegaaaaGreatDoor
open Go.RowKit
set_option linter.unusedVariables false

def part4 (s : ByteArray) : List ByteArray := Lib.splitB ⟨#[32]⟩ 0 (min 4 (s.size + 1) - 1) s
theorem splitB_sizes (sep : ByteArray) : ∀ (k : Nat) (s : ByteArray), ∀ x ∈ Lib.splitB sep 0 k s, x.size ≤ s.size
  | 0, s, x, hx => by
    rw [Lib.splitB_zero] at hx
    simp at hx
    rw [hx]
    exact Nat.le_refl _
  | k + 1, s, x, hx => by
    unfold Lib.splitB at hx
    split at hx
    · simp at hx
      rw [hx]
      exact Nat.le_refl _
    · rcases List.mem_cons.1 hx with h | h
      · rw [h]; exact extract_le _ _ _
      · exact Nat.le_trans (splitB_sizes sep k _ x h) (extract_le _ _ _)
theorem part4_any (s : ByteArray) (w : World) (hs : s.size < 4294967281) (hM : MaxL w) :
    Calls Tryz.prog 104 #[.string s, .string ⟨#[32]⟩, .int .i64 4] w fun e w' => ∃ b c, e = .returned (.slice (some ⟨b, 0, none⟩) (part4 s).length c) ∧ Below w.heap.size w w' ∧ w.heap.size ≤ b ∧ (∀ i x, (part4 s)[i]? = some x → w'.cell? ⟨b, i, none⟩ = some (.string x)) := by
  obtain ⟨m, hm⟩ := hM
  refine (Tryz.strings_SplitN s ⟨#[32]⟩ 4 m w hs hm (by decide) (by decide) (by decide)).mono ?_
  rintro e w' ⟨rfl, rfl⟩
  refine ⟨w.heap.size, _, rfl, (Below.refl _ _).alloc (Nat.le_refl _) _, Nat.le_refl _, ?_⟩
  intro i x hx
  refine tblk_cell (tblk_new _ _) ?_
  unfold Lib.cellsOf
  have hi : i < (part4 s).length := (List.getElem?_eq_some_iff.1 hx).1
  unfold part4 at hx hi
  rw [List.getElem?_toArray, List.getElem?_append_left (by simpa using hi), List.getElem?_map, hx]
  rfl

structure Rq where
  method : ByteArray
  target : ByteArray
  minor : Int
  code : Int
def rqV (x : Rq) : Value := .agg #[.string x.method, .string x.target, .int .i64 x.minor, .slice none 0 0, .slice none 0 0]
def rqNo (c : Int) : Rq := ⟨⟨#[]⟩, ⟨#[]⟩, 0, c⟩
def rq3 (p0 p1 p2 : ByteArray) : Rq :=
  if mthP p0 = false then rqNo 400 else if tarP p1 p0 = false then rqNo 400 else if 512 < p1.size then rqNo 414 else if verP p2 = false then rqNo 400 else if (minP p2).2 = false then rqNo 505 else ⟨p0, p1, (minP p2).1, 0⟩
def rqP (s : ByteArray) : Rq := match part4 s with
  | [p0, p1, p2] => rq3 p0 p1 p2
  | _ => rqNo 400
structure RQ (w : World) (b : Nat) (p0 p1 p2 : ByteArray) (W : World) : Prop where
  below : Below w.heap.size w W
  own : W.heap[w.heap.size]? = some (.cells #[.string ⟨#[]⟩, .string ⟨#[]⟩, .int .i64 0, .slice none 0 0, .slice none 0 0] 43)
  lt : b < W.heap.size
  ne : ¬ b = w.heap.size
  c0 : W.cell? ⟨b, 0, none⟩ = some (.string p0)
  c1 : W.cell? ⟨b, 1, none⟩ = some (.string p1)
  c2 : W.cell? ⟨b, 2, none⟩ = some (.string p2)
theorem RQ.drew {w W : World} {b : Nat} {p0 p1 p2 : ByteArray} (h : RQ w b p0 p1 p2 W) : RQ w b p0 p1 p2 W.drew := ⟨h.below.drew, h.own, h.lt, h.ne, h.c0, h.c1, h.c2⟩
theorem RQ.next {w W W' : World} {b : Nat} {p0 p1 p2 : ByteArray} (h : RQ w b p0 p1 p2 W) (k : Below W.heap.size W W') : RQ w b p0 p1 p2 W' :=
  ⟨h.below.trans (k.mono h.below.size), tblk_below h.own k, Nat.lt_of_lt_of_le h.lt k.size, h.ne, (k.cell (p := ⟨b, 0, none⟩) h.lt).trans h.c0, (k.cell (p := ⟨b, 1, none⟩) h.lt).trans h.c1, (k.cell (p := ⟨b, 2, none⟩) h.lt).trans h.c2⟩
theorem ne_of_le {w : World} {o : Obj} {b : Nat} (h : (w.alloc o).heap.size ≤ b) : ¬ b = w.heap.size := by simp at h; omega
theorem lcell_lt {w : World} {b : Nat} {i : Nat} {v : Value} (h : w.cell? ⟨b, i, none⟩ = some v) : b < w.heap.size := by
  unfold World.cell? at h
  rcases Nat.lt_or_ge b w.heap.size with c | c
  · exact c
  · simp [Array.getElem?_eq_none c] at h

set_option maxRecDepth 100000 in
set_option maxHeartbeats 4000000 in
theorem req_three (p0 p1 p2 s : ByteArray) (w : World) (hs : s.size < 4294967281) (hM : MaxL w) (hp : part4 s = [p0, p1, p2]) :
    Calls Tryz.prog 79 #[.string s] w fun e w' => e = .returned (.tuple #[rqV (rq3 p0 p1 p2), .int .i64 (rq3 p0 p1 p2).code]) ∧ Below w.heap.size w w' := by
  have q0 : p0.size ≤ s.size := splitB_sizes _ _ _ p0 (show p0 ∈ part4 s by rw [hp]; simp)
  have q1 : p1.size ≤ s.size := splitB_sizes _ _ _ p1 (show p1 ∈ part4 s by rw [hp]; simp)
  have q2 : p2.size ≤ s.size := splitB_sizes _ _ _ p2 (show p2 ∈ part4 s by rw [hp]; simp)
  have C0 : Below w.heap.size w (w.alloc (.cells #[.string ⟨#[]⟩, .string ⟨#[]⟩, .int .i64 0, .slice none 0 0, .slice none 0 0] 43)) := (Below.refl _ _).alloc (Nat.le_refl _) _
  have hg0 := tblk_new w (.cells #[.string ⟨#[]⟩, .string ⟨#[]⟩, .int .i64 0, .slice none 0 0, .slice none 0 0] 43)
  have H1 : Hid (Calls Tryz.prog 104 #[.string s, .string ⟨#[32]⟩, .int .i64 4] (w.alloc (.cells #[.string ⟨#[]⟩, .string ⟨#[]⟩, .int .i64 0, .slice none 0 0, .slice none 0 0] 43)) fun e w' => ∃ b c, e = .returned (.slice (some ⟨b, 0, none⟩) 3 c) ∧ RQ w b p0 p1 p2 w') := by
    refine (part4_any s _ hs (hM.below C0)).mono ?_
    rintro e w' ⟨b, c, he, B, hb, hc⟩
    rw [hp] at he hc
    have c0 := hc 0 p0 rfl
    exact ⟨b, c, he, C0.trans (B.mono C0.size), tblk_below hg0 B, lcell_lt c0, (ne_of_le hb), c0, hc 1 p1 rfl, hc 2 p2 rfl⟩
  have HM : Hid (∀ b W, RQ w b p0 p1 p2 W → Calls Tryz.prog 105 #[.string p0] W fun e w' => e = .returned (.bool (mthP p0)) ∧ RQ w b p0 p1 p2 w' ∧ w'.cell? ⟨b, 0, none⟩ = some (.string p0) ∧ w'.cell? ⟨b, 1, none⟩ = some (.string p1) ∧ w'.cell? ⟨b, 2, none⟩ = some (.string p2)) := fun b W i => (method_any _ W (by unfold maxLen; omega)).mono fun e w' z => ⟨z.1, i.next z.2, (i.next z.2).c0, (i.next z.2).c1, (i.next z.2).c2⟩
  have HT : Hid (∀ b W, RQ w b p0 p1 p2 W → Calls Tryz.prog 106 #[.string p1, .string p0] W fun e w' => e = .returned (.bool (tarP p1 p0)) ∧ RQ w b p0 p1 p2 w' ∧ w'.cell? ⟨b, 0, none⟩ = some (.string p0) ∧ w'.cell? ⟨b, 1, none⟩ = some (.string p1) ∧ w'.cell? ⟨b, 2, none⟩ = some (.string p2)) := fun b W i => (target_any _ _ W (by unfold maxLen; omega)).mono fun e w' z => ⟨z.1, i.next z.2, (i.next z.2).c0, (i.next z.2).c1, (i.next z.2).c2⟩
  have K0 : Hid (∀ b W, RQ w b p0 p1 p2 W → Calls Tryz.prog 109 #[.string p0] W fun e w' => e = .returned (.string p0) ∧ RQ w b p0 p1 p2 w' ∧ w'.cell? ⟨b, 0, none⟩ = some (.string p0) ∧ w'.cell? ⟨b, 1, none⟩ = some (.string p1) ∧ w'.cell? ⟨w.heap.size, 0, none⟩ = some (.string ⟨#[]⟩) ∧ w'.frozen? ⟨w.heap.size, 0, none⟩ = false ∧ w'.cell? ⟨w.heap.size, 1, none⟩ = some (.string ⟨#[]⟩) ∧ w'.frozen? ⟨w.heap.size, 1, none⟩ = false ∧ w'.cell? ⟨w.heap.size, 2, none⟩ = some (.int .i64 0) ∧ w'.frozen? ⟨w.heap.size, 2, none⟩ = false ∧ w'.cell? ⟨w.heap.size, 3, none⟩ = some (.slice none 0 0) ∧ w'.frozen? ⟨w.heap.size, 3, none⟩ = false ∧ w'.cell? ⟨w.heap.size, 4, none⟩ = some (.slice none 0 0) ∧ w'.frozen? ⟨w.heap.size, 4, none⟩ = false) := fun b W i => (clone_any _ W (by omega)).mono fun e w' z => ⟨z.1, i.next z.2, (i.next z.2).c0, (i.next z.2).c1, tblk_cell (i.next z.2).own rfl, lblk_z (i.next z.2).own, tblk_cell (i.next z.2).own rfl, lblk_z (i.next z.2).own, tblk_cell (i.next z.2).own rfl, lblk_z (i.next z.2).own, tblk_cell (i.next z.2).own rfl, lblk_z (i.next z.2).own, tblk_cell (i.next z.2).own rfl, lblk_z (i.next z.2).own⟩
  have K1 : Hid (∀ b W, RQ w b p0 p1 p2 W → Calls Tryz.prog 109 #[.string p1] W fun e w' => e = .returned (.string p1) ∧ RQ w b p0 p1 p2 w' ∧ w'.cell? ⟨b, 0, none⟩ = some (.string p0) ∧ w'.cell? ⟨b, 1, none⟩ = some (.string p1) ∧ w'.cell? ⟨w.heap.size, 0, none⟩ = some (.string ⟨#[]⟩) ∧ w'.frozen? ⟨w.heap.size, 0, none⟩ = false ∧ w'.cell? ⟨w.heap.size, 1, none⟩ = some (.string ⟨#[]⟩) ∧ w'.frozen? ⟨w.heap.size, 1, none⟩ = false ∧ w'.cell? ⟨w.heap.size, 2, none⟩ = some (.int .i64 0) ∧ w'.frozen? ⟨w.heap.size, 2, none⟩ = false ∧ w'.cell? ⟨w.heap.size, 3, none⟩ = some (.slice none 0 0) ∧ w'.frozen? ⟨w.heap.size, 3, none⟩ = false ∧ w'.cell? ⟨w.heap.size, 4, none⟩ = some (.slice none 0 0) ∧ w'.frozen? ⟨w.heap.size, 4, none⟩ = false) := fun b W i => (clone_any _ W (by omega)).mono fun e w' z => ⟨z.1, i.next z.2, (i.next z.2).c0, (i.next z.2).c1, tblk_cell (i.next z.2).own rfl, lblk_z (i.next z.2).own, tblk_cell (i.next z.2).own rfl, lblk_z (i.next z.2).own, tblk_cell (i.next z.2).own rfl, lblk_z (i.next z.2).own, tblk_cell (i.next z.2).own rfl, lblk_z (i.next z.2).own, tblk_cell (i.next z.2).own rfl, lblk_z (i.next z.2).own⟩
  have HV : Hid (∀ W, Calls Tryz.prog 107 #[.string p2] W fun e w' => e = .returned (.bool (verP p2)) ∧ w' = W) := fun W => isversion_any _ W
  have HN : Hid (∀ W, Calls Tryz.prog 108 #[.string p2] W fun e w' => e = .returned (.tuple #[.int .i64 (minP p2).1, .bool (minP p2).2]) ∧ w' = W) := fun W => minor_any _ W
  unfold rq3
  generalize mthP p0 = bm at *
  generalize tarP p1 p0 = bt at *
  generalize verP p2 = bv at *
  generalize minP p2 = mm at *
  obtain ⟨mi, kn⟩ := mm
  simp only at HN ⊢
  have hq : Hid (p1.size ≤ 4294967281) := by rw [Hid]; omega
  clear q0 q1 q2 hs hM hp C0 hg0
  cases bm
  · rw [if_pos rfl]
    go_enter Tryz.func79, Tryz.ntmps79
    go_wp2_with fail
    refine H1.out.mono ?_
    rintro e w1 ⟨b, c, rfl, I0⟩
    have s0 := I0.c0
    have s1 := I0.c1
    have s2 := I0.c2
    clear H1
    go_wp2_with fail
    refine wp_region_held_drew (S := (fun W => W.cell? ⟨b, 0, none⟩ = some (.string p0) ∧ W.cell? ⟨b, 1, none⟩ = some (.string p1) ∧ W.cell? ⟨b, 2, none⟩ = some (.string p2))) (by kernel_rfl) ⟨s0, s1, s2⟩ (fun hHeld => ?_)
    refine wpAnyH_take (i := 0) (oi := { dst := some 9, op := Op.move (Operand.tmp 4), type := 141, pos := "line.go:44", after := #[], guard := none }) (v := ?v0) rfl (by kernel_rfl) (by kernel_rfl) (by kernel_rfl) (fun _ _ _ h => h) (Or.inl ⟨by rfl, ?hy0⟩) hHeld ?rest0
    case hy0 => (intro w hSw; (try dsimp only at hSw); go_simp; try with_reducible rfl)
    try simp only [Act.put, List.setIfInBounds_toArray, List.set_cons_zero, List.set_cons_succ]
    refine wpAnyH_take (i := 1) (oi := { dst := some 10, op := Op.call { callee := Callee.builtin Builtin.len, args := #[Operand.tmp 9], argTypes := #[141] }, type := 3, pos := "line.go:44", after := #[{ on := 0, ground := Ground.data }], guard := none }) (v := ?v1) rfl (by kernel_rfl) (by kernel_rfl) (by kernel_rfl) (fun _ _ _ h => h) (Or.inl ⟨by rfl, ?hy1⟩) hHeld ?rest1
    case hy1 => (intro w hSw; (try dsimp only at hSw); go_simp; try with_reducible rfl)
    try simp only [Act.put, List.setIfInBounds_toArray, List.set_cons_zero, List.set_cons_succ]
    refine wpAnyH_take (i := 2) (oi := { dst := some 11, op := Op.binOp BinOp.neq 3 (Operand.tmp 10) (Operand.const (Value.int IntKind.i64 3)) 3, type := 4, pos := "line.go:44", after := #[{ on := 1, ground := Ground.data }], guard := none }) (v := ?v2) rfl (by kernel_rfl) (by kernel_rfl) (by kernel_rfl) (fun _ _ _ h => h) (Or.inl ⟨by rfl, ?hy2⟩) hHeld ?rest2
    case hy2 => (intro w hSw; (try dsimp only at hSw); go_simp; try with_reducible rfl)
    try simp only [Act.put, List.setIfInBounds_toArray, List.set_cons_zero, List.set_cons_succ]
    refine wpAnyH_take (i := 3) (oi := { dst := some 12, op := Op.move (Operand.tmp 11), type := 4, pos := "line.go:44", after := #[{ on := 2, ground := Ground.data }], guard := none }) (v := ?v3) rfl (by kernel_rfl) (by kernel_rfl) (by kernel_rfl) (fun _ _ _ h => h) (Or.inl ⟨by rfl, ?hy3⟩) hHeld ?rest3
    case hy3 => (intro w hSw; (try dsimp only at hSw); go_simp; try with_reducible rfl)
    try simp only [Act.put, List.setIfInBounds_toArray, List.set_cons_zero, List.set_cons_succ]
    refine wpAnyH_take (i := 4) (oi := { dst := some 13, op := Op.move (Operand.tmp 4), type := 141, pos := "line.go:44", after := #[{ on := 3, ground := Ground.guard }], guard := some (3, false) }) (v := ?v4) rfl (by kernel_rfl) (by kernel_rfl) (by kernel_rfl) (fun _ _ _ h => h) (Or.inl ⟨by rfl, ?hy4⟩) hHeld ?rest4
    case hy4 => (intro w hSw; (try dsimp only at hSw); go_simp; try with_reducible rfl)
    try simp only [Act.put, List.setIfInBounds_toArray, List.set_cons_zero, List.set_cons_succ]
    refine wpAnyH_take (i := 5) (oi := { dst := some 14, op := Op.indexAddr 141 (Operand.tmp 13) (Operand.const (Value.int IntKind.i64 0)), type := 0, pos := "line.go:44", after := #[{ on := 4, ground := Ground.data }, { on := 3, ground := Ground.guard }], guard := some (3, false) }) (v := ?v5) rfl (by kernel_rfl) (by kernel_rfl) (by kernel_rfl) (fun _ _ _ h => h) (Or.inl ⟨by rfl, ?hy5⟩) hHeld ?rest5
    case hy5 => (intro w hSw; (try dsimp only at hSw); go_simp; try with_reducible rfl)
    try simp only [Act.put, List.setIfInBounds_toArray, List.set_cons_zero, List.set_cons_succ]
    refine wpAnyH_take (i := 6) (oi := { dst := some 15, op := Op.load 9 (Operand.tmp 14), type := 9, pos := "line.go:44", after := #[{ on := 5, ground := Ground.data }, { on := 3, ground := Ground.guard }], guard := some (3, false) }) (v := ?v6) rfl (by kernel_rfl) (by kernel_rfl) (by kernel_rfl) (fun _ _ _ h => h) (Or.inl ⟨by rfl, ?hy6⟩) hHeld ?rest6
    case hy6 => (intro w hSw; (try dsimp only at hSw); go_simp; try with_reducible rfl)
    try simp only [Act.put, List.setIfInBounds_toArray, List.set_cons_zero, List.set_cons_succ]
    refine wpAnyH_ready (rs := [7]) (by kernel_rfl) (by simp) ?_
    refine AllReadyH.cons (o := { dst := some 16, op := Op.call { callee := Callee.value (Operand.func 105), args := #[Operand.tmp 15], argTypes := #[9] }, type := 4, pos := "line.go:44", after := #[{ on := 6, ground := Ground.data }, { on := 3, ground := Ground.chain }, { on := 3, ground := Ground.guard }], guard := some (3, false) }) rfl (fun K hK => ?_) AllReadyH.nil
    go_simp
    (go_at_call 105; refine (HM.out b _ (by first | assumption | exact RQ.drew I0 | exact RQ.drew (by assumption))).mono ?_; rintro e w' ⟨rfl, hI, hS0, hS1, hS2⟩)
    refine hK.out _ _ ⟨hS0, hS1, hS2⟩ (fun hHeld => ?_)
    clear hK K
    try simp only [Act.put, List.setIfInBounds_toArray, List.set_cons_zero, List.set_cons_succ]
    refine wpAnyH_take (i := 8) (oi := { dst := some 17, op := Op.unOp UnOp.not 4 (Operand.tmp 16), type := 4, pos := "line.go:44", after := #[{ on := 7, ground := Ground.data }, { on := 3, ground := Ground.guard }], guard := some (3, false) }) (v := ?v8) rfl (by kernel_rfl) (by kernel_rfl) (by kernel_rfl) (fun _ _ _ h => h) (Or.inl ⟨by rfl, ?hy8⟩) hHeld ?rest8
    case hy8 => (intro w hSw; (try dsimp only at hSw); go_simp; try with_reducible rfl)
    try simp only [Act.put, List.setIfInBounds_toArray, List.set_cons_zero, List.set_cons_succ]
    refine wpAnyH_take (i := 9) (oi := { dst := some 18, op := Op.pick (Operand.tmp 12) (Operand.const (Value.bool true)) (Operand.tmp 17), type := 4, pos := "line.go:44", after := #[{ on := 3, ground := Ground.data }, { on := 8, ground := Ground.data }], guard := none }) (v := ?v9) rfl (by kernel_rfl) (by kernel_rfl) (by kernel_rfl) (fun _ _ _ h => h) (Or.inl ⟨by rfl, ?hy9⟩) hHeld ?rest9
    case hy9 => (intro w hSw; (try dsimp only at hSw); go_simp; try with_reducible rfl)
    try simp only [Act.put, List.setIfInBounds_toArray, List.set_cons_zero, List.set_cons_succ]
    refine wpAnyH_take (i := 10) (oi := { dst := some 19, op := Op.move (Operand.tmp 18), type := 4, pos := "line.go:44", after := #[{ on := 9, ground := Ground.data }, { on := 7, ground := Ground.chain }], guard := none }) (v := ?v10) rfl (by kernel_rfl) (by kernel_rfl) (by kernel_rfl) (fun _ _ _ h => h) (Or.inl ⟨by rfl, ?hy10⟩) hHeld ?rest10
    case hy10 => (intro w hSw; (try dsimp only at hSw); go_simp; try with_reducible rfl)
    try simp only [Act.put, List.setIfInBounds_toArray, List.set_cons_zero, List.set_cons_succ]
    refine wpAnyH_take (i := 11) (oi := { dst := some 20, op := Op.move (Operand.tmp 4), type := 141, pos := "line.go:44", after := #[{ on := 10, ground := Ground.guard }], guard := some (10, false) }) (v := undef) rfl (by kernel_rfl) (by kernel_rfl) (by kernel_rfl) (fun _ _ _ h => h) (Or.inr ⟨by rfl, rfl⟩) hHeld ?rest11
    try simp only [Act.put, List.setIfInBounds_toArray, List.set_cons_zero, List.set_cons_succ]
    refine wpAnyH_take (i := 12) (oi := { dst := some 21, op := Op.indexAddr 141 (Operand.tmp 20) (Operand.const (Value.int IntKind.i64 1)), type := 0, pos := "line.go:44", after := #[{ on := 11, ground := Ground.data }, { on := 10, ground := Ground.guard }], guard := some (10, false) }) (v := undef) rfl (by kernel_rfl) (by kernel_rfl) (by kernel_rfl) (fun _ _ _ h => h) (Or.inr ⟨by rfl, rfl⟩) hHeld ?rest12
    try simp only [Act.put, List.setIfInBounds_toArray, List.set_cons_zero, List.set_cons_succ]
    refine wpAnyH_take (i := 13) (oi := { dst := some 22, op := Op.load 9 (Operand.tmp 21), type := 9, pos := "line.go:44", after := #[{ on := 12, ground := Ground.data }, { on := 10, ground := Ground.guard }], guard := some (10, false) }) (v := undef) rfl (by kernel_rfl) (by kernel_rfl) (by kernel_rfl) (fun _ _ _ h => h) (Or.inr ⟨by rfl, rfl⟩) hHeld ?rest13
    try simp only [Act.put, List.setIfInBounds_toArray, List.set_cons_zero, List.set_cons_succ]
    refine wpAnyH_take (i := 14) (oi := { dst := some 23, op := Op.move (Operand.tmp 4), type := 141, pos := "line.go:44", after := #[{ on := 10, ground := Ground.guard }], guard := some (10, false) }) (v := undef) rfl (by kernel_rfl) (by kernel_rfl) (by kernel_rfl) (fun _ _ _ h => h) (Or.inr ⟨by rfl, rfl⟩) hHeld ?rest14
    try simp only [Act.put, List.setIfInBounds_toArray, List.set_cons_zero, List.set_cons_succ]
    refine wpAnyH_take (i := 15) (oi := { dst := some 24, op := Op.indexAddr 141 (Operand.tmp 23) (Operand.const (Value.int IntKind.i64 0)), type := 0, pos := "line.go:44", after := #[{ on := 14, ground := Ground.data }, { on := 10, ground := Ground.guard }], guard := some (10, false) }) (v := undef) rfl (by kernel_rfl) (by kernel_rfl) (by kernel_rfl) (fun _ _ _ h => h) (Or.inr ⟨by rfl, rfl⟩) hHeld ?rest15
    try simp only [Act.put, List.setIfInBounds_toArray, List.set_cons_zero, List.set_cons_succ]
    refine wpAnyH_take (i := 16) (oi := { dst := some 25, op := Op.load 9 (Operand.tmp 24), type := 9, pos := "line.go:44", after := #[{ on := 15, ground := Ground.data }, { on := 10, ground := Ground.guard }], guard := some (10, false) }) (v := undef) rfl (by kernel_rfl) (by kernel_rfl) (by kernel_rfl) (fun _ _ _ h => h) (Or.inr ⟨by rfl, rfl⟩) hHeld ?rest16
    try simp only [Act.put, List.setIfInBounds_toArray, List.set_cons_zero, List.set_cons_succ]
    refine wpAnyH_take (i := 17) (oi := { dst := some 26, op := Op.call { callee := Callee.value (Operand.func 106), args := #[Operand.tmp 22, Operand.tmp 25], argTypes := #[9, 9] }, type := 4, pos := "line.go:44", after := #[{ on := 13, ground := Ground.data }, { on := 16, ground := Ground.data }, { on := 10, ground := Ground.chain }, { on := 10, ground := Ground.guard }], guard := some (10, false) }) (v := undef) rfl (by kernel_rfl) (by kernel_rfl) (by kernel_rfl) (fun _ _ _ h => h) (Or.inr ⟨by rfl, rfl⟩) hHeld ?rest17
    try simp only [Act.put, List.setIfInBounds_toArray, List.set_cons_zero, List.set_cons_succ]
    refine wpAnyH_take (i := 18) (oi := { dst := some 27, op := Op.unOp UnOp.not 4 (Operand.tmp 26), type := 4, pos := "line.go:44", after := #[{ on := 17, ground := Ground.data }, { on := 10, ground := Ground.guard }], guard := some (10, false) }) (v := undef) rfl (by kernel_rfl) (by kernel_rfl) (by kernel_rfl) (fun _ _ _ h => h) (Or.inr ⟨by rfl, rfl⟩) hHeld ?rest18
    try simp only [Act.put, List.setIfInBounds_toArray, List.set_cons_zero, List.set_cons_succ]
    refine wpAnyH_take (i := 19) (oi := { dst := some 28, op := Op.pick (Operand.tmp 19) (Operand.const (Value.bool true)) (Operand.tmp 27), type := 4, pos := "line.go:44", after := #[{ on := 10, ground := Ground.data }, { on := 18, ground := Ground.data }], guard := none }) (v := ?v19) rfl (by kernel_rfl) (by kernel_rfl) (by kernel_rfl) (fun _ _ _ h => h) (Or.inl ⟨by rfl, ?hy19⟩) hHeld ?rest19
    case hy19 => (intro w hSw; (try dsimp only at hSw); go_simp; try with_reducible rfl)
    try simp only [Act.put, List.setIfInBounds_toArray, List.set_cons_zero, List.set_cons_succ]
    refine wpAnyH_done (by kernel_rfl) ?_ _
    have HW := five_cells hI.own (.string ⟨#[]⟩) (.string ⟨#[]⟩) (.int .i64 0) (.slice none 0 0) (.slice none 0 0)
    have HB := five_below (.string ⟨#[]⟩) (.string ⟨#[]⟩) (.int .i64 0) (.slice none 0 0) (.slice none 0 0) hI.below (Nat.le_refl _)
    have a0 := tblk_cell (i := 0) hI.own rfl
    have z0 := lblk_z (i := 0) hI.own
    have a1 := tblk_cell (i := 1) hI.own rfl
    have z1 := lblk_z (i := 1) hI.own
    have a2 := tblk_cell (i := 2) hI.own rfl
    have z2 := lblk_z (i := 2) hI.own
    have a3 := tblk_cell (i := 3) hI.own rfl
    have z3 := lblk_z (i := 3) hI.own
    have a4 := tblk_cell (i := 4) hI.own rfl
    have z4 := lblk_z (i := 4) hI.own
    have r0 := tblk_cell (i := 0) HW rfl
    have r1 := tblk_cell (i := 1) HW rfl
    have r2 := tblk_cell (i := 2) HW rfl
    have r3 := tblk_cell (i := 3) HW rfl
    have r4 := tblk_cell (i := 4) HW rfl
    unfold five at r0 r1 r2 r3 r4 HB
    have HB' : Hid _ := HB
    clear HB HW
    go_wp2
    refine bodyPost_ret (v := .tuple #[.agg #[.string ⟨#[]⟩, .string ⟨#[]⟩, .int .i64 0, .slice none 0 0, .slice none 0 0], .int .i64 400]) (by simp [results, Tryz.results79, go_sem, r0, r1, r2, r3, r4]) rfl ⟨rfl, HB'.out⟩
  · rw [if_neg (by decide)]
    cases bt
    · rw [if_pos rfl]
      go_enter Tryz.func79, Tryz.ntmps79
      go_wp2_with fail
      refine H1.out.mono ?_
      rintro e w1 ⟨b, c, rfl, I0⟩
      have s0 := I0.c0
      have s1 := I0.c1
      have s2 := I0.c2
      clear H1
      go_wp2_with fail
      go_region_held3 (fun W => W.cell? ⟨b, 0, none⟩ = some (.string p0) ∧ W.cell? ⟨b, 1, none⟩ = some (.string p1) ∧ W.cell? ⟨b, 2, none⟩ = some (.string p2)) (go_keep) (first | (go_at_call 105; refine (HM.out b _ (by first | assumption | exact RQ.drew I0 | exact RQ.drew (by assumption))).mono ?_; rintro e w' ⟨rfl, hI, hS0, hS1, hS2⟩) | (go_at_call 106; refine (HT.out b _ (by first | assumption | exact RQ.drew I0 | exact RQ.drew (by assumption))).mono ?_; rintro e w' ⟨rfl, hI, hS0, hS1, hS2⟩))
      have HW := five_cells hI.own (.string ⟨#[]⟩) (.string ⟨#[]⟩) (.int .i64 0) (.slice none 0 0) (.slice none 0 0)
      have HB := five_below (.string ⟨#[]⟩) (.string ⟨#[]⟩) (.int .i64 0) (.slice none 0 0) (.slice none 0 0) hI.below (Nat.le_refl _)
      have a0 := tblk_cell (i := 0) hI.own rfl
      have z0 := lblk_z (i := 0) hI.own
      have a1 := tblk_cell (i := 1) hI.own rfl
      have z1 := lblk_z (i := 1) hI.own
      have a2 := tblk_cell (i := 2) hI.own rfl
      have z2 := lblk_z (i := 2) hI.own
      have a3 := tblk_cell (i := 3) hI.own rfl
      have z3 := lblk_z (i := 3) hI.own
      have a4 := tblk_cell (i := 4) hI.own rfl
      have z4 := lblk_z (i := 4) hI.own
      have r0 := tblk_cell (i := 0) HW rfl
      have r1 := tblk_cell (i := 1) HW rfl
      have r2 := tblk_cell (i := 2) HW rfl
      have r3 := tblk_cell (i := 3) HW rfl
      have r4 := tblk_cell (i := 4) HW rfl
      unfold five at r0 r1 r2 r3 r4 HB
      have HB' : Hid _ := HB
      clear HB HW
      go_wp2
      refine bodyPost_ret (v := .tuple #[.agg #[.string ⟨#[]⟩, .string ⟨#[]⟩, .int .i64 0, .slice none 0 0, .slice none 0 0], .int .i64 400]) (by simp [results, Tryz.results79, go_sem, r0, r1, r2, r3, r4]) rfl ⟨rfl, HB'.out⟩
    · rw [if_neg (by decide)]
      by_cases h5 : 512 < p1.size
      · rw [if_pos h5]
        have h5' : (512 : Int) < (p1.size : Int) := by omega
        clear h5
        go_enter Tryz.func79, Tryz.ntmps79
        go_wp2_with fail
        refine H1.out.mono ?_
        rintro e w1 ⟨b, c, rfl, I0⟩
        have s0 := I0.c0
        have s1 := I0.c1
        have s2 := I0.c2
        clear H1
        go_wp2_with fail
        go_region_held3 (fun W => W.cell? ⟨b, 0, none⟩ = some (.string p0) ∧ W.cell? ⟨b, 1, none⟩ = some (.string p1) ∧ W.cell? ⟨b, 2, none⟩ = some (.string p2)) (go_keep) (first | (go_at_call 105; refine (HM.out b _ (by first | assumption | exact RQ.drew I0 | exact RQ.drew (by assumption))).mono ?_; rintro e w' ⟨rfl, hI, hS0, hS1, hS2⟩) | (go_at_call 106; refine (HT.out b _ (by first | assumption | exact RQ.drew I0 | exact RQ.drew (by assumption))).mono ?_; rintro e w' ⟨rfl, hI, hS0, hS1, hS2⟩))
        have HW := five_cells hI.own (.string ⟨#[]⟩) (.string ⟨#[]⟩) (.int .i64 0) (.slice none 0 0) (.slice none 0 0)
        have HB := five_below (.string ⟨#[]⟩) (.string ⟨#[]⟩) (.int .i64 0) (.slice none 0 0) (.slice none 0 0) hI.below (Nat.le_refl _)
        have a0 := tblk_cell (i := 0) hI.own rfl
        have z0 := lblk_z (i := 0) hI.own
        have a1 := tblk_cell (i := 1) hI.own rfl
        have z1 := lblk_z (i := 1) hI.own
        have a2 := tblk_cell (i := 2) hI.own rfl
        have z2 := lblk_z (i := 2) hI.own
        have a3 := tblk_cell (i := 3) hI.own rfl
        have z3 := lblk_z (i := 3) hI.own
        have a4 := tblk_cell (i := 4) hI.own rfl
        have z4 := lblk_z (i := 4) hI.own
        have r0 := tblk_cell (i := 0) HW rfl
        have r1 := tblk_cell (i := 1) HW rfl
        have r2 := tblk_cell (i := 2) HW rfl
        have r3 := tblk_cell (i := 3) HW rfl
        have r4 := tblk_cell (i := 4) HW rfl
        unfold five at r0 r1 r2 r3 r4 HB
        have HB' : Hid _ := HB
        clear HB HW
        go_wp2
        refine bodyPost_ret (v := .tuple #[.agg #[.string ⟨#[]⟩, .string ⟨#[]⟩, .int .i64 0, .slice none 0 0, .slice none 0 0], .int .i64 414]) (by simp [results, Tryz.results79, go_sem, r0, r1, r2, r3, r4]) rfl ⟨rfl, HB'.out⟩
      · rw [if_neg h5]
        have h5' : ¬ (512 : Int) < (p1.size : Int) := by omega
        clear h5
        cases bv
        · rw [if_pos rfl]
          go_enter Tryz.func79, Tryz.ntmps79
          go_wp2_with fail
          refine H1.out.mono ?_
          rintro e w1 ⟨b, c, rfl, I0⟩
          have s0 := I0.c0
          have s1 := I0.c1
          have s2 := I0.c2
          clear H1
          go_wp2_with fail
          go_region_held3 (fun W => W.cell? ⟨b, 0, none⟩ = some (.string p0) ∧ W.cell? ⟨b, 1, none⟩ = some (.string p1) ∧ W.cell? ⟨b, 2, none⟩ = some (.string p2)) (go_keep) (first | (go_at_call 105; refine (HM.out b _ (by first | assumption | exact RQ.drew I0 | exact RQ.drew (by assumption))).mono ?_; rintro e w' ⟨rfl, hI, hS0, hS1, hS2⟩) | (go_at_call 106; refine (HT.out b _ (by first | assumption | exact RQ.drew I0 | exact RQ.drew (by assumption))).mono ?_; rintro e w' ⟨rfl, hI, hS0, hS1, hS2⟩))
          go_wp2_with fail
          refine (HV.out _).mono ?_
          rintro e w5 ⟨rfl, rfl⟩
          have HW := five_cells hI.own (.string ⟨#[]⟩) (.string ⟨#[]⟩) (.int .i64 0) (.slice none 0 0) (.slice none 0 0)
          have HB := five_below (.string ⟨#[]⟩) (.string ⟨#[]⟩) (.int .i64 0) (.slice none 0 0) (.slice none 0 0) hI.below (Nat.le_refl _)
          have a0 := tblk_cell (i := 0) hI.own rfl
          have z0 := lblk_z (i := 0) hI.own
          have a1 := tblk_cell (i := 1) hI.own rfl
          have z1 := lblk_z (i := 1) hI.own
          have a2 := tblk_cell (i := 2) hI.own rfl
          have z2 := lblk_z (i := 2) hI.own
          have a3 := tblk_cell (i := 3) hI.own rfl
          have z3 := lblk_z (i := 3) hI.own
          have a4 := tblk_cell (i := 4) hI.own rfl
          have z4 := lblk_z (i := 4) hI.own
          have r0 := tblk_cell (i := 0) HW rfl
          have r1 := tblk_cell (i := 1) HW rfl
          have r2 := tblk_cell (i := 2) HW rfl
          have r3 := tblk_cell (i := 3) HW rfl
          have r4 := tblk_cell (i := 4) HW rfl
          unfold five at r0 r1 r2 r3 r4 HB
          have HB' : Hid _ := HB
          clear HB HW
          go_wp2
          refine bodyPost_ret (v := .tuple #[.agg #[.string ⟨#[]⟩, .string ⟨#[]⟩, .int .i64 0, .slice none 0 0, .slice none 0 0], .int .i64 400]) (by simp [results, Tryz.results79, go_sem, r0, r1, r2, r3, r4]) rfl ⟨rfl, HB'.out⟩
        · rw [if_neg (by decide)]
          cases kn
          · rw [if_pos rfl]
            go_enter Tryz.func79, Tryz.ntmps79
            go_wp2_with fail
            refine H1.out.mono ?_
            rintro e w1 ⟨b, c, rfl, I0⟩
            have s0 := I0.c0
            have s1 := I0.c1
            have s2 := I0.c2
            clear H1
            go_wp2_with fail
            go_region_held3 (fun W => W.cell? ⟨b, 0, none⟩ = some (.string p0) ∧ W.cell? ⟨b, 1, none⟩ = some (.string p1) ∧ W.cell? ⟨b, 2, none⟩ = some (.string p2)) (go_keep) (first | (go_at_call 105; refine (HM.out b _ (by first | assumption | exact RQ.drew I0 | exact RQ.drew (by assumption))).mono ?_; rintro e w' ⟨rfl, hI, hS0, hS1, hS2⟩) | (go_at_call 106; refine (HT.out b _ (by first | assumption | exact RQ.drew I0 | exact RQ.drew (by assumption))).mono ?_; rintro e w' ⟨rfl, hI, hS0, hS1, hS2⟩))
            go_wp2_with fail
            refine (HV.out _).mono ?_
            rintro e w5 ⟨rfl, rfl⟩
            go_wp2_with fail
            refine (HN.out _).mono ?_
            rintro e w6 ⟨rfl, rfl⟩
            have HW := five_cells hI.own (.string ⟨#[]⟩) (.string ⟨#[]⟩) (.int .i64 0) (.slice none 0 0) (.slice none 0 0)
            have HB := five_below (.string ⟨#[]⟩) (.string ⟨#[]⟩) (.int .i64 0) (.slice none 0 0) (.slice none 0 0) hI.below (Nat.le_refl _)
            have a0 := tblk_cell (i := 0) hI.own rfl
            have z0 := lblk_z (i := 0) hI.own
            have a1 := tblk_cell (i := 1) hI.own rfl
            have z1 := lblk_z (i := 1) hI.own
            have a2 := tblk_cell (i := 2) hI.own rfl
            have z2 := lblk_z (i := 2) hI.own
            have a3 := tblk_cell (i := 3) hI.own rfl
            have z3 := lblk_z (i := 3) hI.own
            have a4 := tblk_cell (i := 4) hI.own rfl
            have z4 := lblk_z (i := 4) hI.own
            have r0 := tblk_cell (i := 0) HW rfl
            have r1 := tblk_cell (i := 1) HW rfl
            have r2 := tblk_cell (i := 2) HW rfl
            have r3 := tblk_cell (i := 3) HW rfl
            have r4 := tblk_cell (i := 4) HW rfl
            unfold five at r0 r1 r2 r3 r4 HB
            have HB' : Hid _ := HB
            clear HB HW
            go_wp2
            refine bodyPost_ret (v := .tuple #[.agg #[.string ⟨#[]⟩, .string ⟨#[]⟩, .int .i64 0, .slice none 0 0, .slice none 0 0], .int .i64 505]) (by simp [results, Tryz.results79, go_sem, r0, r1, r2, r3, r4]) rfl ⟨rfl, HB'.out⟩
          · rw [if_neg (by decide)]
            go_enter Tryz.func79, Tryz.ntmps79
            go_wp2_with fail
            refine H1.out.mono ?_
            rintro e w1 ⟨b, c, rfl, I0⟩
            have s0 := I0.c0
            have s1 := I0.c1
            have s2 := I0.c2
            clear H1
            go_wp2_with fail
            go_region_held3 (fun W => W.cell? ⟨b, 0, none⟩ = some (.string p0) ∧ W.cell? ⟨b, 1, none⟩ = some (.string p1) ∧ W.cell? ⟨b, 2, none⟩ = some (.string p2)) (go_keep) (first | (go_at_call 105; refine (HM.out b _ (by first | assumption | exact RQ.drew I0 | exact RQ.drew (by assumption))).mono ?_; rintro e w' ⟨rfl, hI, hS0, hS1, hS2⟩) | (go_at_call 106; refine (HT.out b _ (by first | assumption | exact RQ.drew I0 | exact RQ.drew (by assumption))).mono ?_; rintro e w' ⟨rfl, hI, hS0, hS1, hS2⟩))
            go_wp2_with fail
            refine (HV.out _).mono ?_
            rintro e w5 ⟨rfl, rfl⟩
            go_wp2_with fail
            refine (HN.out _).mono ?_
            rintro e w6 ⟨rfl, rfl⟩
            have nb := I0.ne
            have nb' : ¬ w.heap.size = b := fun e => nb e.symm
            have t0 := hI.c0
            have t1 := hI.c1
            go_wp2_with fail
            go_region_held3 (fun W => W.cell? ⟨b, 0, none⟩ = some (.string p0) ∧ W.cell? ⟨b, 1, none⟩ = some (.string p1)) (go_keep) (first | (go_at_call 109; refine (K0.out b _ (by first | assumption | exact RQ.drew (by assumption))).mono ?_; rintro e w' ⟨rfl, hI, hS0, hS1, d0, y0, d1, y1, d2, y2, d3, y3, d4, y4⟩) | (go_at_call 109; refine (K1.out b _ (by first | assumption | exact RQ.drew (by assumption))).mono ?_; rintro e w' ⟨rfl, hI, hS0, hS1, d0, y0, d1, y1, d2, y2, d3, y3, d4, y4⟩))
            have HW := five_cells hI.own (.string p0) (.string p1) (.int .i64 mi) (.slice none 0 0) (.slice none 0 0)
            have HB := five_below (.string p0) (.string p1) (.int .i64 mi) (.slice none 0 0) (.slice none 0 0) hI.below (Nat.le_refl _)
            have r0 := tblk_cell (i := 0) HW rfl
            have r1 := tblk_cell (i := 1) HW rfl
            have r2 := tblk_cell (i := 2) HW rfl
            have r3 := tblk_cell (i := 3) HW rfl
            have r4 := tblk_cell (i := 4) HW rfl
            unfold five at r0 r1 r2 r3 r4 HB
            have HB' : Hid _ := HB
            clear HB HW
            go_wp2
            refine bodyPost_ret (v := .tuple #[.agg #[.string p0, .string p1, .int .i64 mi, .slice none 0 0, .slice none 0 0], .int .i64 0]) (by simp [results, Tryz.results79, go_sem, r0, r1, r2, r3, r4]) rfl ⟨rfl, HB'.out⟩
end Go.Proofs.YtemmmdhmkegaaaaGreatDoor

/- Request, whole. -/
namespace Go.Proofs.YtemmmdhmkegaaaaGreatDoor
open Go.RowKit
set_option linter.unusedVariables false

set_option maxRecDepth 100000 in
set_option maxHeartbeats 4000000 in
theorem req_other (s : ByteArray) (w : World) (hs : s.size < 4294967281) (hM : MaxL w) (hp : ¬ (part4 s).length = 3) :
    Calls Tryz.prog 79 #[.string s] w fun e w' => e = .returned (.tuple #[rqV (rqNo 400), .int .i64 (rqNo 400).code]) ∧ Below w.heap.size w w' := by
  have C0 : Below w.heap.size w (w.alloc (.cells #[.string ⟨#[]⟩, .string ⟨#[]⟩, .int .i64 0, .slice none 0 0, .slice none 0 0] 43)) := (Below.refl _ _).alloc (Nat.le_refl _) _
  have hg0 := tblk_new w (.cells #[.string ⟨#[]⟩, .string ⟨#[]⟩, .int .i64 0, .slice none 0 0, .slice none 0 0] 43)
  have H1 : Hid (Calls Tryz.prog 104 #[.string s, .string ⟨#[32]⟩, .int .i64 4] (w.alloc (.cells #[.string ⟨#[]⟩, .string ⟨#[]⟩, .int .i64 0, .slice none 0 0, .slice none 0 0] 43)) fun e w' => ∃ b c, e = .returned (.slice (some ⟨b, 0, none⟩) (part4 s).length c) ∧ Below w.heap.size w w' ∧ w'.heap[w.heap.size]? = some (.cells #[.string ⟨#[]⟩, .string ⟨#[]⟩, .int .i64 0, .slice none 0 0, .slice none 0 0] 43)) := by
    refine (part4_any s _ hs (hM.below C0)).mono ?_
    rintro e w' ⟨b, c, he, B, hb, hc⟩
    exact ⟨b, c, he, C0.trans (B.mono C0.size), tblk_below hg0 B⟩
  have hn : ¬ (((part4 s).length : Nat) : Int) = 3 := by omega
  clear hp hs hM hg0 C0
  generalize (part4 s).length = n at *
  go_enter Tryz.func79, Tryz.ntmps79
  go_wp2_with fail
  refine H1.out.mono ?_
  rintro e w1 ⟨b, c, rfl, C1, hg1⟩
  clear H1
  go_wp2_with fail
  go_quiet (fail)
  have C2 := C1.trans (lbelow_drewN w.heap.size w1 nq)
  have hg2 : (w1.drewN nq).heap[w.heap.size]? = some (.cells #[.string ⟨#[]⟩, .string ⟨#[]⟩, .int .i64 0, .slice none 0 0, .slice none 0 0] 43) := hg1
  generalize w1.drewN nq = w2 at *
  have HW := five_cells hg2 (.string ⟨#[]⟩) (.string ⟨#[]⟩) (.int .i64 0) (.slice none 0 0) (.slice none 0 0)
  have HB := five_below (.string ⟨#[]⟩) (.string ⟨#[]⟩) (.int .i64 0) (.slice none 0 0) (.slice none 0 0) C2 (Nat.le_refl _)
  have a0 := tblk_cell (i := 0) hg2 rfl
  have z0 := lblk_z (i := 0) hg2
  have a1 := tblk_cell (i := 1) hg2 rfl
  have z1 := lblk_z (i := 1) hg2
  have a2 := tblk_cell (i := 2) hg2 rfl
  have z2 := lblk_z (i := 2) hg2
  have a3 := tblk_cell (i := 3) hg2 rfl
  have z3 := lblk_z (i := 3) hg2
  have a4 := tblk_cell (i := 4) hg2 rfl
  have z4 := lblk_z (i := 4) hg2
  have r0 := tblk_cell (i := 0) HW rfl
  have r1 := tblk_cell (i := 1) HW rfl
  have r2 := tblk_cell (i := 2) HW rfl
  have r3 := tblk_cell (i := 3) HW rfl
  have r4 := tblk_cell (i := 4) HW rfl
  unfold five at r0 r1 r2 r3 r4 HB
  have HB' : Hid _ := HB
  clear HB HW
  go_wp2
  refine bodyPost_ret (v := .tuple #[.agg #[.string ⟨#[]⟩, .string ⟨#[]⟩, .int .i64 0, .slice none 0 0, .slice none 0 0], .int .i64 400]) (by simp [results, Tryz.results79, go_sem, r0, r1, r2, r3, r4]) rfl ⟨rfl, HB'.out⟩

theorem lreq_any (s : ByteArray) (w : World) (hs : s.size < 4294967281) (hM : MaxL w) :
    Calls Tryz.prog 79 #[.string s] w fun e w' => e = .returned (.tuple #[rqV (rqP s), .int .i64 (rqP s).code]) ∧ Below w.heap.size w w' := by
  unfold rqP
  split
  · rename_i p0 p1 p2 h
    exact req_three p0 p1 p2 s w hs hM h
  · rename_i h
    refine req_other s w hs hM ?_
    intro h3
    match hl : part4 s, h3 with
    | [a, b, c], _ => exact h a b c hl
end Go.Proofs.YtemmmdhmkegaaaaGreatDoor

/- Texts that end with another. -/
namespace Go.Proofs.YtemmmdhmkegaaaaGreatDoor
open Go.RowKit
set_option linter.unusedVariables false

def hasS (s p : ByteArray) : Bool := decide (p.size ≤ s.size) && ((s.extract (s.size - p.size) s.size).toList == p.toList)
def cutX (s p : ByteArray) : ByteArray := if hasS s p = true then s.extract 0 (s.size - p.size) else s
theorem hassuffix_any (s p : ByteArray) (w : World) (hs : s.size ≤ maxLen) : Calls Tryz.prog 231 #[.string s, .string p] w fun e w' => e = .returned (.bool (hasS s p)) ∧ w' = w := by
  unfold hasS
  unfold maxLen at hs
  have hlo : p.size ≤ s.size → ((s.size : Int) - (p.size : Int) + 9223372036854775808) % 18446744073709551616 - 9223372036854775808 = ((s.size - p.size : Nat) : Int) := fun _ => by omega
  go_enter Tryz.func231, Tryz.ntmps231
  go_wp2
  · have h : p.size ≤ s.size := by assumption
    go_ret
    exact ⟨ret_b (by rw [decide_eq_true h, Bool.true_and]), rfl⟩
  · have h : ¬ p.size ≤ s.size := by assumption
    go_ret
    exact ⟨ret_b (by rw [decide_eq_false h, Bool.false_and]), rfl⟩
end Go.Proofs.YtemmmdhmkegaaaaGreatDoor

/- Host: what it answers of every text. -/
namespace Go.Proofs.YtemmmdhmkegaaaaGreatDoor
open Go.RowKit
set_option linter.unusedVariables false

theorem cutsuffix_sl (s p : ByteArray) (w : World) (hs : s.size ≤ maxLen) : Calls Tryz.prog 219 #[.string s, .string p] w fun e w' => e = .returned (.tuple #[.string (cutX s p), .bool (hasS s p)]) ∧ w' = w := by
  have H : Hid (∀ W, Calls Tryz.prog 231 #[.string s, .string p] W fun e w' => e = .returned (.bool (hasS s p)) ∧ w' = W) := fun W => hassuffix_any s p W hs
  unfold cutX
  unfold maxLen at hs
  cases h : hasS s p
  · rw [h] at H
    clear h
    go_enter Tryz.func219, Tryz.ntmps219
    go_wp2_with fail
    refine (H.out _).mono ?_
    rintro e w1 ⟨rfl, rfl⟩
    go_wp2
    go_ret2
    exact ⟨rfl, rfl⟩
  · rw [h] at H
    have hl : p.size ≤ s.size := by
      unfold hasS at h
      rw [Bool.and_eq_true] at h
      exact of_decide_eq_true h.1
    have hlo : ((s.size : Int) - (p.size : Int) + 9223372036854775808) % 18446744073709551616 - 9223372036854775808 = ((s.size - p.size : Nat) : Int) := by omega
    clear h
    go_enter Tryz.func219, Tryz.ntmps219
    go_wp2_with fail
    refine (H.out _).mono ?_
    rintro e w1 ⟨rfl, rfl⟩
    go_wp2
    go_ret2
    exact ⟨rfl, rfl⟩
theorem cutsuffix_any (s p : ByteArray) (w : World) (hs : s.size ≤ maxLen) : Calls Tryz.prog 201 #[.string s, .string p] w fun e w' => e = .returned (.tuple #[.string (cutX s p), .bool (hasS s p)]) ∧ w' = w := by
  go_enter Tryz.func201, Tryz.ntmps201
  go_wp2_with fail
  refine (cutsuffix_sl s p _ hs).mono ?_
  rintro e w1 ⟨rfl, rfl⟩
  go_wp2
  go_ret2
  exact ⟨rfl, rfl⟩

def noDig (s : ByteArray) : ByteArray := ⟨(Lib.trimRightS s.data.toList [48, 49, 50, 51, 52, 53, 54, 55, 56, 57]).toArray⟩
def portP (s : ByteArray) : ByteArray := if hasS (noDig s) ⟨#[58]⟩ = true then cutX (noDig s) ⟨#[58]⟩ else s
theorem drop_len (p : UInt8 → Bool) : ∀ l : List UInt8, (l.dropWhile p).length ≤ l.length
  | [] => Nat.le_refl _
  | a :: l => by
    rw [List.dropWhile_cons]
    split
    · exact Nat.le_succ_of_le (drop_len p l)
    · exact Nat.le_refl _
theorem noDig_size (s : ByteArray) : (noDig s).size ≤ s.size := by
  show (Lib.trimRightS s.data.toList _).length ≤ _
  unfold Lib.trimRightS
  rw [List.length_reverse]
  exact Nat.le_trans (drop_len _ _) (by rw [List.length_reverse]; exact Nat.le_refl _)
theorem digs_ascii : ∀ (j : Nat) (b : UInt8), ([48, 49, 50, 51, 52, 53, 54, 55, 56, 57] : List UInt8)[j]? = some b → b.toNat < 128 := by
  intro j b h
  have : b ∈ ([48, 49, 50, 51, 52, 53, 54, 55, 56, 57] : List UInt8) := List.mem_of_getElem? h
  simp at this
  rcases this with rfl | rfl | rfl | rfl | rfl | rfl | rfl | rfl | rfl | rfl <;> decide
theorem wport_any (s : ByteArray) (w : World) (hs : s.size ≤ maxLen) : Calls Tryz.prog 175 #[.string s] w fun e w' => e = .returned (.string (portP s)) ∧ Below w.heap.size w w' := by
  have hz := noDig_size s
  have H : Hid (∀ W, Calls Tryz.prog 180 #[.string s, .string ⟨#[48, 49, 50, 51, 52, 53, 54, 55, 56, 57]⟩] W fun e w' => e = .returned (.string (noDig s)) ∧ Below W.heap.size W w') := fun W => Tryz.strings_TrimRight_laid s ⟨#[48, 49, 50, 51, 52, 53, 54, 55, 56, 57]⟩ W (by unfold maxLen at hs; omega) (by decide) digs_ascii
  have HC : Hid (∀ W, Calls Tryz.prog 201 #[.string (noDig s), .string ⟨#[58]⟩] W fun e w' => e = .returned (.tuple #[.string (cutX (noDig s) ⟨#[58]⟩), .bool (hasS (noDig s) ⟨#[58]⟩)]) ∧ w' = W) := fun W => cutsuffix_any _ _ W (Nat.le_trans hz hs)
  unfold portP
  clear hz hs
  generalize cutX (noDig s) ⟨#[58]⟩ = x at *
  cases h : hasS (noDig s) ⟨#[58]⟩
  · rw [h] at HC
    clear h
    generalize noDig s = y at *
    go_enter Tryz.func175, Tryz.ntmps175
    go_wp2_with fail
    refine (H.out _).mono ?_
    rintro e w1 ⟨rfl, B1⟩
    go_wp2_with fail
    refine (HC.out _).mono ?_
    rintro e w2 ⟨rfl, rfl⟩
    go_wp2
    go_ret
    exact ⟨rfl, B1⟩
  · rw [h] at HC
    clear h
    generalize noDig s = y at *
    go_enter Tryz.func175, Tryz.ntmps175
    go_wp2_with fail
    refine (H.out _).mono ?_
    rintro e w1 ⟨rfl, B1⟩
    go_wp2_with fail
    refine (HC.out _).mono ?_
    rintro e w2 ⟨rfl, rfl⟩
    go_wp2
    go_ret
    exact ⟨rfl, B1⟩

def hsP (r : Int) : Bool := (decide (97 ≤ r) && decide (r ≤ 122)) || ((decide (48 ≤ r) && decide (r ≤ 57)) || ((r == 45) || (r == 46)))
theorem hostsign_any (r : Int) (w : World) : Calls Tryz.prog 176 #[.int .i32 r] w fun e w' => e = .returned (.bool (hsP r)) ∧ w' = w := by
  go_enter Tryz.func176, Tryz.ntmps176
  go_wp2
  all_goals go_ret
  all_goals refine ⟨ret_b ?_, rfl⟩
  all_goals unfold hsP
  all_goals (rw [Bool.eq_iff_iff]; simp <;> omega)

def hostP (s : ByteArray) : ByteArray × Bool :=
  if (portP (foldS s)).size = 0 then (⟨#[]⟩, false) else if 64 < (portP (foldS s)).size then (⟨#[]⟩, false) else if allB hsP (portP (foldS s)).data.toList = false then (⟨#[]⟩, false) else (portP (foldS s), true)
theorem lfold_size (s : ByteArray) : (foldS s).size = s.size := by
  show (foldL s.data.toList).length = s.data.toList.length
  simp [foldL]
theorem ret2_sb {a c : ByteArray} {b d : Bool} (h : a = c) (k : b = d) : Ending.returned (.tuple #[.string a, .bool b]) = .returned (.tuple #[.string c, .bool d]) := by rw [h, k]
theorem hs_high {r : Nat} (h : 128 ≤ r) : hsP (r : Int) = false := by
  unfold hsP
  simp
  omega
theorem iter_below {B : Nat} {w : World} (h : B ≤ w.heap.size) (s : ByteArray) (pos : Nat) : Below B w (w.iter s pos) := (Below.refl _ _).alloc h _
set_option maxRecDepth 100000 in
set_option maxHeartbeats 4000000 in
theorem host_any (s : ByteArray) (w : World) (hs : s.size ≤ maxLen) :
    Calls Tryz.prog 148 #[.string s] w fun e w' => e = .returned (.tuple #[.string (hostP s).1, .bool (hostP s).2]) ∧ Below w.heap.size w w' := by
  have hfz : (foldS s).size ≤ maxLen := by rw [lfold_size]; exact hs
  have HF : Hid (∀ W, Calls Tryz.prog 161 #[.string s] W fun e w' => e = .returned (.string (foldS s)) ∧ Below W.heap.size W w') := fun W => fold_any s W hs
  have HP : Hid (∀ W, Calls Tryz.prog 175 #[.string (foldS s)] W fun e w' => e = .returned (.string (portP (foldS s))) ∧ Below W.heap.size W w') := fun W => wport_any _ W hfz
  have HS : Hid (∀ r W, Calls Tryz.prog 176 #[.int .i32 r] W fun e w' => e = .returned (.bool (hsP r)) ∧ w' = W) := fun r W => hostsign_any r W
  unfold hostP
  clear hfz hs
  generalize portP (foldS s) = h at *
  generalize foldS s = f at *
  by_cases h0 : h.size = 0
  · rw [if_pos h0]
    obtain rfl := empty_t h0
    clear h0 HS
    go_enter Tryz.func148, Tryz.ntmps148
    go_wp2_with fail
    refine (HF.out _).mono ?_
    rintro e w1 ⟨rfl, B1⟩
    go_wp2_with fail
    refine (HP.out _).mono ?_
    rintro e w2 ⟨rfl, B2⟩
    go_wp2
    go_ret2
    exact ⟨rfl, B1.trans (B2.mono B1.size)⟩
  · rw [if_neg h0]
    have he := isEmpty_t h0
    by_cases h6 : 64 < h.size
    · rw [if_pos h6]
      have h6' : (64 : Int) < (h.size : Int) := by omega
      clear h0 h6 HS
      go_enter Tryz.func148, Tryz.ntmps148
      go_wp2_with fail
      refine (HF.out _).mono ?_
      rintro e w1 ⟨rfl, B1⟩
      go_wp2_with fail
      refine (HP.out _).mono ?_
      rintro e w2 ⟨rfl, B2⟩
      go_wp2
      go_ret2
      exact ⟨rfl, B1.trans (B2.mono B1.size)⟩
    · rw [if_neg h6]
      generalize hE : (if allB hsP h.data.toList = false then ((⟨#[]⟩ : ByteArray), false) else (h, true)) = E
      have HE : Hid ((if allB hsP h.data.toList = false then ((⟨#[]⟩ : ByteArray), false) else (h, true)) = E) := hE
      clear hE
      obtain ⟨E1, E2⟩ := E
      have h6' : ¬ (64 : Int) < (h.size : Int) := by omega
      clear h0 h6
      go_enter Tryz.func148, Tryz.ntmps148
      go_wp2_with fail
      refine (HF.out _).mono ?_
      rintro e w1 ⟨rfl, B1⟩
      go_wp2_with fail
      refine (HP.out _).mono ?_
      rintro e w2 ⟨rfl, B2⟩
      have C2 : Hid (Below w.heap.size w w2 ∧ w.heap.size ≤ w2.heap.size) := ⟨B1.trans (B2.mono B1.size), (B1.trans (B2.mono B1.size)).size⟩
      clear B1 B2 HF HP
      go_wp2_with fail
      go_loopw [] (fun w' => ∃ pos : Nat, pos ≤ h.size ∧ w' = w2.iter h pos ∧ Hid (allB hsP (h.data.toList.take pos) = true)) (fun w' => h.size - w'.iterPos w2.heap.size)
      case atStart => exact ⟨0, Nat.zero_le _, rfl, rfl⟩
      case round =>
        obtain ⟨pos, hle, rfl, hA⟩ := hrel
        by_cases hp : pos < h.size
        · have hnx : ∀ ty, (Instr.next (.pointer (some ⟨w2.heap.size, 0, none⟩)) true ty).run Tryz.prog (w2.iter h pos) = _ := fun ty => run_next_any w2 h pos ty hp
          by_cases ha : (h[pos]'hp).toNat < 128
          · rw [decode_ascii h pos hp ha] at hnx
            simp only at hnx
            have HC := HS.out ((h[pos]'hp).toNat : Int)
            cases hc : hsP ((h[pos]'hp).toNat : Int)
            · have HX : Hid (allB hsP h.data.toList = false) := allB_false h pos hp hc
              rw [hc] at HC
              have HC' : Hid _ := HC
              clear HC hc ha
              go_wp2_with fail
              refine (HC'.out _).mono ?_
              rintro e w5 ⟨rfl, rfl⟩
              go_wp2
              go_ret2
              have k := HE.out
              rw [if_pos HX.out] at k
              exact ⟨ret2_sb (congrArg Prod.fst k) (congrArg Prod.snd k), C2.out.1.trans (iter_below C2.out.2 _ _)⟩
            · have HX : Hid (allB hsP (h.data.toList.take (pos + 1)) = true) := allB_snoc h pos hp hA.out hc
              rw [hc] at HC
              have HC' : Hid _ := HC
              clear HC hc ha
              go_wp2_with fail
              refine (HC'.out _).mono ?_
              rintro e w5 ⟨rfl, rfl⟩
              go_wp2
              go_roundw
              case rel => exact ⟨pos + 1, hp, rfl, HX⟩
              case measure => simp; omega
          · have hhi := (decode_high h pos hp (by omega)).1
            have HC := HS.out ((Utf8.decode h pos).1 : Int)
            rw [hs_high hhi] at HC
            have HX : Hid (allB hsP h.data.toList = false) := allB_false h pos hp (hs_high (by omega))
            have HC' : Hid _ := HC
            clear HC hhi ha
            go_wp2_with fail
            refine (HC'.out _).mono ?_
            rintro e w5 ⟨rfl, rfl⟩
            go_wp2
            go_ret2
            have k := HE.out
            rw [if_pos HX.out] at k
            exact ⟨ret2_sb (congrArg Prod.fst k) (congrArg Prod.snd k), C2.out.1.trans (iter_below C2.out.2 _ _)⟩
        · have hnx : ∀ ty, (Instr.next (.pointer (some ⟨w2.heap.size, 0, none⟩)) true ty).run Tryz.prog (w2.iter h pos) = _ := fun ty => run_next_end w2 h pos ty hp
          have HX : Hid (¬ allB hsP h.data.toList = false) := by
            have k := hA.out
            rw [List.take_of_length_le (show h.data.toList.length ≤ pos from Nat.le_of_not_lt hp)] at k
            rw [Hid, k]
            decide
          go_wp2
          go_ret2
          have k := HE.out
          rw [if_neg HX.out] at k
          exact ⟨ret2_sb (congrArg Prod.fst k) (congrArg Prod.snd k), C2.out.1.trans (iter_below C2.out.2 _ _)⟩
end Go.Proofs.YtemmmdhmkegaaaaGreatDoor

/- Messages, plain: heads, bodies, requests and responses, as package http reads them. -/
namespace Go.Proofs.YtemmmdhmkegaaaaGreatDoor
open Go.RowKit
set_option linter.unusedVariables false

def hst (full : Bool) (e : Int) : Int := if e = 0 then (if full = true then 431 else 0) else 400
def plusH (acc : Fs) (at_ : Nat) (r : Fs × Nat × Int) : Fs × Nat × Int := if r.2.1 = 0 then ([], 0, r.2.2) else (acc ++ r.1, at_ + r.2.1, 0)
def fOf (l : List UInt8) : ByteArray × ByteArray := ((prs (tx l)).1, (prs (tx l)).2.1)
def fldK (full : Bool) (l : List UInt8) (rest : Nat → Fs × Nat × Int) : Fs × Nat × Int :=
  match cutAt 2048 0 l with
  | (none, e) => ([], 0, hst full e)
  | (some i, _) => if i = 0 then ([], 2, 0) else if fldOk (l.take i) = true then rest i else ([], 0, 400)
def fldL (full : Bool) : Nat → List UInt8 → Fs × Nat × Int
  | 0, l => fldK full l fun _ => ([], 0, 431)
  | r + 1, l => fldK full l fun i => plusH [fOf (l.take i)] (i + 2) (fldL full r (l.drop (i + 2)))
theorem fldK_miss {full : Bool} {l : List UInt8} {e : Int} {f : Nat → Fs × Nat × Int} (h : cutAt 2048 0 l = (none, e)) : fldK full l f = ([], 0, hst full e) := by
  unfold fldK; rw [h]
theorem fldK_end {full : Bool} {l : List UInt8} {f : Nat → Fs × Nat × Int} (h : cutAt 2048 0 l = (some 0, 0)) : fldK full l f = ([], 2, 0) := by
  unfold fldK; rw [h]; rfl
theorem fldK_bad {full : Bool} {i : Nat} {l : List UInt8} {f : Nat → Fs × Nat × Int} (h : cutAt 2048 0 l = (some i, 0)) (hi : ¬ i = 0) (hf : fldOk (l.take i) = false) : fldK full l f = ([], 0, 400) := by
  unfold fldK; rw [h]; simp only; rw [if_neg hi, if_neg (by rw [hf]; decide)]
theorem fldK_next {full : Bool} {i : Nat} {l : List UInt8} {f : Nat → Fs × Nat × Int} (h : cutAt 2048 0 l = (some i, 0)) (hi : ¬ i = 0) (hf : fldOk (l.take i) = true) : fldK full l f = f i := by
  unfold fldK; rw [h]; simp only; rw [if_neg hi, if_pos hf]
theorem fldL_miss {full : Bool} {r : Nat} {l : List UInt8} {e : Int} (h : cutAt 2048 0 l = (none, e)) : fldL full r l = ([], 0, hst full e) := by
  cases r <;> exact fldK_miss h
theorem fldL_end {full : Bool} {r : Nat} {l : List UInt8} (h : cutAt 2048 0 l = (some 0, 0)) : fldL full r l = ([], 2, 0) := by
  cases r <;> exact fldK_end h
theorem fldL_bad {full : Bool} {r i : Nat} {l : List UInt8} (h : cutAt 2048 0 l = (some i, 0)) (hi : ¬ i = 0) (hf : fldOk (l.take i) = false) : fldL full r l = ([], 0, 400) := by
  cases r <;> exact fldK_bad h hi hf
theorem fldL_many {full : Bool} {i : Nat} {l : List UInt8} (h : cutAt 2048 0 l = (some i, 0)) (hi : ¬ i = 0) (hf : fldOk (l.take i) = true) : fldL full 0 l = ([], 0, 431) := fldK_next h hi hf
theorem fldL_next {full : Bool} {r i : Nat} {l : List UInt8} (h : cutAt 2048 0 l = (some i, 0)) (hi : ¬ i = 0) (hf : fldOk (l.take i) = true) : fldL full (r + 1) l = plusH [fOf (l.take i)] (i + 2) (fldL full r (l.drop (i + 2))) := fldK_next h hi hf
theorem plusH_plusH (a b : Fs) (i j : Nat) (r : Fs × Nat × Int) (hj : 0 < j) : plusH a i (plusH b j r) = plusH (a ++ b) (i + j) r := by
  unfold plusH
  by_cases h : r.2.1 = 0
  · rw [if_pos h, if_pos h]; rfl
  · rw [if_neg h, if_neg h]
    simp only
    rw [if_neg (by omega), List.append_assoc, Nat.add_assoc]
theorem plusH_err (a : Fs) (i : Nat) (e : Int) : plusH a i ([], 0, e) = ([], 0, e) := rfl

theorem prs_bd (s : ByteArray) : (prs s).1.size ≤ 1000 ∧ (prs s).2.1.size ≤ 1000 := by
  unfold prs
  split
  · rename_i h
    have h2 := (Bool.and_eq_true_iff.1 h).2
    unfold okF okName okVal at h2
    simp only [Bool.and_eq_true, decide_eq_true_eq] at h2
    exact ⟨by have := h2.1.1; simp only; omega, by have := h2.2.1.1; simp only; omega⟩
  · exact ⟨by decide, by decide⟩

structure FlOk (r : Nat) (L : Nat) (R : Fs × Nat × Int) : Prop where
  len : R.1.length ≤ r
  bd : FBd 1000 R.1
  le : R.2.1 ≤ L
  zero : R.2.1 = 0 → R.1 = []
  st : ¬ R.2.1 = 0 → R.2.2 = 0
theorem FlOk.no (r L : Nat) (e : Int) : FlOk r L ([], 0, e) := ⟨Nat.zero_le _, (fun f hf => by cases hf), Nat.zero_le _, (fun _ => rfl), fun h => absurd rfl h⟩
theorem fOf_bd (l : List UInt8) : (fOf l).1.size ≤ 1000 ∧ (fOf l).2.size ≤ 1000 := prs_bd (tx l)
theorem FlOk.plus {r L i : Nat} {R : Fs × Nat × Int} (h : FlOk r (L - i) R) (hi : 0 < i) (hl : i ≤ L) (f : ByteArray × ByteArray) (hf : f.1.size ≤ 1000 ∧ f.2.size ≤ 1000) : FlOk (r + 1) L (plusH [f] i R) := by
  unfold plusH
  by_cases h0 : R.2.1 = 0
  · rw [if_pos h0]; exact FlOk.no _ _ _
  · rw [if_neg h0]
    refine ⟨?_, ?_, ?_, ?_, fun _ => rfl⟩
    · have := h.len; simp only [List.length_append, List.length_cons, List.length_nil]; omega
    · intro g hg
      rcases List.mem_append.1 hg with k | k
      · rw [List.mem_singleton.1 k]; exact hf
      · exact h.bd g k
    · have := h.le; simp only; omega
    · intro k; simp only at k; omega
theorem fldL_ok (full : Bool) : ∀ (r : Nat) (l : List UInt8), FlOk r l.length (fldL full r l) := by
  intro r
  induction r with
  | zero =>
    intro l
    rcases cut_cases 2048 l with ⟨i, hc, hl, _⟩ | ⟨e, hc⟩
    · by_cases hi : i = 0
      · subst hi; rw [fldL_end hc]; exact ⟨Nat.le_refl _, (fun f hf => by cases hf), hl, (fun k => by cases k), fun _ => rfl⟩
      · cases hf : fldOk (l.take i)
        · rw [fldL_bad hc hi hf]; exact FlOk.no _ _ _
        · rw [fldL_many hc hi hf]; exact FlOk.no _ _ _
    · rw [fldL_miss hc]; exact FlOk.no _ _ _
  | succ r ih =>
    intro l
    rcases cut_cases 2048 l with ⟨i, hc, hl, _⟩ | ⟨e, hc⟩
    · by_cases hi : i = 0
      · subst hi; rw [fldL_end hc]; exact ⟨Nat.zero_le _, (fun f hf => by cases hf), hl, (fun k => by cases k), fun _ => rfl⟩
      · cases hf : fldOk (l.take i)
        · rw [fldL_bad hc hi hf]; exact FlOk.no _ _ _
        · rw [fldL_next hc hi hf]
          have h := ih (l.drop (i + 2))
          rw [List.length_drop] at h
          exact h.plus (by omega) hl _ (fOf_bd _)
    · rw [fldL_miss hc]; exact FlOk.no _ _ _

def fullB (b : List UInt8) : Bool := decide (2048 ≤ b.length)
def headL (st : ByteArray → Int) (b : List UInt8) : Fs × Nat × Int :=
  match cutAt 2048 0 (b.take 2048) with
  | (none, e) => ([], 0, hst (fullB b) e)
  | (some i, _) => if st (tx ((b.take 2048).take i)) = 0 then plusH [] (i + 2) (fldL (fullB b) 40 ((b.take 2048).drop (i + 2))) else ([], 0, st (tx ((b.take 2048).take i)))
def firstL (b : List UInt8) : ByteArray := match cutAt 2048 0 (b.take 2048) with | (some i, _) => tx ((b.take 2048).take i) | _ => tx []
theorem headL_miss {st : ByteArray → Int} {b : List UInt8} {e : Int} (h : cutAt 2048 0 (b.take 2048) = (none, e)) : headL st b = ([], 0, hst (fullB b) e) := by
  unfold headL; rw [h]
theorem headL_bad {st : ByteArray → Int} {b : List UInt8} {i : Nat} {e : Int} (h : cutAt 2048 0 (b.take 2048) = (some i, e)) (hs : ¬ st (tx ((b.take 2048).take i)) = 0) : headL st b = ([], 0, st (tx ((b.take 2048).take i))) := by
  unfold headL; rw [h]; simp only; rw [if_neg hs]
theorem headL_hit {st : ByteArray → Int} {b : List UInt8} {i : Nat} {e : Int} (h : cutAt 2048 0 (b.take 2048) = (some i, e)) (hs : st (tx ((b.take 2048).take i)) = 0) : headL st b = plusH [] (i + 2) (fldL (fullB b) 40 ((b.take 2048).drop (i + 2))) := by
  unfold headL; rw [h]; simp only; rw [if_pos hs]
theorem firstL_hit {b : List UInt8} {i : Nat} {e : Int} (h : cutAt 2048 0 (b.take 2048) = (some i, e)) : firstL b = tx ((b.take 2048).take i) := by
  unfold firstL; rw [h]
theorem headL_ok (st : ByteArray → Int) (b : List UInt8) : FlOk 40 (min 2048 b.length) (headL st b) := by
  have hlt : (b.take 2048).length = min 2048 b.length := List.length_take
  rcases cut_cases 2048 (b.take 2048) with ⟨i, hc, hl, _⟩ | ⟨e, hc⟩
  · by_cases hs : st (tx ((b.take 2048).take i)) = 0
    · rw [headL_hit hc hs]
      have h := fldL_ok (fullB b) 40 ((b.take 2048).drop (i + 2))
      rw [List.length_drop] at h
      unfold plusH
      by_cases h0 : (fldL (fullB b) 40 ((b.take 2048).drop (i + 2))).2.1 = 0
      · rw [if_pos h0]; exact FlOk.no _ _ _
      · rw [if_neg h0]
        exact ⟨h.len, h.bd, by have := h.le; simp only; omega, (fun k => by simp only at k; omega), fun _ => rfl⟩
    · rw [headL_bad hc hs]; exact FlOk.no _ _ _
  · rw [headL_miss hc]; exact FlOk.no _ _ _

def tHost : ByteArray := ⟨#[72, 111, 115, 116]⟩
def hostsOk (hs : List ByteArray) (minor : Int) : Bool := match hs with
  | [] => !(minor == 1)
  | h :: r => decide (r.length = 0) && (hostP h).2
def headSt (fs : Fs) (minor : Int) : Int := if hostsOk (getF fs tHost) minor = true then (reqF fs minor).2.2 else 400
structure Hd where
  m : ByteArray
  t : ByteArray
  minor : Int
  fs : Fs
  n : Nat
  st : Int
def hdNo (st : Int) : Hd := ⟨⟨#[]⟩, ⟨#[]⟩, 0, [], 0, st⟩
def rqSt (s : ByteArray) : Int := (rqP s).code
def headQ (b : List UInt8) : Hd :=
  if (headL rqSt b).2.1 = 0 then hdNo (headL rqSt b).2.2
  else if headSt (headL rqSt b).1 (rqP (firstL b)).minor = 0 then ⟨(rqP (firstL b)).method, (rqP (firstL b)).target, (rqP (firstL b)).minor, (headL rqSt b).1, (headL rqSt b).2.1, 0⟩
  else hdNo (headSt (headL rqSt b).1 (rqP (firstL b)).minor)
def bodyQ (b : List UInt8) (head : Nat) (size : Int) (coded : Bool) : List UInt8 × Nat × Int :=
  if coded = true then (if (decR 4096 (b.drop head)).2.1 = 0 then ([], 0, (decR 4096 (b.drop head)).2.2) else ((decR 4096 (b.drop head)).1, head + (decR 4096 (b.drop head)).2.1, 0))
  else if ((b.length - head : Nat) : Int) < size then ([], 0, 0) else ((b.drop head).take size.toNat, head + size.toNat, 0)
def bodySt (e : Int) : Int := if e = 0 then 0 else if e = 2 then 413 else 400
structure Rd where
  m : ByteArray
  t : ByteArray
  minor : Int
  fs : Fs
  body : List UInt8
  n : Nat
  st : Int
def rdNo (st : Int) : Rd := ⟨⟨#[]⟩, ⟨#[]⟩, 0, [], [], 0, st⟩
def rdOf (h : Hd) (x : List UInt8 × Nat × Int) : Rd := if x.2.1 = 0 then rdNo (bodySt x.2.2) else ⟨h.m, h.t, h.minor, h.fs, x.1, x.2.1, 0⟩
def bodyOf (h : Hd) (b : List UInt8) : List UInt8 × Nat × Int := bodyQ b h.n (reqF h.fs h.minor).1 (reqF h.fs h.minor).2.1
def reqQ (b : List UInt8) : Rd := if (headQ b).n = 0 then rdNo (headQ b).st else rdOf (headQ b) (bodyOf (headQ b) b)
structure HdOk (L : Nat) (h : Hd) : Prop where
  len : h.fs.length ≤ 40
  bd : FBd 1000 h.fs
  le : h.n ≤ L ∧ h.n ≤ 2048
  no : h.n = 0 → h = hdNo h.st
  st : ¬ h.n = 0 → h.st = 0
theorem headQ_ok (b : List UInt8) : HdOk b.length (headQ b) := by
  have k := headL_ok rqSt b
  unfold headQ
  by_cases h0 : (headL rqSt b).2.1 = 0
  · rw [if_pos h0]; exact ⟨Nat.zero_le _, (fun f hf => by cases hf), ⟨Nat.zero_le _, Nat.zero_le _⟩, (fun _ => rfl), fun h => absurd rfl h⟩
  · rw [if_neg h0]
    split
    · exact ⟨k.len, k.bd, ⟨by have := k.le; simp only; omega, by have := k.le; simp only; omega⟩, (fun h => absurd h h0), fun _ => rfl⟩
    · exact ⟨Nat.zero_le _, (fun f hf => by cases hf), ⟨Nat.zero_le _, Nat.zero_le _⟩, (fun _ => rfl), fun h => absurd rfl h⟩
theorem told_nn (fs : Fs) (minor : Int) : 0 ≤ (toldF fs minor).2.1 ∧ (toldF fs minor).2.1 ≤ 4096 := by
  have h := lenL_bd (listF fs tCL)
  have h2 : 0 ≤ (lengthF fs).1 := h.1
  unfold toldF
  split
  · exact ⟨by decide, by decide⟩
  · split
    · split <;> exact ⟨by decide, by decide⟩
    · split
      · exact ⟨by decide, by decide⟩
      · split
        · exact ⟨by decide, by decide⟩
        · split
          · exact ⟨by decide, by decide⟩
          · rename_i q; exact ⟨h2, by simp only; omega⟩
end Go.Proofs.YtemmmdhmkegaaaaGreatDoor

/- Package http: a line of a head. -/
namespace Go.Proofs.YtemmmdhmkegaaaaGreatDoor
open Go.RowKit
set_option linter.unusedVariables false

def roomL (b : List UInt8) (at_ : Nat) : List UInt8 := (b.take 2048).drop at_
def hcutV (b : List UInt8) (at_ : Nat) : Value := match cutAt 2048 0 (roomL b at_) with
  | (some i, _) => .tuple #[.string (tx ((roomL b at_).take i)), .int .i64 ((i : Int) + 2), .int .i64 0]
  | (none, e) => .tuple #[.string ⟨#[]⟩, .int .i64 0, .int .i64 (hst (fullB b) e)]
theorem hcutV_hit {b : List UInt8} {at_ i : Nat} {e : Int} (h : cutAt 2048 0 (roomL b at_) = (some i, e)) : hcutV b at_ = .tuple #[.string (tx ((roomL b at_).take i)), .int .i64 ((i : Int) + 2), .int .i64 0] := by
  unfold hcutV; rw [h]
theorem hcutV_miss {b : List UInt8} {at_ : Nat} {e : Int} (h : cutAt 2048 0 (roomL b at_) = (none, e)) : hcutV b at_ = .tuple #[.string ⟨#[]⟩, .int .i64 0, .int .i64 (hst (fullB b) e)] := by
  unfold hcutV; rw [h]
set_option maxRecDepth 100000 in
set_option maxHeartbeats 2000000 in
theorem hcut_any (b : List UInt8) (kb c : Nat) (a : Option Addr) (at_ : Nat) (w : World) (hs : Src w kb (.slice a b.length c) b) (hat : at_ ≤ min 2048 b.length) :
    Calls Tryz.prog 102 #[.slice a b.length c, .int .i64 (at_ : Nat)] w fun e w' => e = .returned (hcutV b at_) ∧ w' = w := by
  have hlen := hs.len
  obtain ⟨n, hn⟩ : ∃ n, n = b.length := ⟨_, rfl⟩
  obtain ⟨m, hm⟩ : ∃ m, m = min 2048 n := ⟨_, rfl⟩
  have hmin : min (n : Int) 2048 = (m : Int) := by omega
  have hR : roomL b at_ = (b.take m).drop at_ := by
    unfold roomL
    congr 1
    rw [hm, hn, ← List.take_eq_take_min]
  have HC : Hid (∀ v' : Value, Src w kb v' (roomL b at_) → Calls Tryz.prog 138 #[v', .int .i64 2048] w fun e w' => e = .returned (cutV 2048 (roomL b at_)) ∧ w' = w) := fun v' h => cut_any _ kb v' 2048 w h
  have hcell : Hid (∀ a' : Option Addr, (at_ < c → a' = a.map (fun x => x.add at_)) → Src w kb (.slice a' (m - at_) (c - at_)) (roomL b at_)) := fun a' ha' => by
    rw [hR]
    exact (hs.take (m := m) (by omega)).cut (by rw [List.length_take]; omega) ha'
  have hfull : fullB b = decide (m = 2048) := by unfold fullB; rw [decide_eq_decide]; omega
  rw [← hn] at hlen ⊢
  have hc1 : m ≤ c := by omega
  have hat1 : at_ ≤ m := by omega
  have hc2 : c ≤ maxLen := hlen.2.2
  unfold maxLen at hc2
  have hmn : m ≤ n := by omega
  have hm2 : m ≤ 2048 := by omega
  have hnc : n ≤ c := by omega
  clear hs hat hlen hn hR hm
  rcases cut_cases 2048 (roomL b at_) with ⟨i, hc, hl, _⟩ | ⟨e, hc⟩
  · rw [hcutV_hit hc]
    rw [cutV_hit hc] at HC
    have hi : i ≤ 2048 := cutAt_le 2048 _ 0 i 0 (by decide) hc
    have hi2 : (((i : Int) + 2) == 0) = false := by simp; omega
    have hi3 : ¬ ((i : Int) + 2) = 0 := by omega
    clear hc hl hfull
    show Calls Tryz.prog 102 #[.slice a n c, .int .i64 (at_ : Nat)] w fun e w' => e = .returned (.tuple #[.string ⟨((roomL b at_).take i).toArray⟩, .int .i64 ((i : Int) + 2), .int .i64 0]) ∧ w' = w
    generalize (⟨((roomL b at_).take i).toArray⟩ : ByteArray) = s at *
    go_enter Tryz.func102, Tryz.ntmps102
    go_wp2_with fail
    all_goals
      refine (HC.out _ (by first | (have hx := hcell.out a (fun h => by omega); rw [show c - at_ = 0 by omega] at hx; exact hx) | exact hcell.out _ (fun _ => rfl) | exact hcell.out _ (fun h => if_neg (by omega)) | exact hcell.out _ (fun h => by omega))).mono ?_
      rintro e w1 ⟨rfl, rfl⟩
      go_wp2
      go_ret3
      exact ⟨rfl, rfl⟩
  · rw [hcutV_miss hc]
    rw [cutV_miss hc] at HC
    clear hc
    by_cases he : e = 0
    · subst he
      by_cases hf : m = 2048
      · subst hf
        rw [hfull]
        show Calls Tryz.prog 102 #[.slice a n c, .int .i64 (at_ : Nat)] w fun e w' => e = .returned (.tuple #[.string ⟨#[]⟩, .int .i64 0, .int .i64 431]) ∧ w' = w
        clear hfull
        go_enter Tryz.func102, Tryz.ntmps102
        go_wp2_with fail
        all_goals
          refine (HC.out _ (by first | (have hx := hcell.out a (fun h => by omega); rw [show c - at_ = 0 by omega] at hx; exact hx) | exact hcell.out _ (fun _ => rfl) | exact hcell.out _ (fun h => if_neg (by omega)) | exact hcell.out _ (fun h => by omega))).mono ?_
          rintro e w1 ⟨rfl, rfl⟩
          go_wp2
          go_ret3
          exact ⟨rfl, rfl⟩
      · have hf2 : ((m : Int) == 2048) = false := by simp; omega
        have hf3 : ¬ (m : Int) = 2048 := by omega
        have e1 : hst (fullB b) 0 = 0 := by rw [hfull, decide_eq_false hf]; rfl
        rw [e1]
        clear hfull e1 hf
        go_enter Tryz.func102, Tryz.ntmps102
        go_wp2_with fail
        all_goals
          refine (HC.out _ (by first | (have hx := hcell.out a (fun h => by omega); rw [show c - at_ = 0 by omega] at hx; exact hx) | exact hcell.out _ (fun _ => rfl) | exact hcell.out _ (fun h => if_neg (by omega)) | exact hcell.out _ (fun h => by omega))).mono ?_
          rintro e w1 ⟨rfl, rfl⟩
          go_wp2
          go_ret3
          exact ⟨rfl, rfl⟩
    · have e1 : hst (fullB b) e = 400 := by unfold hst; rw [if_neg he]
      have he2 : (e != 0) = true := by simpa using he
      rw [e1]
      clear hfull e1
      go_enter Tryz.func102, Tryz.ntmps102
      go_wp2_with fail
      all_goals
        refine (HC.out _ (by first | (have hx := hcell.out a (fun h => by omega); rw [show c - at_ = 0 by omega] at hx; exact hx) | exact hcell.out _ (fun _ => rfl) | exact hcell.out _ (fun h => if_neg (by omega)) | exact hcell.out _ (fun h => by omega))).mono ?_
        rintro e w1 ⟨rfl, rfl⟩
        go_wp2
        go_ret3
        exact ⟨rfl, rfl⟩
end Go.Proofs.YtemmmdhmkegaaaaGreatDoor

/- A new block, and what is older, behind what keeps both (split off LnF). -/
namespace Go.Proofs.YtemmmdhmkegaaaaGreatDoor
open Go.RowKit
set_option linter.unusedVariables false

structure PI (w : World) (o : Obj) (W : World) : Prop where
  below : Below w.heap.size w W
  own : W.heap[w.heap.size]? = some o
theorem PI.drew {w W : World} {o : Obj} (h : PI w o W) : PI w o W.drew := ⟨h.below.drew, h.own⟩
theorem PI.next {w W W' : World} {o : Obj} (h : PI w o W) (k : Below W.heap.size W W') : PI w o W' := ⟨h.below.trans (k.mono h.below.size), tblk_below h.own k⟩
theorem PI.new (w : World) (o : Obj) : PI w o (w.alloc o) := ⟨(Below.refl _ _).alloc (Nat.le_refl _) _, tblk_new w o⟩
end Go.Proofs.YtemmmdhmkegaaaaGreatDoor

/- A field in a block of its own. -/
namespace Go.Proofs.YtemmmdhmkegaaaaGreatDoor
open Go.ChangeShapes Go.WideShapes Go.ChangeAt Go.RowKit
set_option linter.unusedVariables false

theorem fds_new (w : World) (n v : ByteArray) : Fds (w.alloc (.cells #[.string n, .string v] 121)).heap.size (w.alloc (.cells #[.string n, .string v] 121)) (.slice (some ⟨w.heap.size, 0, none⟩) 1 1) [(n, v)] :=
  ⟨_, 1, rfl, (fun e => by cases e), Nat.le_refl _, by decide, fun _ => ⟨w.heap.size, 0, rfl, by simp, fun j hj => by
    have : j = 0 := by simpa using hj
    subst this
    exact ⟨tblk_cell (tblk_new _ _) rfl, tblk_cell (tblk_new _ _) rfl⟩⟩⟩

end Go.Proofs.YtemmmdhmkegaaaaGreatDoor

/- Package http: the lines of a request's head. -/
namespace Go.Proofs.YtemmmdhmkegaaaaGreatDoor
open Go.RowKit
set_option linter.unusedVariables false

set_option maxRecDepth 100000 in
set_option maxHeartbeats 2000000 in
theorem head1_any (s : ByteArray) (Y0 Y1 Y2 Y3 Y4 : Value) (u W : World) (hP : PI u (.cells #[Y0, Y1, Y2, Y3, Y4] 43) W) (hs : s.size < 4294967281) (hM : MaxL u) :
    Calls Tryz.prog 78 #[.string s, .pointer (some ⟨u.heap.size, 0, none⟩)] W fun e w' => e = .returned (.int .i64 (rqSt s)) ∧ PI u (.cells #[.string (rqP s).method, .string (rqP s).target, .int .i64 (rqP s).minor, .slice none 0 0, .slice none 0 0] 43) w' ∧ W.heap.size ≤ w'.heap.size := by
  have HL : Hid (Calls Tryz.prog 79 #[.string s] W fun e w' => e = .returned (.tuple #[.agg #[.string (rqP s).method, .string (rqP s).target, .int .i64 (rqP s).minor, .slice none 0 0, .slice none 0 0], .int .i64 (rqSt s)]) ∧ Below W.heap.size W w') := lreq_any s W hs (hM.below hP.below)
  have HP : Hid _ := hP
  clear hs hM hP
  generalize rqSt s = st at *
  generalize (rqP s).method = m at *
  generalize (rqP s).target = t at *
  generalize (rqP s).minor = mi at *
  go_enter Tryz.func78, Tryz.ntmps78
  go_wp2_with fail
  refine HL.out.mono ?_
  rintro e w1 ⟨rfl, B1⟩
  have P1 := HP.out.next B1
  have hg2 := P1.own
  have HW := five_cells hg2 (.string m) (.string t) (.int .i64 mi) (.slice none 0 0) (.slice none 0 0)
  have HB := five_below (.string m) (.string t) (.int .i64 mi) (.slice none 0 0) (.slice none 0 0) P1.below (Nat.le_refl _)
  have a0 := tblk_cell (i := 0) hg2 rfl
  have z0 := lblk_z (i := 0) hg2
  have a1 := tblk_cell (i := 1) hg2 rfl
  have z1 := lblk_z (i := 1) hg2
  have a2 := tblk_cell (i := 2) hg2 rfl
  have z2 := lblk_z (i := 2) hg2
  have a3 := tblk_cell (i := 3) hg2 rfl
  have z3 := lblk_z (i := 3) hg2
  have a4 := tblk_cell (i := 4) hg2 rfl
  have z4 := lblk_z (i := 4) hg2
  have hsz : Hid (W.heap.size ≤ (five w1 u.heap.size (.string m) (.string t) (.int .i64 mi) (.slice none 0 0) (.slice none 0 0)).heap.size) := by
    rw [Hid]; unfold five; simp; exact B1.size
  have HX : Hid (PI u (.cells #[.string m, .string t, .int .i64 mi, .slice none 0 0, .slice none 0 0] 43) (five w1 u.heap.size (.string m) (.string t) (.int .i64 mi) (.slice none 0 0) (.slice none 0 0))) := ⟨HB, HW⟩
  unfold five at HX hsz
  clear HB HW hg2 P1 B1 HL HP
  go_wp2
  go_ret
  exact ⟨rfl, HX.out, hsz.out⟩

set_option maxRecDepth 100000 in
set_option maxHeartbeats 4000000 in
theorem readA_any (b : List UInt8) (kb c : Nat) (a : Option Addr) (Y0 Y1 Y2 Y3 Y4 : Value) (u W : World) (hP : PI u (.cells #[Y0, Y1, Y2, Y3, Y4] 43) W) (hs : Src u kb (.slice a b.length c) b) (hk : 0 < b.length → kb < u.heap.size) (hM : MaxL u) :
    Calls Tryz.prog 77 #[.slice a b.length c, .func (.func 78) #[] #[.pointer (some ⟨u.heap.size, 0, none⟩)]] W fun e w' => ∃ fa fc, e = .returned (.tuple #[.slice fa (headL rqSt b).1.length fc, .int .i64 ((headL rqSt b).2.1 : Nat), .int .i64 (headL rqSt b).2.2]) ∧ OwnF W.heap.size w' (.slice fa (headL rqSt b).1.length fc) (headL rqSt b).1 ∧
      ∃ o, PI u o w' ∧ (¬ (headL rqSt b).2.1 = 0 → o = .cells #[.string (rqP (firstL b)).method, .string (rqP (firstL b)).target, .int .i64 (rqP (firstL b)).minor, .slice none 0 0, .slice none 0 0] 43) := by
  have hlen := hs.len
  obtain ⟨n, hn⟩ : ∃ n, n = b.length := ⟨_, rfl⟩
  have HN : Hid (n = b.length) := hn
  have HCUT : Hid (∀ (X : World) (at_ : Nat), Below u.heap.size u X → at_ ≤ min 2048 n → Calls Tryz.prog 102 #[.slice a n c, .int .i64 (at_ : Nat)] X fun e w' => e = .returned (hcutV b at_) ∧ w' = X) := fun X at_ hX ha => by
    have k := hcut_any b kb c a at_ X (hs.keep hk hX) (by omega)
    rw [← hn] at k
    exact k
  have HOK : Hid (FlOk 40 (min 2048 b.length) (headL rqSt b)) := headL_ok _ _
  have hcc := cut_cases 2048 (b.take 2048)
  have hltk : (b.take 2048).length = min 2048 n := by rw [List.length_take, HN.out]
  rw [← hn]
  clear hs hk hlen hn
  have HPar : Hid (∀ (X : World) (s : ByteArray), Below u.heap.size u X → s.size ≤ 2048 → Calls Tryz.prog 103 #[.string s] X fun e w' => e = .returned (.tuple #[.agg #[.string (prs s).1, .string (prs s).2.1], .int .i64 (prs s).2.2]) ∧ Below X.heap.size X w') := fun X s hX hz => parse_any s X (by omega) (hM.below hX)
  have HTell : Hid (∀ s : ByteArray, s.size ≤ 2048 → Calls Tryz.prog 78 #[.string s, .pointer (some ⟨u.heap.size, 0, none⟩)] W fun e w' => e = .returned (.int .i64 (rqSt s)) ∧ PI u (.cells #[.string (rqP s).method, .string (rqP s).target, .int .i64 (rqP s).minor, .slice none 0 0, .slice none 0 0] 43) w' ∧ W.heap.size ≤ w'.heap.size) := fun s hz => head1_any s _ _ _ _ _ u W hP (by omega) hM
  have hr0 : roomL b 0 = b.take 2048 := rfl
  have HP : Hid (PI u (.cells #[Y0, Y1, Y2, Y3, Y4] 43) W) := hP
  clear hP hM
  rcases hcc with ⟨i, hc, hl, _⟩ | ⟨er, hc⟩
  · have hv := hcutV_hit (b := b) (at_ := 0) (by rw [hr0]; exact hc)
    rw [hr0] at hv
    have hz : Hid ((tx ((b.take 2048).take i)).size ≤ 2048) := by rw [Hid, tx_size, List.length_take]; omega
    have hfl : firstL b = tx ((b.take 2048).take i) := firstL_hit hc
    rw [hltk] at hl
    by_cases hst : rqSt (tx ((b.take 2048).take i)) = 0
    · have HH : Hid (headL rqSt b = plusH [] (i + 2) (fldL (fullB b) 40 (roomL b (i + 2)))) := headL_hit hc hst
      have HT2 : Hid (Calls Tryz.prog 78 #[.string (tx ((b.take 2048).take i)), .pointer (some ⟨u.heap.size, 0, none⟩)] W fun e w' => e = .returned (.int .i64 0) ∧ PI u (.cells #[.string (rqP (tx ((b.take 2048).take i))).method, .string (rqP (tx ((b.take 2048).take i))).target, .int .i64 (rqP (tx ((b.take 2048).take i))).minor, .slice none 0 0, .slice none 0 0] 43) w' ∧ W.heap.size ≤ w'.heap.size) := by
        have k := HTell.out _ hz.out
        rw [hst] at k
        exact k
      have HC2 : Hid (Calls Tryz.prog 102 #[.slice a n c, .int .i64 0] W fun e w' => e = .returned (.tuple #[.string (tx ((b.take 2048).take i)), .int .i64 ((i : Int) + 2), .int .i64 0]) ∧ w' = W) := by
        have k := HCUT.out W 0 HP.out.below (Nat.zero_le _)
        rw [hv] at k
        exact k
      rw [hfl]
      have hii : i ≤ 2046 := by omega
      have hii2 : ¬ ((i : Int) + 2) = 0 := by omega
      have hii3 : (((i : Int) + 2) == 0) = false := by simpa using hii2
      generalize tx ((b.take 2048).take i) = first at *
      generalize hR : headL rqSt b = R at *
      have HR : Hid (headL rqSt b = R) := hR
      clear hR hst hc hv HTell hltk hr0 hfl
      go_enter Tryz.func77, Tryz.ntmps77
      go_wp2_with fail
      refine HC2.out.mono ?_
      rintro e w1 ⟨rfl, rfl⟩
      go_wp2_with fail
      refine HT2.out.mono ?_
      rintro e w2 ⟨rfl, P2, hsz2⟩
      have HP2 : Hid (PI u (.cells #[.string (rqP first).method, .string (rqP first).target, .int .i64 (rqP first).minor, .slice none 0 0, .slice none 0 0] 43) w2) := P2
      clear HC2 HT2 P2 HP
      have hst0 : i + 2 ≤ min 2048 n := by omega
      go_wp2_with fail
      go_loopw [8, 11] (fun va vf wr => ∃ (at_ : Nat) (acc : Fs) (fa : Option Addr) (fc : Nat), at_ ≤ min 2048 n ∧ 0 < at_ ∧ acc.length ≤ 40 ∧ va = .int .i64 at_ ∧ vf = .slice fa acc.length fc ∧ OwnF w2.heap.size wr vf acc ∧ Hid (R = plusH acc at_ (fldL (fullB b) (40 - acc.length) (roomL b at_))) ∧ Below w2.heap.size w2 wr) (fun va _ _ => n - (intOf va).toNat)
      case atStart => exact ⟨i + 2, [], none, 0, hst0, by omega, Nat.zero_le _, by go_num, rfl, OwnF.nil _ _, HH, Below.refl _ _⟩
      case round =>
        obtain ⟨at_, acc, fa, fc, hat, hat0, hacc, rfl, rfl, hO, hR, hB⟩ := hrel
        have hPw := HP2.out.next hB
        have HCr := HCUT.out wr at_ hPw.below hat
        have hroom : (roomL b at_).length = min 2048 n - at_ := by unfold roomL; rw [List.length_drop, List.length_take, HN.out]
        rcases cut_cases 2048 (roomL b at_) with ⟨j, hc, hl, _⟩ | ⟨er, hc⟩
        · rw [hcutV_hit hc] at HCr
          rw [hroom] at hl
          have HC3 : Hid (Calls Tryz.prog 102 #[.slice a n c, .int .i64 (at_ : Nat)] wr fun e w' => e = .returned (.tuple #[.string (tx ((roomL b at_).take j)), .int .i64 ((j : Int) + 2), .int .i64 0]) ∧ w' = wr) := HCr
          have hjj : j ≤ 2046 := by omega
          have hj2 : ¬ ((j : Int) + 2) = 0 := by omega
          have hj3 : (((j : Int) + 2) == 0) = false := by simpa using hj2
          by_cases h0 : j = 0
          · subst h0
            have HE : Hid (R = (acc, at_ + 2, 0)) := by
              rw [Hid, hR.out, fldL_end hc]
              unfold plusH
              rw [if_neg (by decide), List.append_nil]
            have HC4 : Hid (Calls Tryz.prog 102 #[.slice a n c, .int .i64 (at_ : Nat)] wr fun e w' => e = .returned (.tuple #[.string ⟨#[]⟩, .int .i64 2, .int .i64 0]) ∧ w' = wr) := HC3.out
            clear hR hc HCr HC3 hroom hj2 hj3
            have HO2 : Hid (OwnF w2.heap.size wr (.slice fa acc.length fc) acc) := hO
            have HPw : Hid _ := hPw
            clear hO hPw
            go_wp2_with fail
            refine HC4.out.mono ?_
            rintro e w3 ⟨rfl, rfl⟩
            go_wp2
            refine bodyPost_ret (v := .tuple #[.slice fa acc.length fc, .int .i64 ((at_ : Int) + 2), .int .i64 0]) (by simp [results, Tryz.results77, go_sem]) rfl ?_
            rw [HE.out]
            exact ⟨fa, fc, rfl, HO2.out.mono hsz2, _, HPw.out, fun _ => rfl⟩
          · have hs2 : (tx ((roomL b at_).take j)).size = j := by rw [tx_size, List.length_take, hroom]; omega
            have hsz : Hid ((tx ((roomL b at_).take j)).size ≤ 2048) := by rw [Hid, hs2]; omega
            have hne : (tx ((roomL b at_).take j)).toList.isEmpty = false := isEmpty_of (by rw [hs2]; exact h0)
            have HPr : Hid (Calls Tryz.prog 103 #[.string (tx ((roomL b at_).take j))] wr fun e w' => e = .returned (.tuple #[.agg #[.string (prs (tx ((roomL b at_).take j))).1, .string (prs (tx ((roomL b at_).take j))).2.1], .int .i64 (prs (tx ((roomL b at_).take j))).2.2]) ∧ Below wr.heap.size wr w') := HPar.out wr _ hPw.below hsz.out
            cases hf : fldOk ((roomL b at_).take j)
            · have HE : Hid (R = ([], 0, 400)) := by rw [Hid, hR.out, fldL_bad hc h0 hf, plusH_err]
              have hpe : ((prs (tx ((roomL b at_).take j))).2.2 != 0) = true := by
                unfold fldOk at hf
                simpa using hf
              clear hR hc HCr hroom hs2 hsz hf
              generalize prs (tx ((roomL b at_).take j)) = pr at *
              generalize tx ((roomL b at_).take j) = s at *
              obtain ⟨p1, p2, p3⟩ := pr
              simp only at HPr hpe
              have HPw : Hid _ := hPw
              clear hO hPw
              go_wp2_with fail
              refine HC3.out.mono ?_
              rintro e w3 ⟨rfl, rfl⟩
              go_wp2_with fail
              refine HPr.out.mono ?_
              rintro e w4 ⟨rfl, B4⟩
              have P4 := (HPw.out.next B4).next ((Below.refl _ _).alloc (Nat.le_refl _) (.cells #[.string p1, .string p2] 121))
              have HP4 : Hid _ := P4
              clear P4 HPw B4
              go_wp2
              refine bodyPost_ret (v := .tuple #[.slice none 0 0, .int .i64 0, .int .i64 400]) (by simp [results, Tryz.results77, go_sem]) rfl ?_
              rw [HE.out]
              exact ⟨none, 0, rfl, OwnF.nil _ _, _, HP4.out, fun _ => rfl⟩
            · have hpe : (prs (tx ((roomL b at_).take j))).2.2 = 0 := by
                unfold fldOk at hf
                simpa using hf
              have hfo : fOf ((roomL b at_).take j) = ((prs (tx ((roomL b at_).take j))).1, (prs (tx ((roomL b at_).take j))).2.1) := rfl
              by_cases h40 : acc.length = 40
              · have HE : Hid (R = ([], 0, 431)) := by rw [Hid, hR.out, h40, fldL_many hc h0 hf, plusH_err]
                have hAL : ((acc.length : Nat) : Int) = 40 := by omega
                clear hR hc HCr hroom hs2 hsz hf hfo
                generalize prs (tx ((roomL b at_).take j)) = pr at *
                generalize tx ((roomL b at_).take j) = s at *
                obtain ⟨p1, p2, p3⟩ := pr
                simp only at HPr hpe
                subst hpe
                have HPw : Hid _ := hPw
                clear hO hPw
                rw [h40]
                go_wp2_with fail
                refine HC3.out.mono ?_
                rintro e w3 ⟨rfl, rfl⟩
                go_wp2_with fail
                refine HPr.out.mono ?_
                rintro e w4 ⟨rfl, B4⟩
                have P4 := (HPw.out.next B4).next ((Below.refl _ _).alloc (Nat.le_refl _) (.cells #[.string p1, .string p2] 121))
                have HP4 : Hid _ := P4
                clear P4 HPw B4
                go_wp2
                refine bodyPost_ret (v := .tuple #[.slice none 0 0, .int .i64 0, .int .i64 431]) (by simp [results, Tryz.results77, go_sem]) rfl ?_
                rw [HE.out]
                exact ⟨none, 0, rfl, OwnF.nil _ _, _, HP4.out, fun _ => rfl⟩
              · have HE : Hid (R = plusH (acc ++ [((prs (tx ((roomL b at_).take j))).1, (prs (tx ((roomL b at_).take j))).2.1)]) (at_ + (j + 2)) (fldL (fullB b) (40 - (acc.length + 1)) (roomL b (at_ + (j + 2))))) := by
                  rw [Hid, hR.out]
                  obtain ⟨r, hr⟩ : ∃ r, 40 - acc.length = r + 1 := ⟨40 - acc.length - 1, by omega⟩
                  rw [hr, fldL_next hc h0 hf, plusH_plusH _ _ _ _ _ (by omega), hfo]
                  have e1 : 40 - (acc.length + 1) = r := by omega
                  have e2 : (roomL b at_).drop (j + 2) = roomL b (at_ + (j + 2)) := by unfold roomL; rw [List.drop_drop]
                  rw [e1, e2]
                have hAL : ¬ ((acc.length : Nat) : Int) = 40 := by omega
                have hAL2 : (((acc.length : Nat) : Int) == 40) = false := by simpa using hAL
                clear hR hc HCr hroom hs2 hsz hf hfo
                generalize prs (tx ((roomL b at_).take j)) = pr at *
                generalize tx ((roomL b at_).take j) = s at *
                obtain ⟨p1, p2, p3⟩ := pr
                simp only at HPr hpe HE
                subst hpe
                have HO2 : Hid (OwnF w2.heap.size wr (.slice fa acc.length fc) acc) := hO
                have HAC : Hid (acc.length + 1 ≤ 40) := by rw [Hid]; omega
                have HHB : Hid _ := hB
                clear hO hPw hB hacc h40
                generalize hal : acc.length = al at *
                have HAL3 : Hid (acc.length = al) := hal
                clear hal
                go_wp2_with fail
                refine HC3.out.mono ?_
                rintro e w3 ⟨rfl, rfl⟩
                go_wp2_with fail
                refine HPr.out.mono ?_
                rintro e w4 ⟨rfl, B4⟩
                have D4 := B4.alloc B4.size (.cells #[.string p1, .string p2] 121)
                have g4 : (w4.alloc (.cells #[.string p1, .string p2] 121)).heap[w4.heap.size]? = some (.cells #[.string p1, .string p2] 121) := tblk_new _ _
                have c0 : (w4.alloc (.cells #[.string p1, .string p2] 121)).cell? ⟨w4.heap.size, 0, none⟩ = some (.string p1) := tblk_cell g4 rfl
                have c1 : (w4.alloc (.cells #[.string p1, .string p2] 121)).cell? ⟨w4.heap.size, 1, none⟩ = some (.string p2) := tblk_cell g4 rfl
                have own4 := HO2.out.keep D4
                have B5 := HHB.out.trans (D4.mono HHB.out.size)
                clear g4 B4 D4 HPr HC3
                have own5 := own4.keep ((Below.refl _ _).alloc (Nat.le_refl _) (.cells #[.string p1, .string p2] 121))
                obtain ⟨v6, w6, r6, own6, B6⟩ := ownF_append own5 (fds_new (w4.alloc (.cells #[.string p1, .string p2] 121)) p1 p2) (by have := HAC.out; have := HAL3.out; simp; omega) (Nat.le_trans B5.size (by simp))
                have e5 : (w4.alloc (.cells #[.string p1, .string p2] 121)).heap.size = w4.heap.size + 1 := by simp
                have B7 : Below w2.heap.size w2 w6 := (B5.alloc B5.size _).trans B6
                obtain ⟨a6, c6, rfl, _⟩ := own6.form
                have HO6 : Hid (OwnF w2.heap.size w6 (.slice a6 (acc ++ [(p1, p2)]).length c6) (acc ++ [(p1, p2)])) := own6
                have HL : Hid ((acc ++ [(p1, p2)]).length = al + 1) := by rw [Hid, List.length_append, HAL3.out]; rfl
                obtain ⟨L, hL⟩ : ∃ L, L = (acc ++ [(p1, p2)]).length := ⟨_, rfl⟩
                have HR6 : Hid ((Builtin.append_ #[41, 41] 41 #[.slice fa al fc, .slice (some ⟨w4.heap.size + 1, 0, none⟩) 1 1]).run Tryz.prog ((w4.alloc (.cells #[.string p1, .string p2] 121)).alloc (.cells #[.string p1, .string p2] 121)) = .ok (.slice a6 L c6) w6) := by rw [Hid, hL, ← e5]; exact r6
                have HLL : Hid (L = (acc ++ [(p1, p2)]).length) := hL
                have HB7 : Hid _ := B7
                clear own4 own5 own6 B5 B6 B7 r6 hL e5
                go_wp2_with (at_builtin; refine wpList_append_run2 rfl _ _ 41 41 rfl _ _ _ w6 rfl rfl HR6.out ?_)
                go_roundw
                case rel => exact ⟨at_ + (j + 2), acc ++ [(p1, p2)], a6, c6, by omega, by omega, by have := HL.out; have := HAC.out; have := HAL3.out; omega, by go_num, by rw [HLL.out], (by rw [HLL.out]; exact HO6.out), (by rw [HL.out]; exact HE), HB7.out⟩
                case measure => simp [intOf]; omega
        · rw [hcutV_miss hc] at HCr
          have HE : Hid (R = ([], 0, hst (fullB b) er)) := by rw [Hid, hR.out, fldL_miss hc, plusH_err]
          have HC3 : Hid (Calls Tryz.prog 102 #[.slice a n c, .int .i64 (at_ : Nat)] wr fun e w' => e = .returned (.tuple #[.string ⟨#[]⟩, .int .i64 0, .int .i64 (hst (fullB b) er)]) ∧ w' = wr) := HCr
          have HPw : Hid _ := hPw
          clear hR hc HCr hroom hO hPw
          generalize hst (fullB b) er = st at *
          go_wp2_with fail
          refine HC3.out.mono ?_
          rintro e w3 ⟨rfl, rfl⟩
          go_wp2
          refine bodyPost_ret (v := .tuple #[.slice none 0 0, .int .i64 0, .int .i64 st]) (by simp [results, Tryz.results77, go_sem]) rfl ?_
          rw [HE.out]
          exact ⟨none, 0, rfl, OwnF.nil _ _, _, HPw.out, fun _ => rfl⟩
    · have HH : Hid (headL rqSt b = ([], 0, rqSt (tx ((b.take 2048).take i)))) := headL_bad hc hst
      have HT2 : Hid (Calls Tryz.prog 78 #[.string (tx ((b.take 2048).take i)), .pointer (some ⟨u.heap.size, 0, none⟩)] W fun e w' => e = .returned (.int .i64 (rqSt (tx ((b.take 2048).take i)))) ∧ PI u (.cells #[.string (rqP (tx ((b.take 2048).take i))).method, .string (rqP (tx ((b.take 2048).take i))).target, .int .i64 (rqP (tx ((b.take 2048).take i))).minor, .slice none 0 0, .slice none 0 0] 43) w' ∧ W.heap.size ≤ w'.heap.size) := HTell.out _ hz.out
      have HC2 : Hid (Calls Tryz.prog 102 #[.slice a n c, .int .i64 0] W fun e w' => e = .returned (.tuple #[.string (tx ((b.take 2048).take i)), .int .i64 ((i : Int) + 2), .int .i64 0]) ∧ w' = W) := by
        have k := HCUT.out W 0 HP.out.below (Nat.zero_le _)
        rw [hv] at k
        exact k
      have hii : i ≤ 2046 := by omega
      have hii2 : ¬ ((i : Int) + 2) = 0 := by omega
      have hii3 : (((i : Int) + 2) == 0) = false := by simpa using hii2
      generalize tx ((b.take 2048).take i) = first at *
      have hst2 : (rqSt first != 0) = true := by simpa using hst
      generalize headL rqSt b = R at *
      generalize rqSt first = stt at *
      clear hst hc hv HTell hltk hr0 hfl
      go_enter Tryz.func77, Tryz.ntmps77
      go_wp2_with fail
      refine HC2.out.mono ?_
      rintro e w1 ⟨rfl, rfl⟩
      go_wp2_with fail
      refine HT2.out.mono ?_
      rintro e w2 ⟨rfl, P2, hsz2⟩
      have HP2 : Hid _ := P2
      clear P2
      go_wp2
      refine bodyPost_ret (v := .tuple #[.slice none 0 0, .int .i64 0, .int .i64 stt]) (by simp [results, Tryz.results77, go_sem]) rfl ?_
      rw [HH.out]
      exact ⟨none, 0, rfl, OwnF.nil _ _, _, HP2.out, fun k => absurd rfl k⟩
  · have hv := hcutV_miss (b := b) (at_ := 0) (by rw [hr0]; exact hc)
    have HH : Hid (headL rqSt b = ([], 0, hst (fullB b) er)) := headL_miss hc
    have HC2 : Hid (Calls Tryz.prog 102 #[.slice a n c, .int .i64 0] W fun e w' => e = .returned (.tuple #[.string ⟨#[]⟩, .int .i64 0, .int .i64 (hst (fullB b) er)]) ∧ w' = W) := by
      have k := HCUT.out W 0 HP.out.below (Nat.zero_le _)
      rw [hv] at k
      exact k
    generalize headL rqSt b = R at *
    generalize hst (fullB b) er = stt at *
    clear hc hv HTell hltk hr0
    go_enter Tryz.func77, Tryz.ntmps77
    go_wp2_with fail
    refine HC2.out.mono ?_
    rintro e w1 ⟨rfl, rfl⟩
    go_wp2
    refine bodyPost_ret (v := .tuple #[.slice none 0 0, .int .i64 0, .int .i64 stt]) (by simp [results, Tryz.results77, go_sem]) rfl ?_
    rw [HH.out]
    exact ⟨none, 0, rfl, OwnF.nil _ _, _, HP.out, fun k => absurd rfl k⟩
end Go.Proofs.YtemmmdhmkegaaaaGreatDoor

/- List, among and Has: what each answers of fields. -/
namespace Go.Proofs.YtemmmdhmkegaaaaGreatDoor
open Go.ChangeShapes Go.WideShapes Go.ChangeAt Go.RowKit
set_option linter.unusedVariables false

theorem splT_len (s : ByteArray) : (splT s).length ≤ s.size + 2 := Nat.le_trans (keepT_len _) (pieces_len s)
theorem splA_snoc (xs : List ByteArray) (x : ByteArray) : splA (xs ++ [x]) = splA xs ++ splT x := by unfold splA; rw [List.flatMap_append]; simp
theorem splA_len (N : Nat) : ∀ xs : List ByteArray, TBd N xs → (splA xs).length ≤ xs.length * (N + 2)
  | [], _ => by simp [splA]
  | x :: l, h => by
    have ih := splA_len N l (fun y hy => h y (List.mem_cons_of_mem _ hy))
    have h1 := h x (List.mem_cons_self ..)
    have h2 := splT_len x
    have e : splA (x :: l) = splT x ++ splA l := rfl
    rw [e, List.length_append, List.length_cons, Nat.add_mul]
    omega
theorem splA_take (xs : List ByteArray) (k : Nat) : (splA (xs.take k)).length ≤ (splA xs).length := by
  have e : splA xs = splA (xs.take k) ++ splA (xs.drop k) := by
    unfold splA
    rw [← List.flatMap_append, List.take_append_drop]
  rw [e, List.length_append]; omega
theorem trimP_mem {N : Nat} {p : ByteArray} (h : p.size ≤ N) : (trimT p).size ≤ N := Nat.le_trans (trimT_size p) h
theorem splT_bd {N : Nat} {s : ByteArray} (h : s.size ≤ N) : TBd N (splT s) := by
  intro x hx
  unfold splT keepT at hx
  obtain ⟨p, hp, rfl⟩ := List.mem_map.1 (List.mem_filter.1 hx).1
  exact trimP_mem (Nat.le_trans (pieces_size s p hp) h)
theorem listF_bd {N : Nat} {fs : Fs} {n : ByteArray} (h : FBd N fs) : TBd N (listF fs n) := by
  intro x hx
  obtain ⟨y, hy, hxy⟩ := listF_mem hx
  exact splT_bd (getF_bd h y hy) x hxy
theorem listF_len {N M : Nat} {fs : Fs} {n : ByteArray} (h : FBd N fs) (hl : fs.length ≤ M) : (listF fs n).length ≤ M * (N + 2) :=
  Nat.le_trans (splA_len N _ (getF_bd h)) (Nat.mul_le_mul_right _ (Nat.le_trans (getF_len fs n) hl))
theorem FBd.mono {N M : Nat} {fs : Fs} (h : FBd N fs) (k : N ≤ M) : FBd M fs := fun f hf => ⟨Nat.le_trans (h f hf).1 k, Nat.le_trans (h f hf).2 k⟩

set_option maxRecDepth 100000 in
set_option maxHeartbeats 1000000 in
theorem list_any (fs : Fs) (a : Option Addr) (c : Nat) (name : ByteArray) (w : World) (hf : Fds w.heap.size w (.slice a fs.length c) fs) (hb : FBd 1048576 fs) (hn : name.size ≤ 1048576) (hl : fs.length ≤ 1024) (hM : MaxL w) :
    Calls Tryz.prog 99 #[.slice a fs.length c, .string name] w fun e w' => ∃ ao cv, e = .returned (.slice ao (listF fs name).length cv) ∧ OwnT w.heap.size w' (.slice ao (listF fs name).length cv) (listF fs name) ∧ Below w.heap.size w w' := by
  have HG : Hid (Calls Tryz.prog 136 #[.slice a fs.length c, .string name] w fun e w' => ∃ ao cv, e = .returned (.slice ao (getF fs name).length cv) ∧ OwnT w.heap.size w' (.slice ao (getF fs name).length cv) (getF fs name) ∧ Below w.heap.size w w') := get_any fs a c name w hf (hb.mono (by decide)) (by omega) (by omega)
  have HT : Hid ((splA (getF fs name)).length ≤ 1024 * 1048578) := listF_len hb hl
  have HV : Hid (TBd 1048576 (getF fs name)) := getF_bd hb
  have HVL : Hid ((getF fs name).length ≤ 1024) := Nat.le_trans (getF_len _ _) hl
  have e0 : listF fs name = splA (getF fs name) := rfl
  rw [e0]
  clear e0 hf hb hn hl
  generalize getF fs name = vs at *
  go_enter Tryz.func99, Tryz.ntmps99
  go_wp2_with fail
  refine HG.out.mono ?_
  rintro e w1 ⟨ao1, cv1, rfl, own1, B1⟩
  have M1 := hM.below B1
  have T1 := own1.txs
  clear HG hM own1
  rcases Nat.eq_zero_or_pos vs.length with h0 | hp
  · have he : vs = [] := List.eq_nil_of_length_eq_zero h0
    subst he
    clear T1 h0
    go_wp2_with fail
    refine wp_loop_rounds 1 ?_
    rw [rounds_succ]
    go_wp2
    go_ret
    exact ⟨none, 0, rfl, OwnT.nil _ _, B1⟩
  · obtain ⟨a', c', e, hnil, h1, h2, h3⟩ := T1
    obtain ⟨rfl, _, rfl⟩ := slice_inj e
    obtain ⟨g, off, rfl, hg, hc⟩ := h3 hp
    have HC : Hid (∀ (j : Nat) (hj : j < vs.length), w1.cell? ⟨g, off + j, none⟩ = some (.string vs[j])) := hc
    clear e hnil h1 h2 h3 hc
    have hvl := HVL.out
    go_wp2_with fail
    go_loopw [5, 12] (fun v vi wr => ∃ (k : Nat) (ao : Option Addr) (cv : Nat), k ≤ vs.length ∧ vi = .int .i64 k ∧ v = .slice ao (splA (vs.take k)).length cv ∧ OwnT w1.heap.size wr v (splA (vs.take k)) ∧ Below w1.heap.size w1 wr) (fun _ vi _ => vs.length - (intOf vi).toNat)
    case atStart => exact ⟨0, none, 0, Nat.zero_le _, rfl, rfl, OwnT.nil _ _, Below.refl _ _⟩
    case round =>
      obtain ⟨k, ao, cv, hk, rfl, rfl, hown, hB⟩ := hrel
      by_cases hlt : k < vs.length
      · have hc1 := (hB.cell (p := ⟨g, off + k, none⟩) hg).trans (HC.out k hlt)
        have hsz : Hid (vs[k].size ≤ 1048576) := HV.out vs[k] (List.getElem_mem hlt)
        have hsn : Hid (splA (vs.take (k + 1)) = splA (vs.take k) ++ splT vs[k]) := by
          rw [Hid, List.take_succ_eq_append_getElem hlt, splA_snoc]
        have hkl : Hid ((splA (vs.take (k + 1))).length ≤ 1024 * 1048578) := Nat.le_trans (splA_take vs (k + 1)) HT.out
        generalize vs[k] = x at *
        have HO : Hid (OwnT w1.heap.size wr (.slice ao (splA (vs.take k)).length cv) (splA (vs.take k))) := hown
        clear hown
        generalize splA (vs.take k) = K at *
        go_wp2_with fail
        refine (split_any x _ (by have := hsz.out; omega) (pieces_length x) (fun p hp => by have := hsz.out; have := pieces_size x p hp; omega) (M1.below hB)).mono ?_
        rintro e w2 ⟨ao2, cv2, rfl, own2, B2⟩
        have own2' : OwnT (wr.heap.size + 1) w2 (.slice ao2 (splT x).length cv2) (splT x) := own2
        have ownK := HO.out.keep B2
        have hB2 := hB.trans (B2.mono hB.size)
        obtain ⟨v4, w4, r4, own4, B4⟩ := ownT_append ownK own2'.txs (by have := hkl.out; rw [hsn.out, List.length_append] at this; omega) hB2.size
        have hB4 : Below w1.heap.size w1 w4 := hB2.trans B4
        obtain ⟨a4, c4, rfl, _⟩ := own4.form
        have HO4 : Hid (OwnT w1.heap.size w4 (.slice a4 (K ++ splT x).length c4) (K ++ splT x)) := own4
        have HR : Hid ((Builtin.append_ #[141, 141] 141 #[.slice ao K.length cv, .slice ao2 (keepT (pieces x)).length cv2]).run Tryz.prog w2 = .ok (.slice a4 (K ++ splT x).length c4) w4) := r4
        clear own2 own2' ownK own4 B2 B4 hB2 hB r4 hc1 HO
        have HL : Hid ((K ++ splT x).length = (splA (vs.take (k + 1))).length) := by rw [Hid, hsn.out]
        generalize (K ++ splT x).length = L at *
        generalize (keepT (pieces x)).length = L2 at *
        go_wp2_with (at_builtin; refine wpList_append_run2 rfl _ _ 141 141 rfl _ _ _ w4 rfl rfl HR.out ?_)
        go_roundw
        case rel => exact ⟨k + 1, a4, c4, by omega, by go_num, by rw [HL.out], by rw [hsn.out]; exact HO4.out, hB4⟩
        case measure => simp [intOf]; omega
      · go_wp2
        go_ret
        have hk' : k = vs.length := by omega
        subst hk'
        rw [List.take_length] at *
        exact ⟨ao, cv, rfl, hown.mono B1.size, B1.trans (hB.mono B1.size)⟩

theorem among1_any (x s : ByteArray) (p : Nat) (w : World) (h1 : w.heap[p]? = some (.cells #[.string s] 9)) (hx : x.size ≤ maxLen) (hs : s.size ≤ maxLen) :
    Calls Tryz.prog 134 #[.string x, .pointer (some ⟨p, 0, none⟩)] w fun e w' => e = .returned (.bool (smT x s)) ∧ Below w.heap.size w w' := by
  have c1 : w.cell? ⟨p, 0, none⟩ = some (.string s) := tblk_cell h1 rfl
  have HS : Hid (Calls Tryz.prog 135 #[.string x, .string s] w fun e w' => e = .returned (.bool (smT x s)) ∧ Below w.heap.size w w') := same_sm x s w hx hs
  clear h1 hx hs
  go_enter Tryz.func134, Tryz.ntmps134
  go_wp2_with fail
  refine HS.out.mono ?_
  rintro e w2 ⟨rfl, B2⟩
  go_wp2
  go_ret
  exact ⟨rfl, B2⟩
theorem anyT_at {xs : List ByteArray} {s : ByteArray} (k : Nat) (h : k < xs.length) (hs : smT xs[k] s = true) : anyT xs s = true := by
  unfold anyT
  rw [List.any_eq_true]
  exact ⟨xs[k], List.getElem_mem h, hs⟩
theorem anyT_snoc {xs : List ByteArray} {s : ByteArray} {k : Nat} (h : k < xs.length) (h0 : anyT (xs.take k) s = false) (hs : smT xs[k] s = false) : anyT (xs.take (k + 1)) s = false := by
  rw [List.take_succ_eq_append_getElem h]
  unfold anyT at *
  rw [List.any_append, h0]
  simp [hs]

set_option maxRecDepth 100000 in
set_option maxHeartbeats 1000000 in
theorem idx_any (xs : List ByteArray) (a : Option Addr) (c : Nat) (s : ByteArray) (p : Nat) (w : World) (hx : Txs w.heap.size w (.slice a xs.length c) xs) (hb : TBd 140737488355328 xs) (hs : s.size ≤ 140737488355328) (h1 : w.heap[p]? = some (.cells #[.string s] 9)) :
    Calls Tryz.prog 160 #[.slice a xs.length c, .func (.func 134) #[] #[.pointer (some ⟨p, 0, none⟩)]] w fun e w' => ∃ i : Int, e = .returned (.int .i64 i) ∧ -1 ≤ i ∧ (decide (0 ≤ i) = anyT xs s) ∧ Below w.heap.size w w' := by
  have hlm := hx.len
  unfold maxLen at hlm
  have HS : Hid (s.size ≤ maxLen) := by rw [Hid]; unfold maxLen; omega
  rcases Nat.eq_zero_or_pos xs.length with h0 | hp
  · have he : xs = [] := List.eq_nil_of_length_eq_zero h0
    subst he
    clear hx hb h0 hlm HS hs
    go_enter Tryz.func160, Tryz.ntmps160
    go_wp2_with fail
    refine wp_loop_rounds 1 ?_
    rw [rounds_succ]
    go_wp2
    go_ret
    exact ⟨-1, rfl, Int.le_refl _, rfl, Below.refl _ _⟩
  · obtain ⟨a', c', e, hnil, q1, q2, q3⟩ := hx
    obtain ⟨rfl, _, rfl⟩ := slice_inj e
    obtain ⟨g, off, rfl, hg, hc⟩ := q3 hp
    have HC : Hid (∀ (j : Nat) (hj : j < xs.length), w.cell? ⟨g, off + j, none⟩ = some (.string xs[j])) := hc
    have HBD : Hid (TBd 140737488355328 xs) := hb
    have H1 : Hid (w.heap[p]? = some (.cells #[.string s] 9)) := h1
    have hln : xs.length ≤ 9223372036854775807 := by omega
    clear e hnil q1 q2 q3 hlm hc hb hs h1
    go_enter Tryz.func160, Tryz.ntmps160
    go_wp2_with fail
    go_loopw [8] (fun vi wr => ∃ k : Nat, k ≤ xs.length ∧ vi = .int .i64 k ∧ Hid (anyT (xs.take k) s = false) ∧ Below w.heap.size w wr) (fun vi _ => xs.length - (intOf vi).toNat)
    case atStart => exact ⟨0, Nat.zero_le _, rfl, rfl, Below.refl _ _⟩
    case round =>
      obtain ⟨k, hk, rfl, hA, hB⟩ := hrel
      by_cases hlt : k < xs.length
      · have hc1 := (hB.cell (p := ⟨g, off + k, none⟩) hg).trans (HC.out k hlt)
        have hsz := HBD.out xs[k] (List.getElem_mem hlt)
        have hs1 : Hid (xs[k].size ≤ maxLen) := by rw [Hid]; unfold maxLen; omega
        have HA : Hid (∀ W, W.heap[p]? = some (.cells #[.string s] 9) → Calls Tryz.prog 134 #[.string xs[k], .pointer (some ⟨p, 0, none⟩)] W fun e w' => e = .returned (.bool (smT xs[k] s)) ∧ Below W.heap.size W w') := fun W hW => among1_any _ s p W hW hs1.out HS.out
        have hY : Hid (smT xs[k] s = true → anyT xs s = true) := fun q => anyT_at k hlt q
        have hN : Hid (smT xs[k] s = false → anyT (xs.take (k + 1)) s = false) := fun q => anyT_snoc hlt hA.out q
        have hpw : Hid (wr.heap[p]? = some (.cells #[.string s] 9)) := (hB.block p (heap_lt H1.out)).trans H1.out
        generalize smT xs[k] s = b at *
        clear hsz hs1
        generalize xs[k] = x at *
        go_wp2_with fail
        refine (HA.out _ hpw.out).mono ?_
        rintro e w2 ⟨rfl, B2⟩
        have hB2 := hB.trans (B2.mono hB.size)
        clear HA hpw hB B2 hc1
        cases b
        · have hN2 : Hid (anyT (xs.take (k + 1)) s = false) := hN.out rfl
          clear hN hY
          go_wp2
          go_roundw
          case rel => exact ⟨k + 1, by omega, by go_num, hN2, hB2⟩
          case measure => simp [intOf]; omega
        · have hY2 : Hid (anyT xs s = true) := hY.out rfl
          clear hN hY
          go_wp2
          go_ret
          exact ⟨k, rfl, by omega, by rw [hY2.out]; simp, hB2⟩
      · go_wp2
        go_ret
        have hk' : k = xs.length := by omega
        subst hk'
        have h := hA.out
        rw [List.take_length] at h
        exact ⟨-1, rfl, Int.le_refl _, by rw [h]; rfl, hB⟩

set_option maxHeartbeats 1000000 in
theorem cont_any (xs : List ByteArray) (a : Option Addr) (c : Nat) (s : ByteArray) (p : Nat) (w : World) (hx : Txs w.heap.size w (.slice a xs.length c) xs) (hb : TBd 140737488355328 xs) (hs : s.size ≤ 140737488355328) (h1 : w.heap[p]? = some (.cells #[.string s] 9)) :
    Calls Tryz.prog 133 #[.slice a xs.length c, .func (.func 134) #[] #[.pointer (some ⟨p, 0, none⟩)]] w fun e w' => e = .returned (.bool (anyT xs s)) ∧ Below w.heap.size w w' := by
  have HI : Hid (Calls Tryz.prog 160 #[.slice a xs.length c, .func (.func 134) #[] #[.pointer (some ⟨p, 0, none⟩)]] w fun e w' => ∃ i : Int, e = .returned (.int .i64 i) ∧ -1 ≤ i ∧ (decide (0 ≤ i) = anyT xs s) ∧ Below w.heap.size w w') := idx_any xs a c s p w hx hb hs h1
  clear hx hb hs h1
  generalize anyT xs s = t at *
  go_enter Tryz.func133, Tryz.ntmps133
  go_wp2_with fail
  refine HI.out.mono ?_
  rintro e w2 ⟨i, rfl, hi, hd, B2⟩
  have HD : Hid (decide (0 ≤ i) = t) := hd
  clear hd HI
  go_wp2
  go_ret
  exact ⟨ret_bool HD.out, B2⟩

set_option maxHeartbeats 1000000 in
theorem amongT_any (s : ByteArray) (xs : List ByteArray) (a : Option Addr) (c : Nat) (w : World) (hx : Txs w.heap.size w (.slice a xs.length c) xs) (hb : TBd 140737488355328 xs) (hs : s.size ≤ 140737488355328) :
    Calls Tryz.prog 98 #[.string s, .slice a xs.length c] w fun e w' => e = .returned (.bool (anyT xs s)) ∧ Below w.heap.size w w' := by
  have hmf : ∀ (fn : Fn) (first cap : Array Value) (w : World), (Instr.makeFunc fn first cap).run Tryz.prog w = .ok (.func fn first cap) w := fun _ _ _ _ => rfl
  have C1 : Below w.heap.size w (w.alloc (.cells #[.string s] 9)) := (Below.refl _ _).alloc (Nat.le_refl _) _
  have HC : Hid (Calls Tryz.prog 133 #[.slice a xs.length c, .func (.func 134) #[] #[.pointer (some ⟨w.heap.size, 0, none⟩)]] (w.alloc (.cells #[.string s] 9)) fun e w' => e = .returned (.bool (anyT xs s)) ∧ Below (w.alloc (.cells #[.string s] 9)).heap.size (w.alloc (.cells #[.string s] 9)) w') := cont_any xs a c s w.heap.size _ ((hx.keep C1).mono C1.size) hb hs (tblk_new _ _)
  clear hx hb hs
  go_enter Tryz.func98, Tryz.ntmps98
  go_wp2_with fail
  refine HC.out.mono ?_
  rintro e w2 ⟨rfl, B2⟩
  go_wp2
  go_ret
  exact ⟨rfl, C1.trans (B2.mono C1.size)⟩

set_option maxHeartbeats 1000000 in
theorem has_any (fs : Fs) (a : Option Addr) (c : Nat) (name part : ByteArray) (w : World) (hf : Fds w.heap.size w (.slice a fs.length c) fs) (hb : FBd 1048576 fs) (hn : name.size ≤ 1048576) (hq : part.size ≤ 1048576) (hl : fs.length ≤ 1024) (hM : MaxL w) :
    Calls Tryz.prog 73 #[.slice a fs.length c, .string name, .string part] w fun e w' => e = .returned (.bool (hasF fs name part)) ∧ Below w.heap.size w w' := by
  have HL : Hid (Calls Tryz.prog 99 #[.slice a fs.length c, .string name] w fun e w' => ∃ ao cv, e = .returned (.slice ao (listF fs name).length cv) ∧ OwnT w.heap.size w' (.slice ao (listF fs name).length cv) (listF fs name) ∧ Below w.heap.size w w') := list_any fs a c name w hf hb hn hl hM
  have HB : Hid (TBd 140737488355328 (listF fs name)) := fun x hx => Nat.le_trans (listF_bd hb x hx) (by decide)
  have hs : Hid (part.size ≤ 140737488355328) := by rw [Hid]; omega
  unfold hasF
  clear hf hb hn hq hl hM
  generalize listF fs name = xs at *
  go_enter Tryz.func73, Tryz.ntmps73
  go_wp2_with fail
  refine HL.out.mono ?_
  rintro e w1 ⟨ao, cv, rfl, own1, B1⟩
  have HA : Hid (Calls Tryz.prog 98 #[.string part, .slice ao xs.length cv] w1 fun e w' => e = .returned (.bool (anyT xs part)) ∧ Below w1.heap.size w1 w') := amongT_any part xs ao cv w1 own1.txs HB.out hs.out
  clear HL HB own1
  go_wp2_with fail
  refine HA.out.mono ?_
  rintro e w2 ⟨rfl, B2⟩
  go_wp2
  go_ret
  exact ⟨rfl, B1.trans (B2.mono B1.size)⟩
end Go.Proofs.YtemmmdhmkegaaaaGreatDoor

/- Package frame: what each call answers of fields. -/
namespace Go.Proofs.YtemmmdhmkegaaaaGreatDoor
open Go.ChangeShapes Go.WideShapes Go.ChangeAt Go.RowKit
set_option linter.unusedVariables false

theorem Fds.over {w W : World} {v : Value} {fs : Fs} (h : Fds w.heap.size w v fs) (b : Below w.heap.size w W) : Fds W.heap.size W v fs := (h.keep b).mono b.size
theorem int_pos (n : Nat) : decide ((0 : Int) < (n : Int)) = decide (0 < n) := by
  by_cases h : 0 < n
  · rw [decide_eq_true h, decide_eq_true (by omega)]
  · rw [decide_eq_false h, decide_eq_false (by omega)]

set_option maxHeartbeats 1000000 in
theorem there_any (fs : Fs) (a : Option Addr) (c : Nat) (name : ByteArray) (w : World) (hf : Fds w.heap.size w (.slice a fs.length c) fs) (hb : FBd 1048576 fs) (hn : name.size ≤ 1048576) (hl : fs.length ≤ 1024) :
    Calls Tryz.prog 111 #[.slice a fs.length c, .string name] w fun e w' => e = .returned (.bool (thereF fs name)) ∧ Below w.heap.size w w' := by
  have HG : Hid (Calls Tryz.prog 136 #[.slice a fs.length c, .string name] w fun e w' => ∃ ao cv, e = .returned (.slice ao (getF fs name).length cv) ∧ OwnT w.heap.size w' (.slice ao (getF fs name).length cv) (getF fs name) ∧ Below w.heap.size w w') := get_any fs a c name w hf (hb.mono (by decide)) (by omega) (by omega)
  unfold thereF
  clear hf hb hn hl
  generalize getF fs name = vs at *
  go_enter Tryz.func111, Tryz.ntmps111
  go_wp2_with fail
  refine HG.out.mono ?_
  rintro e w1 ⟨ao1, cv1, rfl, own1, B1⟩
  clear own1 HG
  go_wp2
  go_ret
  exact ⟨ret_bool (by first | exact int_pos _ | simp), B1⟩

set_option maxHeartbeats 1000000 in
theorem chunked_any (fs : Fs) (a : Option Addr) (c : Nat) (w : World) (hf : Fds w.heap.size w (.slice a fs.length c) fs) (hb : FBd 1048576 fs) (hl : fs.length ≤ 1024) (hM : MaxL w) :
    Calls Tryz.prog 112 #[.slice a fs.length c] w fun e w' => e = .returned (.bool (chunkedF fs)) ∧ Below w.heap.size w w' := by
  have HL : Hid (Calls Tryz.prog 99 #[.slice a fs.length c, .string ⟨#[84, 114, 97, 110, 115, 102, 101, 114, 45, 69, 110, 99, 111, 100, 105, 110, 103]⟩] w fun e w' => ∃ ao cv, e = .returned (.slice ao (listF fs tTE).length cv) ∧ OwnT w.heap.size w' (.slice ao (listF fs tTE).length cv) (listF fs tTE) ∧ Below w.heap.size w w') := list_any fs a c tTE w hf hb (by decide) hl hM
  have HBD : Hid (TBd 1048576 (listF fs tTE)) := listF_bd hb
  unfold chunkedF
  clear hf hb hl hM
  generalize listF fs tTE = xs at *
  generalize hck : chunkL xs = ck
  have HCK : Hid (chunkL xs = ck) := hck
  clear hck
  go_enter Tryz.func112, Tryz.ntmps112
  go_wp2_with fail
  refine HL.out.mono ?_
  rintro e w1 ⟨ao1, cv1, rfl, own1, B1⟩
  have T1 := own1.txs
  clear own1 HL
  match xs, T1, HBD, HCK with
  | [], _, _, HCK =>
    go_wp2
    go_ret
    exact ⟨ret_bool HCK.out, B1⟩
  | [p], T1, HBD, HCK =>
    obtain ⟨a', c', e, hnil, q1, q2, q3⟩ := T1
    obtain ⟨rfl, _, rfl⟩ := slice_inj e
    obtain ⟨g, off, rfl, hg, hc⟩ := q3 Nat.one_pos
    have hc0 : w1.cell? ⟨g, off, none⟩ = some (.string p) := hc 0 Nat.one_pos
    have HS : Hid (∀ W, Calls Tryz.prog 135 #[.string p, .string ⟨#[99, 104, 117, 110, 107, 101, 100]⟩] W fun e w' => e = .returned (.bool (smT p tCh)) ∧ Below W.heap.size W w') := fun W => same_sm p tCh W (by have := HBD.out p (List.mem_cons_self ..); unfold maxLen; omega) (by decide)
    have HK2 : Hid (smT p tCh = ck) := HCK.out
    clear e hnil q1 q2 q3 hc HBD HCK
    generalize smT p tCh = b at *
    go_wp2_with fail
    refine (HS.out _).mono ?_
    rintro e w2 ⟨rfl, B2⟩
    go_wp2
    go_ret
    exact ⟨ret_bool HK2.out, B1.trans (B2.mono B1.size)⟩
  | p :: q :: r, _, _, HCK =>
    have HK2 : Hid (false = ck) := HCK.out
    have h1 : ¬ (((p :: q :: r).length : Int) = 1) := by simp only [List.length_cons]; omega
    have h2 : (((p :: q :: r).length : Int) == 1) = false := by simpa using h1
    clear h1 HCK
    generalize (p :: q :: r).length = n at *
    go_wp2
    go_ret
    exact ⟨ret_bool HK2.out, B1⟩

theorem sameN_snoc {f : Int} {ps : List ByteArray} {k : Nat} (h : k < ps.length) : sameN f (ps.take (k + 1)) = (sameN f (ps.take k) && (numB 10 18 ps[k] && decide (numI 10 18 ps[k] = f))) := by
  rw [List.take_succ_eq_append_getElem h]
  unfold sameN
  rw [List.all_append]
  simp
theorem eq_dec (x y : Int) : (x == y) = decide (x = y) := by
  by_cases h : x = y
  · rw [decide_eq_true h, h]; simp
  · rw [decide_eq_false h]; simpa using h

set_option maxRecDepth 100000 in
set_option maxHeartbeats 1000000 in
theorem length_any (fs : Fs) (a : Option Addr) (c : Nat) (w : World) (hf : Fds w.heap.size w (.slice a fs.length c) fs) (hb : FBd 1048576 fs) (hl : fs.length ≤ 1024) (hM : MaxL w) :
    Calls Tryz.prog 113 #[.slice a fs.length c] w fun e w' => e = .returned (.tuple #[.int .i64 (lengthF fs).1, .bool (lengthF fs).2]) ∧ Below w.heap.size w w' := by
  have HL : Hid (Calls Tryz.prog 99 #[.slice a fs.length c, .string ⟨#[67, 111, 110, 116, 101, 110, 116, 45, 76, 101, 110, 103, 116, 104]⟩] w fun e w' => ∃ ao cv, e = .returned (.slice ao (listF fs tCL).length cv) ∧ OwnT w.heap.size w' (.slice ao (listF fs tCL).length cv) (listF fs tCL) ∧ Below w.heap.size w w') := list_any fs a c tCL w hf hb (by decide) hl hM
  have HBD : Hid (TBd 1048576 (listF fs tCL)) := listF_bd hb
  have HLN : Hid ((listF fs tCL).length ≤ 1024 * 1048578) := listF_len hb hl
  unfold lengthF
  clear hf hb hl hM
  generalize listF fs tCL = xs at *
  generalize hck : lenL xs = ck
  have HCK : Hid (lenL xs = ck) := hck
  clear hck
  obtain ⟨n, r⟩ := ck
  go_enter Tryz.func113, Tryz.ntmps113
  go_wp2_with fail
  refine HL.out.mono ?_
  rintro e w1 ⟨ao1, cv1, rfl, own1, B1⟩
  have T1 := own1.txs
  clear own1 HL
  match xs, T1, HBD, HCK, HLN with
  | [], _, _, HCK, _ =>
    have HK2 : Hid ((0, false) = (n, r)) := HCK.out
    clear HCK
    go_wp2
    go_ret2
    exact ⟨ret2_ib (congrArg Prod.fst HK2.out) (congrArg Prod.snd HK2.out), B1⟩
  | p :: ps, T1, HBD, HCK, HLN =>
    obtain ⟨a', c', e, hnil, q1, q2, q3⟩ := T1
    obtain ⟨rfl, _, rfl⟩ := slice_inj e
    obtain ⟨g, off, rfl, hg, hc⟩ := q3 (Nat.zero_lt_succ _)
    have hc0 : w1.cell? ⟨g, off, none⟩ = some (.string p) := hc 0 (Nat.zero_lt_succ _)
    have HC : Hid (∀ (j : Nat) (hj : j < ps.length), w1.cell? ⟨g, off + 1 + j, none⟩ = some (.string ps[j])) := fun j hj => by
      have k := hc (j + 1) (by simpa using hj)
      rw [show off + (j + 1) = off + 1 + j by omega] at k
      exact k
    have HS : Hid (∀ x ∈ p :: ps, ∀ W, Calls Tryz.prog 149 #[.string x] W fun e w' => e = .returned (.tuple #[.int .i64 (numI 10 18 x), .bool (numB 10 18 x)]) ∧ w' = W) := fun x hx W => decimal_any x W (by have := HBD.out x hx; unfold maxLen; omega)
    have HK2 : Hid ((if (numB 10 18 p && sameN (numI 10 18 p) ps) = true then (numI 10 18 p, true) else (0, false)) = (n, r)) := HCK.out
    have hln : ps.length ≤ 1073743872 := by have := HLN.out; simp only [List.length_cons] at this; omega
    have hcv : ps.length + 1 ≤ cv1 := by simpa using q1
    unfold maxLen at q2
    clear e hnil q1 q3 hc HBD HCK HLN
    have hlc : (p :: ps).length = ps.length + 1 := rfl
    rw [hlc]
    clear hlc
    go_wp2_with fail
    refine (HS.out p (List.mem_cons_self ..) _).mono ?_
    rintro e w2 ⟨rfl, rfl⟩
    generalize numI 10 18 p = f at *
    generalize numB 10 18 p = b at *
    rcases Nat.eq_zero_or_pos ps.length with h0 | hp
    · have he : ps = [] := List.eq_nil_of_length_eq_zero h0
      subst he
      clear h0 HC HS hc0
      cases b
      · have HK3 : Hid ((0, false) = (n, r)) := HK2.out
        clear HK2
        go_wp2
        all_goals
          refine wp_loop_rounds 1 ?_
          rw [rounds_succ]
          go_wp2
          go_ret2
          exact ⟨ret2_ib (congrArg Prod.fst HK3.out) (congrArg Prod.snd HK3.out), B1⟩
      · have HK3 : Hid ((f, true) = (n, r)) := HK2.out
        clear HK2
        go_wp2
        all_goals
          refine wp_loop_rounds 1 ?_
          rw [rounds_succ]
          go_wp2
          go_ret2
          exact ⟨ret2_ib (congrArg Prod.fst HK3.out) (congrArg Prod.snd HK3.out), B1⟩
    · have hcap : ¬ cv1 = 1 := by omega
      go_wp2_with fail
      go_loop [6, 26] (fun vr vi => ∃ k : Nat, k ≤ ps.length ∧ vi = .int .i64 k ∧ vr = .bool (b && sameN f (ps.take k))) (fun _ vi => ps.length - (intOf vi).toNat)
      case atStart => exact ⟨0, Nat.zero_le _, rfl, by simp [sameN]⟩
      case round =>
        obtain ⟨k, hk, rfl, rfl⟩ := hrel
        by_cases hlt : k < ps.length
        · have hc1 := HC.out k hlt
          have hsn : Hid ((b && sameN f (ps.take (k + 1))) = ((b && sameN f (ps.take k)) && (numB 10 18 ps[k] && decide (numI 10 18 ps[k] = f)))) := by rw [Hid, sameN_snoc hlt, Bool.and_assoc]
          have HX : Hid (∀ W, Calls Tryz.prog 149 #[.string ps[k]] W fun e w' => e = .returned (.tuple #[.int .i64 (numI 10 18 ps[k]), .bool (numB 10 18 ps[k])]) ∧ w' = W) := HS.out ps[k] (List.mem_cons_of_mem _ (List.getElem_mem hlt))
          generalize (b && sameN f (ps.take k)) = rr at *
          generalize numI 10 18 ps[k] = nx at *
          generalize numB 10 18 ps[k] = nb at *
          generalize ps[k] = x at *
          go_wp2_with fail
          refine (HX.out _).mono ?_
          rintro e w3 ⟨rfl, rfl⟩
          cases rr
          · have hs2 : Hid ((b && sameN f (ps.take (k + 1))) = false) := hsn.out
            clear hsn HX
            go_wp2
            go_round
            case rel => exact ⟨k + 1, by omega, by go_num, by rw [hs2.out]⟩
            case measure => simp [intOf]; omega
          · cases nb
            · have hs2 : Hid ((b && sameN f (ps.take (k + 1))) = false) := hsn.out
              clear hsn HX
              go_wp2
              go_round
              case rel => exact ⟨k + 1, by omega, by go_num, by rw [hs2.out]⟩
              case measure => simp [intOf]; omega
            · have hs2 : Hid ((b && sameN f (ps.take (k + 1))) = decide (nx = f)) := hsn.out
              clear hsn HX
              go_wp2
              go_round
              case rel => exact ⟨k + 1, by omega, by go_num, by rw [hs2.out, eq_dec]⟩
              case measure => simp [intOf]; omega
        · have hk' : k = ps.length := by omega
          subst hk'
          rw [List.take_length] at *
          clear hlt hk
          generalize (b && sameN f ps) = rr at *
          cases rr
          · have HK3 : Hid ((0, false) = (n, r)) := HK2.out
            clear HK2
            go_wp2
            go_ret2
            exact ⟨ret2_ib (congrArg Prod.fst HK3.out) (congrArg Prod.snd HK3.out), B1⟩
          · have HK3 : Hid ((f, true) = (n, r)) := HK2.out
            clear HK2
            go_wp2
            go_ret2
            exact ⟨ret2_ib (congrArg Prod.fst HK3.out) (congrArg Prod.snd HK3.out), B1⟩
end Go.Proofs.YtemmmdhmkegaaaaGreatDoor

/- Package frame: Request, Response and Closes. -/
namespace Go.Proofs.YtemmmdhmkegaaaaGreatDoor
open Go.ChangeShapes Go.WideShapes Go.ChangeAt Go.RowKit
set_option linter.unusedVariables false

theorem ret3_iii {x y z a b c : Int} (h1 : x = a) (h2 : y = b) (h3 : z = c) : Ending.returned (.tuple #[.int .i64 x, .int .i64 y, .int .i64 z]) = .returned (.tuple #[.int .i64 a, .int .i64 b, .int .i64 c]) := by rw [h1, h2, h3]
def toldP (te cl ch : Bool) (ln : Int × Bool) (minor : Int) : Int × Int × Int :=
  if (te && (cl || decide (minor = 0))) = true then (0, 0, 400)
  else if te = true then (if ch = true then (2, 0, 0) else (0, 0, 501))
  else if cl = false then (3, 0, 0)
  else if ln.2 = false then (0, 0, 400)
  else if 4096 < ln.1 then (0, 0, 413) else (1, ln.1, 0)
theorem toldF_eq (fs : Fs) (minor : Int) : toldF fs minor = toldP (thereF fs tTE) (thereF fs tCL) (chunkedF fs) (lengthF fs) minor := rfl

set_option maxHeartbeats 1000000 in
theorem told_any (fs : Fs) (a : Option Addr) (c : Nat) (minor : Int) (w : World) (hf : Fds w.heap.size w (.slice a fs.length c) fs) (hb : FBd 1048576 fs) (hl : fs.length ≤ 1024) (hM : MaxL w) :
    Calls Tryz.prog 81 #[.slice a fs.length c, .int .i64 minor] w fun e w' => e = .returned (.tuple #[.int .i64 (toldF fs minor).1, .int .i64 (toldF fs minor).2.1, .int .i64 (toldF fs minor).2.2]) ∧ Below w.heap.size w w' := by
  have H1 : Hid (Calls Tryz.prog 111 #[.slice a fs.length c, .string ⟨#[67, 111, 110, 116, 101, 110, 116, 45, 76, 101, 110, 103, 116, 104]⟩] w fun e w' => e = .returned (.bool (thereF fs tCL)) ∧ Below w.heap.size w w') := there_any fs a c tCL w hf hb (by decide) hl
  have H2 : Hid (∀ W, Below w.heap.size w W → Calls Tryz.prog 111 #[.slice a fs.length c, .string ⟨#[84, 114, 97, 110, 115, 102, 101, 114, 45, 69, 110, 99, 111, 100, 105, 110, 103]⟩] W fun e w' => e = .returned (.bool (thereF fs tTE)) ∧ Below W.heap.size W w') := fun W b => there_any fs a c tTE W (hf.over b) hb (by decide) hl
  have H3 : Hid (∀ W, Below w.heap.size w W → Calls Tryz.prog 112 #[.slice a fs.length c] W fun e w' => e = .returned (.bool (chunkedF fs)) ∧ Below W.heap.size W w') := fun W b => chunked_any fs a c W (hf.over b) hb hl (hM.below b)
  have H4 : Hid (∀ W, Below w.heap.size w W → Calls Tryz.prog 113 #[.slice a fs.length c] W fun e w' => e = .returned (.tuple #[.int .i64 (lengthF fs).1, .bool (lengthF fs).2]) ∧ Below W.heap.size W w') := fun W b => length_any fs a c W (hf.over b) hb hl (hM.below b)
  have hbd := lenL_bd (listF fs tCL)
  rw [toldF_eq]
  have hbd2 : 0 ≤ (lengthF fs).1 ∧ (lengthF fs).1 < 1000000000000000000 := hbd
  clear hf hb hl hM hbd
  generalize thereF fs tTE = te at *
  generalize thereF fs tCL = cl at *
  generalize chunkedF fs = ch at *
  generalize lengthF fs = ln at *
  obtain ⟨n, r⟩ := ln
  simp only at H4 hbd2
  obtain ⟨b1, b2⟩ := hbd2
  generalize hE : toldP te cl ch (n, r) minor = E
  have HE : Hid (toldP te cl ch (n, r) minor = E) := hE
  clear hE
  obtain ⟨E1, E2, E3⟩ := E
  cases te
  · cases cl
    · have HK : Hid ((3, 0, 0) = (E1, E2, E3)) := HE.out
      clear HE
      go_enter Tryz.func81, Tryz.ntmps81
      go_wp2_with fail
      refine H1.out.mono ?_
      rintro e w1 ⟨rfl, B1⟩
      go_wp2_with fail
      refine (H2.out _ B1).mono ?_
      rintro e w2 ⟨rfl, B2⟩
      go_wp2
      go_ret3
      exact ⟨ret3_iii (congrArg Prod.fst HK.out) (congrArg (·.2.1) HK.out) (congrArg (·.2.2) HK.out), B1.trans (B2.mono B1.size)⟩
    · cases r
      · have HK : Hid ((0, 0, 400) = (E1, E2, E3)) := HE.out
        clear HE
        go_enter Tryz.func81, Tryz.ntmps81
        go_wp2_with fail
        refine H1.out.mono ?_
        rintro e w1 ⟨rfl, B1⟩
        go_wp2_with fail
        refine (H2.out _ B1).mono ?_
        rintro e w2 ⟨rfl, B2⟩
        have D2 := B1.trans (B2.mono B1.size)
        go_wp2_with fail
        refine (H4.out _ D2).mono ?_
        rintro e w3 ⟨rfl, B3⟩
        go_wp2
        go_ret3
        exact ⟨ret3_iii (congrArg Prod.fst HK.out) (congrArg (·.2.1) HK.out) (congrArg (·.2.2) HK.out), D2.trans (B3.mono D2.size)⟩
      · by_cases hn : 4096 < n
        · have HK : Hid ((0, 0, 413) = (E1, E2, E3)) := by
            have k := HE.out
            unfold toldP at k
            simp only [Bool.false_and, Bool.false_eq_true, if_false, Bool.true_eq_false, if_pos hn] at k
            exact k
          clear HE
          go_enter Tryz.func81, Tryz.ntmps81
          go_wp2_with fail
          refine H1.out.mono ?_
          rintro e w1 ⟨rfl, B1⟩
          go_wp2_with fail
          refine (H2.out _ B1).mono ?_
          rintro e w2 ⟨rfl, B2⟩
          have D2 := B1.trans (B2.mono B1.size)
          go_wp2_with fail
          refine (H4.out _ D2).mono ?_
          rintro e w3 ⟨rfl, B3⟩
          go_wp2
          go_ret3
          exact ⟨ret3_iii (congrArg Prod.fst HK.out) (congrArg (·.2.1) HK.out) (congrArg (·.2.2) HK.out), D2.trans (B3.mono D2.size)⟩
        · have HK : Hid ((1, n, 0) = (E1, E2, E3)) := by
            have k := HE.out
            unfold toldP at k
            simp only [Bool.false_and, Bool.false_eq_true, if_false, Bool.true_eq_false, if_neg hn] at k
            exact k
          clear HE
          go_enter Tryz.func81, Tryz.ntmps81
          go_wp2_with fail
          refine H1.out.mono ?_
          rintro e w1 ⟨rfl, B1⟩
          go_wp2_with fail
          refine (H2.out _ B1).mono ?_
          rintro e w2 ⟨rfl, B2⟩
          have D2 := B1.trans (B2.mono B1.size)
          go_wp2_with fail
          refine (H4.out _ D2).mono ?_
          rintro e w3 ⟨rfl, B3⟩
          go_wp2
          go_ret3
          exact ⟨ret3_iii (congrArg Prod.fst HK.out) (congrArg (·.2.1) HK.out) (congrArg (·.2.2) HK.out), D2.trans (B3.mono D2.size)⟩
  · cases cl
    · by_cases hm : minor = 0
      · subst hm
        have HK : Hid ((0, 0, 400) = (E1, E2, E3)) := HE.out
        clear HE
        go_enter Tryz.func81, Tryz.ntmps81
        go_wp2_with fail
        refine H1.out.mono ?_
        rintro e w1 ⟨rfl, B1⟩
        go_wp2_with fail
        refine (H2.out _ B1).mono ?_
        rintro e w2 ⟨rfl, B2⟩
        go_wp2
        go_ret3
        exact ⟨ret3_iii (congrArg Prod.fst HK.out) (congrArg (·.2.1) HK.out) (congrArg (·.2.2) HK.out), B1.trans (B2.mono B1.size)⟩
      · have hm2 : (minor == 0) = false := by simpa using hm
        have hm3 : decide (minor = 0) = false := decide_eq_false hm
        have HE2 : Hid ((if ch = true then ((2 : Int), (0 : Int), (0 : Int)) else (0, 0, 501)) = (E1, E2, E3)) := by
          have k := HE.out
          unfold toldP at k
          rw [hm3] at k
          exact k
        clear HE hm hm3
        cases ch
        · have HK : Hid ((0, 0, 501) = (E1, E2, E3)) := HE2.out
          clear HE2
          go_enter Tryz.func81, Tryz.ntmps81
          go_wp2_with fail
          refine H1.out.mono ?_
          rintro e w1 ⟨rfl, B1⟩
          go_wp2_with fail
          refine (H2.out _ B1).mono ?_
          rintro e w2 ⟨rfl, B2⟩
          have D2 := B1.trans (B2.mono B1.size)
          go_wp2_with fail
          refine (H3.out _ D2).mono ?_
          rintro e w3 ⟨rfl, B3⟩
          go_wp2
          go_ret3
          exact ⟨ret3_iii (congrArg Prod.fst HK.out) (congrArg (·.2.1) HK.out) (congrArg (·.2.2) HK.out), D2.trans (B3.mono D2.size)⟩
        · have HK : Hid ((2, 0, 0) = (E1, E2, E3)) := HE2.out
          clear HE2
          go_enter Tryz.func81, Tryz.ntmps81
          go_wp2_with fail
          refine H1.out.mono ?_
          rintro e w1 ⟨rfl, B1⟩
          go_wp2_with fail
          refine (H2.out _ B1).mono ?_
          rintro e w2 ⟨rfl, B2⟩
          have D2 := B1.trans (B2.mono B1.size)
          go_wp2_with fail
          refine (H3.out _ D2).mono ?_
          rintro e w3 ⟨rfl, B3⟩
          go_wp2
          go_ret3
          exact ⟨ret3_iii (congrArg Prod.fst HK.out) (congrArg (·.2.1) HK.out) (congrArg (·.2.2) HK.out), D2.trans (B3.mono D2.size)⟩
    · have HK : Hid ((0, 0, 400) = (E1, E2, E3)) := HE.out
      clear HE
      go_enter Tryz.func81, Tryz.ntmps81
      go_wp2_with fail
      refine H1.out.mono ?_
      rintro e w1 ⟨rfl, B1⟩
      go_wp2_with fail
      refine (H2.out _ B1).mono ?_
      rintro e w2 ⟨rfl, B2⟩
      go_wp2
      go_ret3
      exact ⟨ret3_iii (congrArg Prod.fst HK.out) (congrArg (·.2.1) HK.out) (congrArg (·.2.2) HK.out), B1.trans (B2.mono B1.size)⟩

theorem ret3_ibi {x y : Int} {p q : Bool} {a b : Int} (h1 : x = y) (h2 : p = q) (h3 : a = b) : Ending.returned (.tuple #[.int .i64 x, .bool p, .int .i64 a]) = .returned (.tuple #[.int .i64 y, .bool q, .int .i64 b]) := by rw [h1, h2, h3]
set_option maxHeartbeats 1000000 in
theorem request_any (fs : Fs) (a : Option Addr) (c : Nat) (minor : Int) (w : World) (hf : Fds w.heap.size w (.slice a fs.length c) fs) (hb : FBd 1048576 fs) (hl : fs.length ≤ 1024) (hM : MaxL w) :
    Calls Tryz.prog 60 #[.slice a fs.length c, .int .i64 minor] w fun e w' => e = .returned (.tuple #[.int .i64 (reqF fs minor).1, .bool (reqF fs minor).2.1, .int .i64 (reqF fs minor).2.2]) ∧ Below w.heap.size w w' := by
  have H : Hid (Calls Tryz.prog 81 #[.slice a fs.length c, .int .i64 minor] w fun e w' => e = .returned (.tuple #[.int .i64 (toldF fs minor).1, .int .i64 (toldF fs minor).2.1, .int .i64 (toldF fs minor).2.2]) ∧ Below w.heap.size w w') := told_any fs a c minor w hf hb hl hM
  unfold reqF
  clear hf hb hl hM
  generalize toldF fs minor = E at *
  obtain ⟨E1, E2, E3⟩ := E
  go_enter Tryz.func60, Tryz.ntmps60
  go_wp2_with fail
  refine H.out.mono ?_
  rintro e w1 ⟨rfl, B1⟩
  go_wp2
  go_ret3
  exact ⟨ret3_ibi rfl (eq_dec _ _) rfl, B1⟩
end Go.Proofs.YtemmmdhmkegaaaaGreatDoor

/- Package http: the head of a request. -/
namespace Go.Proofs.YtemmmdhmkegaaaaGreatDoor
open Go.RowKit
set_option linter.unusedVariables false

theorem bd_big {fs : Fs} (h : FBd 1000 fs) : FBd 1048576 fs := h.mono (by decide)
theorem bd_huge {fs : Fs} (h : FBd 1000 fs) : FBd 140737488355328 fs := h.mono (by decide)

set_option maxRecDepth 100000 in
set_option maxHeartbeats 2000000 in
theorem rhosts_any (m t : ByteArray) (minor : Int) (fs : Fs) (a b : Option Addr) (c x y : Nat) (w : World) (hf : Fds w.heap.size w (.slice a fs.length c) fs) (hb : FBd 1000 fs) (hl : fs.length ≤ 1024) :
    Calls Tryz.prog 110 #[.agg #[.string m, .string t, .int .i64 minor, .slice a fs.length c, .slice b x y]] w fun e w' => e = .returned (.bool (hostsOk (getF fs tHost) minor)) ∧ Below w.heap.size w w' := by
  have hg0 := tblk_new w (.cells #[.string m, .string t, .int .i64 minor, .slice a fs.length c, .slice b x y] 43)
  have C0 : Below w.heap.size w (w.alloc (.cells #[.string m, .string t, .int .i64 minor, .slice a fs.length c, .slice b x y] 43)) := (Below.refl _ _).alloc (Nat.le_refl _) _
  have HG : Hid (Calls Tryz.prog 136 #[.slice a fs.length c, .string ⟨#[72, 111, 115, 116]⟩] (w.alloc (.cells #[.string m, .string t, .int .i64 minor, .slice a fs.length c, .slice b x y] 43)) fun e w' => ∃ ao cv, e = .returned (.slice ao (getF fs tHost).length cv) ∧ OwnT (w.heap.size + 1) w' (.slice ao (getF fs tHost).length cv) (getF fs tHost) ∧ Below w.heap.size w w' ∧ w'.heap[w.heap.size]? = some (.cells #[.string m, .string t, .int .i64 minor, .slice a fs.length c, .slice b x y] 43)) := by
    refine (get_any fs a c tHost _ (hf.over C0) (bd_huge hb) (by decide) (by omega)).mono ?_
    rintro e w' ⟨ao, cv, he, hO, hB⟩
    exact ⟨ao, cv, he, (by have k := hO; simpa using k), C0.trans (hB.mono C0.size), tblk_below hg0 hB⟩
  have hbd : Hid (TBd 1000 (getF fs tHost)) := getF_bd hb
  generalize getF fs tHost = hs at *
  clear hf hb hl hg0 C0
  match hs, HG, hbd with
  | [], HG, _ =>
    show Calls Tryz.prog 110 _ w fun e w' => e = .returned (.bool (!(minor == 1))) ∧ Below w.heap.size w w'
    have HG2 : Hid (Calls Tryz.prog 136 #[.slice a fs.length c, .string ⟨#[72, 111, 115, 116]⟩] (w.alloc (.cells #[.string m, .string t, .int .i64 minor, .slice a fs.length c, .slice b x y] 43)) fun e w' => ∃ ao cv, e = .returned (.slice ao 0 cv) ∧ Below w.heap.size w w' ∧ w'.cell? ⟨w.heap.size, 2, none⟩ = some (.int .i64 minor)) := by
      refine HG.out.mono ?_
      rintro e w' ⟨ao, cv, he, _, hB, hg⟩
      exact ⟨ao, cv, he, hB, tblk_cell hg rfl⟩
    clear HG
    go_enter Tryz.func110, Tryz.ntmps110
    go_wp2_with fail
    refine HG2.out.mono ?_
    rintro e w1 ⟨ao, cv, rfl, B1, q⟩
    go_wp2
    go_ret
    exact ⟨ret_bool (by simp [bne]), B1⟩
  | h :: r, HG, hbd =>
    show Calls Tryz.prog 110 _ w fun e w' => e = .returned (.bool (decide (r.length = 0) && (hostP h).2)) ∧ Below w.heap.size w w'
    have hsz := hbd.out h (List.mem_cons_self ..)
    have HH : Hid (∀ W, Calls Tryz.prog 148 #[.string h] W fun e w' => e = .returned (.tuple #[.string (hostP h).1, .bool (hostP h).2]) ∧ Below W.heap.size W w') := fun W => host_any h W (by unfold maxLen; omega)
    have HG2 : Hid (Calls Tryz.prog 136 #[.slice a fs.length c, .string ⟨#[72, 111, 115, 116]⟩] (w.alloc (.cells #[.string m, .string t, .int .i64 minor, .slice a fs.length c, .slice b x y] 43)) fun e w' => ∃ g off cv, e = .returned (.slice (some ⟨g, off, none⟩) (r.length + 1) cv) ∧ Below w.heap.size w w' ∧ w'.cell? ⟨g, off, none⟩ = some (.string h) ∧ r.length + 1 ≤ 9223372036854775807) := by
      refine HG.out.mono ?_
      rintro e w' ⟨ao, cv, he, hO, hB, hg⟩
      obtain ⟨a', c', e', _, hl1, hl2, h4⟩ := hO.txs
      obtain ⟨rfl, _, rfl⟩ := slice_inj e'
      obtain ⟨g, off, rfl, _, hc⟩ := h4 (Nat.succ_pos _)
      refine ⟨g, off, cv, he, hB, hc 0 (Nat.succ_pos _), ?_⟩
      have e2 : (h :: r).length = r.length + 1 := rfl
      unfold maxLen at hl2
      omega
    clear HG hbd hsz
    generalize hostP h = hp at *
    obtain ⟨h1, h2⟩ := hp
    by_cases h0 : r.length = 0
    · rw [h0] at HG2
      rw [decide_eq_true h0]
      clear h0
      go_enter Tryz.func110, Tryz.ntmps110
      go_wp2_with fail
      refine HG2.out.mono ?_
      rintro e w1 ⟨g, off, cv, rfl, B1, q, _⟩
      go_wp2_with fail
      refine (HH.out _).mono ?_
      rintro e w2 ⟨rfl, B2⟩
      have C2 := B1.trans (B2.mono B1.size)
      go_wp2
      go_ret
      exact ⟨by simp, C2⟩
    · rw [decide_eq_false h0]
      have h0' : ¬ (((r.length + 1 : Nat) : Int)) = 1 := by omega
      have h0'' : ((((r.length + 1 : Nat) : Int)) == 1) = false := by simpa using h0'
      have h1' : ¬ (((r.length + 1 : Nat) : Int)) = 0 := by omega
      have h1'' : ((((r.length + 1 : Nat) : Int)) == 0) = false := by simpa using h1'
      clear h0
      generalize r.length + 1 = n at *
      go_enter Tryz.func110, Tryz.ntmps110
      go_wp2_with fail
      refine HG2.out.mono ?_
      rintro e w1 ⟨g, off, cv, rfl, B1, q, hn63⟩
      have hn0 : 0 < n := by omega
      go_wp2_with fail
      refine (HH.out _).mono ?_
      rintro e w2 ⟨rfl, B2⟩
      have C2 := B1.trans (B2.mono B1.size)
      go_wp2
      go_ret
      exact ⟨rfl, C2⟩

set_option maxRecDepth 100000 in
set_option maxHeartbeats 2000000 in
theorem hstatus_any (m t : ByteArray) (minor : Int) (fs : Fs) (a b : Option Addr) (c x y : Nat) (w : World) (hf : Fds w.heap.size w (.slice a fs.length c) fs) (hb : FBd 1000 fs) (hl : fs.length ≤ 1024) (hM : MaxL w) :
    Calls Tryz.prog 80 #[.agg #[.string m, .string t, .int .i64 minor, .slice a fs.length c, .slice b x y]] w fun e w' => e = .returned (.int .i64 (headSt fs minor)) ∧ Below w.heap.size w w' := by
  have hg0 := tblk_new w (.cells #[.string m, .string t, .int .i64 minor, .slice a fs.length c, .slice b x y] 43)
  have C0 : Below w.heap.size w (w.alloc (.cells #[.string m, .string t, .int .i64 minor, .slice a fs.length c, .slice b x y] 43)) := (Below.refl _ _).alloc (Nat.le_refl _) _
  have HR : Hid (Calls Tryz.prog 110 #[.agg #[.string m, .string t, .int .i64 minor, .slice a fs.length c, .slice b x y]] (w.alloc (.cells #[.string m, .string t, .int .i64 minor, .slice a fs.length c, .slice b x y] 43)) fun e w' => e = .returned (.bool (hostsOk (getF fs tHost) minor)) ∧ Below w.heap.size w w' ∧ w'.cell? ⟨w.heap.size, 2, none⟩ = some (.int .i64 minor) ∧ w'.cell? ⟨w.heap.size, 3, none⟩ = some (.slice a fs.length c)) := by
    refine (rhosts_any m t minor fs a b c x y _ (hf.over C0) hb hl).mono ?_
    rintro e w' ⟨he, hB⟩
    have hg := tblk_below hg0 hB
    exact ⟨he, C0.trans (hB.mono C0.size), tblk_cell hg rfl, tblk_cell hg rfl⟩
  have HF : Hid (∀ W, Below w.heap.size w W → Calls Tryz.prog 60 #[.slice a fs.length c, .int .i64 minor] W fun e w' => e = .returned (.tuple #[.int .i64 (reqF fs minor).1, .bool (reqF fs minor).2.1, .int .i64 (reqF fs minor).2.2]) ∧ Below W.heap.size W w') := fun W B => request_any fs a c minor W (hf.over B) (bd_big hb) hl (hM.below B)
  unfold headSt
  have c0 := tblk_cell (i := 0) hg0 rfl
  have c1 := tblk_cell (i := 1) hg0 rfl
  have c2 := tblk_cell (i := 2) hg0 rfl
  have c3 := tblk_cell (i := 3) hg0 rfl
  have c4 := tblk_cell (i := 4) hg0 rfl
  clear hf hb hl hM hg0 C0
  generalize hostsOk (getF fs tHost) minor = ok at *
  generalize reqF fs minor = F at *
  obtain ⟨F1, F2, F3⟩ := F
  cases ok
  · rw [if_neg (by decide)]
    go_enter Tryz.func80, Tryz.ntmps80
    go_wp2_with fail
    refine HR.out.mono ?_
    rintro e w1 ⟨rfl, B1, q2, q3⟩
    go_wp2
    go_ret
    exact ⟨rfl, B1⟩
  · rw [if_pos rfl]
    go_enter Tryz.func80, Tryz.ntmps80
    go_wp2_with fail
    refine HR.out.mono ?_
    rintro e w1 ⟨rfl, B1, q2, q3⟩
    go_wp2_with fail
    refine (HF.out _ B1).mono ?_
    rintro e w2 ⟨rfl, B2⟩
    have C2 := B1.trans (B2.mono B1.size)
    go_wp2
    go_ret
    exact ⟨rfl, C2⟩
end Go.Proofs.YtemmmdhmkegaaaaGreatDoor

/- Package http: Head. -/
namespace Go.Proofs.YtemmmdhmkegaaaaGreatDoor
open Go.RowKit
set_option linter.unusedVariables false

theorem OwnF.away {B : Nat} {w w' : World} {v : Value} {fs : Fs} (h : OwnF B w v fs) (hk : ∀ k, B ≤ k → w'.heap[k]? = w.heap[k]?) : OwnF B w' v fs := by
  obtain ⟨h1, h2 | ⟨g, cap, cur, hv, hg, hh, r⟩⟩ := h
  · exact ⟨h1, .inl h2⟩
  · exact ⟨h1, .inr ⟨g, cap, cur, hv, hg, (hk g hg).trans hh, r⟩⟩
theorem set_away {w : World} {b i : Nat} {v : Value} {k : Nat} (h : ¬ k = b) : (w.setCell ⟨b, i, none⟩ v).heap[k]? = w.heap[k]? := by
  simp only [World.setCell, Array.getElem?_modify]
  rw [if_neg (fun e => h e.symm)]
theorem five_away {w : World} {b : Nat} {v0 v1 v2 v3 v4 : Value} {k : Nat} (h : ¬ k = b) : (five w b v0 v1 v2 v3 v4).heap[k]? = w.heap[k]? := by
  unfold five
  rw [set_away h, set_away h, set_away h, set_away h, set_away h]
theorem set_size (w : World) (p : Addr) (v : Value) : (w.setCell p v).heap.size = w.heap.size := by simp [World.setCell]
theorem five_size (w : World) (b : Nat) (v0 v1 v2 v3 v4 : Value) : (five w b v0 v1 v2 v3 v4).heap.size = w.heap.size := by
  unfold five
  rw [set_size, set_size, set_size, set_size, set_size]
theorem field3 {w : World} {b : Nat} {y0 y1 y2 y3 y4 v : Value} {t : TypeId} (h : w.heap[b]? = some (.cells #[y0, y1, y2, y3, y4] t)) : (w.setCell ⟨b, 3, none⟩ v).heap[b]? = some (.cells #[y0, y1, y2, v, y4] t) := by
  simp [World.setCell, Array.getElem?_modify, h]
theorem field4 {w : World} {b : Nat} {y0 y1 y2 y3 y4 v : Value} {t : TypeId} (h : w.heap[b]? = some (.cells #[y0, y1, y2, y3, y4] t)) : (w.setCell ⟨b, 4, none⟩ v).heap[b]? = some (.cells #[y0, y1, y2, y3, v] t) := by
  simp [World.setCell, Array.getElem?_modify, h]
def hdV (h : Hd) (fa : Option Addr) (fc : Nat) : Value := .tuple #[.agg #[.string h.m, .string h.t, .int .i64 h.minor, .slice fa h.fs.length fc, .slice none 0 0], .int .i64 (h.n : Nat), .int .i64 h.st]
def HeadR (w : World) (h : Hd) (e : Ending) (w' : World) : Prop := ∃ fa fc, e = .returned (hdV h fa fc) ∧ OwnF w.heap.size w' (.slice fa h.fs.length fc) h.fs ∧ Below w.heap.size w w'

set_option maxRecDepth 100000 in
set_option maxHeartbeats 4000000 in
theorem head_any (b : List UInt8) (kb c : Nat) (a : Option Addr) (w : World) (hs : Src w kb (.slice a b.length c) b) (hk : 0 < b.length → kb < w.heap.size) (hM : MaxL w) :
    Calls Tryz.prog 59 #[.slice a b.length c] w (HeadR w (headQ b)) := by
  have U0 : Below w.heap.size w (w.alloc (.cells #[.string ⟨#[]⟩, .string ⟨#[]⟩, .int .i64 0, .slice none 0 0, .slice none 0 0] 43)) := (Below.refl _ _).alloc (Nat.le_refl _) _
  have HRD : Hid (Calls Tryz.prog 77 #[.slice a b.length c, .func (.func 78) #[] #[.pointer (some ⟨w.heap.size + 1, 0, none⟩)]] ((w.alloc (.cells #[.string ⟨#[]⟩, .string ⟨#[]⟩, .int .i64 0, .slice none 0 0, .slice none 0 0] 43)).alloc (.cells #[.string ⟨#[]⟩, .string ⟨#[]⟩, .int .i64 0, .slice none 0 0, .slice none 0 0] 43)) fun e w' => ∃ fa fc, e = .returned (.tuple #[.slice fa (headL rqSt b).1.length fc, .int .i64 ((headL rqSt b).2.1 : Nat), .int .i64 (headL rqSt b).2.2]) ∧ OwnF (w.heap.size + 2) w' (.slice fa (headL rqSt b).1.length fc) (headL rqSt b).1 ∧ w.heap.size + 2 ≤ w'.heap.size ∧ Below w.heap.size w w' ∧ w'.heap[w.heap.size]? = some (.cells #[.string ⟨#[]⟩, .string ⟨#[]⟩, .int .i64 0, .slice none 0 0, .slice none 0 0] 43) ∧ (¬ (headL rqSt b).2.1 = 0 → w'.heap[w.heap.size + 1]? = some (.cells #[.string (rqP (firstL b)).method, .string (rqP (firstL b)).target, .int .i64 (rqP (firstL b)).minor, .slice none 0 0, .slice none 0 0] 43))) := by
    have k := readA_any b kb c a (.string ⟨#[]⟩) (.string ⟨#[]⟩) (.int .i64 0) (.slice none 0 0) (.slice none 0 0) (w.alloc (.cells #[.string ⟨#[]⟩, .string ⟨#[]⟩, .int .i64 0, .slice none 0 0, .slice none 0 0] 43)) ((w.alloc (.cells #[.string ⟨#[]⟩, .string ⟨#[]⟩, .int .i64 0, .slice none 0 0, .slice none 0 0] 43)).alloc (.cells #[.string ⟨#[]⟩, .string ⟨#[]⟩, .int .i64 0, .slice none 0 0, .slice none 0 0] 43)) (PI.new _ _) (hs.keep hk U0) (fun q => Nat.lt_of_lt_of_le (hk q) U0.size) (hM.below U0)
    have e1 : (w.alloc (.cells #[.string ⟨#[]⟩, .string ⟨#[]⟩, .int .i64 0, .slice none 0 0, .slice none 0 0] 43)).heap.size = w.heap.size + 1 := by simp
    have e2 : ((w.alloc (.cells #[.string ⟨#[]⟩, .string ⟨#[]⟩, .int .i64 0, .slice none 0 0, .slice none 0 0] 43)).alloc (.cells #[.string ⟨#[]⟩, .string ⟨#[]⟩, .int .i64 0, .slice none 0 0, .slice none 0 0] 43)).heap.size = w.heap.size + 2 := by simp
    rw [e1, e2] at k
    refine k.mono ?_
    rintro e w' ⟨fa, fc, he, hO, o, hP, ho⟩
    have hb := hP.below
    have hw := hP.own
    rw [e1] at hb hw
    refine ⟨fa, fc, he, hO, ?_, U0.trans (hb.mono (by simp)), ?_, fun q => ?_⟩
    · have q := heap_lt hw; omega
    · rw [hb.block w.heap.size (by simp), tblk_new]
    · rw [hw, ho q]
  have HOK : Hid (HdOk b.length (headQ b)) := headQ_ok b
  have HLO : Hid (FlOk 40 (min 2048 b.length) (headL rqSt b)) := headL_ok _ _
  have HS : Hid (∀ (W : World) (m t : ByteArray) (mi : Int) (fa : Option Addr) (fc : Nat), Below w.heap.size w W → Fds W.heap.size W (.slice fa (headL rqSt b).1.length fc) (headL rqSt b).1 → Calls Tryz.prog 80 #[.agg #[.string m, .string t, .int .i64 mi, .slice fa (headL rqSt b).1.length fc, .slice none 0 0]] W fun e w' => e = .returned (.int .i64 (headSt (headL rqSt b).1 mi)) ∧ Below W.heap.size W w') := fun W m t mi fa fc B F => hstatus_any m t mi _ fa none fc 0 0 W F HLO.out.bd (by have := HLO.out.len; omega) (hM.below B)
  clear hs hk hM U0
  have hQ : headQ b = if (headL rqSt b).2.1 = 0 then hdNo (headL rqSt b).2.2 else if headSt (headL rqSt b).1 (rqP (firstL b)).minor = 0 then ⟨(rqP (firstL b)).method, (rqP (firstL b)).target, (rqP (firstL b)).minor, (headL rqSt b).1, (headL rqSt b).2.1, 0⟩ else hdNo (headSt (headL rqSt b).1 (rqP (firstL b)).minor) := rfl
  have HQ : Hid _ := hQ
  clear hQ HLO
  generalize headQ b = Q at *
  generalize headL rqSt b = H at *
  obtain ⟨fs, n, st⟩ := H
  simp only at HRD HQ HS
  have hnb : Hid (n = 0 ∨ ¬ n = 0) := Classical.em _
  generalize (rqP (firstL b)).method = m at *
  generalize (rqP (firstL b)).target = t at *
  generalize (rqP (firstL b)).minor = mi at *
  generalize b.length = bl at *
  by_cases h0 : n = 0
  · subst h0
    have HE : Hid (Q = hdNo st) := by rw [Hid, HQ.out, if_pos rfl]
    clear HQ HOK hnb
    go_enter Tryz.func59, Tryz.ntmps59
    go_wp2_with fail
    refine HRD.out.mono ?_
    rintro e w1 ⟨fa, fc, rfl, hO, hsz, B1, hg, _⟩
    have HB1 : Hid _ := five_below (.string ⟨#[]⟩) (.string ⟨#[]⟩) (.int .i64 0) (.slice none 0 0) (.slice none 0 0) B1 (Nat.le_refl _)
    unfold five at HB1
    clear HRD hO hsz B1
    have HW := five_cells hg (.string ⟨#[]⟩) (.string ⟨#[]⟩) (.int .i64 0) (.slice none 0 0) (.slice none 0 0)
    have a0 := tblk_cell (i := 0) hg rfl
    have z0 := lblk_z (i := 0) hg
    have a1 := tblk_cell (i := 1) hg rfl
    have z1 := lblk_z (i := 1) hg
    have a2 := tblk_cell (i := 2) hg rfl
    have z2 := lblk_z (i := 2) hg
    have a3 := tblk_cell (i := 3) hg rfl
    have z3 := lblk_z (i := 3) hg
    have a4 := tblk_cell (i := 4) hg rfl
    have z4 := lblk_z (i := 4) hg
    have r0 := tblk_cell (i := 0) HW rfl
    have r1 := tblk_cell (i := 1) HW rfl
    have r2 := tblk_cell (i := 2) HW rfl
    have r3 := tblk_cell (i := 3) HW rfl
    have r4 := tblk_cell (i := 4) HW rfl
    unfold five at r0 r1 r2 r3 r4
    clear HW hg
    go_wp2
    refine bodyPost_ret (v := .tuple #[.agg #[.string ⟨#[]⟩, .string ⟨#[]⟩, .int .i64 0, .slice none 0 0, .slice none 0 0], .int .i64 0, .int .i64 st]) (by simp [results, Tryz.results59, go_sem, r0, r1, r2, r3, r4]) rfl ?_
    rw [HE.out]
    exact ⟨none, 0, rfl, OwnF.nil _ _, HB1.out⟩
  · have hn' : ¬ ((n : Nat) : Int) = 0 := by omega
    have hn'' : (((n : Nat) : Int) == 0) = false := by simpa using hn'
    have HS0 : Hid (∀ (W : World) (m t : ByteArray) (mi : Int) (fa : Option Addr) (fc : Nat), Below w.heap.size w W → Fds W.heap.size W (.slice fa fs.length fc) fs → Calls Tryz.prog 80 #[.agg #[.string m, .string t, .int .i64 mi, .slice fa fs.length fc, .slice none 0 0]] W fun e w' => e = .returned (.int .i64 (headSt fs mi)) ∧ Below W.heap.size W w') := HS.out
    clear HS
    by_cases hst : headSt fs mi = 0
    · have HE : Hid (Q = ⟨m, t, mi, fs, n, 0⟩) := by rw [Hid, HQ.out, if_neg h0, if_pos hst]
      have HS1 : Hid (∀ (W : World) (m t : ByteArray) (fa : Option Addr) (fc : Nat), Below w.heap.size w W → Fds W.heap.size W (.slice fa fs.length fc) fs → Calls Tryz.prog 80 #[.agg #[.string m, .string t, .int .i64 mi, .slice fa fs.length fc, .slice none 0 0]] W fun e w' => e = .returned (.int .i64 0) ∧ Below W.heap.size W w') := fun W m t fa fc B F => by have k := HS0.out W m t mi fa fc B F; rw [hst] at k; exact k
      clear HQ HOK hnb hst HS0
      go_enter Tryz.func59, Tryz.ntmps59
      go_wp2_with fail
      refine HRD.out.mono ?_
      rintro e w1 ⟨fa, fc, rfl, hO, hsz, B1, hg, hr⟩
      have hr1 := hr h0
      have hr2 := field3 (v := .slice fa fs.length fc) hr1
      have hg2 : (w1.setCell ⟨w.heap.size + 1, 3, none⟩ (.slice fa fs.length fc)).heap[w.heap.size]? = some (.cells #[.string ⟨#[]⟩, .string ⟨#[]⟩, .int .i64 0, .slice none 0 0, .slice none 0 0] 43) := (set_away (by omega)).trans hg
      have hO2 : OwnF (w.heap.size + 2) (w1.setCell ⟨w.heap.size + 1, 3, none⟩ (.slice fa fs.length fc)) (.slice fa fs.length fc) fs := hO.away (fun k hk => set_away (by omega))
      have B2 : Below w.heap.size w (w1.setCell ⟨w.heap.size + 1, 3, none⟩ (.slice fa fs.length fc)) := B1.setCell (p := ⟨w.heap.size + 1, 3, none⟩) (Nat.le_succ _) _
      have y3 := tblk_cell (i := 3) hr1 rfl
      have x3 := lblk_z (i := 3) hr1
      have d0 := tblk_cell (i := 0) hr2 rfl
      have d1 := tblk_cell (i := 1) hr2 rfl
      have d2 := tblk_cell (i := 2) hr2 rfl
      have d3 := tblk_cell (i := 3) hr2 rfl
      have d4 := tblk_cell (i := 4) hr2 rfl
      clear hr1 hg hO B1 HRD hr
      go_wp2_with fail
      clear y3 x3 d0 d1 d2 d3 d4
      generalize w1.setCell ⟨w.heap.size + 1, 3, none⟩ (.slice fa fs.length fc) = w2 at *
      refine (HS1.out w2 m t fa fc B2 hO2.fds).mono ?_
      rintro e w3 ⟨rfl, B3⟩
      have C3 := B2.trans (B3.mono B2.size)
      have hg3 := tblk_below hg2 B3
      have hr3 := tblk_below hr2 B3
      have O3 := hO2.keep B3
      have HB1 : Hid _ := five_below (.string m) (.string t) (.int .i64 mi) (.slice fa fs.length fc) (.slice none 0 0) C3 (Nat.le_refl _)
      have HO3 : Hid (OwnF w.heap.size (five w3 w.heap.size (.string m) (.string t) (.int .i64 mi) (.slice fa fs.length fc) (.slice none 0 0)) (.slice fa fs.length fc) fs) := (O3.away (fun k hk => five_away (by omega))).mono (by omega)
      unfold five at HB1 HO3
      have b0 := tblk_cell (i := 0) hr3 rfl
      have b1 := tblk_cell (i := 1) hr3 rfl
      have b2 := tblk_cell (i := 2) hr3 rfl
      have b3 := tblk_cell (i := 3) hr3 rfl
      have b4 := tblk_cell (i := 4) hr3 rfl
      clear hr3 hg2 hr2 hO2 B2 B3 C3 O3
      have HW := five_cells hg3 (.string m) (.string t) (.int .i64 mi) (.slice fa fs.length fc) (.slice none 0 0)
      have a0 := tblk_cell (i := 0) hg3 rfl
      have z0 := lblk_z (i := 0) hg3
      have a1 := tblk_cell (i := 1) hg3 rfl
      have z1 := lblk_z (i := 1) hg3
      have a2 := tblk_cell (i := 2) hg3 rfl
      have z2 := lblk_z (i := 2) hg3
      have a3 := tblk_cell (i := 3) hg3 rfl
      have z3 := lblk_z (i := 3) hg3
      have a4 := tblk_cell (i := 4) hg3 rfl
      have z4 := lblk_z (i := 4) hg3
      have r0 := tblk_cell (i := 0) HW rfl
      have r1 := tblk_cell (i := 1) HW rfl
      have r2 := tblk_cell (i := 2) HW rfl
      have r3 := tblk_cell (i := 3) HW rfl
      have r4 := tblk_cell (i := 4) HW rfl
      unfold five at r0 r1 r2 r3 r4
      clear HW hg3
      go_wp2
      refine bodyPost_ret (v := .tuple #[.agg #[.string m, .string t, .int .i64 mi, .slice fa fs.length fc, .slice none 0 0], .int .i64 (n : Nat), .int .i64 0]) (by simp [results, Tryz.results59, go_sem, r0, r1, r2, r3, r4]) rfl ?_
      rw [HE.out]
      exact ⟨fa, fc, rfl, HO3.out, HB1.out⟩
    · have HE : Hid (Q = hdNo (headSt fs mi)) := by rw [Hid, HQ.out, if_neg h0, if_neg hst]
      have hst' : (headSt fs mi != 0) = true := by simpa using hst
      have HS1 : Hid (∀ (W : World) (m t : ByteArray) (fa : Option Addr) (fc : Nat), Below w.heap.size w W → Fds W.heap.size W (.slice fa fs.length fc) fs → Calls Tryz.prog 80 #[.agg #[.string m, .string t, .int .i64 mi, .slice fa fs.length fc, .slice none 0 0]] W fun e w' => e = .returned (.int .i64 (headSt fs mi)) ∧ Below W.heap.size W w') := fun W m t fa fc B F => HS0.out W m t mi fa fc B F
      clear HS0
      generalize headSt fs mi = sst at *
      clear HQ HOK hnb hst
      go_enter Tryz.func59, Tryz.ntmps59
      go_wp2_with fail
      refine HRD.out.mono ?_
      rintro e w1 ⟨fa, fc, rfl, hO, hsz, B1, hg, hr⟩
      have hr1 := hr h0
      have hr2 := field3 (v := .slice fa fs.length fc) hr1
      have hg2 : (w1.setCell ⟨w.heap.size + 1, 3, none⟩ (.slice fa fs.length fc)).heap[w.heap.size]? = some (.cells #[.string ⟨#[]⟩, .string ⟨#[]⟩, .int .i64 0, .slice none 0 0, .slice none 0 0] 43) := (set_away (by omega)).trans hg
      have hO2 : OwnF (w.heap.size + 2) (w1.setCell ⟨w.heap.size + 1, 3, none⟩ (.slice fa fs.length fc)) (.slice fa fs.length fc) fs := hO.away (fun k hk => set_away (by omega))
      have B2 : Below w.heap.size w (w1.setCell ⟨w.heap.size + 1, 3, none⟩ (.slice fa fs.length fc)) := B1.setCell (p := ⟨w.heap.size + 1, 3, none⟩) (Nat.le_succ _) _
      have y3 := tblk_cell (i := 3) hr1 rfl
      have x3 := lblk_z (i := 3) hr1
      have d0 := tblk_cell (i := 0) hr2 rfl
      have d1 := tblk_cell (i := 1) hr2 rfl
      have d2 := tblk_cell (i := 2) hr2 rfl
      have d3 := tblk_cell (i := 3) hr2 rfl
      have d4 := tblk_cell (i := 4) hr2 rfl
      clear hr1 hg hO B1 HRD hr
      go_wp2_with fail
      clear y3 x3 d0 d1 d2 d3 d4
      generalize w1.setCell ⟨w.heap.size + 1, 3, none⟩ (.slice fa fs.length fc) = w2 at *
      refine (HS1.out w2 m t fa fc B2 hO2.fds).mono ?_
      rintro e w3 ⟨rfl, B3⟩
      have C3 := B2.trans (B3.mono B2.size)
      have hg3 := tblk_below hg2 B3
      have HB1 : Hid _ := five_below (.string ⟨#[]⟩) (.string ⟨#[]⟩) (.int .i64 0) (.slice none 0 0) (.slice none 0 0) C3 (Nat.le_refl _)
      unfold five at HB1
      clear hg2 hr2 hO2 B2 B3 C3
      have HW := five_cells hg3 (.string ⟨#[]⟩) (.string ⟨#[]⟩) (.int .i64 0) (.slice none 0 0) (.slice none 0 0)
      have a0 := tblk_cell (i := 0) hg3 rfl
      have z0 := lblk_z (i := 0) hg3
      have a1 := tblk_cell (i := 1) hg3 rfl
      have z1 := lblk_z (i := 1) hg3
      have a2 := tblk_cell (i := 2) hg3 rfl
      have z2 := lblk_z (i := 2) hg3
      have a3 := tblk_cell (i := 3) hg3 rfl
      have z3 := lblk_z (i := 3) hg3
      have a4 := tblk_cell (i := 4) hg3 rfl
      have z4 := lblk_z (i := 4) hg3
      have r0 := tblk_cell (i := 0) HW rfl
      have r1 := tblk_cell (i := 1) HW rfl
      have r2 := tblk_cell (i := 2) HW rfl
      have r3 := tblk_cell (i := 3) HW rfl
      have r4 := tblk_cell (i := 4) HW rfl
      unfold five at r0 r1 r2 r3 r4
      clear HW hg3
      go_wp2
      refine bodyPost_ret (v := .tuple #[.agg #[.string ⟨#[]⟩, .string ⟨#[]⟩, .int .i64 0, .slice none 0 0, .slice none 0 0], .int .i64 0, .int .i64 sst]) (by simp [results, Tryz.results59, go_sem, r0, r1, r2, r3, r4]) rfl ?_
      rw [HE.out]
      exact ⟨none, 0, rfl, OwnF.nil _ _, HB1.out⟩
end Go.Proofs.YtemmmdhmkegaaaaGreatDoor

/- Package http: the body behind a head. -/
namespace Go.Proofs.YtemmmdhmkegaaaaGreatDoor
open Go.RowKit
set_option linter.unusedVariables false

theorem OwnF.kept {B : Nat} {w w' : World} {v : Value} {fs : Fs} (h : OwnF B w v fs) (hk : ∀ k, B ≤ k → k < w.heap.size → w'.heap[k]? = w.heap[k]?) : OwnF B w' v fs := by
  obtain ⟨h1, h2 | ⟨g, cap, cur, hv, hg, hh, r⟩⟩ := h
  · exact ⟨h1, .inl h2⟩
  · exact ⟨h1, .inr ⟨g, cap, cur, hv, hg, (hk g hg (heap_lt hh)).trans hh, r⟩⟩
theorem Own.kept {B : Nat} {w w' : World} {v : Value} {X : List UInt8} (h : Own B w v X) (hk : ∀ k, B ≤ k → k < w.heap.size → w'.heap[k]? = w.heap[k]?) : Own B w' v X := by
  obtain ⟨h1, h2 | ⟨g, cap, cur, hv, hg, hh, r⟩⟩ := h
  · exact ⟨h1, .inl h2⟩
  · exact ⟨h1, .inr ⟨g, cap, cur, hv, hg, (hk g hg (heap_lt hh)).trans hh, r⟩⟩

theorem decL_le : ∀ (f m : Nat) (l : List UInt8), (decL f m l).2.1 ≤ l.length := by
  intro f
  induction f with
  | zero => intro m l; exact Nat.zero_le _
  | succ f ih =>
    intro m l
    rcases oneP_cases m l with ⟨e, h⟩ | ⟨i, h, hl, _⟩ | ⟨i, k, h, hk, hm, hl, _⟩
    · rw [decL_miss h]; exact Nat.zero_le _
    · rw [decL_last h (by omega)]
      have q := trailL_le 40 (l.drop (i + 2))
      rw [List.length_drop] at q
      unfold plusD
      split
      · exact Nat.zero_le _
      · simp only; omega
    · rw [decL_next h (by omega) (by omega)]
      have q := ih (m - k) (l.drop (i + 2 + k + 2))
      rw [List.length_drop] at q
      unfold plusD
      split
      · exact Nat.zero_le _
      · simp only; omega
theorem decR_le (m : Nat) (l : List UInt8) : (decR m l).2.1 ≤ l.length := decL_le _ _ _

set_option maxRecDepth 100000 in
set_option maxHeartbeats 2000000 in
theorem bclone_any (b : List UInt8) (kb n c : Nat) (a : Option Addr) (w : World) (hs : Src w kb (.slice a n c) b) (hk : 0 < b.length → kb < w.heap.size) (hlen : b.length ≤ 1099511627776) :
    Calls Tryz.prog 83 #[.slice a n c] w fun e w' => ∃ v', e = .returned v' ∧ Own w.heap.size w' v' b ∧ Below w.heap.size w w' := by
  have hl := hs.len
  cases a with
  | none =>
    have hb : b = [] := by
      obtain ⟨a', c', e, h1, h2, h3⟩ := hs
      rcases Nat.eq_zero_or_pos b.length with q | q
      · exact List.eq_nil_of_length_eq_zero q
      · obtain ⟨off, q1, _⟩ := h3 q
        obtain ⟨e1, _, _⟩ := slice_inj e
        rw [← e1] at q1
        cases q1
    subst hb
    clear hs hk hl hlen
    have hnil : ∀ W : World, (binOp .eql 31 (.slice none n c) (.slice none 0 0)).run Tryz.prog W = .ok (.bool true) W := fun W => Lib.run_eql_slice_nil W 31 5 none n c 0 0 Tryz.underlying31
    go_enter Tryz.func83, Tryz.ntmps83
    go_wp2
    go_ret
    exact ⟨_, rfl, Own.nil _ _, Below.refl _ _⟩
  | some ad =>
    have U0 : Below w.heap.size w (w.alloc (.cells #[] 5)) := (Below.refl _ _).alloc (Nat.le_refl _) _
    obtain ⟨v2, w2, r2, O2, B2⟩ := own_append (Own.empty w.heap.size w (Nat.le_refl _)) (hs.keep hk U0) (fun e => by cases e) (by simp only [List.length_nil]; omega) (by simp)
    have HR : Hid _ := r2
    have HO : Hid (Own w.heap.size w2 v2 ([] ++ b)) := O2
    have HB : Hid (Below w.heap.size w w2) := U0.trans B2
    clear hs hk hl hlen U0 r2 O2 B2
    obtain ⟨bk, off, sp⟩ := ad
    have hnil : ∀ W : World, (binOp .eql 31 (.slice (some ⟨bk, off, sp⟩) n c) (.slice none 0 0)).run Tryz.prog W = .ok (.bool false) W := fun W => Lib.run_eql_slice_nil W 31 5 _ n c 0 0 Tryz.underlying31
    go_enter Tryz.func83, Tryz.ntmps83
    go_wp2_with (at_builtin; refine wpList_append_run2 rfl _ _ 31 31 rfl _ _ _ w2 rfl rfl HR.out ?_)
    go_ret
    exact ⟨_, rfl, HO.out, HB.out⟩

theorem bstat_any (e : Int) (w : World) : Calls Tryz.prog 62 #[.int .i64 e] w fun r w' => r = .returned (.int .i64 (bodySt e)) ∧ w' = w := by
  unfold bodySt
  by_cases h0 : e = 0
  · subst h0
    rw [if_pos rfl]
    go_enter Tryz.func62, Tryz.ntmps62
    go_wp2
    go_ret
    exact ⟨rfl, rfl⟩
  · have h0' : (e == 0) = false := by simpa using h0
    rw [if_neg h0]
    by_cases h2 : e = 2
    · subst h2
      rw [if_pos rfl]
      go_enter Tryz.func62, Tryz.ntmps62
      go_wp2
      go_ret
      exact ⟨rfl, rfl⟩
    · have h2' : (e == 2) = false := by simpa using h2
      rw [if_neg h2]
      go_enter Tryz.func62, Tryz.ntmps62
      go_wp2
      go_ret
      exact ⟨rfl, rfl⟩

set_option maxRecDepth 100000 in
set_option maxHeartbeats 4000000 in
theorem body_any (b : List UInt8) (kb c : Nat) (a : Option Addr) (head sz : Nat) (coded : Bool) (w : World) (hs : Src w kb (.slice a b.length c) b) (hk : 0 < b.length → kb < w.heap.size) (hM : MaxL w) (hh : head ≤ b.length) (hlen : b.length ≤ 1099511627776) (hsz : sz ≤ 1048576) :
    Calls Tryz.prog 61 #[.slice a b.length c, .int .i64 (head : Nat), .int .i64 (sz : Nat), .bool coded] w (DecQ w (bodyQ b head (sz : Nat) coded)) := by
  have hl := hs.len
  have hl3 : c ≤ maxLen := hl.2.2
  have HK : Hid (0 < (b.drop head).length → kb < w.heap.size) := fun q => hk (by rw [List.length_drop] at q; omega)
  have HC : Hid (∀ a' : Option Addr, (head < c → a' = a.map (fun x => x.add head)) → Src w kb (.slice a' (b.length - head) (c - head)) (b.drop head)) := fun a' ha' => hs.cut hh ha'
  have HLD : Hid ((b.drop head).length = b.length - head) := List.length_drop
  have hnc : b.length ≤ c := by omega
  unfold maxLen at hl3
  have HQ : Hid (bodyQ b head (sz : Nat) coded = if coded = true then (if (decR 4096 (b.drop head)).2.1 = 0 then ([], 0, (decR 4096 (b.drop head)).2.2) else ((decR 4096 (b.drop head)).1, head + (decR 4096 (b.drop head)).2.1, 0)) else if ((b.length - head : Nat) : Int) < ((sz : Nat) : Int) then ([], 0, 0) else ((b.drop head).take sz, head + sz, 0)) := rfl
  have HM : Hid (MaxL w) := hM
  have HOK : Hid (okR (decR 4096 (b.drop head))) := decL_ok _ _ _
  have HLE : Hid ((decR 4096 (b.drop head)).2.1 ≤ b.length - head) := by
    rw [Hid, ← HLD.out]; exact decR_le _ _
  clear hs hk hM hl
  generalize bodyQ b head (sz : Nat) coded = Q at *
  cases coded
  · rw [if_neg (by decide)] at HQ
    by_cases hlt : ((b.length - head : Nat) : Int) < ((sz : Nat) : Int)
    · rw [if_pos hlt] at HQ
      generalize b.length = n at *
      clear HOK HLE
      go_enter Tryz.func61, Tryz.ntmps61
      go_wp2
      all_goals
        refine bodyPost_ret (v := .tuple #[.slice none 0 0, .int .i64 0, .int .i64 0]) (by simp [results, Tryz.results61, go_sem]) rfl ?_
        rw [HQ.out]
        exact decq_no (Below.refl _ _)
    · rw [if_neg hlt] at HQ
      have hle : sz ≤ b.length - head := by omega
      have HCL : Hid (∀ (a' : Option Addr) (c' : Nat), Src w kb (.slice a' sz c') ((b.drop head).take sz) → Calls Tryz.prog 83 #[.slice a' sz c'] w fun e w' => ∃ v', e = .returned v' ∧ Own w.heap.size w' v' ((b.drop head).take sz) ∧ Below w.heap.size w w') := fun a' c' h =>
        bclone_any _ kb _ _ a' w h (fun q => HK.out (by rw [List.length_take] at q; omega)) (by rw [List.length_take, HLD.out]; omega)
      have hcell : Hid (∀ a' : Option Addr, (head < c → a' = a.map (fun x => x.add head)) → Src w kb (.slice a' sz (c - head)) ((b.drop head).take sz)) := fun a' ha' => (HC.out a' ha').take (by rw [HLD.out]; exact hle)
      have hsum : IntKind.i64.wrap ((head : Int) + (sz : Int)) = ((head + sz : Nat) : Int) := by simp [IntKind.wrap, IntKind.bits, IntKind.signed]; omega
      generalize (b.drop head).take sz = X at *
      generalize b.length = n at *
      clear HOK HLE HC HK HLD HM
      go_enter Tryz.func61, Tryz.ntmps61
      go_wp2_with fail
      all_goals
        refine (HCL.out _ _ (by first | (have hx := hcell.out a (fun h => by omega); rw [show c - head = 0 by omega] at hx; exact hx) | exact hcell.out _ (fun _ => rfl) | exact hcell.out _ (fun h => if_neg (by omega)) | exact hcell.out _ (fun h => by omega))).mono ?_
        rintro e w1 ⟨v1, rfl, O1, B1⟩
        obtain ⟨a1, c1, rfl, _⟩ := O1.form
        have HO : Hid (Own w.heap.size w1 (.slice a1 X.length c1) X) := O1
        clear O1
        generalize X.length = xl at *
        go_wp2
        refine bodyPost_ret (v := .tuple #[.slice a1 xl c1, .int .i64 ((head + sz : Nat) : Int), .int .i64 0]) (by simp [results, Tryz.results61, go_sem]) rfl ?_
        rw [HQ.out]
        exact ⟨_, rfl, HO.out, B1⟩
  · rw [if_pos rfl] at HQ
    have HD : Hid (∀ v' : Value, Src w kb v' (b.drop head) → Calls Tryz.prog 82 #[v', .int .i64 4096] w (DecQ w (decR 4096 (b.drop head)))) := fun v' h =>
      decode_any _ kb v' 4096 w h HK.out HM.out (by rw [HLD.out]; omega) (by decide)
    have hcell : Hid (∀ a' : Option Addr, (head < c → a' = a.map (fun x => x.add head)) → Src w kb (.slice a' (b.length - head) (c - head)) (b.drop head)) := HC.out
    clear HC HK HLD HM
    generalize decR 4096 (b.drop head) = D at *
    obtain ⟨D1, D2, D3⟩ := D
    simp only at HQ HLE
    generalize b.length = n at *
    by_cases h0 : D2 = 0
    · subst h0
      rw [if_pos rfl] at HQ
      go_enter Tryz.func61, Tryz.ntmps61
      go_wp2_with fail
      all_goals
        refine (HD.out _ (by first | (have hx := hcell.out a (fun h => by omega); rw [show c - head = 0 by omega] at hx; exact hx) | exact hcell.out _ (fun _ => rfl) | exact hcell.out _ (fun h => if_neg (by omega)) | exact hcell.out _ (fun h => by omega))).mono ?_
        rintro e w1 ⟨v1, rfl, O1, B1⟩
        obtain ⟨a1, c1, rfl, _⟩ := O1.form
        clear O1
        simp only
        generalize D1.length = xl at *
        go_wp2
        refine bodyPost_ret (v := .tuple #[.slice none 0 0, .int .i64 0, .int .i64 D3]) (by simp [results, Tryz.results61, go_sem]) rfl ?_
        rw [HQ.out]
        exact decq_no B1
    · rw [if_neg h0] at HQ
      have h0' : ¬ ((D2 : Nat) : Int) = 0 := by omega
      have h0'' : (((D2 : Nat) : Int) == 0) = false := by simpa using h0'
      have hle : D2 ≤ n - head := HLE.out
      have hsum : IntKind.i64.wrap ((head : Int) + (D2 : Int)) = ((head + D2 : Nat) : Int) := by simp [IntKind.wrap, IntKind.bits, IntKind.signed]; omega
      go_enter Tryz.func61, Tryz.ntmps61
      go_wp2_with fail
      all_goals
        refine (HD.out _ (by first | (have hx := hcell.out a (fun h => by omega); rw [show c - head = 0 by omega] at hx; exact hx) | exact hcell.out _ (fun _ => rfl) | exact hcell.out _ (fun h => if_neg (by omega)) | exact hcell.out _ (fun h => by omega))).mono ?_
        rintro e w1 ⟨v1, rfl, O1, B1⟩
        obtain ⟨a1, c1, rfl, _⟩ := O1.form
        have HO : Hid (Own w.heap.size w1 (.slice a1 D1.length c1) D1) := O1
        clear O1
        simp only
        generalize D1.length = xl at *
        go_wp2
        refine bodyPost_ret (v := .tuple #[.slice a1 xl c1, .int .i64 ((head + D2 : Nat) : Int), .int .i64 0]) (by simp [results, Tryz.results61, go_sem]) rfl ?_
        rw [HQ.out]
        exact ⟨_, rfl, HO.out, B1⟩
end Go.Proofs.YtemmmdhmkegaaaaGreatDoor

/- Package http: Request. -/
namespace Go.Proofs.YtemmmdhmkegaaaaGreatDoor
open Go.RowKit
set_option linter.unusedVariables false

def rdV (r : Rd) (fa ba : Option Addr) (fc bc : Nat) : Value := .tuple #[.agg #[.string r.m, .string r.t, .int .i64 r.minor, .slice fa r.fs.length fc, .slice ba r.body.length bc], .int .i64 (r.n : Nat), .int .i64 r.st]
def ReqR (w : World) (r : Rd) (e : Ending) (w' : World) : Prop := ∃ fa ba fc bc, e = .returned (rdV r fa ba fc bc) ∧ OwnF w.heap.size w' (.slice fa r.fs.length fc) r.fs ∧ Own w.heap.size w' (.slice ba r.body.length bc) r.body ∧ Below w.heap.size w w'

set_option maxRecDepth 100000 in
set_option maxHeartbeats 4000000 in
theorem hreq_any (b : List UInt8) (kb c : Nat) (a : Option Addr) (w : World) (hs : Src w kb (.slice a b.length c) b) (hk : 0 < b.length → kb < w.heap.size) (hM : MaxL w) (hlen : b.length ≤ 1099511627776) :
    Calls Tryz.prog 39 #[.slice a b.length c] w (ReqR w (reqQ b)) := by
  have U0 : Below w.heap.size w (w.alloc (.cells #[.string ⟨#[]⟩, .string ⟨#[]⟩, .int .i64 0, .slice none 0 0, .slice none 0 0] 43)) := (Below.refl _ _).alloc (Nat.le_refl _) _
  have HOK : Hid (HdOk b.length (headQ b)) := headQ_ok b
  have HH : Hid (Calls Tryz.prog 59 #[.slice a b.length c] (w.alloc (.cells #[.string ⟨#[]⟩, .string ⟨#[]⟩, .int .i64 0, .slice none 0 0, .slice none 0 0] 43)) fun e w' => ∃ fa fc, e = .returned (hdV (headQ b) fa fc) ∧ OwnF (w.heap.size + 1) w' (.slice fa (headQ b).fs.length fc) (headQ b).fs ∧ w.heap.size + 1 ≤ w'.heap.size ∧ Below w.heap.size w w' ∧ w'.heap[w.heap.size]? = some (.cells #[.string ⟨#[]⟩, .string ⟨#[]⟩, .int .i64 0, .slice none 0 0, .slice none 0 0] 43)) := by
    refine (head_any b kb c a _ (hs.keep hk U0) (fun q => Nat.lt_of_lt_of_le (hk q) U0.size) (hM.below U0)).mono ?_
    rintro e w' ⟨fa, fc, he, hO, hB⟩
    have e1 : (w.alloc (.cells #[.string ⟨#[]⟩, .string ⟨#[]⟩, .int .i64 0, .slice none 0 0, .slice none 0 0] 43)).heap.size = w.heap.size + 1 := by simp
    rw [e1] at hO
    have hsz := hB.size
    rw [e1] at hsz
    exact ⟨fa, fc, he, hO, hsz, U0.trans (hB.mono (by simp)), tblk_below (tblk_new _ _) hB⟩
  have HF : Hid (∀ (W : World) (fa : Option Addr) (fc : Nat), Below w.heap.size w W → Fds W.heap.size W (.slice fa (headQ b).fs.length fc) (headQ b).fs → Calls Tryz.prog 60 #[.slice fa (headQ b).fs.length fc, .int .i64 (headQ b).minor] W fun e w' => e = .returned (.tuple #[.int .i64 (reqF (headQ b).fs (headQ b).minor).1, .bool (reqF (headQ b).fs (headQ b).minor).2.1, .int .i64 (reqF (headQ b).fs (headQ b).minor).2.2]) ∧ Below W.heap.size W w') := fun W fa fc B F => request_any _ fa fc _ W F (bd_big HOK.out.bd) (by have := HOK.out.len; omega) (hM.below B)
  obtain ⟨sz, hsz⟩ : ∃ sz : Nat, (reqF (headQ b).fs (headQ b).minor).1 = (sz : Int) := ⟨(reqF (headQ b).fs (headQ b).minor).1.toNat, by have := (told_nn (headQ b).fs (headQ b).minor).1; unfold reqF; simp only; omega⟩
  have hszb : sz ≤ 4096 := by have k := (told_nn (headQ b).fs (headQ b).minor).2; unfold reqF at hsz; simp only at hsz; omega
  have HB : Hid (∀ W, Below w.heap.size w W → Calls Tryz.prog 61 #[.slice a b.length c, .int .i64 ((headQ b).n : Nat), .int .i64 (sz : Nat), .bool (reqF (headQ b).fs (headQ b).minor).2.1] W (DecQ W (bodyOf (headQ b) b))) := fun W B => by
    have k := body_any b kb c a (headQ b).n sz (reqF (headQ b).fs (headQ b).minor).2.1 W (hs.keep hk B) (fun q => Nat.lt_of_lt_of_le (hk q) B.size) (hM.below B) HOK.out.le.1 hlen (by omega)
    unfold bodyOf
    rw [hsz]
    exact k
  have hQ : reqQ b = if (headQ b).n = 0 then rdNo (headQ b).st else rdOf (headQ b) (bodyOf (headQ b) b) := rfl
  rw [hsz] at HF
  have HQ : Hid _ := hQ
  clear hQ hs hk hM U0 hsz hszb hlen HOK
  generalize reqQ b = Q at *
  generalize bodyOf (headQ b) b = X at *
  obtain ⟨X1, X2, X3⟩ := X
  generalize headQ b = H at *
  obtain ⟨m, t, mi, fs, n, st⟩ := H
  simp only at HF HB HQ
  unfold hdV at HH
  simp only at HH
  generalize (reqF fs mi).2.1 = cd at *
  generalize (reqF fs mi).2.2 = s3 at *
  generalize b.length = bl at *
  by_cases h0 : n = 0
  · subst h0
    have HE : Hid (Q = rdNo st) := by rw [Hid, HQ.out, if_pos rfl]
    clear HQ HF HB
    go_enter Tryz.func39, Tryz.ntmps39
    go_wp2_with fail
    refine HH.out.mono ?_
    rintro e w1 ⟨fa, fc, rfl, O1, hs1, B1, hg1⟩
    clear HH O1 hs1
    have B2 := B1.alloc B1.size (.cells #[.string m, .string t, .int .i64 mi, .slice fa fs.length fc, .slice none 0 0] 43)
    have hg2 := tblk_below hg1 ((Below.refl _ _).alloc (Nat.le_refl _) (.cells #[.string m, .string t, .int .i64 mi, .slice fa fs.length fc, .slice none 0 0] 43))
    have HB2 : Hid _ := five_below (.string ⟨#[]⟩) (.string ⟨#[]⟩) (.int .i64 0) (.slice none 0 0) (.slice none 0 0) B2 (Nat.le_refl _)
    unfold five at HB2
    clear B1 B2 hg1
    have HW := five_cells hg2 (.string ⟨#[]⟩) (.string ⟨#[]⟩) (.int .i64 0) (.slice none 0 0) (.slice none 0 0)
    have a0 := tblk_cell (i := 0) hg2 rfl
    have z0 := lblk_z (i := 0) hg2
    have a1 := tblk_cell (i := 1) hg2 rfl
    have z1 := lblk_z (i := 1) hg2
    have a2 := tblk_cell (i := 2) hg2 rfl
    have z2 := lblk_z (i := 2) hg2
    have a3 := tblk_cell (i := 3) hg2 rfl
    have z3 := lblk_z (i := 3) hg2
    have a4 := tblk_cell (i := 4) hg2 rfl
    have z4 := lblk_z (i := 4) hg2
    have r0 := tblk_cell (i := 0) HW rfl
    have r1 := tblk_cell (i := 1) HW rfl
    have r2 := tblk_cell (i := 2) HW rfl
    have r3 := tblk_cell (i := 3) HW rfl
    have r4 := tblk_cell (i := 4) HW rfl
    unfold five at r0 r1 r2 r3 r4
    clear HW hg2
    go_wp2
    refine bodyPost_ret (v := .tuple #[.agg #[.string ⟨#[]⟩, .string ⟨#[]⟩, .int .i64 0, .slice none 0 0, .slice none 0 0], .int .i64 0, .int .i64 st]) (by simp [results, Tryz.results39, go_sem, r0, r1, r2, r3, r4]) rfl ?_
    rw [HE.out]
    exact ⟨none, none, 0, 0, rfl, OwnF.nil _ _, Own.nil _ _, HB2.out⟩
  · have h0' : ¬ ((n : Nat) : Int) = 0 := by omega
    have h0'' : (((n : Nat) : Int) == 0) = false := by simpa using h0'
    rw [if_neg h0] at HQ
    clear h0
    by_cases hx : X2 = 0
    · subst hx
      have HE : Hid (Q = rdNo (bodySt X3)) := HQ.out
      clear HQ
      go_enter Tryz.func39, Tryz.ntmps39
      go_wp2_with fail
      refine HH.out.mono ?_
      rintro e w1 ⟨fa, fc, rfl, O1, hs1, B1, hg1⟩
      clear HH
      have B2 := B1.alloc B1.size (.cells #[.string m, .string t, .int .i64 mi, .slice fa fs.length fc, .slice none 0 0] 43)
      have U2 : Below w1.heap.size w1 (w1.alloc (.cells #[.string m, .string t, .int .i64 mi, .slice fa fs.length fc, .slice none 0 0] 43)) := (Below.refl _ _).alloc (Nat.le_refl _) _
      have hg2 := tblk_below hg1 U2
      have hr2 := tblk_new w1 (.cells #[.string m, .string t, .int .i64 mi, .slice fa fs.length fc, .slice none 0 0] 43)
      have O2 := O1.keep U2
      have d2 := tblk_cell (i := 2) hr2 rfl
      have d3 := tblk_cell (i := 3) hr2 rfl
      have hsp : w.heap.size < w1.heap.size := by omega
      clear B1 hg1 O1 U2 hs1
      go_wp2_with fail
      clear d2 d3
      generalize w1.alloc (.cells #[.string m, .string t, .int .i64 mi, .slice fa fs.length fc, .slice none 0 0] 43) = w2 at *
      generalize w1.heap.size = p at *
      refine (HF.out w2 fa fc B2 O2.fds).mono ?_
      rintro e w3 ⟨rfl, B3⟩
      have D3 := B2.trans (B3.mono B2.size)
      have hg3 := tblk_below hg2 B3
      have hr3 := tblk_below hr2 B3
      have O3 := O2.keep B3
      clear B2 B3 hg2 hr2 O2 HF
      go_wp2_with fail
      refine (HB.out w3 D3).mono ?_
      rintro e w4 ⟨v4, rfl, P4, B4⟩
      obtain ⟨ad4, c4, rfl, _⟩ := P4.form
      have D4 := D3.trans (B4.mono D3.size)
      have hg4 := tblk_below hg3 B4
      have hr4 := tblk_below hr3 B4
      have O4 := O3.keep B4
      have hp3 : p < w3.heap.size := heap_lt hr3
      clear D3 hg3 hr3 O3 HB
      clear hp3 B4
      generalize X1.length = xl at *
      go_wp2_with fail
      refine (bstat_any X3 _).mono ?_
      rintro e w5 ⟨rfl, rfl⟩
      generalize bodySt X3 = bst at *
      have HB5 : Hid _ := five_below (.string ⟨#[]⟩) (.string ⟨#[]⟩) (.int .i64 0) (.slice none 0 0) (.slice none 0 0) D4 (Nat.le_refl _)
      unfold five at HB5
      clear D4 O4 P4 hr4
      have HW := five_cells hg4 (.string ⟨#[]⟩) (.string ⟨#[]⟩) (.int .i64 0) (.slice none 0 0) (.slice none 0 0)
      have a0 := tblk_cell (i := 0) hg4 rfl
      have z0 := lblk_z (i := 0) hg4
      have a1 := tblk_cell (i := 1) hg4 rfl
      have z1 := lblk_z (i := 1) hg4
      have a2 := tblk_cell (i := 2) hg4 rfl
      have z2 := lblk_z (i := 2) hg4
      have a3 := tblk_cell (i := 3) hg4 rfl
      have z3 := lblk_z (i := 3) hg4
      have a4 := tblk_cell (i := 4) hg4 rfl
      have z4 := lblk_z (i := 4) hg4
      have r0 := tblk_cell (i := 0) HW rfl
      have r1 := tblk_cell (i := 1) HW rfl
      have r2 := tblk_cell (i := 2) HW rfl
      have r3 := tblk_cell (i := 3) HW rfl
      have r4 := tblk_cell (i := 4) HW rfl
      unfold five at r0 r1 r2 r3 r4
      clear HW hg4
      go_wp2
      refine bodyPost_ret (v := .tuple #[.agg #[.string ⟨#[]⟩, .string ⟨#[]⟩, .int .i64 0, .slice none 0 0, .slice none 0 0], .int .i64 0, .int .i64 bst]) (by simp [results, Tryz.results39, go_sem, r0, r1, r2, r3, r4]) rfl ?_
      rw [HE.out]
      exact ⟨none, none, 0, 0, rfl, OwnF.nil _ _, Own.nil _ _, HB5.out⟩
    · have hx' : ¬ ((X2 : Nat) : Int) = 0 := by omega
      have hx'' : (((X2 : Nat) : Int) == 0) = false := by simpa using hx'
      have HE : Hid (Q = ⟨m, t, mi, fs, X1, X2, 0⟩) := by
        rw [Hid, HQ.out]
        unfold rdOf
        rw [if_neg hx]
      clear HQ hx
      go_enter Tryz.func39, Tryz.ntmps39
      go_wp2_with fail
      refine HH.out.mono ?_
      rintro e w1 ⟨fa, fc, rfl, O1, hs1, B1, hg1⟩
      clear HH
      have B2 := B1.alloc B1.size (.cells #[.string m, .string t, .int .i64 mi, .slice fa fs.length fc, .slice none 0 0] 43)
      have U2 : Below w1.heap.size w1 (w1.alloc (.cells #[.string m, .string t, .int .i64 mi, .slice fa fs.length fc, .slice none 0 0] 43)) := (Below.refl _ _).alloc (Nat.le_refl _) _
      have hg2 := tblk_below hg1 U2
      have hr2 := tblk_new w1 (.cells #[.string m, .string t, .int .i64 mi, .slice fa fs.length fc, .slice none 0 0] 43)
      have O2 := O1.keep U2
      have O4w := O1
      have hkw0 : ∀ k, k < w1.heap.size → (w1.alloc (.cells #[.string m, .string t, .int .i64 mi, .slice fa fs.length fc, .slice none 0 0] 43)).heap[k]? = w1.heap[k]? := fun k hk => U2.block k hk
      have hpw : w1.heap.size ≤ w1.heap.size := Nat.le_refl _
      have d2 := tblk_cell (i := 2) hr2 rfl
      have d3 := tblk_cell (i := 3) hr2 rfl
      have hsp : w.heap.size < w1.heap.size := by omega
      clear B1 hg1 O1 U2 hs1
      go_wp2_with fail
      clear d2 d3
      generalize w1.alloc (.cells #[.string m, .string t, .int .i64 mi, .slice fa fs.length fc, .slice none 0 0] 43) = w2 at *
      generalize hpd : w1.heap.size = p at *
      have HPD : Hid (w1.heap.size = p) := hpd
      clear hpd
      refine (HF.out w2 fa fc B2 O2.fds).mono ?_
      rintro e w3 ⟨rfl, B3⟩
      have D3 := B2.trans (B3.mono B2.size)
      have hp2 : p < w2.heap.size := heap_lt hr2
      have hkw3 : ∀ k, k < w2.heap.size → w3.heap[k]? = w2.heap[k]? := fun k hk => B3.block k hk
      have hsz3 : w2.heap.size ≤ w3.heap.size := B3.size
      have hg3 := tblk_below hg2 B3
      have hr3 := tblk_below hr2 B3
      have O3 := O2.keep B3
      clear B2 B3 hg2 hr2 O2 HF
      go_wp2_with fail
      refine (HB.out w3 D3).mono ?_
      rintro e w4 ⟨v4, rfl, P4, B4⟩
      obtain ⟨ad4, c4, rfl, _⟩ := P4.form
      have D4 := D3.trans (B4.mono D3.size)
      have hkw : ∀ k, w.heap.size + 1 ≤ k → k < w1.heap.size → w4.heap[k]? = w1.heap[k]? := fun k h1 h2 => ((B4.block k (by have := HPD.out; omega)).trans (hkw3 k (by have := HPD.out; omega))).trans (hkw0 k (by have := HPD.out; omega))
      have hg4 := tblk_below hg3 B4
      have hr4 := tblk_below hr3 B4
      have O4 := O3.keep B4
      have hp3 : p < w3.heap.size := heap_lt hr3
      clear D3 hg3 hr3 O3 HB
      have hr5 := field4 (v := .slice ad4 X1.length c4) hr4
      have hg5 : (w4.setCell ⟨p, 4, none⟩ (.slice ad4 X1.length c4)).heap[w.heap.size]? = some (.cells #[.string ⟨#[]⟩, .string ⟨#[]⟩, .int .i64 0, .slice none 0 0, .slice none 0 0] 43) := (set_away (by omega)).trans hg4
      have D5 : Below w.heap.size w (w4.setCell ⟨p, 4, none⟩ (.slice ad4 X1.length c4)) := D4.setCell (p := ⟨p, 4, none⟩) (Nat.le_of_lt hsp) _
      have HB5 : Hid _ := five_below (.string m) (.string t) (.int .i64 mi) (.slice fa fs.length fc) (.slice ad4 X1.length c4) D5 (Nat.le_refl _)
      have HO5 : Hid (OwnF w.heap.size (five (w4.setCell ⟨p, 4, none⟩ (.slice ad4 X1.length c4)) w.heap.size (.string m) (.string t) (.int .i64 mi) (.slice fa fs.length fc) (.slice ad4 X1.length c4)) (.slice fa fs.length fc) fs) := (O4w.kept (fun k h1 h2 => (five_away (by omega)).trans ((set_away (by have := HPD.out; omega)).trans (hkw k h1 h2)))).mono (by omega)
      have HP5 : Hid (Own w.heap.size (five (w4.setCell ⟨p, 4, none⟩ (.slice ad4 X1.length c4)) w.heap.size (.string m) (.string t) (.int .i64 mi) (.slice fa fs.length fc) (.slice ad4 X1.length c4)) (.slice ad4 X1.length c4) X1) := (P4.kept (fun k h1 h2 => (five_away (by omega)).trans (set_away (by omega)))).mono (by have := heap_lt hg4; have := D4.size; omega)
      unfold five at HB5 HO5 HP5
      have y4 := tblk_cell (i := 4) hr4 rfl
      have x4 := lblk_z (i := 4) hr4
      have d0 := tblk_cell (i := 0) hr5 rfl
      have d1 := tblk_cell (i := 1) hr5 rfl
      have d2 := tblk_cell (i := 2) hr5 rfl
      have d3 := tblk_cell (i := 3) hr5 rfl
      have d4 := tblk_cell (i := 4) hr5 rfl
      clear hr4 hr5 hg4 D4 D5 O4 P4 B4 hp3 hkw0 hkw3 hkw hsz3 hp2 hsp O4w hpw
      generalize hxl : X1.length = xl at *
      have HXL : Hid (X1.length = xl) := hxl
      clear hxl
      have HW := five_cells hg5 (.string m) (.string t) (.int .i64 mi) (.slice fa fs.length fc) (.slice ad4 xl c4)
      have a0 := tblk_cell (i := 0) hg5 rfl
      have z0 := lblk_z (i := 0) hg5
      have a1 := tblk_cell (i := 1) hg5 rfl
      have z1 := lblk_z (i := 1) hg5
      have a2 := tblk_cell (i := 2) hg5 rfl
      have z2 := lblk_z (i := 2) hg5
      have a3 := tblk_cell (i := 3) hg5 rfl
      have z3 := lblk_z (i := 3) hg5
      have a4 := tblk_cell (i := 4) hg5 rfl
      have z4 := lblk_z (i := 4) hg5
      have r0 := tblk_cell (i := 0) HW rfl
      have r1 := tblk_cell (i := 1) HW rfl
      have r2 := tblk_cell (i := 2) HW rfl
      have r3 := tblk_cell (i := 3) HW rfl
      have r4 := tblk_cell (i := 4) HW rfl
      unfold five at r0 r1 r2 r3 r4
      clear HW hg5
      go_wp2
      refine bodyPost_ret (v := .tuple #[.agg #[.string m, .string t, .int .i64 mi, .slice fa fs.length fc, .slice ad4 xl c4], .int .i64 (X2 : Nat), .int .i64 0]) (by simp [results, Tryz.results39, go_sem, r0, r1, r2, r3, r4]) rfl ?_
      rw [HE.out]
      obtain rfl := HXL.out
      exact ⟨fa, ad4, fc, c4, rfl, HO5.out, HP5.out, HB5.out⟩
end Go.Proofs.YtemmmdhmkegaaaaGreatDoor

/- Package http: Waits. -/
namespace Go.Proofs.YtemmmdhmkegaaaaGreatDoor
open Go.RowKit
set_option linter.unusedVariables false

def tExp : ByteArray := ⟨#[69, 120, 112, 101, 99, 116]⟩
def t100 : ByteArray := ⟨#[49, 48, 48, 45, 99, 111, 110, 116, 105, 110, 117, 101]⟩
def waitsQ (b : List UInt8) : Bool := if (headQ b).n = 0 then false else if ¬ (headQ b).minor = 1 then false else if hasF (headQ b).fs tExp t100 = false then false else (decide ((reqQ b).n = 0) && decide ((reqQ b).st = 0))

set_option maxRecDepth 100000 in
set_option maxHeartbeats 4000000 in
theorem waits_any (b : List UInt8) (kb c : Nat) (a : Option Addr) (w : World) (hs : Src w kb (.slice a b.length c) b) (hk : 0 < b.length → kb < w.heap.size) (hM : MaxL w) (hlen : b.length ≤ 1099511627776) :
    Calls Tryz.prog 54 #[.slice a b.length c] w fun e w' => e = .returned (.bool (waitsQ b)) ∧ Below w.heap.size w w' := by
  have HOK : Hid (HdOk b.length (headQ b)) := headQ_ok b
  have HH : Hid (Calls Tryz.prog 59 #[.slice a b.length c] w (HeadR w (headQ b))) := head_any b kb c a w hs hk hM
  have HR : Hid (∀ W, Below w.heap.size w W → Calls Tryz.prog 39 #[.slice a b.length c] W (ReqR W (reqQ b))) := fun W B => hreq_any b kb c a W (hs.keep hk B) (fun q => Nat.lt_of_lt_of_le (hk q) B.size) (hM.below B) hlen
  have HF : Hid (∀ (W : World) (fa : Option Addr) (fc : Nat), Below w.heap.size w W → Fds W.heap.size W (.slice fa (headQ b).fs.length fc) (headQ b).fs → Calls Tryz.prog 73 #[.slice fa (headQ b).fs.length fc, .string ⟨#[69, 120, 112, 101, 99, 116]⟩, .string ⟨#[49, 48, 48, 45, 99, 111, 110, 116, 105, 110, 117, 101]⟩] W fun e w' => e = .returned (.bool (hasF (headQ b).fs tExp t100)) ∧ Below W.heap.size W w') := fun W fa fc B F => has_any _ fa fc tExp t100 W F (bd_big HOK.out.bd) (by decide) (by decide) (by have := HOK.out.len; omega) (hM.below B)
  clear hs hk hM hlen HOK
  unfold waitsQ
  generalize reqQ b = Q at *
  generalize headQ b = H at *
  obtain ⟨m, t, mi, fs, n, st⟩ := H
  obtain ⟨qm, qt, qmi, qfs, qb, qn, qst⟩ := Q
  generalize hasF fs tExp t100 = he at *
  unfold HeadR hdV at HH
  unfold ReqR rdV at HR
  simp only at HH HR HF ⊢
  generalize b.length = bl at *
  by_cases h0 : n = 0
  · subst h0
    rw [if_pos rfl]
    clear HR HF
    go_enter Tryz.func54, Tryz.ntmps54
    go_wp2_with fail
    refine HH.out.mono ?_
    rintro e w1 ⟨fa, fc, rfl, O1, B1⟩
    have B2 := B1.alloc B1.size (.cells #[.string m, .string t, .int .i64 mi, .slice fa fs.length fc, .slice none 0 0] 43)
    clear O1 B1 HH
    go_wp2
    go_ret
    exact ⟨rfl, B2⟩
  · rw [if_neg h0]
    have h0' : ¬ ((n : Nat) : Int) = 0 := by omega
    have h0'' : (((n : Nat) : Int) == 0) = false := by simpa using h0'
    clear h0
    by_cases h1 : mi = 1
    · subst h1
      rw [if_neg (fun k => k rfl)]
      cases he
      · rw [if_pos rfl]
        clear HR
        go_enter Tryz.func54, Tryz.ntmps54
        go_wp2_with fail
        refine HH.out.mono ?_
        rintro e w1 ⟨fa, fc, rfl, O1, B1⟩
        have B2 := B1.alloc B1.size (.cells #[.string m, .string t, .int .i64 1, .slice fa fs.length fc, .slice none 0 0] 43)
        have U2 : Below w1.heap.size w1 (w1.alloc (.cells #[.string m, .string t, .int .i64 1, .slice fa fs.length fc, .slice none 0 0] 43)) := (Below.refl _ _).alloc (Nat.le_refl _) _
        have hr2 := tblk_new w1 (.cells #[.string m, .string t, .int .i64 1, .slice fa fs.length fc, .slice none 0 0] 43)
        have HFF : Hid (Fds (w1.alloc (.cells #[.string m, .string t, .int .i64 1, .slice fa fs.length fc, .slice none 0 0] 43)).heap.size (w1.alloc (.cells #[.string m, .string t, .int .i64 1, .slice fa fs.length fc, .slice none 0 0] 43)) (.slice fa fs.length fc) fs) := (O1.keep U2).fds
        have d2 := tblk_cell (i := 2) hr2 rfl
        have d3 := tblk_cell (i := 3) hr2 rfl
        clear O1 B1 HH U2 hr2
        go_wp2_with fail
        refine (HF.out _ fa fc B2 HFF.out).mono ?_
        rintro e w3 ⟨rfl, B3⟩
        have D3 := B2.trans (B3.mono B2.size)
        clear d2 d3 B2 B3 HFF HF
        go_wp2
        go_ret
        exact ⟨rfl, D3⟩
      · rw [if_neg (by decide)]
        by_cases hq : qn = 0
        · subst hq
          by_cases hs : qst = 0
          · subst hs
            simp only [decide_true, Bool.and_true]
            go_enter Tryz.func54, Tryz.ntmps54
            go_wp2_with fail
            refine HH.out.mono ?_
            rintro e w1 ⟨fa, fc, rfl, O1, B1⟩
            have B2 := B1.alloc B1.size (.cells #[.string m, .string t, .int .i64 1, .slice fa fs.length fc, .slice none 0 0] 43)
            have U2 : Below w1.heap.size w1 (w1.alloc (.cells #[.string m, .string t, .int .i64 1, .slice fa fs.length fc, .slice none 0 0] 43)) := (Below.refl _ _).alloc (Nat.le_refl _) _
            have hr2 := tblk_new w1 (.cells #[.string m, .string t, .int .i64 1, .slice fa fs.length fc, .slice none 0 0] 43)
            have HFF : Hid (Fds (w1.alloc (.cells #[.string m, .string t, .int .i64 1, .slice fa fs.length fc, .slice none 0 0] 43)).heap.size (w1.alloc (.cells #[.string m, .string t, .int .i64 1, .slice fa fs.length fc, .slice none 0 0] 43)) (.slice fa fs.length fc) fs) := (O1.keep U2).fds
            have d2 := tblk_cell (i := 2) hr2 rfl
            have d3 := tblk_cell (i := 3) hr2 rfl
            clear O1 B1 HH U2 hr2
            go_wp2_with fail
            refine (HF.out _ fa fc B2 HFF.out).mono ?_
            rintro e w3 ⟨rfl, B3⟩
            have D3 := B2.trans (B3.mono B2.size)
            clear d2 d3 B2 B3 HFF HF
            go_wp2_with fail
            refine (HR.out _ D3).mono ?_
            rintro e w4 ⟨ga, gb, gc, gd, rfl, _, _, B4⟩
            have D4 := D3.trans (B4.mono D3.size)
            have D5 := D4.alloc D4.size (.cells #[.string qm, .string qt, .int .i64 qmi, .slice ga qfs.length gc, .slice gb qb.length gd] 43)
            clear D3 B4 D4 HR
            generalize qfs.length = q1 at *
            generalize qb.length = q2 at *
            go_wp2
            go_ret
            exact ⟨rfl, D5⟩
          · rw [decide_eq_false hs, Bool.and_false]
            have hs' : (qst == 0) = false := by simpa using hs
            go_enter Tryz.func54, Tryz.ntmps54
            go_wp2_with fail
            refine HH.out.mono ?_
            rintro e w1 ⟨fa, fc, rfl, O1, B1⟩
            have B2 := B1.alloc B1.size (.cells #[.string m, .string t, .int .i64 1, .slice fa fs.length fc, .slice none 0 0] 43)
            have U2 : Below w1.heap.size w1 (w1.alloc (.cells #[.string m, .string t, .int .i64 1, .slice fa fs.length fc, .slice none 0 0] 43)) := (Below.refl _ _).alloc (Nat.le_refl _) _
            have hr2 := tblk_new w1 (.cells #[.string m, .string t, .int .i64 1, .slice fa fs.length fc, .slice none 0 0] 43)
            have HFF : Hid (Fds (w1.alloc (.cells #[.string m, .string t, .int .i64 1, .slice fa fs.length fc, .slice none 0 0] 43)).heap.size (w1.alloc (.cells #[.string m, .string t, .int .i64 1, .slice fa fs.length fc, .slice none 0 0] 43)) (.slice fa fs.length fc) fs) := (O1.keep U2).fds
            have d2 := tblk_cell (i := 2) hr2 rfl
            have d3 := tblk_cell (i := 3) hr2 rfl
            clear O1 B1 HH U2 hr2
            go_wp2_with fail
            refine (HF.out _ fa fc B2 HFF.out).mono ?_
            rintro e w3 ⟨rfl, B3⟩
            have D3 := B2.trans (B3.mono B2.size)
            clear d2 d3 B2 B3 HFF HF
            go_wp2_with fail
            refine (HR.out _ D3).mono ?_
            rintro e w4 ⟨ga, gb, gc, gd, rfl, _, _, B4⟩
            have D4 := D3.trans (B4.mono D3.size)
            have D5 := D4.alloc D4.size (.cells #[.string qm, .string qt, .int .i64 qmi, .slice ga qfs.length gc, .slice gb qb.length gd] 43)
            clear D3 B4 D4 HR
            generalize qfs.length = q1 at *
            generalize qb.length = q2 at *
            go_wp2
            go_ret
            exact ⟨rfl, D5⟩
        · rw [decide_eq_false hq, Bool.false_and]
          have hq' : ¬ ((qn : Nat) : Int) = 0 := by omega
          have hq'' : (((qn : Nat) : Int) == 0) = false := by simpa using hq'
          go_enter Tryz.func54, Tryz.ntmps54
          go_wp2_with fail
          refine HH.out.mono ?_
          rintro e w1 ⟨fa, fc, rfl, O1, B1⟩
          have B2 := B1.alloc B1.size (.cells #[.string m, .string t, .int .i64 1, .slice fa fs.length fc, .slice none 0 0] 43)
          have U2 : Below w1.heap.size w1 (w1.alloc (.cells #[.string m, .string t, .int .i64 1, .slice fa fs.length fc, .slice none 0 0] 43)) := (Below.refl _ _).alloc (Nat.le_refl _) _
          have hr2 := tblk_new w1 (.cells #[.string m, .string t, .int .i64 1, .slice fa fs.length fc, .slice none 0 0] 43)
          have HFF : Hid (Fds (w1.alloc (.cells #[.string m, .string t, .int .i64 1, .slice fa fs.length fc, .slice none 0 0] 43)).heap.size (w1.alloc (.cells #[.string m, .string t, .int .i64 1, .slice fa fs.length fc, .slice none 0 0] 43)) (.slice fa fs.length fc) fs) := (O1.keep U2).fds
          have d2 := tblk_cell (i := 2) hr2 rfl
          have d3 := tblk_cell (i := 3) hr2 rfl
          clear O1 B1 HH U2 hr2
          go_wp2_with fail
          refine (HF.out _ fa fc B2 HFF.out).mono ?_
          rintro e w3 ⟨rfl, B3⟩
          have D3 := B2.trans (B3.mono B2.size)
          clear d2 d3 B2 B3 HFF HF
          go_wp2_with fail
          refine (HR.out _ D3).mono ?_
          rintro e w4 ⟨ga, gb, gc, gd, rfl, _, _, B4⟩
          have D4 := D3.trans (B4.mono D3.size)
          have D5 := D4.alloc D4.size (.cells #[.string qm, .string qt, .int .i64 qmi, .slice ga qfs.length gc, .slice gb qb.length gd] 43)
          clear D3 B4 D4 HR
          generalize qfs.length = q1 at *
          generalize qb.length = q2 at *
          go_wp2
          go_ret
          exact ⟨rfl, D5⟩
    · rw [if_pos h1]
      have h1' : (mi != 1) = true := by simpa using h1
      clear HR HF
      go_enter Tryz.func54, Tryz.ntmps54
      go_wp2_with fail
      refine HH.out.mono ?_
      rintro e w1 ⟨fa, fc, rfl, O1, B1⟩
      have B2 := B1.alloc B1.size (.cells #[.string m, .string t, .int .i64 mi, .slice fa fs.length fc, .slice none 0 0] 43)
      have hr2 := tblk_new w1 (.cells #[.string m, .string t, .int .i64 mi, .slice fa fs.length fc, .slice none 0 0] 43)
      have d2 := tblk_cell (i := 2) hr2 rfl
      clear O1 B1 HH hr2
      go_wp2
      go_ret
      exact ⟨rfl, B2⟩
end Go.Proofs.YtemmmdhmkegaaaaGreatDoor
