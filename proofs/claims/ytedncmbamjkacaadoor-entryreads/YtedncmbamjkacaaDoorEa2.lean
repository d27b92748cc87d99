/- Texts that the proof leans on, one behind the other: Base SpnA AllB SgnA SgnB SgnT SgnG TxtL EnA EnB Byt Row TsA LtA EnC EnD EnE EnF NumM Dig DecR NmB EnG EnH EnI -/
import Derived.Test.YtedncmbamjkacaaDoorRows
import Derived.WalkKit
import Derived.WalkSpells
import Derived.WalkLawsBesides
import Derived.Laws.Pointers
import Derived.Laws.EntriesVeiled
import Derived.Lib.Bytealg
import Derived.Lib.Walk
import Derived.Lib.ItoaMem
import Derived.Laws.IdiomStrings
import Derived.Deep.QuietTactic
import Derived.BigQuiet
import Derived.ProofKit
import Derived.OpenShut
import Derived.Below
import Derived.Laws.CopyOwn
import Derived.Lib.SlBytesConst
import Derived.Maps.AppendAt
import Derived.Laws.OwnMore
import Derived.Laws.Concat
import Derived.Lib.AppendStr
import Derived.Deep.Strs
import Derived.Test.YtedncmbamjkacaaDoorEa1
import Derived.Lib.AppendIntMem
import Derived.Lib.LaidTab
import Derived.LaidSub
import Derived.MakeChecks
import Derived.Lib.ItoaLen
import Derived.Lib.AppendZerosOnto
import Derived.Laws.AppendOwn
import Derived.Lib.SplitLaws
import Derived.Deep.RegionHeld3
import Derived.Deep.DeepCutAuto
/- Small lemmas that several texts share. -/
namespace Go.Proofs.YtedncmbamjkacaaDoor
open Go.RowKit
set_option linter.unusedVariables false

theorem ret_b {x y : Bool} (h : x = y) : Ending.returned (.bool x) = .returned (.bool y) := by rw [h]
theorem take_snoc (s : ByteArray) (k : Nat) (h : k < s.size) : s.data.toList.take (k + 1) = s.data.toList.take k ++ [s[k]] := by
  rw [List.take_succ_eq_append_getElem (by simpa using h)]; rfl
theorem empty_of {s : ByteArray} (h : s.size = 0) : s = ⟨#[]⟩ := by
  obtain ⟨⟨l⟩⟩ := s
  cases l with
  | nil => rfl
  | cons a l => exact absurd (show (a :: l).length = 0 from h) (by simp)
theorem isEmpty_of {s : ByteArray} (h : ¬ s.size = 0) : s.toList.isEmpty = false := by
  rw [ByteArray.toList_eq, List.isEmpty_eq_false_iff]
  intro e
  exact h (congrArg List.length e)
theorem extract_le (s : ByteArray) (i j : Nat) : (s.extract i j).size ≤ s.size := by rw [ByteArray.size_extract]; omega
theorem byte_bd (b : UInt8) : (0 : Int) ≤ (b.toNat : Int) ∧ (b.toNat : Int) < 256 := by have := b.toNat_lt; omega
end Go.Proofs.YtedncmbamjkacaaDoor

/- A span of bytes. -/
namespace Go.Proofs.YtedncmbamjkacaaDoor
open Go.RowKit
set_option linter.unusedVariables false

def spanP (lo hi c : Int) : Bool := decide (lo ≤ c) && decide (c ≤ hi)
end Go.Proofs.YtedncmbamjkacaaDoor

/- All bytes of a text. -/
namespace Go.Proofs.YtedncmbamjkacaaDoor
open Go.RowKit
set_option linter.unusedVariables false

/-- All bytes of a text. -/
def allB (p : Int → Bool) (l : List UInt8) : Bool := l.all fun b => p (b.toNat : Int)

theorem allB_snoc {p : Int → Bool} (s : ByteArray) (k : Nat) (h : k < s.size) (ha : allB p (s.data.toList.take k) = true) (hc : p (s[k].toNat : Int) = true) : allB p (s.data.toList.take (k + 1)) = true := by
  rw [take_snoc s k h]; unfold allB at *; rw [List.all_append, ha]; simp [hc]
theorem allB_false {p : Int → Bool} (s : ByteArray) (k : Nat) (h : k < s.size) (hc : p (s[k].toNat : Int) = false) : allB p s.data.toList = false := by
  unfold allB
  rw [List.all_eq_false]
  exact ⟨s[k], by rw [show s[k] = s.data.toList[k]'(by simpa using h) from rfl]; exact List.getElem_mem _, by simp [hc]⟩

end Go.Proofs.YtedncmbamjkacaaDoor

/- The closures of package sign: which bytes each lets stand. -/
namespace Go.Proofs.YtedncmbamjkacaaDoor
open Go.RowKit
set_option linter.unusedVariables false

theorem sblk_lt {w : World} {b : Nat} {o : Obj} (h : w.heap[b]? = some o) : b < w.heap.size := (Array.getElem?_eq_some_iff.1 h).1
theorem sblk_new (w : World) (o : Obj) : (w.alloc o).heap[w.heap.size]? = some o := by
  show (w.heap.push o)[w.heap.size]? = _; simp
theorem sblk_alloc {w : World} {b : Nat} {o : Obj} (h : w.heap[b]? = some o) (o' : Obj) : (w.alloc o').heap[b]? = some o := by
  rw [Below.heap_alloc _ _ _ (sblk_lt h)]; exact h
theorem sblk_cell {w : World} {b i : Nat} {c : Array Value} {t : TypeId} {v : Value} (h : w.heap[b]? = some (.cells c t)) (hv : c[i]? = some v) : w.cell? ⟨b, i, none⟩ = some v := by
  simp [World.cell?, h, hv]
theorem sblk_below {w w' : World} {b : Nat} {o : Obj} (h : w.heap[b]? = some o) (k : Below w.heap.size w w') : w'.heap[b]? = some o := (k.block b (sblk_lt h)).trans h

/-- A byte from lo to hi. -/
theorem span_call (lo hi c : Int) (p q : Nat) (w : World) (h1 : w.heap[p]? = some (.cells #[.int .u8 lo] 5)) (h2 : w.heap[q]? = some (.cells #[.int .u8 hi] 5)) :
    Calls Tryd.prog 51 #[.int .u8 c, .pointer (some ⟨p, 0, none⟩), .pointer (some ⟨q, 0, none⟩)] w fun e w' => e = .returned (.bool (spanP lo hi c)) ∧ w' = w := by
  have c1 : w.cell? ⟨p, 0, none⟩ = some (.int .u8 lo) := sblk_cell h1 rfl
  have c2 : w.cell? ⟨q, 0, none⟩ = some (.int .u8 hi) := sblk_cell h2 rfl
  clear h1 h2
  unfold spanP
  by_cases k : lo ≤ c
  · rw [decide_eq_true k]
    go_enter Tryd.func51, Tryd.ntmps51
    go_wp2
    go_ret
    exact ⟨by simp, rfl⟩
  · rw [decide_eq_false k]
    go_enter Tryd.func51, Tryd.ntmps51
    go_wp2
    go_ret
    exact ⟨rfl, rfl⟩

/-- A byte of a text. -/
def amongP (s : ByteArray) (c : Int) : Bool := decide (0 ≤ Lib.indexByte s.data.toList c.toNat.toUInt8)
theorem indexByte_run (s : ByteArray) (c : Int) (w : World) : (callFunc 75 #[.string s, .int .u8 c]).run Tryd.prog w = .ok (.value (.int .i64 (Lib.indexByte s.data.toList c.toNat.toUInt8))) w := by
  rw [run_callFunc_extern Tryd.func75 (by kernel_rfl) (by kernel_rfl) (by kernel_rfl) (show Extern.find Tryd.f75 = some Extern.BytealgIndexByte.indexByte by kernel_rfl), Lib.run_indexByteString]
  rfl
theorem among_call (s : ByteArray) (c : Int) (p : Nat) (w : World) (h1 : w.heap[p]? = some (.cells #[.string s] 9)) :
    Calls Tryd.prog 52 #[.int .u8 c, .pointer (some ⟨p, 0, none⟩)] w fun e w' => e = .returned (.bool (amongP s c)) ∧ w' = w := by
  have c1 : w.cell? ⟨p, 0, none⟩ = some (.string s) := sblk_cell h1 rfl
  clear h1
  have hr := indexByte_run
  unfold amongP
  go_enter Tryd.func52, Tryd.ntmps52
  go_wp2
  go_ret
  exact ⟨by simp, rfl⟩

theorem span_any (lo hi : Int) (w : World) : Calls Tryd.prog 35 #[.int .u8 lo, .int .u8 hi] w fun e w' => ∃ p q : Nat, e = .returned (.func (.func 51) #[] #[.pointer (some ⟨p, 0, none⟩), .pointer (some ⟨q, 0, none⟩)]) ∧
    w'.heap[p]? = some (.cells #[.int .u8 lo] 5) ∧ w'.heap[q]? = some (.cells #[.int .u8 hi] 5) ∧ Below w.heap.size w w' := by
  have hmf : ∀ (fn : Fn) (first cap : Array Value) (w : World), (Instr.makeFunc fn first cap).run Tryd.prog w = .ok (.func fn first cap) w := fun _ _ _ _ => rfl
  go_enter Tryd.func35, Tryd.ntmps35
  go_wp2
  go_ret
  refine ⟨_, _, rfl, sblk_alloc (sblk_new _ _) _, ?_, ((Below.refl _ _).alloc (Nat.le_refl _) _).alloc (by simp) _⟩
  have h := sblk_new (w.alloc (.cells #[.int .u8 lo] 5)) (.cells #[.int .u8 hi] 5)
  rw [show (w.alloc (.cells #[.int .u8 lo] 5)).heap.size = w.heap.size + 1 from by simp] at h
  exact h

theorem among_any (s : ByteArray) (w : World) : Calls Tryd.prog 36 #[.string s] w fun e w' => ∃ p : Nat, e = .returned (.func (.func 52) #[] #[.pointer (some ⟨p, 0, none⟩)]) ∧
    w'.heap[p]? = some (.cells #[.string s] 9) ∧ Below w.heap.size w w' := by
  have hmf : ∀ (fn : Fn) (first cap : Array Value) (w : World), (Instr.makeFunc fn first cap).run Tryd.prog w = .ok (.func fn first cap) w := fun _ _ _ _ => rfl
  go_enter Tryd.func36, Tryd.ntmps36
  go_wp2
  go_ret
  exact ⟨_, rfl, sblk_new _ _, (Below.refl _ _).alloc (Nat.le_refl _) _⟩

theorem either_any (b n c : Nat) (w : World) : Calls Tryd.prog 34 #[.slice (some ⟨b, 0, none⟩) n c] w fun e w' => ∃ p : Nat, e = .returned (.func (.func 50) #[] #[.pointer (some ⟨p, 0, none⟩)]) ∧
    w'.heap[p]? = some (.cells #[.slice (some ⟨b, 0, none⟩) n c] 83) ∧ Below w.heap.size w w' := by
  have hmf : ∀ (fn : Fn) (first cap : Array Value) (w : World), (Instr.makeFunc fn first cap).run Tryd.prog w = .ok (.func fn first cap) w := fun _ _ _ _ => rfl
  go_enter Tryd.func34, Tryd.ntmps34
  go_wp2
  go_ret
  exact ⟨_, rfl, sblk_new _ _, (Below.refl _ _).alloc (Nat.le_refl _) _⟩

set_option maxHeartbeats 1000000 in
theorem all49 (s : ByteArray) (a : Value) (p : Int → Bool) (w : World) (hs : s.size ≤ maxLen)
    (hp : ∀ c : Int, 0 ≤ c → c < 256 → Calls Tryd.prog 50 #[.int .u8 c, a] w fun e w' => e = .returned (.bool (p c)) ∧ w' = w) :
    Calls Tryd.prog 33 #[.string s, .func (.func 50) #[] #[a]] w fun e w' => e = .returned (.bool (allB p s.data.toList)) ∧ w' = w := by
  unfold maxLen at hs
  have HP : Hid (∀ c : Int, 0 ≤ c → c < 256 → Calls Tryd.prog 50 #[.int .u8 c, a] w fun e w' => e = .returned (.bool (p c)) ∧ w' = w) := hp
  clear hp
  go_enter Tryd.func33, Tryd.ntmps33
  go_wp2
  go_loop [8] (fun i => ∃ k : Nat, k ≤ s.size ∧ i = .int .i64 k ∧ Hid (allB p (s.data.toList.take k) = true)) (fun i => s.size - (intOf i).toNat)
  case atStart => exact ⟨0, Nat.zero_le _, rfl, rfl⟩
  case round =>
    obtain ⟨k, hk, rfl, hA⟩ := hrel
    by_cases hlt : k < s.size
    · go_wp2_with fail
      refine (HP.out _ (by omega) (by have := s[k].toNat_lt; omega)).mono ?_
      rintro e w' ⟨rfl, rfl⟩
      cases hpc : p (s[k].toNat : Int)
      · have HC : Hid (p (s[k].toNat : Int) = false) := hpc
        clear hpc
        go_wp2
        go_ret
        exact ⟨ret_b (allB_false s k hlt HC.out).symm, rfl⟩
      · have HC : Hid (p (s[k].toNat : Int) = true) := hpc
        clear hpc
        go_wp2
        go_round
        case rel => exact ⟨k + 1, by omega, by go_num, allB_snoc s k hlt hA.out HC.out⟩
        case measure => simp [intOf]; omega
    · go_wp2
      go_ret
      have hk' : k = s.size := by omega
      subst hk'
      exact ⟨ret_b (by have h := hA.out; rw [List.take_of_length_le (by simp)] at h; exact h.symm), rfl⟩

set_option maxHeartbeats 1000000 in
theorem all50 (s : ByteArray) (a b : Value) (p : Int → Bool) (w : World) (hs : s.size ≤ maxLen)
    (hp : ∀ c : Int, 0 ≤ c → c < 256 → Calls Tryd.prog 51 #[.int .u8 c, a, b] w fun e w' => e = .returned (.bool (p c)) ∧ w' = w) :
    Calls Tryd.prog 33 #[.string s, .func (.func 51) #[] #[a, b]] w fun e w' => e = .returned (.bool (allB p s.data.toList)) ∧ w' = w := by
  unfold maxLen at hs
  have HP : Hid (∀ c : Int, 0 ≤ c → c < 256 → Calls Tryd.prog 51 #[.int .u8 c, a, b] w fun e w' => e = .returned (.bool (p c)) ∧ w' = w) := hp
  clear hp
  go_enter Tryd.func33, Tryd.ntmps33
  go_wp2
  go_loop [8] (fun i => ∃ k : Nat, k ≤ s.size ∧ i = .int .i64 k ∧ Hid (allB p (s.data.toList.take k) = true)) (fun i => s.size - (intOf i).toNat)
  case atStart => exact ⟨0, Nat.zero_le _, rfl, rfl⟩
  case round =>
    obtain ⟨k, hk, rfl, hA⟩ := hrel
    by_cases hlt : k < s.size
    · go_wp2_with fail
      refine (HP.out _ (by omega) (by have := s[k].toNat_lt; omega)).mono ?_
      rintro e w' ⟨rfl, rfl⟩
      cases hpc : p (s[k].toNat : Int)
      · have HC : Hid (p (s[k].toNat : Int) = false) := hpc
        clear hpc
        go_wp2
        go_ret
        exact ⟨ret_b (allB_false s k hlt HC.out).symm, rfl⟩
      · have HC : Hid (p (s[k].toNat : Int) = true) := hpc
        clear hpc
        go_wp2
        go_round
        case rel => exact ⟨k + 1, by omega, by go_num, allB_snoc s k hlt hA.out HC.out⟩
        case measure => simp [intOf]; omega
    · go_wp2
      go_ret
      have hk' : k = s.size := by omega
      subst hk'
      exact ⟨ret_b (by have h := hA.out; rw [List.take_of_length_le (by simp)] at h; exact h.symm), rfl⟩

end Go.Proofs.YtedncmbamjkacaaDoor

/- Token, Value and Target: what each answers of every text. -/
namespace Go.Proofs.YtedncmbamjkacaaDoor
open Go.RowKit
set_option linter.unusedVariables false

/-- A token's signs; the tab. -/
def sgn : ByteArray := ⟨#[33, 35, 36, 37, 38, 39, 42, 43, 45, 46, 94, 95, 96, 124, 126]⟩
def tab : ByteArray := ⟨#[9]⟩

/-- Which bytes these closures together let stand. -/
def tokP (c : Int) : Bool := spanP 97 122 c || spanP 65 90 c || spanP 48 57 c || amongP sgn c
set_option maxHeartbeats 2000000 in
theorem either4 (c : Int) (r b cap : Nat) (p0 q0 : Nat) (p1 q1 : Nat) (p2 q2 : Nat) (p3 : Nat) (w : World) (hr : w.heap[r]? = some (.cells #[.slice (some ⟨b, 0, none⟩) 4 cap] 83))
    (hb : w.heap[b]? = some (.cells #[.func (.func 51) #[] #[.pointer (some ⟨p0, 0, none⟩), .pointer (some ⟨q0, 0, none⟩)], .func (.func 51) #[] #[.pointer (some ⟨p1, 0, none⟩), .pointer (some ⟨q1, 0, none⟩)], .func (.func 51) #[] #[.pointer (some ⟨p2, 0, none⟩), .pointer (some ⟨q2, 0, none⟩)], .func (.func 52) #[] #[.pointer (some ⟨p3, 0, none⟩)]] 63)) (h0 : w.heap[p0]? = some (.cells #[.int .u8 97] 5)) (k0 : w.heap[q0]? = some (.cells #[.int .u8 122] 5)) (h1 : w.heap[p1]? = some (.cells #[.int .u8 65] 5)) (k1 : w.heap[q1]? = some (.cells #[.int .u8 90] 5)) (h2 : w.heap[p2]? = some (.cells #[.int .u8 48] 5)) (k2 : w.heap[q2]? = some (.cells #[.int .u8 57] 5)) (h3 : w.heap[p3]? = some (.cells #[.string sgn] 9)) :
    Calls Tryd.prog 50 #[.int .u8 c, .pointer (some ⟨r, 0, none⟩)] w fun e w' => e = .returned (.bool (tokP c)) ∧ w' = w := by
  have cr : w.cell? ⟨r, 0, none⟩ = some (.slice (some ⟨b, 0, none⟩) 4 cap) := sblk_cell hr rfl
  have b0 : w.cell? ⟨b, 0, none⟩ = some (.func (.func 51) #[] #[.pointer (some ⟨p0, 0, none⟩), .pointer (some ⟨q0, 0, none⟩)]) := sblk_cell hb rfl
  have b1 : w.cell? ⟨b, 1, none⟩ = some (.func (.func 51) #[] #[.pointer (some ⟨p1, 0, none⟩), .pointer (some ⟨q1, 0, none⟩)]) := sblk_cell hb rfl
  have b2 : w.cell? ⟨b, 2, none⟩ = some (.func (.func 51) #[] #[.pointer (some ⟨p2, 0, none⟩), .pointer (some ⟨q2, 0, none⟩)]) := sblk_cell hb rfl
  have b3 : w.cell? ⟨b, 3, none⟩ = some (.func (.func 52) #[] #[.pointer (some ⟨p3, 0, none⟩)]) := sblk_cell hb rfl
  clear hr hb
  unfold tokP
  go_enter Tryd.func50, Tryd.ntmps50
  go_wp2
  refine wp_loop_rounds 5 ?_
  rw [rounds_succ]
  go_wp2_with fail
  refine (span_call 97 122 c p0 q0 _ h0 k0).mono ?_
  rintro e w1 ⟨rfl, rfl⟩
  cases e0 : spanP 97 122 c
  case true =>
    go_wp2
    go_ret
    exact ⟨ret_b (by simp [e0]), rfl⟩
  case false =>
    go_wp2
    rw [rounds_succ]
    go_wp2_with fail
    refine (span_call 65 90 c p1 q1 _ h1 k1).mono ?_
    rintro e w1 ⟨rfl, rfl⟩
    cases e1 : spanP 65 90 c
    case true =>
      go_wp2
      go_ret
      exact ⟨ret_b (by simp [e1]), rfl⟩
    case false =>
      go_wp2
      rw [rounds_succ]
      go_wp2_with fail
      refine (span_call 48 57 c p2 q2 _ h2 k2).mono ?_
      rintro e w1 ⟨rfl, rfl⟩
      cases e2 : spanP 48 57 c
      case true =>
        go_wp2
        go_ret
        exact ⟨ret_b (by simp [e2]), rfl⟩
      case false =>
        go_wp2
        rw [rounds_succ]
        go_wp2_with fail
        refine (among_call sgn c p3 _ h3).mono ?_
        rintro e w1 ⟨rfl, rfl⟩
        cases e3 : amongP sgn c
        case true =>
          go_wp2
          go_ret
          exact ⟨ret_b (by simp [e3]), rfl⟩
        case false =>
          go_wp2
          rw [rounds_succ]
          go_wp2
          go_ret
          exact ⟨ret_b (by simp [e0, e1, e2, e3]), rfl⟩

/-- Which bytes these closures together let stand. -/
def valP (c : Int) : Bool := spanP 32 126 c || spanP 128 255 c || amongP tab c
set_option maxHeartbeats 2000000 in
theorem either3 (c : Int) (r b cap : Nat) (p0 q0 : Nat) (p1 q1 : Nat) (p2 : Nat) (w : World) (hr : w.heap[r]? = some (.cells #[.slice (some ⟨b, 0, none⟩) 3 cap] 83))
    (hb : w.heap[b]? = some (.cells #[.func (.func 51) #[] #[.pointer (some ⟨p0, 0, none⟩), .pointer (some ⟨q0, 0, none⟩)], .func (.func 51) #[] #[.pointer (some ⟨p1, 0, none⟩), .pointer (some ⟨q1, 0, none⟩)], .func (.func 52) #[] #[.pointer (some ⟨p2, 0, none⟩)]] 63)) (h0 : w.heap[p0]? = some (.cells #[.int .u8 32] 5)) (k0 : w.heap[q0]? = some (.cells #[.int .u8 126] 5)) (h1 : w.heap[p1]? = some (.cells #[.int .u8 128] 5)) (k1 : w.heap[q1]? = some (.cells #[.int .u8 255] 5)) (h2 : w.heap[p2]? = some (.cells #[.string tab] 9)) :
    Calls Tryd.prog 50 #[.int .u8 c, .pointer (some ⟨r, 0, none⟩)] w fun e w' => e = .returned (.bool (valP c)) ∧ w' = w := by
  have cr : w.cell? ⟨r, 0, none⟩ = some (.slice (some ⟨b, 0, none⟩) 3 cap) := sblk_cell hr rfl
  have b0 : w.cell? ⟨b, 0, none⟩ = some (.func (.func 51) #[] #[.pointer (some ⟨p0, 0, none⟩), .pointer (some ⟨q0, 0, none⟩)]) := sblk_cell hb rfl
  have b1 : w.cell? ⟨b, 1, none⟩ = some (.func (.func 51) #[] #[.pointer (some ⟨p1, 0, none⟩), .pointer (some ⟨q1, 0, none⟩)]) := sblk_cell hb rfl
  have b2 : w.cell? ⟨b, 2, none⟩ = some (.func (.func 52) #[] #[.pointer (some ⟨p2, 0, none⟩)]) := sblk_cell hb rfl
  clear hr hb
  unfold valP
  go_enter Tryd.func50, Tryd.ntmps50
  go_wp2
  refine wp_loop_rounds 4 ?_
  rw [rounds_succ]
  go_wp2_with fail
  refine (span_call 32 126 c p0 q0 _ h0 k0).mono ?_
  rintro e w1 ⟨rfl, rfl⟩
  cases e0 : spanP 32 126 c
  case true =>
    go_wp2
    go_ret
    exact ⟨ret_b (by simp [e0]), rfl⟩
  case false =>
    go_wp2
    rw [rounds_succ]
    go_wp2_with fail
    refine (span_call 128 255 c p1 q1 _ h1 k1).mono ?_
    rintro e w1 ⟨rfl, rfl⟩
    cases e1 : spanP 128 255 c
    case true =>
      go_wp2
      go_ret
      exact ⟨ret_b (by simp [e1]), rfl⟩
    case false =>
      go_wp2
      rw [rounds_succ]
      go_wp2_with fail
      refine (among_call tab c p2 _ h2).mono ?_
      rintro e w1 ⟨rfl, rfl⟩
      cases e2 : amongP tab c
      case true =>
        go_wp2
        go_ret
        exact ⟨ret_b (by simp [e2]), rfl⟩
      case false =>
        go_wp2
        rw [rounds_succ]
        go_wp2
        go_ret
        exact ⟨ret_b (by simp [e0, e1, e2]), rfl⟩

end Go.Proofs.YtedncmbamjkacaaDoor

/- Token: what it answers of every text. -/
namespace Go.Proofs.YtedncmbamjkacaaDoor
open Go.RowKit
set_option linter.unusedVariables false

set_option maxHeartbeats 2000000 in
theorem token_any (s : ByteArray) (w : World) (hs : s.size ≤ maxLen) :
    Calls Tryd.prog 19 #[.string s] w fun e w' => e = .returned (.bool (allB tokP s.data.toList && decide (0 < s.size))) ∧ Below w.heap.size w w' := by
  by_cases hz : s.size = 0
  · have he := empty_of hz
    subst he
    go_enter Tryd.func19, Tryd.ntmps19
    go_wp2
    go_ret
    exact ⟨rfl, Below.refl _ _⟩
  · have HZ : Hid (decide (0 < s.size) = true) := by rw [Hid]; simp; omega
    have hne := isEmpty_of hz
    clear hz
    rw [HZ.out]
    go_enter Tryd.func19, Tryd.ntmps19
    go_wp2_with fail
    refine (span_any 97 122 _).mono ?_
    rintro e w1 ⟨p0, q0, rfl, h0, k0, B1⟩
    go_wp2_with fail
    refine (span_any 65 90 _).mono ?_
    rintro e w2 ⟨p1, q1, rfl, h1, k1, B2⟩
    go_wp2_with fail
    refine (span_any 48 57 _).mono ?_
    rintro e w3 ⟨p2, q2, rfl, h2, k2, B3⟩
    go_wp2_with fail
    refine (among_any sgn _).mono ?_
    rintro e w4 ⟨p3, rfl, h3, B4⟩
    go_wp2_with fail
    have hb := sblk_new w4 (.cells #[.func (.func 51) #[] #[.pointer (some ⟨p0, 0, none⟩), .pointer (some ⟨q0, 0, none⟩)], .func (.func 51) #[] #[.pointer (some ⟨p1, 0, none⟩), .pointer (some ⟨q1, 0, none⟩)], .func (.func 51) #[] #[.pointer (some ⟨p2, 0, none⟩), .pointer (some ⟨q2, 0, none⟩)], .func (.func 52) #[] #[.pointer (some ⟨p3, 0, none⟩)]] 63)
    have B5 := (Below.refl w4.heap.size w4).alloc (Nat.le_refl _) (.cells #[.func (.func 51) #[] #[.pointer (some ⟨p0, 0, none⟩), .pointer (some ⟨q0, 0, none⟩)], .func (.func 51) #[] #[.pointer (some ⟨p1, 0, none⟩), .pointer (some ⟨q1, 0, none⟩)], .func (.func 51) #[] #[.pointer (some ⟨p2, 0, none⟩), .pointer (some ⟨q2, 0, none⟩)], .func (.func 52) #[] #[.pointer (some ⟨p3, 0, none⟩)]] 63)
    refine (either_any w4.heap.size 4 4 (w4.alloc (.cells #[.func (.func 51) #[] #[.pointer (some ⟨p0, 0, none⟩), .pointer (some ⟨q0, 0, none⟩)], .func (.func 51) #[] #[.pointer (some ⟨p1, 0, none⟩), .pointer (some ⟨q1, 0, none⟩)], .func (.func 51) #[] #[.pointer (some ⟨p2, 0, none⟩), .pointer (some ⟨q2, 0, none⟩)], .func (.func 52) #[] #[.pointer (some ⟨p3, 0, none⟩)]] 63))).mono ?_
    generalize w4.alloc (.cells #[.func (.func 51) #[] #[.pointer (some ⟨p0, 0, none⟩), .pointer (some ⟨q0, 0, none⟩)], .func (.func 51) #[] #[.pointer (some ⟨p1, 0, none⟩), .pointer (some ⟨q1, 0, none⟩)], .func (.func 51) #[] #[.pointer (some ⟨p2, 0, none⟩), .pointer (some ⟨q2, 0, none⟩)], .func (.func 52) #[] #[.pointer (some ⟨p3, 0, none⟩)]] 63) = w5 at *
    rintro e w6 ⟨r, rfl, hr, B6⟩
    have D4 := B5.trans (B6.mono B5.size)
    have D3 := B4.trans (D4.mono B4.size)
    have D2 := B3.trans (D3.mono B3.size)
    have D1 := B2.trans (D2.mono B2.size)
    have D0 := B1.trans (D1.mono B1.size)
    have H := fun c (_ : (0 : Int) ≤ c) (_ : c < 256) => either4 c r w4.heap.size 4 p0 q0 p1 q1 p2 q2 p3 w6 hr (sblk_below hb B6) (sblk_below h0 D1) (sblk_below k0 D1) (sblk_below h1 D2) (sblk_below k1 D2) (sblk_below h2 D3) (sblk_below k2 D3) (sblk_below h3 D4)
    have HA : Hid (Calls Tryd.prog 33 #[.string s, .func (.func 50) #[] #[.pointer (some ⟨r, 0, none⟩)]] w6 fun e w' => e = .returned (.bool (allB tokP s.data.toList)) ∧ w' = w6) := all49 s _ tokP w6 hs H
    clear H h0 k0 h1 k1 h2 k2 h3 hb hr B1 B2 B3 B4 B5 B6 D1 D2 D3 D4
    go_wp2_with fail
    refine HA.out.mono ?_
    rintro e w7 ⟨rfl, rfl⟩
    go_wp2
    go_ret
    exact ⟨ret_b (by simp), D0⟩
end Go.Proofs.YtedncmbamjkacaaDoor

/- Target: what it answers of every text. -/
namespace Go.Proofs.YtedncmbamjkacaaDoor
open Go.RowKit
set_option linter.unusedVariables false

def tgtP (s : ByteArray) : Bool := allB (spanP 33 126) s.data.toList && decide (0 < s.size)

set_option maxHeartbeats 1000000 in
theorem starget_any (s : ByteArray) (w : World) (hs : s.size ≤ maxLen) :
    Calls Tryd.prog 20 #[.string s] w fun e w' => e = .returned (.bool (tgtP s)) ∧ Below w.heap.size w w' := by
  unfold tgtP
  by_cases hz : s.size = 0
  · have he := empty_of hz
    subst he
    go_enter Tryd.func20, Tryd.ntmps20
    go_wp2
    go_ret
    exact ⟨rfl, Below.refl _ _⟩
  · have HZ : Hid (decide (0 < s.size) = true) := by rw [Hid]; simp; omega
    have hne := isEmpty_of hz
    clear hz
    rw [HZ.out]
    go_enter Tryd.func20, Tryd.ntmps20
    go_wp2_with fail
    refine (span_any 33 126 _).mono ?_
    rintro e w1 ⟨p0, q0, rfl, h0, k0, B1⟩
    have HA : Hid (Calls Tryd.prog 33 #[.string s, .func (.func 51) #[] #[.pointer (some ⟨p0, 0, none⟩), .pointer (some ⟨q0, 0, none⟩)]] w1 fun e w' => e = .returned (.bool (allB (spanP 33 126) s.data.toList)) ∧ w' = w1) := all50 s _ _ (spanP 33 126) w1 hs (fun c _ _ => span_call 33 126 c p0 q0 w1 h0 k0)
    clear h0 k0
    go_wp2_with fail
    refine HA.out.mono ?_
    rintro e w2 ⟨rfl, rfl⟩
    go_wp2
    go_ret
    exact ⟨ret_b (by simp), B1⟩

end Go.Proofs.YtedncmbamjkacaaDoor

/- Small lemmas on blocks; the library's variable that a search may look at. -/
namespace Go.Proofs.YtedncmbamjkacaaDoor
open Go.RowKit
set_option linter.unusedVariables false

theorem owns_below {w w' : World} {base : Nat} {e : TypeId} {size : Nat} {v : Value} {n : Nat} {xs : List Value} (h : w.ownsRow base e size v n xs) (b : Below w.heap.size w w') : w'.ownsRow base e size v n xs := by
  obtain ⟨h1, h2⟩ := h
  refine ⟨h1, ?_⟩
  rcases h2 with h2 | ⟨g, cap, cur, hv, hg, hh, r⟩
  · exact .inl h2
  · exact .inr ⟨g, cap, cur, hv, hg, (b.block g (Array.getElem?_eq_some_iff.1 hh).1).trans hh, r⟩
theorem tblk_cell {w : World} {b i : Nat} {c : Array Value} {t : TypeId} {v : Value} (h : w.heap[b]? = some (.cells c t)) (hv : c[i]? = some v) : w.cell? ⟨b, i, none⟩ = some v := by
  simp [World.cell?, h, hv]
theorem tblk_new (w : World) (o : Obj) : (w.alloc o).heap[w.heap.size]? = some o := by
  show (w.heap.push o)[w.heap.size]? = _; simp
theorem tblk_below {w w' : World} {b : Nat} {o : Obj} (h : w.heap[b]? = some o) (k : Below w.heap.size w w') : w'.heap[b]? = some o := (k.block b (Array.getElem?_eq_some_iff.1 h).1).trans h
theorem isEmpty_t {s : ByteArray} (h : ¬ s.size = 0) : s.toList.isEmpty = false := by
  rw [ByteArray.toList_eq, List.isEmpty_eq_false_iff]
  intro e
  exact h (congrArg List.length e)
theorem empty_t {s : ByteArray} (h : s.size = 0) : s = ⟨#[]⟩ := by
  obtain ⟨⟨l⟩⟩ := s
  cases l with
  | nil => rfl
  | cons a l => exact absurd (show (a :: l).length = 0 from h) (by simp)

/-- The library's variable that a search may look at holds some number. -/
def MaxL (w : World) : Prop := ∃ m, w.cell? ⟨2, 0, none⟩ = some (.int .i64 m)
theorem MaxL.lt {w : World} (h : MaxL w) : 2 < w.heap.size := by
  obtain ⟨m, h⟩ := h
  unfold World.cell? at h
  rcases Nat.lt_or_ge 2 w.heap.size with c | c
  · exact c
  · simp [Array.getElem?_eq_none c] at h
theorem MaxL.below {w w' : World} (h : MaxL w) (b : Below w.heap.size w w') : MaxL w' := by
  have k := h.lt
  obtain ⟨m, h⟩ := h
  exact ⟨m, (b.cell (p := ⟨2, 0, none⟩) k).trans h⟩
end Go.Proofs.YtedncmbamjkacaaDoor

/- Records: what is right (plain); package entry's numbersOf, within, Right. -/
namespace Go.Proofs.YtedncmbamjkacaaDoor
open Go.RowKit
set_option linter.unusedVariables false

structure EntP where
  q : Int
  a : Int
  k : Int
  n : Int
  m : ByteArray
  t : ByteArray
  c : Int
  u : Int
  d : Int
def entV (e : EntP) : Array Value := #[.int .i64 e.q, .int .i64 e.a, .int .i64 e.k, .int .i64 e.n, .string e.m, .string e.t, .int .i64 e.c, .int .i64 e.u, .int .i64 e.d]
def numsE (e : EntP) : List Int := [e.q, e.a, e.k, e.n, e.c, e.u, e.d]
def arrV (e : EntP) : Array Value := #[.int .i64 e.q, .int .i64 e.a, .int .i64 e.k, .int .i64 e.n, .int .i64 e.c, .int .i64 e.u, .int .i64 e.d]
def inB (z lo hi : Int) : Bool := decide (lo ≤ z) && decide (z ≤ hi)
def withinP (e : EntP) : Bool := inB e.q 1 1125899906842624 && (inB e.a 0 1125899906842624 && (inB e.k 0 1125899906842624 && (inB e.n 1 2147483647 && (inB e.c 0 999 && (inB e.u 0 1125899906842624 && inB e.d 0 1125899906842624)))))
def tokS (s : ByteArray) : Bool := allB tokP s.data.toList && decide (0 < s.size)
def rightE (e : EntP) : Bool := withinP e && (decide (e.m.size ≤ 20) && (tokS e.m && (decide (e.t.size ≤ 512) && tgtP e.t)))
/-- The tables of the bounds. -/
structure LmT (w : World) : Prop where
  l0 : w.cell? ⟨0, 0, none⟩ = some (.int .i64 1)
  l1 : w.cell? ⟨0, 1, none⟩ = some (.int .i64 0)
  l2 : w.cell? ⟨0, 2, none⟩ = some (.int .i64 0)
  l3 : w.cell? ⟨0, 3, none⟩ = some (.int .i64 1)
  l4 : w.cell? ⟨0, 4, none⟩ = some (.int .i64 0)
  l5 : w.cell? ⟨0, 5, none⟩ = some (.int .i64 0)
  l6 : w.cell? ⟨0, 6, none⟩ = some (.int .i64 0)
  m0 : w.cell? ⟨1, 0, none⟩ = some (.int .i64 1125899906842624)
  m1 : w.cell? ⟨1, 1, none⟩ = some (.int .i64 1125899906842624)
  m2 : w.cell? ⟨1, 2, none⟩ = some (.int .i64 1125899906842624)
  m3 : w.cell? ⟨1, 3, none⟩ = some (.int .i64 2147483647)
  m4 : w.cell? ⟨1, 4, none⟩ = some (.int .i64 999)
  m5 : w.cell? ⟨1, 5, none⟩ = some (.int .i64 1125899906842624)
  m6 : w.cell? ⟨1, 6, none⟩ = some (.int .i64 1125899906842624)
  lt : 0 < w.heap.size
  mt : 1 < w.heap.size
theorem LmT.below {w w' : World} (h : LmT w) (b : Below w.heap.size w w') : LmT w' :=
  ⟨(b.cell (p := ⟨0, 0, none⟩) h.lt).trans h.l0, (b.cell (p := ⟨0, 1, none⟩) h.lt).trans h.l1, (b.cell (p := ⟨0, 2, none⟩) h.lt).trans h.l2, (b.cell (p := ⟨0, 3, none⟩) h.lt).trans h.l3, (b.cell (p := ⟨0, 4, none⟩) h.lt).trans h.l4, (b.cell (p := ⟨0, 5, none⟩) h.lt).trans h.l5, (b.cell (p := ⟨0, 6, none⟩) h.lt).trans h.l6,
   (b.cell (p := ⟨1, 0, none⟩) h.mt).trans h.m0, (b.cell (p := ⟨1, 1, none⟩) h.mt).trans h.m1, (b.cell (p := ⟨1, 2, none⟩) h.mt).trans h.m2, (b.cell (p := ⟨1, 3, none⟩) h.mt).trans h.m3, (b.cell (p := ⟨1, 4, none⟩) h.mt).trans h.m4, (b.cell (p := ⟨1, 5, none⟩) h.mt).trans h.m5, (b.cell (p := ⟨1, 6, none⟩) h.mt).trans h.m6,
   Nat.lt_of_lt_of_le h.lt b.size, Nat.lt_of_lt_of_le h.mt b.size⟩
set_option maxHeartbeats 800000 in
theorem ennums_any (e : EntP) (w : World) : Calls Tryd.prog 17 #[.agg (entV e)] w fun r w' => r = .returned (.agg (arrV e)) ∧ Below w.heap.size w w' := by
  obtain ⟨q, a, k, n, m, t, c, u, d⟩ := e
  unfold entV arrV
  simp only
  go_enter Tryd.func17, Tryd.ntmps17
  go_wp2
  refine bodyPost_ret (v := .agg #[.int .i64 q, .int .i64 a, .int .i64 k, .int .i64 n, .int .i64 c, .int .i64 u, .int .i64 d]) (by simp [results, Tryd.results17, go_sem]) rfl ⟨rfl, ?_⟩
  exact ((Below.refl _ _).alloc (Nat.le_refl _) _).alloc (by simp) _
theorem inB_lo {z lo hi : Int} (h : z < lo) : inB z lo hi = false := by unfold inB; rw [decide_eq_false (by omega)]; rfl
theorem inB_hi {z lo hi : Int} (h : hi < z) : inB z lo hi = false := by unfold inB; rw [decide_eq_false (show ¬ z ≤ hi by omega), Bool.and_false]
theorem inB_in {z lo hi : Int} (h : lo ≤ z) (h' : z ≤ hi) : inB z lo hi = true := by unfold inB; rw [decide_eq_true h, decide_eq_true h']; rfl
/-- What is left to look at behind the first i numbers. -/
def restE (e : EntP) : Nat → Bool
  | 0 => withinP e
  | 1 => inB e.a 0 1125899906842624 && (inB e.k 0 1125899906842624 && (inB e.n 1 2147483647 && (inB e.c 0 999 && (inB e.u 0 1125899906842624 && inB e.d 0 1125899906842624))))
  | 2 => inB e.k 0 1125899906842624 && (inB e.n 1 2147483647 && (inB e.c 0 999 && (inB e.u 0 1125899906842624 && inB e.d 0 1125899906842624)))
  | 3 => inB e.n 1 2147483647 && (inB e.c 0 999 && (inB e.u 0 1125899906842624 && inB e.d 0 1125899906842624))
  | 4 => inB e.c 0 999 && (inB e.u 0 1125899906842624 && inB e.d 0 1125899906842624)
  | 5 => inB e.u 0 1125899906842624 && inB e.d 0 1125899906842624
  | 6 => inB e.d 0 1125899906842624
  | _ => true
theorem rest0 (e : EntP) : restE e 0 = (inB e.q 1 1125899906842624 && restE e 1) := by rfl
theorem rest1 (e : EntP) : restE e 1 = (inB e.a 0 1125899906842624 && restE e 2) := by rfl
theorem rest2 (e : EntP) : restE e 2 = (inB e.k 0 1125899906842624 && restE e 3) := by rfl
theorem rest3 (e : EntP) : restE e 3 = (inB e.n 1 2147483647 && restE e 4) := by rfl
theorem rest4 (e : EntP) : restE e 4 = (inB e.c 0 999 && restE e 5) := by rfl
theorem rest5 (e : EntP) : restE e 5 = (inB e.u 0 1125899906842624 && restE e 6) := by rfl
theorem rest6 (e : EntP) : restE e 6 = (inB e.d 0 1125899906842624 && restE e 7) := by show inB e.d 0 1125899906842624 = (_ && true); rw [Bool.and_true]
set_option maxRecDepth 100000 in
set_option maxHeartbeats 3200000 in
theorem enwithin_any (e : EntP) (w : World) (hL : LmT w) : Calls Tryd.prog 18 #[.agg (arrV e)] w fun r w' => r = .returned (.bool (withinP e)) ∧ Below w.heap.size w w' := by
  obtain ⟨l0, l1, l2, l3, l4, l5, l6, m0, m1, m2, m3, m4, m5, m6, lt, mt⟩ := hL
  have r0 := rest0 e
  have r1 := rest1 e
  have r2 := rest2 e
  have r3 := rest3 e
  have r4 := rest4 e
  have r5 := rest5 e
  have r6 := rest6 e
  have HR0 : Hid (restE e 0 = withinP e) := rfl
  have HR7 : Hid (restE e 7 = true) := rfl
  generalize withinP e = W at *
  generalize restE e = R at *
  obtain ⟨q, a, k, n, m, t, c, u, d⟩ := e
  unfold arrV
  simp only at r0 r1 r2 r3 r4 r5 r6 ⊢
  have H0 : Hid (R 0 = (inB q 1 1125899906842624 && R 1)) := r0
  have H1 : Hid (R 1 = (inB a 0 1125899906842624 && R 2)) := r1
  have H2 : Hid (R 2 = (inB k 0 1125899906842624 && R 3)) := r2
  have H3 : Hid (R 3 = (inB n 1 2147483647 && R 4)) := r3
  have H4 : Hid (R 4 = (inB c 0 999 && R 5)) := r4
  have H5 : Hid (R 5 = (inB u 0 1125899906842624 && R 6)) := r5
  have H6 : Hid (R 6 = (inB d 0 1125899906842624 && R 7)) := r6
  clear r0 r1 r2 r3 r4 r5 r6
  have ix0 : ∀ w, (Instr.index 45 (.agg #[.int .i64 q, .int .i64 a, .int .i64 k, .int .i64 n, .int .i64 c, .int .i64 u, .int .i64 d]) (.int .i64 0)).run Tryd.prog w = .ok (.int .i64 q) w := fun _ => by kernel_rfl
  have ix1 : ∀ w, (Instr.index 45 (.agg #[.int .i64 q, .int .i64 a, .int .i64 k, .int .i64 n, .int .i64 c, .int .i64 u, .int .i64 d]) (.int .i64 1)).run Tryd.prog w = .ok (.int .i64 a) w := fun _ => by kernel_rfl
  have ix2 : ∀ w, (Instr.index 45 (.agg #[.int .i64 q, .int .i64 a, .int .i64 k, .int .i64 n, .int .i64 c, .int .i64 u, .int .i64 d]) (.int .i64 2)).run Tryd.prog w = .ok (.int .i64 k) w := fun _ => by kernel_rfl
  have ix3 : ∀ w, (Instr.index 45 (.agg #[.int .i64 q, .int .i64 a, .int .i64 k, .int .i64 n, .int .i64 c, .int .i64 u, .int .i64 d]) (.int .i64 3)).run Tryd.prog w = .ok (.int .i64 n) w := fun _ => by kernel_rfl
  have ix4 : ∀ w, (Instr.index 45 (.agg #[.int .i64 q, .int .i64 a, .int .i64 k, .int .i64 n, .int .i64 c, .int .i64 u, .int .i64 d]) (.int .i64 4)).run Tryd.prog w = .ok (.int .i64 c) w := fun _ => by kernel_rfl
  have ix5 : ∀ w, (Instr.index 45 (.agg #[.int .i64 q, .int .i64 a, .int .i64 k, .int .i64 n, .int .i64 c, .int .i64 u, .int .i64 d]) (.int .i64 5)).run Tryd.prog w = .ok (.int .i64 u) w := fun _ => by kernel_rfl
  have ix6 : ∀ w, (Instr.index 45 (.agg #[.int .i64 q, .int .i64 a, .int .i64 k, .int .i64 n, .int .i64 c, .int .i64 u, .int .i64 d]) (.int .i64 6)).run Tryd.prog w = .ok (.int .i64 d) w := fun _ => by kernel_rfl
  go_enter Tryd.func18, Tryd.ntmps18
  go_wp2_with fail
  go_loopw [6] (fun vi wr => ∃ i : Nat, i ≤ 7 ∧ vi = .int .i64 i ∧ Hid (R i = W) ∧ Below w.heap.size w wr) (fun vi _ => 7 - (intOf vi).toNat)
  case atStart => exact ⟨0, Nat.zero_le _, rfl, HR0.out, (Below.refl _ _).alloc (Nat.le_refl _) _⟩
  case round =>
    obtain ⟨i, hi, rfl, hW, hB⟩ := hrel
    have e7 : i = 0 ∨ i = 1 ∨ i = 2 ∨ i = 3 ∨ i = 4 ∨ i = 5 ∨ i = 6 ∨ i = 7 := by omega
    clear hi
    rcases e7 with ei | ei | ei | ei | ei | ei | ei | ei
    · have hz : (i : Int) = 0 := by omega
      rw [hz]
      have hW2 : Hid (R 0 = W) := by rw [Hid, ← hW.out, ei]
      clear hW hz ei
      have cl := (hB.cell (p := ⟨0, 0, none⟩) lt).trans l0
      have cm := (hB.cell (p := ⟨1, 0, none⟩) mt).trans m0
      clear l0 m0 l1 m1 l2 m2 l3 m3 l4 m4 l5 m5 l6 m6
      rcases Int.lt_or_le q 1 with g | g
      · have hF : Hid (false = W) := by rw [Hid, ← hW2.out, H0.out, inB_lo g]; rfl
        go_wp2
        go_ret
        exact ⟨ret_b hF.out, hB⟩
      · have g' : decide (q < 1) = false := decide_eq_false (by omega)
        rcases Int.lt_or_le 1125899906842624 q with h | h
        · have hF : Hid (false = W) := by rw [Hid, ← hW2.out, H0.out, inB_hi h]; rfl
          go_wp2
          go_ret
          exact ⟨ret_b hF.out, hB⟩
        · have h' : decide (1125899906842624 < q) = false := decide_eq_false (by omega)
          have hN : Hid (R 1 = W) := by rw [Hid, ← hW2.out, H0.out, inB_in g h]; rfl
          clear g h
          go_wp2
          go_roundw
          case rel => exact ⟨1, by omega, by go_num, hN.out, hB⟩
          case measure => simp [intOf]
    · have hz : (i : Int) = 1 := by omega
      rw [hz]
      have hW2 : Hid (R 1 = W) := by rw [Hid, ← hW.out, ei]
      clear hW hz ei
      have cl := (hB.cell (p := ⟨0, 1, none⟩) lt).trans l1
      have cm := (hB.cell (p := ⟨1, 1, none⟩) mt).trans m1
      clear l0 m0 l1 m1 l2 m2 l3 m3 l4 m4 l5 m5 l6 m6
      rcases Int.lt_or_le a 0 with g | g
      · have hF : Hid (false = W) := by rw [Hid, ← hW2.out, H1.out, inB_lo g]; rfl
        go_wp2
        go_ret
        exact ⟨ret_b hF.out, hB⟩
      · have g' : decide (a < 0) = false := decide_eq_false (by omega)
        rcases Int.lt_or_le 1125899906842624 a with h | h
        · have hF : Hid (false = W) := by rw [Hid, ← hW2.out, H1.out, inB_hi h]; rfl
          go_wp2
          go_ret
          exact ⟨ret_b hF.out, hB⟩
        · have h' : decide (1125899906842624 < a) = false := decide_eq_false (by omega)
          have hN : Hid (R 2 = W) := by rw [Hid, ← hW2.out, H1.out, inB_in g h]; rfl
          clear g h
          go_wp2
          go_roundw
          case rel => exact ⟨2, by omega, by go_num, hN.out, hB⟩
          case measure => simp [intOf]
    · have hz : (i : Int) = 2 := by omega
      rw [hz]
      have hW2 : Hid (R 2 = W) := by rw [Hid, ← hW.out, ei]
      clear hW hz ei
      have cl := (hB.cell (p := ⟨0, 2, none⟩) lt).trans l2
      have cm := (hB.cell (p := ⟨1, 2, none⟩) mt).trans m2
      clear l0 m0 l1 m1 l2 m2 l3 m3 l4 m4 l5 m5 l6 m6
      rcases Int.lt_or_le k 0 with g | g
      · have hF : Hid (false = W) := by rw [Hid, ← hW2.out, H2.out, inB_lo g]; rfl
        go_wp2
        go_ret
        exact ⟨ret_b hF.out, hB⟩
      · have g' : decide (k < 0) = false := decide_eq_false (by omega)
        rcases Int.lt_or_le 1125899906842624 k with h | h
        · have hF : Hid (false = W) := by rw [Hid, ← hW2.out, H2.out, inB_hi h]; rfl
          go_wp2
          go_ret
          exact ⟨ret_b hF.out, hB⟩
        · have h' : decide (1125899906842624 < k) = false := decide_eq_false (by omega)
          have hN : Hid (R 3 = W) := by rw [Hid, ← hW2.out, H2.out, inB_in g h]; rfl
          clear g h
          go_wp2
          go_roundw
          case rel => exact ⟨3, by omega, by go_num, hN.out, hB⟩
          case measure => simp [intOf]
    · have hz : (i : Int) = 3 := by omega
      rw [hz]
      have hW2 : Hid (R 3 = W) := by rw [Hid, ← hW.out, ei]
      clear hW hz ei
      have cl := (hB.cell (p := ⟨0, 3, none⟩) lt).trans l3
      have cm := (hB.cell (p := ⟨1, 3, none⟩) mt).trans m3
      clear l0 m0 l1 m1 l2 m2 l3 m3 l4 m4 l5 m5 l6 m6
      rcases Int.lt_or_le n 1 with g | g
      · have hF : Hid (false = W) := by rw [Hid, ← hW2.out, H3.out, inB_lo g]; rfl
        go_wp2
        go_ret
        exact ⟨ret_b hF.out, hB⟩
      · have g' : decide (n < 1) = false := decide_eq_false (by omega)
        rcases Int.lt_or_le 2147483647 n with h | h
        · have hF : Hid (false = W) := by rw [Hid, ← hW2.out, H3.out, inB_hi h]; rfl
          go_wp2
          go_ret
          exact ⟨ret_b hF.out, hB⟩
        · have h' : decide (2147483647 < n) = false := decide_eq_false (by omega)
          have hN : Hid (R 4 = W) := by rw [Hid, ← hW2.out, H3.out, inB_in g h]; rfl
          clear g h
          go_wp2
          go_roundw
          case rel => exact ⟨4, by omega, by go_num, hN.out, hB⟩
          case measure => simp [intOf]
    · have hz : (i : Int) = 4 := by omega
      rw [hz]
      have hW2 : Hid (R 4 = W) := by rw [Hid, ← hW.out, ei]
      clear hW hz ei
      have cl := (hB.cell (p := ⟨0, 4, none⟩) lt).trans l4
      have cm := (hB.cell (p := ⟨1, 4, none⟩) mt).trans m4
      clear l0 m0 l1 m1 l2 m2 l3 m3 l4 m4 l5 m5 l6 m6
      rcases Int.lt_or_le c 0 with g | g
      · have hF : Hid (false = W) := by rw [Hid, ← hW2.out, H4.out, inB_lo g]; rfl
        go_wp2
        go_ret
        exact ⟨ret_b hF.out, hB⟩
      · have g' : decide (c < 0) = false := decide_eq_false (by omega)
        rcases Int.lt_or_le 999 c with h | h
        · have hF : Hid (false = W) := by rw [Hid, ← hW2.out, H4.out, inB_hi h]; rfl
          go_wp2
          go_ret
          exact ⟨ret_b hF.out, hB⟩
        · have h' : decide (999 < c) = false := decide_eq_false (by omega)
          have hN : Hid (R 5 = W) := by rw [Hid, ← hW2.out, H4.out, inB_in g h]; rfl
          clear g h
          go_wp2
          go_roundw
          case rel => exact ⟨5, by omega, by go_num, hN.out, hB⟩
          case measure => simp [intOf]
    · have hz : (i : Int) = 5 := by omega
      rw [hz]
      have hW2 : Hid (R 5 = W) := by rw [Hid, ← hW.out, ei]
      clear hW hz ei
      have cl := (hB.cell (p := ⟨0, 5, none⟩) lt).trans l5
      have cm := (hB.cell (p := ⟨1, 5, none⟩) mt).trans m5
      clear l0 m0 l1 m1 l2 m2 l3 m3 l4 m4 l5 m5 l6 m6
      rcases Int.lt_or_le u 0 with g | g
      · have hF : Hid (false = W) := by rw [Hid, ← hW2.out, H5.out, inB_lo g]; rfl
        go_wp2
        go_ret
        exact ⟨ret_b hF.out, hB⟩
      · have g' : decide (u < 0) = false := decide_eq_false (by omega)
        rcases Int.lt_or_le 1125899906842624 u with h | h
        · have hF : Hid (false = W) := by rw [Hid, ← hW2.out, H5.out, inB_hi h]; rfl
          go_wp2
          go_ret
          exact ⟨ret_b hF.out, hB⟩
        · have h' : decide (1125899906842624 < u) = false := decide_eq_false (by omega)
          have hN : Hid (R 6 = W) := by rw [Hid, ← hW2.out, H5.out, inB_in g h]; rfl
          clear g h
          go_wp2
          go_roundw
          case rel => exact ⟨6, by omega, by go_num, hN.out, hB⟩
          case measure => simp [intOf]
    · have hz : (i : Int) = 6 := by omega
      rw [hz]
      have hW2 : Hid (R 6 = W) := by rw [Hid, ← hW.out, ei]
      clear hW hz ei
      have cl := (hB.cell (p := ⟨0, 6, none⟩) lt).trans l6
      have cm := (hB.cell (p := ⟨1, 6, none⟩) mt).trans m6
      clear l0 m0 l1 m1 l2 m2 l3 m3 l4 m4 l5 m5 l6 m6
      rcases Int.lt_or_le d 0 with g | g
      · have hF : Hid (false = W) := by rw [Hid, ← hW2.out, H6.out, inB_lo g]; rfl
        go_wp2
        go_ret
        exact ⟨ret_b hF.out, hB⟩
      · have g' : decide (d < 0) = false := decide_eq_false (by omega)
        rcases Int.lt_or_le 1125899906842624 d with h | h
        · have hF : Hid (false = W) := by rw [Hid, ← hW2.out, H6.out, inB_hi h]; rfl
          go_wp2
          go_ret
          exact ⟨ret_b hF.out, hB⟩
        · have h' : decide (1125899906842624 < d) = false := decide_eq_false (by omega)
          have hN : Hid (R 7 = W) := by rw [Hid, ← hW2.out, H6.out, inB_in g h]; rfl
          clear g h
          go_wp2
          go_roundw
          case rel => exact ⟨7, by omega, by go_num, hN.out, hB⟩
          case measure => simp [intOf]
    · have hF : Hid (true = W) := by rw [Hid, ← hW.out, ei, HR7.out]
      go_wp2
      go_ret
      exact ⟨ret_b hF.out, hB⟩
end Go.Proofs.YtedncmbamjkacaaDoor

/- Right: what it answers of every record. -/
namespace Go.Proofs.YtedncmbamjkacaaDoor
open Go.RowKit
set_option linter.unusedVariables false

set_option maxRecDepth 100000 in
set_option maxHeartbeats 1600000 in
theorem enright_any (e : EntP) (w : World) (hm : e.m.size ≤ maxLen) (ht : e.t.size ≤ maxLen) (hL : LmT w) : Calls Tryd.prog 7 #[.agg (entV e)] w fun r w' => r = .returned (.bool (rightE e)) ∧ Below w.heap.size w w' := by
  have HN : Hid (∀ W, Calls Tryd.prog 17 #[.agg (entV e)] W fun r w' => r = .returned (.agg (arrV e)) ∧ Below W.heap.size W w') := fun W => ennums_any e W
  have HW : Hid (∀ W, Below w.heap.size w W → Calls Tryd.prog 18 #[.agg (arrV e)] W fun r w' => r = .returned (.bool (withinP e)) ∧ Below W.heap.size W w') := fun W hW => enwithin_any e W (hL.below hW)
  have HT : Hid (∀ W, Calls Tryd.prog 19 #[.string e.m] W fun r w' => r = .returned (.bool (tokS e.m)) ∧ Below W.heap.size W w') := fun W => token_any e.m W hm
  have HG : Hid (∀ W, Calls Tryd.prog 20 #[.string e.t] W fun r w' => r = .returned (.bool (tgtP e.t)) ∧ Below W.heap.size W w') := fun W => starget_any e.t W ht
  have HR : Hid (rightE e = (withinP e && (decide (e.m.size ≤ 20) && (tokS e.m && (decide (e.t.size ≤ 512) && tgtP e.t))))) := rfl
  generalize rightE e = R at *
  generalize withinP e = b0 at *
  generalize tokS e.m = b1 at *
  generalize tgtP e.t = b2 at *
  have BA : Below w.heap.size w (w.alloc (.cells (entV e) 23)) := (Below.refl _ _).alloc (Nat.le_refl _) _
  have NA := tblk_new w (.cells (entV e) 23)
  have sA : (w.alloc (.cells (entV e) 23)).heap.size = w.heap.size + 1 := by simp
  obtain ⟨A, hA⟩ : ∃ A, A = entV e := ⟨_, rfl⟩
  obtain ⟨q, a, k, n, m, t, c, u, d⟩ := e
  unfold entV at *
  simp only at *
  unfold maxLen at hm ht
  clear hL hA
  generalize hAr : arrV ⟨q, a, k, n, m, t, c, u, d⟩ = AR at *
  clear hAr
  go_enter Tryd.func7, Tryd.ntmps7
  go_wp2_with fail
  refine (HN.out _).mono ?_
  rintro r w1 ⟨rfl, B1⟩
  have D1 := BA.trans (B1.mono BA.size)
  have N1 := tblk_below NA B1
  go_wp2_with fail
  refine (HW.out _ D1).mono ?_
  rintro r w2 ⟨rfl, B2⟩
  have D2 := D1.trans (B2.mono D1.size)
  have N2 := tblk_below N1 B2
  clear NA N1 B1 B2 BA HN HW D1
  have c4 : w2.cell? ⟨w.heap.size, 4, none⟩ = some (.string m) := tblk_cell N2 rfl
  have c5 : w2.cell? ⟨w.heap.size, 5, none⟩ = some (.string t) := tblk_cell N2 rfl
  cases b0 with
  | false =>
    have hF : Hid (false = R) := by rw [Hid, HR.out]; rfl
    go_wp2
    go_ret
    exact ⟨ret_b hF.out, D2⟩
  | true =>
    rcases Nat.lt_or_ge 20 m.size with h | h
    · have hF : Hid (false = R) := by rw [Hid, HR.out, decide_eq_false (by omega)]; rfl
      have h' : decide ((m.size : Int) ≤ 20) = false := decide_eq_false (by omega)
      clear h
      go_wp2
      go_ret
      exact ⟨ret_b hF.out, D2⟩
    · have h' : decide ((m.size : Int) ≤ 20) = true := decide_eq_true (by omega)
      have h2 : Hid (R = (b1 && (decide (t.size ≤ 512) && b2))) := by rw [Hid, HR.out, decide_eq_true h]; rfl
      clear h HR
      go_wp2_with fail
      refine (HT.out _).mono ?_
      rintro r w3 ⟨rfl, B3⟩
      have D3 := D2.trans (B3.mono D2.size)
      have N3 := tblk_below N2 B3
      have c53 : w3.cell? ⟨w.heap.size, 5, none⟩ = some (.string t) := tblk_cell N3 rfl
      clear N2 B3 D2 c4 c5
      cases b1 with
      | false =>
        have hF : Hid (false = R) := by rw [Hid, h2.out]; rfl
        go_wp2
        go_ret
        exact ⟨ret_b hF.out, D3⟩
      | true =>
        rcases Nat.lt_or_ge 512 t.size with g | g
        · have hF : Hid (false = R) := by rw [Hid, h2.out, decide_eq_false (by omega)]; rfl
          have g' : decide ((t.size : Int) ≤ 512) = false := decide_eq_false (by omega)
          clear g
          go_wp2
          go_ret
          exact ⟨ret_b hF.out, D3⟩
        · have g' : decide ((t.size : Int) ≤ 512) = true := decide_eq_true (by omega)
          have hF : Hid (b2 = R) := by rw [Hid, h2.out, decide_eq_true g]; rfl
          clear g h2
          go_wp2_with fail
          refine (HG.out _).mono ?_
          rintro r w4 ⟨rfl, B4⟩
          have D4 := D3.trans (B4.mono D3.size)
          go_wp2
          go_ret
          exact ⟨ret_b hF.out, D4⟩
end Go.Proofs.YtedncmbamjkacaaDoor

/- Bytes in memory: slices that are read, rows that grow, texts made of bytes; arguments that are lists of bytes. -/
namespace Go.Proofs.YtedncmbamjkacaaDoor
open Go.ChangeShapes Go.WideShapes Go.ChangeAt Go.RowKit
set_option linter.unusedVariables false

/-- Blocks outside T stay; new ones may come. -/
structure Kp (T : Nat → Prop) (w w' : World) : Prop where
  os : w'.os = w.os
  tape : w'.tape = w.tape
  output : w'.output = w.output
  size : w.heap.size ≤ w'.heap.size
  block : ∀ k, k < w.heap.size → ¬ T k → w'.heap[k]? = w.heap[k]?
theorem Kp.refl (T : Nat → Prop) (w : World) : Kp T w w := ⟨rfl, rfl, rfl, Nat.le_refl _, fun _ _ _ => rfl⟩
theorem Kp.trans {T T' : Nat → Prop} {u v w : World} (h : Kp T u v) (k : Kp T' v w) (ht : ∀ i, T' i → T i ∨ u.heap.size ≤ i) : Kp T u w :=
  ⟨k.os.trans h.os, k.tape.trans h.tape, k.output.trans h.output, Nat.le_trans h.size k.size, fun i hi hn =>
    (k.block i (Nat.lt_of_lt_of_le hi h.size) (fun c => by rcases ht i c with c | c; exact hn c; omega)).trans (h.block i hi hn)⟩
theorem Kp.mono {T T' : Nat → Prop} {u v : World} (h : Kp T u v) (ht : ∀ i, T i → T' i) : Kp T' u v :=
  ⟨h.os, h.tape, h.output, h.size, fun i hi hn => h.block i hi (fun c => hn (ht i c))⟩
theorem Kp.then {T : Nat → Prop} {u v w : World} (h : Kp T u v) (k : Kp T v w) : Kp T u w := h.trans k (fun _ c => .inl c)
theorem Kp.ofBelow {T : Nat → Prop} {u v : World} (h : Below u.heap.size u v) : Kp T u v :=
  ⟨h.os, h.tape, h.output, h.size, fun i hi _ => h.block i hi⟩
theorem Kp.alloc (T : Nat → Prop) (w : World) (o : Obj) : Kp T w (w.alloc o) := Kp.ofBelow ((Below.refl _ _).alloc (Nat.le_refl _) _)
theorem Kp.below {T : Nat → Prop} {B : Nat} {u v : World} (h : Kp T u v) (hB : B ≤ u.heap.size) (ht : ∀ k, k < B → ¬ T k) : Below B u v :=
  ⟨h.os, h.tape, h.output, h.size, fun k hk => h.block k (Nat.lt_of_lt_of_le hk hB) (ht k hk)⟩
theorem slice_inj {a a' : Option Addr} {n n' c c' : Nat} (h : Value.slice a n c = Value.slice a' n' c') : a = a' ∧ n = n' ∧ c = c' := by cases h; exact ⟨rfl, rfl, rfl⟩
theorem heap_lt {w : World} {b : Nat} {o : Obj} (h : w.heap[b]? = some o) : b < w.heap.size := (Array.getElem?_eq_some_iff.1 h).1
theorem Kp.at {T : Nat → Prop} {c : Nat} {w w' : World} (h : Kp T w w') (hc : ¬ T c) {o : Obj} (k : w.heap[c]? = some o) : w'.heap[c]? = some o :=
  (h.block c (heap_lt k) hc).trans k

def bv (b : UInt8) : Value := .int .u8 (b.toNat : Int)
theorem ring_cell {w : World} {b i : Nat} {c : Array Value} {t : TypeId} {v : Value} (h : w.heap[b]? = some (.cells c t)) (hv : c[i]? = some v) : w.cell? ⟨b, i, none⟩ = some v := by
  simp [World.cell?, h, hv]
theorem ring_z {w : World} {b i : Nat} {c : Array Value} {t : TypeId} (h : w.heap[b]? = some (.cells c t)) : w.frozen? ⟨b, i, none⟩ = false := by
  simp [World.frozen?, h]
theorem ring_set {w : World} {b i : Nat} {c : Array Value} {t : TypeId} {v : Value} (h : w.heap[b]? = some (.cells c t)) : (w.setCell ⟨b, i, none⟩ v).heap[b]? = some (.cells (c.setIfInBounds i v) t) := by
  simp [World.setCell, Array.getElem?_modify, h]
theorem new_at (w : World) (o : Obj) : (w.alloc o).heap[w.heap.size]? = some o := by
  show (w.heap.push o)[w.heap.size]? = _; simp
theorem addr_add (b o i : Nat) : (⟨b, o, none⟩ : Addr).add i = ⟨b, o + i, none⟩ := by unfold Addr.add; split <;> simp_all
/-- A slice of bytes, lying in block k if it has any. -/
def Src (w : World) (k : Nat) (v : Value) (b : List UInt8) : Prop := ∃ a c, v = .slice a b.length c ∧ b.length ≤ c ∧ c ≤ maxLen ∧ (0 < b.length → ∃ off, a = some ⟨k, off, none⟩ ∧ ∀ (j : Nat) (hj : j < b.length), w.cell? ⟨k, off + j, none⟩ = some (bv b[j]))
theorem Src.frame {w w' : World} {k : Nat} {v : Value} {b : List UInt8} (h : Src w k v b) (hk : w'.heap[k]? = w.heap[k]?) : Src w' k v b := by
  obtain ⟨a, c, e, h1, h2, h3⟩ := h
  refine ⟨a, c, e, h1, h2, fun hp => ?_⟩
  obtain ⟨off, ea, hc⟩ := h3 hp
  refine ⟨off, ea, fun j hj => ?_⟩
  rw [← hc j hj]
  simp [World.cell?, hk]

theorem bvs_one (l : List UInt8) : ∀ v ∈ l.map bv, v.oneCell' = true := by
  intro v hv
  obtain ⟨b, _, rfl⟩ := List.mem_map.1 hv
  rfl
theorem infoB : (Tryd.prog.info? 5).map (·.size) = some 1 := by kernel_rfl
def lenOf (v : Value) : Nat := match v with | .slice _ n _ => n | _ => 0
theorem Src.rest {w : World} {k off c : Nat} {b : List UInt8} (n : Nat) (hn : n ≤ b.length) (h1 : b.length ≤ c) (h2 : c ≤ maxLen) (h3 : ∀ (j : Nat) (hj : j < b.length), w.cell? ⟨k, off + j, none⟩ = some (bv b[j])) (a : Option Addr) (ha : n < b.length → a = some ⟨k, off + n, none⟩) :
    Src w k (.slice a (b.length - n) (c - n)) (b.drop n) := by
  refine ⟨a, c - n, by rw [List.length_drop], by rw [List.length_drop]; omega, by omega, fun hp => ?_⟩
  rw [List.length_drop] at hp
  refine ⟨off + n, ha (by omega), fun j hj => ?_⟩
  rw [List.length_drop] at hj
  rw [List.getElem_drop, Nat.add_assoc]
  exact h3 (n + j) (by omega)

/-- A row of bytes. -/
def rowB (l : List UInt8) : List Value := l.map bv
theorem infoB3 : (Tryd.prog.info? 5).map (fun i => (i.zero, i.size, i.bytes)) = some (some (.int .u8 0), 1, 1) := by kernel_rfl
theorem made_zero (n : Nat) : madeCells (Value.int .u8 0).cells n = (rowB (List.replicate n 0)).toArray := by
  unfold madeCells rowB
  apply Array.toList_inj.1
  apply List.ext_getElem?
  intro i
  rcases Nat.lt_or_ge i n with h | h
  · simp [h, Value.cells, bv, Nat.mod_one]
  · rw [List.getElem?_eq_none (by simpa using h), List.getElem?_eq_none (by simpa using h)]
theorem make_bytes (w : World) (n : Nat) (h : n ≤ 281474976710656) : (Instr.makeSlice 25 (.int .i64 (n : Int)) (.int .i64 (n : Int))).run Tryd.prog w = .ok (.slice (some ⟨w.heap.size, 0, none⟩) n n) (w.alloc (.cells (rowB (List.replicate n 0)).toArray 5)) := by
  obtain ⟨i, hi, hz0, hz1, hz2⟩ := info_parts infoB3
  have k := run_make (P := Tryd.prog) w 25 5 i (.int .u8 0) Tryd.underlying25 hi hz0 .i64 .i64 n n (by omega) (by omega) (by rw [hz2]; omega) (by omega)
  rw [Int.toNat_natCast, hz1, Nat.mul_one, made_zero] at k
  exact k
theorem rowB_length (l : List UInt8) : (rowB l).length = l.length := by simp [rowB]
theorem rowB_take (l : List UInt8) (k : Nat) : (rowB l).take k = rowB (l.take k) := by simp [rowB, List.map_take]
theorem rowB_drop (l : List UInt8) (k : Nat) : (rowB l).drop k = rowB (l.drop k) := by simp [rowB, List.map_drop]
theorem rowB_app (l k : List UInt8) : rowB (l ++ k) = rowB l ++ rowB k := by simp [rowB]

/-- A row of bytes in a block of its own is a slice. -/
theorem src_row {w : World} {g n : Nat} {l : List UInt8} (h : w.heap[g]? = some (.cells (rowB l).toArray 5)) (hl : l.length = n) (hm : n ≤ maxLen) : Src w g (.slice (some ⟨g, 0, none⟩) n n) l := by
  subst hl
  refine ⟨_, _, rfl, Nat.le_refl _, hm, fun _ => ⟨0, rfl, fun j hj => ?_⟩⟩
  refine ring_cell h ?_
  rw [Nat.zero_add, List.getElem?_toArray]
  unfold rowB
  rw [List.getElem?_map, List.getElem?_eq_getElem hj]; rfl
theorem Src.below {w w' : World} {k : Nat} {v : Value} {b : List UInt8} (h : Src w k v b) (hk : k < w.heap.size) (hB : Below w.heap.size w w') : Src w' k v b := h.frame (hB.block k hk)
/-- Bytes made of a text. -/
theorem conv_src (w : World) (s : ByteArray) (hs : s.size ≤ maxLen) : ∃ v w1, (convert 9 25 (.string s)).run Tryd.prog w = .ok v w1 ∧ Src w1 w.heap.size v s.data.toList ∧ Below w.heap.size w w1 ∧ w.heap.size < w1.heap.size := by
  refine ⟨_, _, run_bytes_of_string w 9 25 5 s Tryd.underlying9 Tryd.underlying25 Tryd.underlying5, ?_, ?_, ?_⟩
  · refine ⟨_, _, rfl, grownCap_ge _ _ _ _, grownCap_le_maxLen _ _ _ _ hs, fun _ => ⟨0, rfl, fun j hj => ?_⟩⟩
    have hb := new_at w.drew (.cells (bytesRow s (grownCap w s.size 0 5)) 5 ((bytesRow s (grownCap w s.size 0 5)).size, (bytesRow s (grownCap w s.size 0 5)).size + 1))
    have hsz : w.drew.heap.size = w.heap.size := rfl
    rw [hsz] at hb
    have e : (bytesRow s (grownCap w s.size 0 5))[j]? = some (bv s.data.toList[j]) := by
      unfold bytesRow
      have hj' : j < s.data.size := by simpa using hj
      rw [Array.getElem?_append_left (by simpa using hj'), Array.getElem?_map, Array.getElem?_eq_getElem hj']
      rfl
    unfold World.cell?
    rw [hb]
    show (bytesRow s (grownCap w s.size 0 5))[0 + j]? = _
    rw [Nat.zero_add, e]
  · exact ((Below.refl _ _).drew).alloc (Nat.le_refl _) _
  · simp
theorem conv_back {w : World} {k : Nat} {a : Option Addr} {n c : Nat} {b : List UInt8} (h : Src w k (.slice a n c) b) (hp : 0 < n) : (convert 25 9 (.slice a n c)).run Tryd.prog w = .ok (.string ⟨b.toArray⟩) w := by
  obtain ⟨a', c', e, h1, h2, h3⟩ := h
  obtain ⟨e1, e2, e3⟩ := slice_inj e
  subst e1 e2 e3
  obtain ⟨off, rfl, hc⟩ := h3 hp
  exact run_convert_bytes_back (P := Tryd.prog) w 25 9 5 ⟨k, off, none⟩ c b Tryd.underlying25 Tryd.underlying5 Tryd.underlying9 (fun j hj => by rw [addr_add]; exact hc j hj)

theorem conv_same (w : World) (C : Array Value) (n c : Nat) : (convert 25 25 (.slice (some ⟨w.heap.size, 0, none⟩) n c)).run Tryd.prog (w.alloc (.cells C 5)) = .ok (.slice (some ⟨w.heap.size, 0, none⟩) n c) (w.alloc (.cells C 5 (C.size, C.size + 1))) :=
  Lib.run_convert_bytes_const w 25 5 C n c Tryd.underlying25 Tryd.underlying5
theorem lit_src (w : World) (l : List UInt8) (n : Nat) (row : Array Value) (fz : Nat × Nat) (hl : l.length = n) (hm : n ≤ maxLen) (hr : (rowB l).toArray = row) : Src (w.alloc (.cells row 5 fz)) w.heap.size (.slice (some ⟨w.heap.size, 0, none⟩) n n) l := by
  subst hr hl
  refine ⟨_, _, rfl, Nat.le_refl _, hm, fun _ => ⟨0, rfl, fun j hj => ?_⟩⟩
  have h := new_at w (.cells (rowB l).toArray 5 fz)
  have e : (rowB l).toArray[0 + j]? = some (bv l[j]) := by
    rw [Nat.zero_add, List.getElem?_toArray]
    unfold rowB
    rw [List.getElem?_map, List.getElem?_eq_getElem hj]; rfl
  unfold World.cell?
  rw [h]
  exact e

/-- The bytes X, in block g, which the walk itself has made. -/
def Acc (w : World) (g : Nat) (v : Value) (X : List UInt8) : Prop := v.ownBlock = some g ∧ w.ownsRow 0 5 1 v X.length (rowB X)
theorem Acc.form {w : World} {g : Nat} {v : Value} {X : List UInt8} (h : Acc w g v X) : ∃ c, v = .slice (some ⟨g, 0, none⟩) X.length c := by
  obtain ⟨h1, h2, h3 | ⟨g', c, cur, hv, _⟩⟩ := h
  · rw [h3.1] at h1; cases h1
  · rw [hv] at h1
    have : g' = g := by simpa [Value.ownBlock] using h1
    subst this
    exact ⟨c, hv⟩
theorem Acc.src {w : World} {g : Nat} {v : Value} {X : List UInt8} (h : Acc w g v X) : Src w g v X := by
  obtain ⟨c, hv⟩ := h.form
  obtain ⟨h1, h2⟩ := h
  have h3 := h2
  obtain ⟨h4, h5 | ⟨g', c', cur, hv', _, hg, hl, hm, hs, ht⟩⟩ := h2
  · rw [hv] at h5; cases h5.1
  · rw [hv] at hv'
    obtain ⟨e1, e2, e3⟩ := slice_inj hv'
    have eg : g = g' := by simpa using e1
    subst e3
    refine ⟨_, _, hv, hl, hm, fun _ => ⟨0, rfl, fun j hj => ?_⟩⟩
    have k := (hv ▸ h3 : w.ownsRow 0 5 1 (.slice (some ⟨g, 0, none⟩) X.length c) X.length (rowB X)).cellAt j (by omega)
    rw [Nat.zero_add, k]
    unfold rowB
    rw [List.getElem?_map, List.getElem?_eq_getElem hj]; rfl
theorem Acc.lt {w : World} {g : Nat} {v : Value} {X : List UInt8} (h : Acc w g v X) : g < w.heap.size := by
  obtain ⟨h1, h2, h3 | ⟨g', c, cur, hv, _, hg, _⟩⟩ := h
  · rw [h3.1] at h1; cases h1
  · rw [hv] at h1
    have : g' = g := by simpa [Value.ownBlock] using h1
    subst this
    exact heap_lt hg
theorem Acc.frame {w w' : World} {g : Nat} {v : Value} {X : List UInt8} (h : Acc w g v X) (hk : w'.heap[g]? = w.heap[g]?) : Acc w' g v X := by
  obtain ⟨h1, h2, h3 | ⟨g', c, cur, hv, hb, hg, r⟩⟩ := h
  · rw [h3.1] at h1; cases h1
  · have hg' := h1
    rw [hv] at hg'
    have : g' = g := by simpa [Value.ownBlock] using hg'
    subst this
    exact ⟨h1, h2, .inr ⟨g', c, cur, hv, hb, hk.trans hg, r⟩⟩
theorem Acc.empty (w : World) : Acc (w.alloc (.cells #[] 5)) w.heap.size (.slice (some ⟨w.heap.size, 0, none⟩) 0 0) [] :=
  ⟨rfl, rfl, .inr ⟨w.heap.size, 0, #[], rfl, Nat.zero_le _, new_at _ _, Nat.le_refl _, by decide, rfl, rfl⟩⟩
/-- Bytes appended. -/
theorem acc_append {w : World} {g k : Nat} {v : Value} {X Y : List UInt8} {a : Option Addr} {n c : Nat} (h : Acc w g v X) (hs : Src w k (.slice a n c) Y) (hnil : a = none → c = 0) (hmax : X.length + Y.length ≤ 140737488355328) :
    ∃ v' w' g', (Builtin.append_ #[25, 25] 25 #[v, .slice a n c]).run Tryd.prog w = .ok v' w' ∧ Acc w' g' v' (X ++ Y) ∧ (g' = g ∨ (w.heap.size ≤ g' ∧ g' < w'.heap.size)) ∧ Kp (fun k => k = g) w w' := by
  obtain ⟨i, hi, hz0, hz1, hz2⟩ := info_parts infoB3
  obtain ⟨a', c', e, h1, h2, h3⟩ := hs
  obtain ⟨e1, e2, e3⟩ := slice_inj e
  subst e1 e2 e3
  have hmx : X.length + Y.length ≤ maxLen := by unfold maxLen; omega
  cases a with
  | none =>
    have hc := hnil rfl
    have hy : Y = [] := by
      rcases Nat.eq_zero_or_pos Y.length with q | q
      · exact List.eq_nil_of_length_eq_zero q
      · obtain ⟨_, q, _⟩ := h3 q; cases q
    subst hy hc
    refine ⟨v, w, g, run_append_owned_none w 0 25 25 5 i 1 Tryd.underlying25 hi v _ _ h.2, by rw [List.append_nil]; exact h, .inl rfl, Kp.refl _ _⟩
  | some ad =>
    obtain ⟨v', w', hr, q1, q2, q3, q4⟩ := run_append_own_at (P := Tryd.prog) w 0 25 25 5 i (.int .u8 0) 1 1 Tryd.underlying25 hi hz0 hz1 hz2 rfl (by decide) v X.length (rowB X) h.2 ad Y.length c (rowB Y) (by rw [rowB_length]; omega)
      (fun j u hj => by
        unfold rowB at hj
        rw [List.getElem?_map] at hj
        obtain ⟨x, hx, rfl⟩ := Option.map_eq_some_iff.1 hj
        have hjl := (List.getElem?_eq_some_iff.1 hx).1
        obtain ⟨off, ha, hc⟩ := h3 (by omega)
        have : ad = ⟨k, off, none⟩ := by simpa using ha
        subst this
        rw [addr_add, hc j hjl, (List.getElem?_eq_some_iff.1 hx).2]) (bvs_one _) hmx (by omega) (Nat.zero_le _)
    have hk : Kp (fun k => k = g) w w' := ⟨q2.os, q2.tape, q2.output, q2.size, fun j hj hn => q2.block j hj (fun c => hn (by rw [h.1] at c; exact Option.some.inj c))⟩
    have hrow : w'.ownsRow 0 5 1 v' (X ++ Y).length (rowB (X ++ Y)) := by rw [List.length_append, rowB_app]; exact q1
    rcases q4 with q4 | q4
    · exact ⟨v', w', g, hr, ⟨q4.trans h.1, hrow⟩, .inl rfl, hk⟩
    · exact ⟨v', w', w.heap.size, hr, ⟨q4, hrow⟩, .inr ⟨Nat.le_refl _, Acc.lt ⟨q4, hrow⟩⟩, hk⟩
theorem Src.take {w : World} {k n m c : Nat} {a : Option Addr} {b : List UInt8} (h : Src w k (.slice a n c) b) (hm : m ≤ b.length) : Src w k (.slice a m c) (b.take m) := by
  obtain ⟨a', c', e, h1, h2, h3⟩ := h
  obtain ⟨e1, e2, e3⟩ := slice_inj e
  subst e1 e2 e3
  have hl : (b.take m).length = m := by rw [List.length_take]; omega
  refine ⟨a, c, by rw [hl], by omega, h2, fun hp => ?_⟩
  obtain ⟨off, ha, hc⟩ := h3 (by omega)
  exact ⟨off, ha, fun j hj => by rw [List.getElem_take]; exact hc j (by omega)⟩
theorem Src.cut {w : World} {k n m c : Nat} {a a' : Option Addr} {b : List UInt8} (h : Src w k (.slice a n c) b) (hm : m ≤ b.length) (ha' : m < c → a' = a.map (fun x => x.add m)) : Src w k (.slice a' (n - m) (c - m)) (b.drop m) := by
  obtain ⟨a0, c', e, h1, h2, h3⟩ := h
  obtain ⟨e1, e2, e3⟩ := slice_inj e
  subst e1 e2 e3
  refine ⟨a', c - m, by rw [List.length_drop], by rw [List.length_drop]; omega, by omega, fun hp => ?_⟩
  rw [List.length_drop] at hp
  obtain ⟨off, ha, hc⟩ := h3 (by omega)
  refine ⟨off + m, by rw [ha' (by omega), ha]; simp [addr_add], fun j hj => ?_⟩
  rw [List.length_drop] at hj
  rw [List.getElem_drop, Nat.add_assoc]
  exact hc (m + j) (by omega)
/-- An empty slice lies wherever one says. -/
theorem Src.any {w : World} {k g B : Nat} {v : Value} {b : List UInt8} (h : Src w k v b) (hk : 0 < b.length → k < B) : ∃ k', (k' < B ∨ k' = g) ∧ Src w k' v b := by
  rcases Nat.eq_zero_or_pos b.length with c | c
  · obtain ⟨a, c', e, h1, h2, h3⟩ := h
    exact ⟨g, .inr rfl, a, c', e, h1, h2, fun q => by omega⟩
  · exact ⟨k, .inl (hk c), h⟩
theorem wpList_append_run {P : Program} {w : World} {ops : Array Oper} {rest : List Oper} {o : Oper} {a : Act} {Q : Exit → Act → World → Prop} (hgd : o.guard = none) (s x : Operand) (t : TypeId)
    (ho : o.op = .call { callee := .builtin .append, args := #[s, x], argTypes := #[t, t] }) (vs vx v' : Value) (w' : World) (hs : a.eval s = vs) (hx : a.eval x = vx) (hr : (Builtin.append_ #[t, t] o.type #[vs, vx]).run P w = .ok v' w')
    (h : wpList P ops Q rest (a.put o.dst v') w') : wpList P ops Q (o :: rest) a w := by
  refine wpList_plain hgd fun K hK => ?_
  unfold Oper.wp execOp
  simp only [ho, resolve, invoke, builtin, Sem.run_bind, Sem.run_pure, Result.andThen_ok, List.map_toArray, List.map_cons, List.map_nil, hs, hx, hr]
  exact hK _ _ h
theorem and_mask (n : Int) (m : Nat) (hm : m < 9223372036854775808) : ∃ k : Nat, k ≤ m ∧ bits .and .i64 n (m : Int) = (k : Int) := by
  have h2 : (BitVec.ofInt 64 (m : Int)).toNat = m := by
    rw [BitVec.ofInt_natCast, BitVec.toNat_ofNat]; exact Nat.mod_eq_of_lt (by omega)
  have hk : (BitVec.ofInt 64 n &&& BitVec.ofInt 64 (m : Int)).toNat ≤ m := by
    rw [BitVec.toNat_and, h2]; exact Nat.and_le_right
  refine ⟨(BitVec.ofInt 64 n &&& BitVec.ofInt 64 (m : Int)).toNat, hk, ?_⟩
  show IntKind.i64.wrap ((BitVec.ofInt 64 n &&& BitVec.ofInt 64 (m : Int)).toNat : Int) = _
  rw [IntKind.wrap_i64]
  generalize (BitVec.ofInt 64 n &&& BitVec.ofInt 64 (m : Int)).toNat = k at *
  omega
theorem cell_lt {w : World} {x : Addr} {v : Value} (h : w.cell? x = some v) : x.block < w.heap.size := by
  unfold World.cell? at h
  rcases Nat.lt_or_ge x.block w.heap.size with c | c
  · exact c
  · simp [Array.getElem?_eq_none c] at h
theorem open_bytes {H : Type} {enc : TypeId × Value → H} {w : World} {base : Nat} {held : Bool} {a : Option Addr} {len cap : Nat} {x : DataW H × List MemPlace}
    (h : ∃ fuel, DataW.trod enc Tryd.prog w base (fun _ => true) held fuel 25 (Value.slice a len cap).cells.toList = some x) : ∃ kb b, Src w kb (.slice a len cap) b ∧ (0 < b.length → kb < w.heap.size) ∧ (a = none → cap = 0) := by
  obtain ⟨fuel, hf⟩ := h
  rcases open_ints Tryd.underlying25 Tryd.underlying5 (by kernel_rfl) hf with ⟨hcs, _⟩ | ⟨x, l, c, zs, hcs, _, hl, hm, hz, _, hcell, hwz⟩
  · simp [Value.cells] at hcs
    obtain ⟨rfl, rfl, rfl⟩ := hcs
    exact ⟨0, [], ⟨none, 0, rfl, Nat.le_refl _, Nat.zero_le _, fun h => absurd h (Nat.lt_irrefl _)⟩, fun h => absurd h (Nat.lt_irrefl _), fun _ => rfl⟩
  · simp [Value.cells] at hcs
    obtain ⟨rfl, rfl, rfl⟩ := hcs
    have hz' : zs.length = cap := by simpa using hz
    have hbl : ((zs.take len).map fun z => z.toNat.toUInt8).length = len := by rw [List.length_map, List.length_take]; omega
    rcases Nat.eq_zero_or_pos len with h0 | h0
    · subst h0
      exact ⟨0, [], ⟨some x, cap, rfl, Nat.zero_le _, hm, fun h => absurd h (Nat.lt_irrefl _)⟩, fun h => absurd h (Nat.lt_irrefl _), fun h => by cases h⟩
    · obtain ⟨b, off, rfl, hc⟩ := ints_at hcell (by omega)
      refine ⟨b, (zs.take len).map fun z => z.toNat.toUInt8, ⟨_, cap, by rw [hbl], by rw [hbl]; exact hl, hm, fun _ => ⟨off, rfl, fun j hj => ?_⟩⟩, fun _ => cell_lt (hc 0 (by omega)), fun h => by cases h⟩
      have hj' : j < len := by rw [hbl] at hj; exact hj
      rw [hc j (by omega)]
      have hg : zs.getD j 0 = zs[j]'(by omega) := by simp [List.getD, List.getElem?_eq_getElem (show j < zs.length by omega)]
      have hb := bounds_u8 (hwz _ (List.getElem_mem (show j < zs.length by omega)))
      rw [hg, List.getElem_map, List.getElem_take]
      unfold bv
      generalize zs[j]'(by omega) = z at hb
      have e : (z.toNat.toUInt8.toNat : Int) = z := by
        have : z.toNat.toUInt8.toNat = z.toNat := by simp; omega
        rw [this]; omega
      rw [e]
end Go.Proofs.YtedncmbamjkacaaDoor

/- A row of bytes that grows in memory of the walk's own. -/
namespace Go.Proofs.YtedncmbamjkacaaDoor
open Go.ChangeShapes Go.WideShapes Go.ChangeAt Go.RowKit
set_option linter.unusedVariables false

/-- The bytes X, in a block from B on. -/
def Own (B : Nat) (w : World) (v : Value) (X : List UInt8) : Prop := w.ownsRow B 5 1 v X.length (rowB X)
theorem Own.form {B : Nat} {w : World} {v : Value} {X : List UInt8} (h : Own B w v X) : ∃ a c, v = .slice a X.length c ∧ (a = none → c = 0) := by
  obtain ⟨h1, ⟨h2, h3⟩ | ⟨g, c, cur, hv, _⟩⟩ := h
  · exact ⟨none, 0, by rw [h2, h3], fun _ => rfl⟩
  · exact ⟨_, c, hv, fun e => by cases e⟩
theorem Own.src {B : Nat} {w : World} {v : Value} {X : List UInt8} (h : Own B w v X) : ∃ k, Src w k v X ∧ (0 < X.length → B ≤ k ∧ k < w.heap.size) := by
  have h0 := h
  obtain ⟨h1, ⟨h2, h3⟩ | ⟨g, c, cur, hv, hB, hg, hl, hm, hs, ht⟩⟩ := h
  · refine ⟨0, ⟨none, 0, by rw [h2, h3], by omega, Nat.zero_le _, fun q => by omega⟩, fun q => by omega⟩
  · refine ⟨g, ⟨_, c, hv, hl, hm, fun _ => ⟨0, rfl, fun j hj => ?_⟩⟩, fun _ => ⟨hB, heap_lt hg⟩⟩
    have k := (hv ▸ h0 : w.ownsRow B 5 1 (.slice (some ⟨g, 0, none⟩) X.length c) X.length (rowB X)).cellAt j (by omega)
    rw [Nat.zero_add, k]
    unfold rowB
    rw [List.getElem?_map, List.getElem?_eq_getElem hj]; rfl
theorem Own.keep {B : Nat} {w w' : World} {v : Value} {X : List UInt8} (h : Own B w v X) (b : Below w.heap.size w w') : Own B w' v X := by
  obtain ⟨h1, h2⟩ := h
  refine ⟨h1, ?_⟩
  rcases h2 with h2 | ⟨g, cap, cur, hv, hg, hh, r⟩
  · exact .inl h2
  · exact .inr ⟨g, cap, cur, hv, hg, (b.block g (Array.getElem?_eq_some_iff.1 hh).1).trans hh, r⟩
theorem Own.mono {B C : Nat} {w : World} {v : Value} {X : List UInt8} (h : Own B w v X) (hC : C ≤ B) : Own C w v X := by
  obtain ⟨h1, h2⟩ := h
  refine ⟨h1, ?_⟩
  rcases h2 with h2 | ⟨g, cap, cur, hv, hg, r⟩
  · exact .inl h2
  · exact .inr ⟨g, cap, cur, hv, Nat.le_trans hC hg, r⟩
theorem Own.empty (B : Nat) (w : World) (hB : B ≤ w.heap.size) : Own B (w.alloc (.cells #[] 5)) (.slice (some ⟨w.heap.size, 0, none⟩) 0 0) [] :=
  ⟨rfl, .inr ⟨w.heap.size, 0, #[], rfl, hB, new_at _ _, Nat.le_refl _, by decide, rfl, rfl⟩⟩
theorem Own.nil (B : Nat) (w : World) : Own B w (.slice none 0 0) [] := World.ownsRow_nil _ _ _ _
/-- Bytes appended. -/
theorem own_append {B : Nat} {w : World} {k : Nat} {v : Value} {X Y : List UInt8} {a : Option Addr} {n c : Nat} (h : Own B w v X) (hs : Src w k (.slice a n c) Y) (hnil : a = none → c = 0) (hmax : X.length + Y.length ≤ 140737488355328) (hB : B ≤ w.heap.size) :
    ∃ v' w', (Builtin.append_ #[25, 25] 25 #[v, .slice a n c]).run Tryd.prog w = .ok v' w' ∧ Own B w' v' (X ++ Y) ∧ Below B w w' := by
  obtain ⟨i, hi, hz0, hz1, hz2⟩ := info_parts infoB3
  obtain ⟨a', c', e, h1, h2, h3⟩ := hs
  obtain ⟨e1, e2, e3⟩ := slice_inj e
  subst e1 e2 e3
  have hmx : X.length + Y.length ≤ maxLen := by unfold maxLen; omega
  cases a with
  | none =>
    have hc := hnil rfl
    have hy : Y = [] := by
      rcases Nat.eq_zero_or_pos Y.length with q | q
      · exact List.eq_nil_of_length_eq_zero q
      · obtain ⟨_, q, _⟩ := h3 q; cases q
    subst hy hc
    exact ⟨v, w, run_append_owned_none w B 25 25 5 i 1 Tryd.underlying25 hi v _ _ h, by rw [List.append_nil]; exact h, Below.refl _ _⟩
  | some ad =>
    obtain ⟨v', w', hr, q1, q2, q3, q4⟩ := run_append_own_at (P := Tryd.prog) w B 25 25 5 i (.int .u8 0) 1 1 Tryd.underlying25 hi hz0 hz1 hz2 rfl (by decide) v X.length (rowB X) h ad Y.length c (rowB Y) (by rw [rowB_length]; omega)
      (fun j u hj => by
        unfold rowB at hj
        rw [List.getElem?_map] at hj
        obtain ⟨x, hx, rfl⟩ := Option.map_eq_some_iff.1 hj
        have hjl := (List.getElem?_eq_some_iff.1 hx).1
        obtain ⟨off, ha, hc⟩ := h3 (by omega)
        have : ad = ⟨k, off, none⟩ := by simpa using ha
        subst this
        rw [addr_add, hc j hjl, (List.getElem?_eq_some_iff.1 hx).2]) (bvs_one _) hmx (by omega) hB
    refine ⟨v', w', hr, ?_, (Below.refl _ _).grown q2 hB (fun q hq => (h.lt q hq).1)⟩
    unfold Own
    rw [List.length_append, rowB_app]; exact q1
/-- A text's bytes appended. -/
theorem own_append_str {B : Nat} {w : World} {v : Value} {X : List UInt8} {s : ByteArray} (h : Own B w v X) (hmax : X.length + s.size ≤ 140737488355328) (hB : B ≤ w.heap.size) :
    ∃ v' w', (Builtin.append_ #[25, 9] 25 #[v, .string s]).run Tryd.prog w = .ok v' w' ∧ Own B w' v' (X ++ s.data.toList) ∧ Below B w w' := by
  obtain ⟨i, hi, hz0, hz1, hz2⟩ := info_parts infoB3
  obtain ⟨v', w', hr, q1, q2, q3⟩ := Lib.run_append_own_string (P := Tryd.prog) w B 25 9 25 5 i Tryd.underlying25 Tryd.underlying9 hi hz0 hz1 hz2 v X.length (rowB X) h s (by unfold maxLen; omega) hmax hB
  refine ⟨v', w', hr, ?_, (Below.refl _ _).grown q2 hB (fun q hq => (h.lt q hq).1)⟩
  unfold Own
  rw [List.length_append, rowB_app]; exact q1
theorem wpList_append_run2 {P : Program} {w : World} {ops : Array Oper} {rest : List Oper} {o : Oper} {a : Act} {Q : Exit → Act → World → Prop} (hgd : o.guard = none) (s x : Operand) (t u : TypeId)
    (ho : o.op = .call { callee := .builtin .append, args := #[s, x], argTypes := #[t, u] }) (vs vx v' : Value) (w' : World) (hs : a.eval s = vs) (hx : a.eval x = vx) (hr : (Builtin.append_ #[t, u] o.type #[vs, vx]).run P w = .ok v' w')
    (h : wpList P ops Q rest (a.put o.dst v') w') : wpList P ops Q (o :: rest) a w := by
  refine wpList_plain hgd fun K hK => ?_
  unfold Oper.wp execOp
  simp only [ho, resolve, invoke, builtin, Sem.run_bind, Sem.run_pure, Result.andThen_ok, List.map_toArray, List.map_cons, List.map_nil, hs, hx, hr]
  exact hK _ _ h
theorem Src.len {w : World} {k : Nat} {a : Option Addr} {n c : Nat} {b : List UInt8} (h : Src w k (.slice a n c) b) : b.length = n ∧ n ≤ c ∧ c ≤ maxLen := by
  obtain ⟨a', c', e, h1, h2, h3⟩ := h
  obtain ⟨e1, e2, e3⟩ := slice_inj e
  subst e1 e2 e3
  exact ⟨rfl, h1, h2⟩
theorem Src.keep {w w' : World} {k : Nat} {v : Value} {b : List UInt8} (h : Src w k v b) (hk : 0 < b.length → k < w.heap.size) (hB : Below w.heap.size w w') : Src w' k v b := by
  rcases Nat.eq_zero_or_pos b.length with c | c
  · obtain ⟨x, y, e, q1, q2, q3⟩ := h
    exact ⟨x, y, e, q1, q2, fun q => by omega⟩
  · exact h.frame (hB.block k (hk c))
theorem Src.keepB {B : Nat} {w w' : World} {k : Nat} {v : Value} {b : List UInt8} (h : Src w k v b) (hk : 0 < b.length → k < B) (hB : Below B w w') : Src w' k v b := by
  rcases Nat.eq_zero_or_pos b.length with c | c
  · obtain ⟨x, y, e, q1, q2, q3⟩ := h
    exact ⟨x, y, e, q1, q2, fun q => by omega⟩
  · exact h.frame (hB.block k (hk c))
theorem cat_data (x : List UInt8) (y : Array UInt8) : (⟨x.toArray⟩ : ByteArray) ++ ⟨y⟩ = ⟨(x ++ y.toList).toArray⟩ := by
  apply ByteArray.ext
  show ((⟨x.toArray⟩ : ByteArray) ++ ⟨y⟩).data = _
  rw [ByteArray.data_append]
  apply Array.toList_inj.1
  simp
theorem sum_run (W : World) (a b : ByteArray) (h : a.size + b.size ≤ 281474976710656) : (Op.stringOp .add a b).run Tryd.prog W = .ok (.string (a ++ b)) W :=
  run_string_add_sum W a b (by omega)
theorem ret_bool {x y : Bool} (h : x = y) : Ending.returned (.bool x) = .returned (.bool y) := by rw [h]
end Go.Proofs.YtedncmbamjkacaaDoor

/- Rows of texts in memory. -/
namespace Go.Proofs.YtedncmbamjkacaaDoor
open Go.ChangeShapes Go.WideShapes Go.ChangeAt Go.RowKit
set_option linter.unusedVariables false

/-- Texts are not too long. -/
def TBd (N : Nat) (xs : List ByteArray) : Prop := ∀ x ∈ xs, x.size ≤ N
theorem info9 : (Tryd.prog.info? 9).map (fun i => (i.zero, i.size, i.bytes)) = some (some (.string ByteArray.empty), 1, 16) := by kernel_rfl
theorem bcell {W w1 : World} (hb : Below W.heap.size W w1) : (∀ b o, b < W.heap.size → w1.cell? ⟨b, o, none⟩ = W.cell? ⟨b, o, none⟩) ∧ (∀ b o, b < W.heap.size → w1.frozen? ⟨b, o, none⟩ = W.frozen? ⟨b, o, none⟩) :=
  ⟨fun b o h => hb.cell (p := ⟨b, o, none⟩) h, fun b o h => hb.frozen (p := ⟨b, o, none⟩) h⟩
/-- A slice of texts, lying in a block below B if it has any. -/
def Txs (B : Nat) (w : World) (v : Value) (xs : List ByteArray) : Prop := ∃ a c, v = .slice a xs.length c ∧ (a = none → c = 0) ∧ xs.length ≤ c ∧ c ≤ maxLen ∧ (0 < xs.length → ∃ g off, a = some ⟨g, off, none⟩ ∧ g < B ∧ ∀ (j : Nat) (hj : j < xs.length), w.cell? ⟨g, off + j, none⟩ = some (.string xs[j]))
theorem Txs.keep {B : Nat} {w w' : World} {v : Value} {xs : List ByteArray} (h : Txs B w v xs) (b : Below B w w') : Txs B w' v xs := by
  obtain ⟨a, c, e, h1, h2, h3, h4⟩ := h
  refine ⟨a, c, e, h1, h2, h3, fun hp => ?_⟩
  obtain ⟨g, off, ea, hg, hc⟩ := h4 hp
  exact ⟨g, off, ea, hg, fun j hj => (b.cell (p := ⟨g, off + j, none⟩) hg).trans (hc j hj)⟩
theorem Txs.mono {B C : Nat} {w : World} {v : Value} {xs : List ByteArray} (h : Txs B w v xs) (b : B ≤ C) : Txs C w v xs := by
  obtain ⟨a, c, e, h1, h2, h3, h4⟩ := h
  refine ⟨a, c, e, h1, h2, h3, fun hp => ?_⟩
  obtain ⟨g, off, ea, hg, hc⟩ := h4 hp
  exact ⟨g, off, ea, Nat.lt_of_lt_of_le hg b, hc⟩
theorem Txs.len {B : Nat} {w : World} {a : Option Addr} {n c : Nat} {xs : List ByteArray} (h : Txs B w (.slice a n c) xs) : xs.length = n ∧ n ≤ c ∧ c ≤ maxLen := by
  obtain ⟨a', c', e, h1, h2, h3, _⟩ := h
  obtain ⟨rfl, rfl, rfl⟩ := slice_inj e
  exact ⟨rfl, h2, h3⟩

def OwnT (B : Nat) (w : World) (v : Value) (xs : List ByteArray) : Prop := w.ownsRow B 9 1 v xs.length (xs.map Value.string)
theorem rowT_one (xs : List ByteArray) : ∀ v ∈ xs.map Value.string, v.oneCell' = true := by
  intro v hv
  obtain ⟨b, _, rfl⟩ := List.mem_map.1 hv
  rfl
theorem OwnT.form {B : Nat} {w : World} {v : Value} {xs : List ByteArray} (h : OwnT B w v xs) : ∃ a c, v = .slice a xs.length c ∧ (a = none → c = 0) := by
  obtain ⟨h1, ⟨h2, h3⟩ | ⟨g, c, cur, hv, _⟩⟩ := h
  · exact ⟨none, 0, by rw [h2, h3], fun _ => rfl⟩
  · exact ⟨_, c, hv, fun e => by cases e⟩
theorem OwnT.txs {B : Nat} {w : World} {v : Value} {xs : List ByteArray} (h : OwnT B w v xs) : Txs w.heap.size w v xs := by
  have h0 := h
  obtain ⟨h1, ⟨h2, h3⟩ | ⟨g, c, cur, hv, hB, hg, hl, hm, hs, ht⟩⟩ := h
  · exact ⟨none, 0, by rw [h2, h3], fun _ => rfl, by omega, Nat.zero_le _, fun q => by omega⟩
  · refine ⟨_, c, hv, (fun e => by cases e), hl, hm, fun _ => ⟨g, 0, rfl, heap_lt hg, fun j hj => ?_⟩⟩
    have k := (hv ▸ h0 : w.ownsRow B 9 1 (.slice (some ⟨g, 0, none⟩) xs.length c) xs.length (xs.map Value.string)).cellAt j (by omega)
    rw [Nat.zero_add, k, List.getElem?_map, List.getElem?_eq_getElem hj]; rfl
theorem OwnT.keep {B : Nat} {w w' : World} {v : Value} {xs : List ByteArray} (h : OwnT B w v xs) (b : Below w.heap.size w w') : OwnT B w' v xs := owns_below h b
theorem owns_mono {B C : Nat} {w : World} {e : TypeId} {size : Nat} {v : Value} {n : Nat} {xs : List Value} (h : w.ownsRow B e size v n xs) (hC : C ≤ B) : w.ownsRow C e size v n xs := by
  obtain ⟨h1, h2⟩ := h
  refine ⟨h1, ?_⟩
  rcases h2 with h2 | ⟨g, cap, cur, hv, hg, r⟩
  · exact .inl h2
  · exact .inr ⟨g, cap, cur, hv, Nat.le_trans hC hg, r⟩
theorem OwnT.mono {B C : Nat} {w : World} {v : Value} {xs : List ByteArray} (h : OwnT B w v xs) (hC : C ≤ B) : OwnT C w v xs := owns_mono h hC
theorem OwnT.nil (B : Nat) (w : World) : OwnT B w (.slice none 0 0) [] := World.ownsRow_nil _ _ _ _
theorem OwnT.empty (B : Nat) (w : World) (hB : B ≤ w.heap.size) : OwnT B (w.alloc (.cells #[] 9)) (.slice (some ⟨w.heap.size, 0, none⟩) 0 0) [] :=
  ⟨rfl, .inr ⟨w.heap.size, 0, #[], rfl, hB, new_at _ _, Nat.le_refl _, by decide, rfl, rfl⟩⟩
/-- Texts appended. -/
theorem ownT_append {B C : Nat} {w : World} {v : Value} {X Y : List ByteArray} {a : Option Addr} {n c : Nat} (h : OwnT B w v X) (hs : Txs C w (.slice a n c) Y) (hmax : X.length + Y.length ≤ 4294967296) (hB : B ≤ w.heap.size) :
    ∃ v' w', (Builtin.append_ #[52, 52] 52 #[v, .slice a n c]).run Tryd.prog w = .ok v' w' ∧ OwnT B w' v' (X ++ Y) ∧ Below B w w' := by
  obtain ⟨i, hi, hz0, hz1, hz2⟩ := info_parts info9
  obtain ⟨a', c', e, hnil, h1, h2, h3⟩ := hs
  obtain ⟨e1, e2, e3⟩ := slice_inj e
  subst e1 e2 e3
  have hmx : X.length + Y.length ≤ maxLen := by unfold maxLen; omega
  cases a with
  | none =>
    have hc := hnil rfl
    have hy : Y = [] := by
      rcases Nat.eq_zero_or_pos Y.length with q | q
      · exact List.eq_nil_of_length_eq_zero q
      · obtain ⟨_, _, q, _⟩ := h3 q; cases q
    subst hy hc
    exact ⟨v, w, run_append_owned_none w B 52 52 9 i 1 Tryd.underlying52 hi v _ _ h, by rw [List.append_nil]; exact h, Below.refl _ _⟩
  | some ad =>
    obtain ⟨v', w', hr, q1, q2, q3, q4⟩ := run_append_own_at (P := Tryd.prog) w B 52 52 9 i (.string ByteArray.empty) 1 16 Tryd.underlying52 hi hz0 hz1 hz2 rfl (by decide) v X.length (X.map Value.string) h ad Y.length c (Y.map Value.string) (by rw [List.length_map]; omega)
      (fun j u hj => by
        rw [List.getElem?_map] at hj
        obtain ⟨x, hx, rfl⟩ := Option.map_eq_some_iff.1 hj
        have hjl := (List.getElem?_eq_some_iff.1 hx).1
        obtain ⟨k, off, ha, _, hc⟩ := h3 (by omega)
        have : ad = ⟨k, off, none⟩ := by simpa using ha
        subst this
        rw [addr_add, hc j hjl, (List.getElem?_eq_some_iff.1 hx).2]) (rowT_one _) hmx (by omega) hB
    refine ⟨v', w', hr, ?_, (Below.refl _ _).grown q2 hB (fun q hq => (h.lt q hq).1)⟩
    unfold OwnT
    rw [List.length_append, List.map_append]; exact q1
theorem one_txs (w : World) (x : ByteArray) (C : Nat) (h : w.heap.size < C) : Txs C (w.alloc (.cells #[.string x] 9)) (.slice (some ⟨w.heap.size, 0, none⟩) 1 1) [x] :=
  ⟨_, 1, rfl, (fun e => by cases e), Nat.le_refl _, by decide, fun _ => ⟨w.heap.size, 0, rfl, h, fun j hj => by
    have : j = 0 := by simpa using hj
    subst this
    exact tblk_cell (tblk_new _ _) rfl⟩⟩
end Go.Proofs.YtedncmbamjkacaaDoor

/- sign.Text: what it tells of a number. -/
namespace Go.Proofs.YtedncmbamjkacaaDoor
open Go.RowKit
set_option linter.unusedVariables false

/-- The table that the telling of a number reads. -/
structure PowT (w : World) : Prop where
  pow : Lib.TabIs Tryd.prog w "internal/strconv.uint64pow10" .u64 Lib.pow10Tab
  lt : 3 < w.heap.size
theorem gPow : Tryd.prog.globalNamed "internal/strconv.uint64pow10" = some 3 := by kernel_rfl
theorem PowT.below {w w' : World} (h : PowT w) (b : Below w.heap.size w w') : PowT w' := ⟨var?_below b gPow h.lt h.pow, Nat.lt_of_lt_of_le h.lt b.size⟩
def itoaS (n : Int) : ByteArray := ⟨(Lib.itoa n).toArray⟩
theorem text_any (n : Int) (h0 : -9223372036854775808 ≤ n) (h1 : n ≤ 9223372036854775807) (w : World) (ht : PowT w) :
    Calls Tryd.prog 31 #[.int .i64 n] w fun e w' => e = .returned (.string (itoaS n)) ∧ Below w.heap.size w w' := by
  have HP : Hid (Lib.TabIs Tryd.prog w "internal/strconv.uint64pow10" .u64 Lib.pow10Tab) := ht.pow
  clear ht
  go_enter Tryd.func31, Tryd.ntmps31
  go_wp2_with fail
  refine (Tryd.strconv_FormatInt_10 n h0 h1 _ HP.out).mono ?_
  rintro e w1 ⟨rfl, k, os, hw⟩
  have hB : Below w.heap.size w w1 := by rw [hw]; exact Lib.below_grow _ w (Nat.le_refl _) k os
  clear hw
  go_wp2
  go_ret
  exact ⟨rfl, hB⟩
theorem lcat_size (a b : ByteArray) : (a ++ b).size = a.size + b.size := by rw [ByteArray.size_append]
theorem lcat_run (W : World) (a b : ByteArray) (h : a.size + b.size ≤ 281474976710656) : (Op.stringOp .add a b).run Tryd.prog W = .ok (.string (a ++ b)) W :=
  run_string_add_sum W a b (by omega)
end Go.Proofs.YtedncmbamjkacaaDoor

/- tell: a right record's line. -/
namespace Go.Proofs.YtedncmbamjkacaaDoor
open Go.RowKit
set_option linter.unusedVariables false

theorem en_one {B : Nat} {w : World} {v : Value} {X : List ByteArray} (x : ByteArray) (h : OwnT B w v X) (hmax : X.length + 1 ≤ 4294967296) (hB : B ≤ w.heap.size) :
    ∃ v' w', (Builtin.append_ #[52, 52] 52 #[v, .slice (some ⟨w.heap.size, 0, none⟩) 1 1]).run Tryd.prog (w.alloc (.cells #[.string x] 9)) = .ok v' w' ∧ OwnT B w' v' (X ++ [x]) ∧ Below B w w' := by
  have BA : Below w.heap.size w (w.alloc (.cells #[.string x] 9)) := (Below.refl _ _).alloc (Nat.le_refl _) _
  obtain ⟨v', w', r, O, b⟩ := ownT_append (h.keep BA) (one_txs w x (w.heap.size + 1) (Nat.lt_succ_self _)) hmax (Nat.le_trans hB BA.size)
  exact ⟨v', w', r, O, (BA.mono hB).trans b⟩
theorem two_txs (w : World) (x y : ByteArray) (C : Nat) (h : w.heap.size < C) : Txs C (w.alloc (.cells #[.string x, .string y] 9)) (.slice (some ⟨w.heap.size, 0, none⟩) 2 2) [x, y] := by
  refine ⟨_, 2, rfl, (fun e => by cases e), Nat.le_refl _, by unfold maxLen; omega, fun _ => ⟨w.heap.size, 0, rfl, h, fun j hj => ?_⟩⟩
  have hn := tblk_new w (.cells #[.string x, .string y] 9)
  have e : j = 0 ∨ j = 1 := by have : [x, y].length = 2 := rfl; omega
  rcases e with rfl | rfl
  · exact tblk_cell hn rfl
  · exact tblk_cell hn rfl
theorem en_two {B : Nat} {w : World} {v : Value} {X : List ByteArray} (x y : ByteArray) (h : OwnT B w v X) (hmax : X.length + 2 ≤ 4294967296) (hB : B ≤ w.heap.size) :
    ∃ v' w', (Builtin.append_ #[52, 52] 52 #[v, .slice (some ⟨w.heap.size, 0, none⟩) 2 2]).run Tryd.prog (w.alloc (.cells #[.string x, .string y] 9)) = .ok v' w' ∧ OwnT B w' v' (X ++ [x, y]) ∧ Below B w w' := by
  have BA : Below w.heap.size w (w.alloc (.cells #[.string x, .string y] 9)) := (Below.refl _ _).alloc (Nat.le_refl _) _
  obtain ⟨v', w', r, O, b⟩ := ownT_append (h.keep BA) (two_txs w x y (w.heap.size + 1) (Nat.lt_succ_self _)) hmax (Nat.le_trans hB BA.size)
  exact ⟨v', w', r, O, (BA.mono hB).trans b⟩
/-- A record's words, and its line. -/
def wordsE (e : EntP) : List ByteArray := ((numsE e).take 4).map itoaS ++ [e.m, e.t] ++ ((numsE e).drop 4).map itoaS
def lineL (e : EntP) : List UInt8 := Lib.join ((wordsE e).map (·.data.toList)) [32] ++ [10]
def lineB (e : EntP) : ByteArray := ⟨(lineL e).toArray⟩
theorem wordsE_len (e : EntP) : (wordsE e).length = 9 := rfl
theorem right_bd {e : EntP} (h : rightE e = true) : (∀ z ∈ numsE e, 0 ≤ z ∧ z ≤ 1125899906842624) ∧ e.m.size ≤ 20 ∧ e.t.size ≤ 512 ∧ tokS e.m = true ∧ tgtP e.t = true := by
  unfold rightE withinP inB at h
  simp only [Bool.and_eq_true, decide_eq_true_eq] at h
  obtain ⟨⟨⟨h1, h2⟩, ⟨h3, h4⟩, ⟨h5, h6⟩, ⟨h7, h8⟩, ⟨h9, h10⟩, ⟨h11, h12⟩, h13, h14⟩, h15, h16, h17, h18⟩ := h
  refine ⟨fun z hz => ?_, h15, h17, h16, h18⟩
  unfold numsE at hz
  simp only [List.mem_cons, List.not_mem_nil, or_false] at hz
  rcases hz with rfl | rfl | rfl | rfl | rfl | rfl | rfl <;> omega
theorem joinTail_le (ws : List (List UInt8)) (n : Nat) (h : ∀ x ∈ ws, x.length ≤ n) : (Lib.joinTail [32] ws).length ≤ ws.length * (n + 1) := by
  induction ws with
  | nil => exact Nat.zero_le _
  | cons x r ih =>
    have e : Lib.joinTail [32] (x :: r) = (32 :: x) ++ Lib.joinTail [32] r := rfl
    rw [e, List.length_append, List.length_cons, List.length_cons, Nat.succ_mul]
    have := ih fun y hy => h y (List.mem_cons_of_mem _ hy)
    have := h x (List.mem_cons_self)
    omega
theorem join_le (ws : List (List UInt8)) (n : Nat) (h : ∀ x ∈ ws, x.length ≤ n) : (Lib.join ws [32]).length ≤ ws.length * (n + 1) := by
  cases ws with
  | nil => exact Nat.zero_le _
  | cons x r =>
    rw [Lib.join_cons, List.length_append, List.length_cons, Nat.succ_mul]
    have := joinTail_le r n fun y hy => h y (List.mem_cons_of_mem _ hy)
    have := h x (List.mem_cons_self)
    omega
theorem line_le {e : EntP} (h : rightE e = true) : (lineL e).length ≤ 5000 := by
  obtain ⟨h1, h2, h3, _⟩ := right_bd h
  have k := join_le ((wordsE e).map (·.data.toList)) 512 (fun x hx => by
    obtain ⟨y, hy, rfl⟩ := List.mem_map.1 hx
    have hz : ∀ z ∈ numsE e, (itoaS z).data.toList.length ≤ 512 := fun z hz => by
      have a := h1 z hz
      have b := Lib.itoa_length_le z (by omega) (by omega)
      show (Lib.itoa z).length ≤ _
      omega
    unfold wordsE at hy
    simp only [List.mem_append, List.mem_map, List.mem_cons, List.not_mem_nil, or_false] at hy
    rcases hy with (⟨z, hzm, rfl⟩ | rfl | rfl) | ⟨z, hzm, rfl⟩
    · exact hz z ((List.take_sublist _ _).subset hzm)
    · show e.m.size ≤ _; omega
    · show e.t.size ≤ _; omega
    · exact hz z ((List.drop_sublist _ _).subset hzm))
  unfold lineL
  rw [List.length_append]
  rw [List.length_map, wordsE_len] at k
  have : ([10] : List UInt8).length = 1 := rfl
  omega
theorem arr_cell {w : World} {b : Nat} {e : EntP} {t : TypeId} (h : w.heap[b]? = some (.cells (arrV e) t)) (i : Nat) (hi : i < (numsE e).length) : w.cell? ⟨b, i, none⟩ = some (.int .i64 (numsE e)[i]) := by
  refine tblk_cell h ?_
  show (((numsE e).map (Value.int .i64)).toArray)[i]? = _
  rw [List.getElem?_toArray, List.getElem?_map, List.getElem?_eq_getElem hi]; rfl
theorem make9 : ∃ Z : Array Value, Z.size = 9 ∧ ∀ w : World, (Instr.makeSlice 52 (.int .i64 0) (.int .i64 9)).run Tryd.prog w = .ok (.slice (some ⟨w.heap.size, 0, none⟩) 0 9) (w.alloc (.cells Z 9)) := by
  obtain ⟨i, hi, hz0, hz1, hz2⟩ := info_parts info9
  refine ⟨madeCells (Value.string ByteArray.empty).cells 9, by simp [madeCells, Value.cells], fun w => ?_⟩
  have k := run_make (P := Tryd.prog) w 52 9 i (.string ByteArray.empty) Tryd.underlying52 hi hz0 .i64 .i64 0 9 (by omega) (by omega) (by rw [hz2]; omega) (by omega)
  rw [hz1] at k
  exact k
set_option maxRecDepth 100000 in
set_option maxHeartbeats 3200000 in
theorem entell_any (e : EntP) (w : World) (hr : rightE e = true) (hP : PowT w) : Calls Tryd.prog 16 #[.agg (entV e)] w fun r w' => r = .returned (.string (lineB e)) ∧ Below w.heap.size w w' := by
  have HN : Hid (∀ W, Calls Tryd.prog 17 #[.agg (entV e)] W fun r w' => r = .returned (.agg (arrV e)) ∧ Below W.heap.size W w') := fun W => ennums_any e W
  have HT : Hid (∀ z ∈ numsE e, ∀ W, Below w.heap.size w W → Calls Tryd.prog 31 #[.int .i64 z] W fun r w' => r = .returned (.string (itoaS z)) ∧ Below W.heap.size W w') := fun z hz W hW => text_any z (by have := ((right_bd hr).1 z hz).1; omega) (by have := ((right_bd hr).1 z hz).2; omega) W (hP.below hW)
  have hll := line_le hr
  have BA : Below w.heap.size w (w.alloc (.cells (entV e) 23)) := (Below.refl _ _).alloc (Nat.le_refl _) _
  have NA := tblk_new w (.cells (entV e) 23)
  have HLL : Hid ((lineL e).length ≤ 5000) := hll
  have HLB : Hid (lineB e = ⟨(Lib.join ((wordsE e).map (fun x : ByteArray => x.data.toList)) [32] ++ [10]).toArray⟩) := rfl
  have HWD : Hid (wordsE e = ((numsE e).take 4).map itoaS ++ [e.m, e.t] ++ ((numsE e).drop 4).map itoaS) := rfl
  have hnl : (numsE e).length = 7 := rfl
  have HARR : Hid (∀ (W : World) (b : Nat) (t : TypeId), W.heap[b]? = some (.cells (arrV e) t) → ∀ (i : Nat) (hi : i < (numsE e).length), W.cell? ⟨b, i, none⟩ = some (.int .i64 (numsE e)[i])) := fun W b t h => arr_cell h
  have HAV : Hid (arrV e = #[.int .i64 e.q, .int .i64 e.a, .int .i64 e.k, .int .i64 e.n, .int .i64 e.c, .int .i64 e.u, .int .i64 e.d]) := rfl
  generalize hls : numsE e = ns at *
  generalize lineB e = LB at *
  clear hr hP hll hls
  obtain ⟨q, a, k, n, m, t, c, u, d⟩ := e
  unfold entV at *
  simp only at *
  have HLL2 : Hid ((lineL ⟨q, a, k, n, m, t, c, u, d⟩).length ≤ 5000) := HLL
  clear HLL
  generalize hwd : wordsE ⟨q, a, k, n, m, t, c, u, d⟩ = wd at *
  have HJL : Hid ((Lib.join (wd.map (fun x : ByteArray => x.data.toList)) [32]).length ≤ 5000) := by
    have h := HLL2.out
    unfold lineL at h
    rw [hwd, List.length_append] at h
    rw [Hid]; omega
  clear HLL2 hwd
  rw [HAV.out] at HN HARR
  clear HAV
  go_enter Tryd.func16, Tryd.ntmps16
  go_wp2_with fail
  refine (HN.out _).mono ?_
  rintro r w1 ⟨rfl, B1⟩
  have D1 := BA.trans (B1.mono BA.size)
  have N1 := tblk_below NA B1
  clear NA BA B1 HN
  obtain ⟨Z9, hZ9, hmk⟩ := make9
  have BN : Below w1.heap.size w1 (w1.alloc (.cells #[.int .i64 q, .int .i64 a, .int .i64 k, .int .i64 n, .int .i64 c, .int .i64 u, .int .i64 d] 45)) := (Below.refl _ _).alloc (Nat.le_refl _) _
  have NN := tblk_new w1 (.cells #[.int .i64 q, .int .i64 a, .int .i64 k, .int .i64 n, .int .i64 c, .int .i64 u, .int .i64 d] 45)
  have D2 := D1.trans (BN.mono D1.size)
  have N2 := tblk_below N1 BN
  have s2 : (w1.alloc (.cells #[.int .i64 q, .int .i64 a, .int .i64 k, .int .i64 n, .int .i64 c, .int .i64 u, .int .i64 d] 45)).heap.size = w1.heap.size + 1 := by simp
  have hlw : w.heap.size < w1.heap.size := (Array.getElem?_eq_some_iff.1 N1).1
  have HCN : Hid (∀ W, Below (w1.heap.size + 1) (w1.alloc (.cells #[.int .i64 q, .int .i64 a, .int .i64 k, .int .i64 n, .int .i64 c, .int .i64 u, .int .i64 d] 45)) W → ∀ (i : Nat) (hi : i < ns.length), W.cell? ⟨w1.heap.size, i, none⟩ = some (.int .i64 ns[i])) := fun W hW => HARR.out W w1.heap.size _ ((hW.block _ (by omega)).trans NN)
  have HCE : Hid (∀ W, Below (w1.heap.size + 1) (w1.alloc (.cells #[.int .i64 q, .int .i64 a, .int .i64 k, .int .i64 n, .int .i64 c, .int .i64 u, .int .i64 d] 45)) W → W.cell? ⟨w.heap.size, 4, none⟩ = some (.string m) ∧ W.cell? ⟨w.heap.size, 5, none⟩ = some (.string t) ∧ Below w.heap.size w W) := fun W hW => ⟨tblk_cell ((hW.block _ (by omega)).trans N2) rfl, tblk_cell ((hW.block _ (by omega)).trans N2) rfl, D2.trans (hW.mono (by omega))⟩
  have O3 : OwnT (w1.heap.size + 1) ((w1.alloc (.cells #[.int .i64 q, .int .i64 a, .int .i64 k, .int .i64 n, .int .i64 c, .int .i64 u, .int .i64 d] 45)).alloc (.cells Z9 9)) (.slice (some ⟨w1.heap.size + 1, 0, none⟩) 0 9) [] :=
    ⟨rfl, .inr ⟨w1.heap.size + 1, 9, _, rfl, Nat.le_refl _, (by have := tblk_new (w1.alloc (.cells #[.int .i64 q, .int .i64 a, .int .i64 k, .int .i64 n, .int .i64 c, .int .i64 u, .int .i64 d] 45)) (.cells Z9 9); rw [s2] at this; exact this), Nat.zero_le _, by decide, by rw [hZ9], by simp⟩⟩
  have B3 : Below (w1.heap.size + 1) (w1.alloc (.cells #[.int .i64 q, .int .i64 a, .int .i64 k, .int .i64 n, .int .i64 c, .int .i64 u, .int .i64 d] 45)) ((w1.alloc (.cells #[.int .i64 q, .int .i64 a, .int .i64 k, .int .i64 n, .int .i64 c, .int .i64 u, .int .i64 d] 45)).alloc (.cells Z9 9)) := (Below.refl _ _).alloc (Nat.le_of_eq s2.symm) _
  have hsw : w1.heap.size + 1 ≤ (w1.alloc (.cells #[.int .i64 q, .int .i64 a, .int .i64 k, .int .i64 n, .int .i64 c, .int .i64 u, .int .i64 d] 45)).heap.size := Nat.le_of_eq s2.symm
  clear BN NN D2 N2 D1 N1 s2 hlw HARR
  go_wp2_with fail
  generalize hWN : w1.alloc (.cells #[.int .i64 q, .int .i64 a, .int .i64 k, .int .i64 n, .int .i64 c, .int .i64 u, .int .i64 d] 45) = WN at *
  have HSW : Hid (w1.heap.size + 1 ≤ WN.heap.size) := hsw
  clear hWN hmk hsw
  go_loopw [4, 14] (fun v4 vi wr => ∃ i : Nat, i ≤ 4 ∧ vi = .int .i64 i ∧ Hid (OwnT (w1.heap.size + 1) wr v4 ((ns.take i).map itoaS) ∧ Below (w1.heap.size + 1) WN wr)) (fun _ vi _ => 4 - (intOf vi).toNat)
  case atStart => exact ⟨0, Nat.zero_le _, rfl, O3, B3⟩
  case round =>
    obtain ⟨i, hi, rfl, hO⟩ := hrel
    clear O3 B3
    have hs3 : w1.heap.size + 1 ≤ wr.heap.size := Nat.le_trans HSW.out hO.out.2.size
    rename Value => v4
    by_cases hlt : i < 4
    · have hiN : i < ns.length := by rw [hnl]; omega
      have hcell := HCN.out _ hO.out.2 i hiN
      have HTX := HT.out _ (List.getElem_mem hiN)
      have hDW := (HCE.out _ hO.out.2).2.2
      have hsn : (ns.take (i + 1)).map itoaS = (ns.take i).map itoaS ++ [itoaS ns[i]] := by rw [List.take_succ_eq_append_getElem hiN, List.map_append]; rfl
      have HSN : Hid ((ns.take (i + 1)).map itoaS = (ns.take i).map itoaS ++ [itoaS ns[i]]) := hsn
      generalize ns[i] = z at *
      have HT1 : Hid (Calls Tryd.prog 31 #[.int .i64 z] wr fun r w' => r = .returned (.string (itoaS z)) ∧ Below wr.heap.size wr w') := HTX wr hDW
      have ii : (i : Int) < 4 := by omega
      clear HTX hsn hiN hDW
      go_wp2_with fail
      refine HT1.out.mono ?_
      rintro r w4 ⟨rfl, B4⟩
      obtain ⟨v5, w5, r5, O5, B5⟩ := en_one (itoaS z) (hO.out.1.keep B4) (by rw [List.length_map, List.length_take]; omega) (Nat.le_trans hs3 B4.size)
      rw [← HSN.out] at O5
      have D5 : Below (w1.heap.size + 1) WN w5 := (hO.out.2.trans (B4.mono hs3)).trans B5
      go_wp2_with (at_builtin; refine wpList_append_run2 rfl _ _ 52 52 rfl _ _ _ w5 rfl rfl r5 ?_)
      go_wp2
      go_roundw
      case rel => exact ⟨i + 1, by omega, by go_num, O5, D5⟩
      case measure => simp [intOf]; omega
    · have hi4 : i = 4 := by omega
      subst hi4
      obtain ⟨cm, ct, hDW⟩ := HCE.out _ hO.out.2
      obtain ⟨v5, w5, r5, O5, B5⟩ := en_two m t hO.out.1 (by rw [List.length_map, List.length_take]; omega) hs3
      have D5 : Below (w1.heap.size + 1) WN w5 := hO.out.2.trans B5
      have HO5 : Hid (OwnT (w1.heap.size + 1) w5 v5 ((ns.take 4).map itoaS ++ [m, t]) ∧ Below (w1.heap.size + 1) WN w5) := ⟨O5, D5⟩
      have hnot : ¬ ((4 : Nat) : Int) < 4 := by omega
      clear O5 D5 B5 hO hlt hDW hi
      go_wp2_with (at_builtin; refine wpList_append_run2 rfl _ _ 52 52 rfl _ _ _ w5 rfl rfl r5 ?_)
      clear r5 cm ct hnot
      rename World => wo
      go_loopw [4, 33] (fun v4 vi wr => ∃ i : Nat, i ≤ 3 ∧ vi = .int .i64 i ∧ Hid (OwnT (w1.heap.size + 1) wr v4 ((ns.take 4).map itoaS ++ [m, t] ++ ((ns.drop 4).take i).map itoaS) ∧ Below (w1.heap.size + 1) WN wr)) (fun _ vi _ => 3 - (intOf vi).toNat)
      case atStart => exact ⟨0, Nat.zero_le _, rfl, by rw [List.take_zero, List.map_nil, List.append_nil]; exact HO5.out⟩
      case round =>
        obtain ⟨i, hi, rfl, hO⟩ := hrel
        clear HO5
        have hs4 : w1.heap.size + 1 ≤ wr.heap.size := Nat.le_trans HSW.out hO.out.2.size
        by_cases hlt : i < 3
        · have hiN : 4 + i < ns.length := by rw [hnl]; omega
          have hiD : i < (ns.drop 4).length := by rw [List.length_drop, hnl]; omega
          have hcell := HCN.out _ hO.out.2 (4 + i) hiN
          have HTX := HT.out _ (List.getElem_mem hiN)
          have hDW := (HCE.out _ hO.out.2).2.2
          have HSN : Hid ((ns.take 4).map itoaS ++ [m, t] ++ ((ns.drop 4).take (i + 1)).map itoaS = (ns.take 4).map itoaS ++ [m, t] ++ ((ns.drop 4).take i).map itoaS ++ [itoaS ns[4 + i]]) := by
            rw [Hid, List.take_succ_eq_append_getElem hiD, List.map_append, ← List.append_assoc, List.getElem_drop]; rfl
          generalize ns[4 + i] = z at *
          have HT1 : Hid (Calls Tryd.prog 31 #[.int .i64 z] wr fun r w' => r = .returned (.string (itoaS z)) ∧ Below wr.heap.size wr w') := HTX wr hDW
          have ii : (i : Int) < 3 := by omega
          clear HTX hiN hDW hiD
          go_wp2_with fail
          refine HT1.out.mono ?_
          rintro r w4 ⟨rfl, B4⟩
          obtain ⟨v5, w6, r6, O6, B6⟩ := en_one (itoaS z) (hO.out.1.keep B4) (by simp only [List.length_append, List.length_map, List.length_take, List.length_drop, List.length_cons, List.length_nil]; omega) (Nat.le_trans hs4 B4.size)
          rw [← HSN.out] at O6
          have D6 : Below (w1.heap.size + 1) WN w6 := (hO.out.2.trans (B4.mono hs4)).trans B6
          go_wp2_with (at_builtin; refine wpList_append_run2 rfl _ _ 52 52 rfl _ _ _ w6 rfl rfl r6 ?_)
          go_wp2
          go_roundw
          case rel => exact ⟨i + 1, by omega, by go_num, O6, D6⟩
          case measure => simp [intOf]; omega
        · have hi3 : i = 3 := by omega
          subst hi3
          have e3 : (ns.drop 4).take 3 = ns.drop 4 := List.take_of_length_le (by rw [List.length_drop, hnl]; omega)
          have hO2 := hO.out.1
          rw [e3, ← HWD.out] at hO2
          have h9 : wd.length = 9 := by rw [HWD.out]; simp only [List.length_append, List.length_map, List.length_take, List.length_drop, List.length_cons, List.length_nil, hnl]; rfl
          obtain ⟨a7, c7, e7, hn7, q71, q72, q73⟩ := hO2.txs
          subst e7
          obtain ⟨g7, o7, rfl, hg7, hc7⟩ := q73 (by omega)
          have HJ : Hid (Calls Tryd.prog 32 #[.slice (some ⟨g7, o7, none⟩) wd.length c7, .string ⟨#[32]⟩] wr fun e w' => e = .returned (.string ⟨(Lib.join (wd.map (fun x : ByteArray => x.data.toList)) [32]).toArray⟩) ∧ Below wr.heap.size wr w') :=
            Tryd.strings_Join g7 o7 c7 wd ⟨#[32]⟩ wr (fun j y hj => by
              obtain ⟨hjl, rfl⟩ := List.getElem?_eq_some_iff.1 hj
              exact hc7 j hjl) hg7 (by omega) q71 (by have := HJL.out; show (Lib.join _ [32]).length ≤ _; omega)
          have hcat : ∀ W : World, (Op.stringOp .add (⟨(Lib.join (wd.map (fun x : ByteArray => x.data.toList)) [32]).toArray⟩ : ByteArray) ⟨#[10]⟩).run Tryd.prog W = .ok (.string LB) W := fun W => by
            have q := sum_run W ⟨(Lib.join (wd.map (fun x : ByteArray => x.data.toList)) [32]).toArray⟩ ⟨#[10]⟩ (by
              have := HJL.out
              show (Lib.join _ [32]).toArray.size + 1 ≤ _
              rw [List.size_toArray]
              omega)
            rw [cat_data, ← HLB.out] at q
            exact q
          have hDW := (HCE.out _ hO.out.2).2.2
          have hnot : ¬ ((3 : Nat) : Int) < 3 := by omega
          clear hc7 q71 q72 q73 hn7 hO2 hO h9 e3 hlt hi HWD
          generalize (Lib.join (wd.map (fun x : ByteArray => x.data.toList)) [32]) = jn at *
          generalize wd.length = wn at *
          go_wp2_with fail
          refine HJ.out.mono ?_
          rintro e w8 ⟨rfl, B8⟩
          go_wp2
          go_ret
          exact ⟨rfl, hDW.trans (B8.mono hDW.size)⟩
end Go.Proofs.YtedncmbamjkacaaDoor

/- Write. -/
namespace Go.Proofs.YtedncmbamjkacaaDoor
open Go.RowKit
set_option linter.unusedVariables false

/-- What Write answers. -/
def WrR (e : EntP) (w : World) (r : Ending) (w' : World) : Prop :=
  if rightE e = true then ∃ a c k, r = .returned (.tuple #[.slice a (lineL e).length c, .int .i64 0]) ∧ Src w' k (.slice a (lineL e).length c) (lineL e) ∧ w.heap.size ≤ k ∧ k < w'.heap.size ∧ Below w.heap.size w w'
  else r = .returned (.tuple #[.slice none 0 0, .int .i64 1]) ∧ Below w.heap.size w w'
set_option maxRecDepth 100000 in
set_option maxHeartbeats 1600000 in
theorem enwrite_any (e : EntP) (w : World) (hm : e.m.size ≤ maxLen) (ht : e.t.size ≤ maxLen) (hL : LmT w) (hP : PowT w) : Calls Tryd.prog 6 #[.agg (entV e)] w (WrR e w) := by
  unfold WrR
  have BA : Below w.heap.size w (w.alloc (.cells (entV e) 23)) := (Below.refl _ _).alloc (Nat.le_refl _) _
  have NA := tblk_new w (.cells (entV e) 23)
  have HR : Hid (∀ W, Below w.heap.size w W → Calls Tryd.prog 7 #[.agg (entV e)] W fun r w' => r = .returned (.bool (rightE e)) ∧ Below W.heap.size W w') := fun W hW => enright_any e W hm ht (hL.below hW)
  cases hr : rightE e
  · simp only [Bool.false_eq_true, if_false]
    rw [hr] at HR
    clear hr hL hP hm ht
    obtain ⟨q, a, k, n, m, t, c, u, d⟩ := e
    unfold entV at *
    simp only at *
    go_enter Tryd.func6, Tryd.ntmps6
    go_wp2_with fail
    refine (HR.out _ BA).mono ?_
    rintro r w1 ⟨rfl, B1⟩
    have D1 := BA.trans (B1.mono BA.size)
    go_wp2
    refine bodyPost_ret (v := .tuple #[.slice none 0 0, .int .i64 1]) (by simp [results, Tryd.results6, go_sem]) rfl ?_
    exact ⟨rfl, D1⟩
  · simp only [if_true]
    have HT : Hid (∀ W, Below w.heap.size w W → Calls Tryd.prog 16 #[.agg (entV e)] W fun r w' => r = .returned (.string (lineB e)) ∧ Below W.heap.size W w') := fun W hW => entell_any e W hr (hP.below hW)
    have hll := line_le hr
    have HCV : Hid (∀ W : World, ∃ v w1, (convert 9 25 (.string (lineB e))).run Tryd.prog W = .ok v w1 ∧ Src w1 W.heap.size v (lineL e) ∧ Below W.heap.size W w1 ∧ W.heap.size < w1.heap.size) := fun W => conv_src W (lineB e) (by show (lineL e).toArray.size ≤ _; rw [List.size_toArray]; unfold maxLen; omega)
    rw [hr] at HR
    generalize lineB e = LB at *
    generalize lineL e = LL at *
    clear hr hL hP hm ht hll
    obtain ⟨q, a, k, n, m, t, c, u, d⟩ := e
    unfold entV at *
    simp only at *
    go_enter Tryd.func6, Tryd.ntmps6
    go_wp2_with fail
    refine (HR.out _ BA).mono ?_
    rintro r w1 ⟨rfl, B1⟩
    have D1 := BA.trans (B1.mono BA.size)
    have N1 := tblk_below NA B1
    have c0 : w1.cell? ⟨w.heap.size, 0, none⟩ = some (.int .i64 q) := tblk_cell N1 rfl
    have c1 : w1.cell? ⟨w.heap.size, 1, none⟩ = some (.int .i64 a) := tblk_cell N1 rfl
    have c2 : w1.cell? ⟨w.heap.size, 2, none⟩ = some (.int .i64 k) := tblk_cell N1 rfl
    have c3 : w1.cell? ⟨w.heap.size, 3, none⟩ = some (.int .i64 n) := tblk_cell N1 rfl
    have c4 : w1.cell? ⟨w.heap.size, 4, none⟩ = some (.string m) := tblk_cell N1 rfl
    have c5 : w1.cell? ⟨w.heap.size, 5, none⟩ = some (.string t) := tblk_cell N1 rfl
    have c6 : w1.cell? ⟨w.heap.size, 6, none⟩ = some (.int .i64 c) := tblk_cell N1 rfl
    have c7 : w1.cell? ⟨w.heap.size, 7, none⟩ = some (.int .i64 u) := tblk_cell N1 rfl
    have c8 : w1.cell? ⟨w.heap.size, 8, none⟩ = some (.int .i64 d) := tblk_cell N1 rfl
    clear B1 N1 NA BA
    go_wp2_with fail
    refine (HT.out _ D1).mono ?_
    rintro r w2 ⟨rfl, B2⟩
    have D2 := D1.trans (B2.mono D1.size)
    obtain ⟨v3, w3, r3, S3, B3, L3⟩ := HCV.out w2
    obtain ⟨sa, sc, rfl, q1, q2, q3⟩ := S3
    have HS3 : Hid (Src w3 w2.heap.size (.slice sa LL.length sc) LL) := ⟨sa, sc, rfl, q1, q2, q3⟩
    have D3 := D2.trans (B3.mono D2.size)
    have hsz := D2.size
    clear q1 q2 q3 c0 c1 c2 c3 c4 c5 c6 c7 c8 D1 B2
    go_wp2
    refine bodyPost_ret (v := .tuple #[.slice sa LL.length sc, .int .i64 0]) (by simp [results, Tryd.results6, go_sem]) rfl ?_
    exact ⟨sa, sc, w2.heap.size, rfl, HS3.out, hsz, L3, D3⟩
end Go.Proofs.YtedncmbamjkacaaDoor

/- slices.Grow of nothing; slices.Concat of two rows of texts. -/
namespace Go.Proofs.YtedncmbamjkacaaDoor
open Go.RowKit
set_option linter.unusedVariables false

theorem grow_run (w : World) : ∃ Z : Array Value, Z.size = grownCap w 7 0 9 ∧ (Builtin.append_ #[52, 3] 52 #[.slice none 0 0, .int .i64 7]).run Tryd.prog w = .ok (.slice (some ⟨w.heap.size, 0, none⟩) 7 (grownCap w 7 0 9)) (w.drew.alloc (.cells Z 9)) := by
  obtain ⟨i, hi, hz0, hz1, hz2⟩ := info_parts info9
  have k := Lib.run_append_grow_zeros (P := Tryd.prog) w 52 3 52 9 i (.string ByteArray.empty) .i64 .i64 Tryd.underlying52 Tryd.underlying3 hi hz0 none 0 0 [] (run_firstCells_none _ _ _ _ _) 7 (by decide) (by rw [hz1]; decide) (by decide) (by decide) (by rw [hz2]; decide) (by rw [hz2]; decide)
  have hg := grownCap_ge w 7 0 9
  refine ⟨_, ?_, k⟩
  rw [Array.size_append, Array.size_append, size_zeroCells, size_zeroCells]
  show 0 + 7 * 1 + (grownCap w 7 0 9 - 7) * 1 = _
  omega
set_option maxRecDepth 100000 in
set_option maxHeartbeats 800000 in
theorem grow7 (w : World) : Calls Tryd.prog 57 #[.slice none 0 0, .int .i64 7] w fun e w' => ∃ c, e = .returned (.slice (some ⟨w.heap.size, 0, none⟩) 0 c) ∧ OwnT w.heap.size w' (.slice (some ⟨w.heap.size, 0, none⟩) 0 c) [] ∧ Below w.heap.size w w' := by
  obtain ⟨Z, hZ, hr⟩ := grow_run w
  have hg := grownCap_ge w 7 0 9
  have hm := grownCap_le_maxLen w 7 0 9 (by decide)
  generalize grownCap w 7 0 9 = C at *
  have hO : Hid (OwnT w.heap.size (w.drew.alloc (.cells Z 9)) (.slice (some ⟨w.heap.size, 0, none⟩) 0 C) []) := ⟨rfl, .inr ⟨w.heap.size, C, Z, rfl, Nat.le_refl _, tblk_new w.drew _, Nat.zero_le _, hm, by omega, by simp⟩⟩
  have hB : Below w.heap.size w (w.drew.alloc (.cells Z 9)) := (Below.refl _ _).drew.alloc (Nat.le_refl _) _
  unfold maxLen at hm
  clear hZ
  go_enter Tryd.func57, Tryd.ntmps57
  go_wp2_with (at_builtin; refine wpList_append_run2 rfl _ _ 52 3 rfl _ _ _ _ rfl rfl hr ?_)
  go_wp2
  go_ret
  exact ⟨C, rfl, hO.out, hB⟩
end Go.Proofs.YtedncmbamjkacaaDoor

/- slices.Concat of four and three texts. -/
namespace Go.Proofs.YtedncmbamjkacaaDoor
open Go.RowKit
set_option linter.unusedVariables false

set_option maxRecDepth 100000 in
set_option maxHeartbeats 3200000 in
theorem concat_any (X Y : List ByteArray) (g : Nat) (a1 a2 : Option Addr) (c1 c2 : Nat) (w : World) (hX : X.length = 4) (hY : Y.length = 3) (hg : g < w.heap.size)
    (k0 : w.cell? ⟨g, 0, none⟩ = some (.slice a1 4 c1)) (k1 : w.cell? ⟨g, 1, none⟩ = some (.slice a2 3 c2)) (h1 : Txs w.heap.size w (.slice a1 4 c1) X) (h2 : Txs w.heap.size w (.slice a2 3 c2) Y) :
    Calls Tryd.prog 39 #[.slice (some ⟨g, 0, none⟩) 2 2] w fun e w' => ∃ b c, e = .returned (.slice (some ⟨b, 0, none⟩) 7 c) ∧ OwnT w.heap.size w' (.slice (some ⟨b, 0, none⟩) 7 c) (X ++ Y) ∧ Below w.heap.size w w' := by
  have HG : Hid (∀ W, Calls Tryd.prog 57 #[.slice none 0 0, .int .i64 7] W fun e w' => ∃ c, e = .returned (.slice (some ⟨W.heap.size, 0, none⟩) 0 c) ∧ OwnT W.heap.size w' (.slice (some ⟨W.heap.size, 0, none⟩) 0 c) [] ∧ Below W.heap.size W w') := grow7
  have HX : Hid (Txs w.heap.size w (.slice a1 4 c1) X) := h1
  have HY : Hid (Txs w.heap.size w (.slice a2 3 c2) Y) := h2
  clear h1 h2
  go_enter Tryd.func39, Tryd.ntmps39
  go_wp2_with fail
  go_loopw [3, 11] (fun vs vi wr => ∃ i : Nat, i ≤ 2 ∧ vi = .int .i64 i ∧ vs = .int .i64 (if i = 0 then 0 else if i = 1 then 4 else 7) ∧ Hid (wr = w)) (fun _ vi _ => 2 - (intOf vi).toNat)
  case atStart => exact ⟨0, Nat.zero_le _, rfl, rfl, by first | exact rfl | exact True.intro⟩
  case round =>
    obtain ⟨i, hi, rfl, rfl, hw⟩ := hrel
    obtain rfl := hw.out
    have e3 : i = 0 ∨ i = 1 ∨ i = 2 := by omega
    clear hi hw
    rcases e3 with rfl | rfl | rfl
    · simp only [if_true]
      go_wp2
      go_roundw
      case rel => exact ⟨1, by omega, by go_num, by go_num, by first | exact rfl | exact True.intro⟩
      case measure => simp [intOf]
    · simp only [if_true, if_false, Nat.one_ne_zero]
      go_wp2
      go_roundw
      case rel => exact ⟨2, by omega, by go_num, by go_num, by first | exact rfl | exact True.intro⟩
      case measure => simp [intOf]
    · simp only [if_false, show ¬ (2 : Nat) = 0 by decide, show ¬ (2 : Nat) = 1 by decide]
      go_wp2_with fail
      refine (HG.out _).mono ?_
      rintro e w1 ⟨c, rfl, O1, B1⟩
      have HO1 : Hid (OwnT wr.heap.size w1 (.slice (some ⟨wr.heap.size, 0, none⟩) 0 c) [] ∧ Below wr.heap.size wr w1) := ⟨O1, B1⟩
      clear O1 B1 HG
      obtain ⟨w0, hw0⟩ : ∃ w0, w0 = wr := ⟨_, rfl⟩
      subst hw0
      go_wp2_with fail
      go_loopw [6, 27] (fun v6 vi W => ∃ i : Nat, i ≤ 2 ∧ vi = .int .i64 i ∧ Hid (OwnT w0.heap.size W v6 (if i = 0 then [] else if i = 1 then X else X ++ Y) ∧ Below w0.heap.size w0 W)) (fun _ vi _ => 2 - (intOf vi).toNat)
      case atStart => exact ⟨0, Nat.zero_le _, rfl, HO1.out⟩
      case round =>
        obtain ⟨i, hi, rfl, hO⟩ := hrel
        clear HO1
        have e3 : i = 0 ∨ i = 1 ∨ i = 2 := by omega
        clear hi
        have hB := hO.out.2
        have hsz := hB.size
        rcases e3 with rfl | rfl | rfl
        · have q0 := (hB.cell (p := ⟨g, 0, none⟩) hg).trans k0
          obtain ⟨v', w', r, O, b⟩ := ownT_append hO.out.1 (HX.out.keep hB) (by show ([] : List ByteArray).length + X.length ≤ _; rw [hX]; decide) hsz
          have D := hB.trans b
          go_wp2_with (at_builtin; refine wpList_append_run2 rfl _ _ 52 52 rfl _ _ _ w' rfl rfl r ?_)
          go_wp2
          go_roundw
          case rel => exact ⟨1, by omega, by go_num, O, D⟩
          case measure => simp [intOf]
        · have q0 := (hB.cell (p := ⟨g, 1, none⟩) hg).trans k1
          obtain ⟨v', w', r, O, b⟩ := ownT_append hO.out.1 (HY.out.keep hB) (by show X.length + Y.length ≤ _; rw [hX, hY]; decide) hsz
          have D := hB.trans b
          go_wp2_with (at_builtin; refine wpList_append_run2 rfl _ _ 52 52 rfl _ _ _ w' rfl rfl r ?_)
          go_wp2
          go_roundw
          case rel => exact ⟨2, by omega, by go_num, O, D⟩
          case measure => simp [intOf]
        · have O2 : OwnT w0.heap.size wr u6 (X ++ Y) := hO.out.1
          have hl7 : (X ++ Y).length = 7 := by rw [List.length_append, hX, hY]
          obtain ⟨h5, ⟨h6, h7⟩ | ⟨gb, cb, cur, hv, r6⟩⟩ := O2
          · rw [hl7] at h7; cases h7
          rw [hl7] at hv
          subst hv
          have HO2 : Hid (OwnT w0.heap.size wr (.slice (some ⟨gb, 0, none⟩) 7 cb) (X ++ Y)) := hO.out.1
          clear h5 r6 hl7
          go_wp2
          go_ret
          exact ⟨gb, cb, rfl, HO2.out, hB⟩
end Go.Proofs.YtedncmbamjkacaaDoor

/- Plain lemmas on the numbers that texts of digits are. -/
namespace Go.Proofs.YtedncmbamjkacaaDoor
open Go.RowKit
set_option linter.unusedVariables false

/-- What a byte counts; 16 of a byte that is no digit. -/
def dgI (c : Int) : Int := if 48 ≤ c ∧ c ≤ 57 then c - 48 else if 97 ≤ c ∧ c ≤ 102 then c - 87 else if 65 ≤ c ∧ c ≤ 70 then c - 55 else 16
def dgN (b : UInt8) : Nat := (dgI (b.toNat : Int)).toNat
theorem dgI_bd (c : Int) : 0 ≤ dgI c ∧ dgI c ≤ 16 := by unfold dgI; split <;> (try split) <;> (try split) <;> omega
theorem dgN_cast (b : UInt8) : ((dgN b : Nat) : Int) = dgI (b.toNat : Int) := by unfold dgN; have := dgI_bd (b.toNat : Int); omega
theorem dgN_le (b : UInt8) : dgN b ≤ 16 := by have := dgN_cast b; have := dgI_bd (b.toNat : Int); omega

/-- The number of a text of digits of a base, if all are. -/
def stepV (base : Nat) (o : Option Nat) (b : UInt8) : Option Nat := o.bind fun n => if dgN b < base then some (n * base + dgN b) else none
def vN (base : Nat) (l : List UInt8) : Option Nat := l.foldl (stepV base) (some 0)
theorem vN_snoc (base : Nat) (l : List UInt8) (b : UInt8) : vN base (l ++ [b]) = stepV base (vN base l) b := by
  unfold vN; rw [List.foldl_append]; rfl
theorem fold_none (base : Nat) : ∀ l : List UInt8, l.foldl (stepV base) none = none
  | [] => rfl
  | b :: l => by rw [List.foldl_cons]; exact fold_none base l
theorem vN_bad (base : Nat) (l l' : List UInt8) (b : UInt8) (h : ¬ dgN b < base) : vN base (l ++ b :: l') = none := by
  unfold vN
  rw [List.foldl_append, List.foldl_cons]
  have e : stepV base (l.foldl (stepV base) (some 0)) b = none := by
    cases l.foldl (stepV base) (some 0) with
    | none => rfl
    | some n => simp [stepV, h]
  rw [e, fold_none]
theorem drop_at (s : ByteArray) (k : Nat) (h : k < s.size) : s.data.toList = s.data.toList.take k ++ s[k] :: s.data.toList.drop (k + 1) := by
  have e : s[k] :: s.data.toList.drop (k + 1) = s.data.toList.drop k := (List.drop_eq_getElem_cons (by simpa using h)).symm
  rw [e, List.take_append_drop]
theorem vN_bad_at (base : Nat) (s : ByteArray) (k : Nat) (h : k < s.size) (hb : ¬ dgN s[k] < base) : vN base s.data.toList = none := by
  rw [drop_at s k h]; exact vN_bad base _ _ _ hb
theorem vN_next (base : Nat) (s : ByteArray) (k : Nat) (h : k < s.size) (n : Nat) (hv : vN base (s.data.toList.take k) = some n) (hb : dgN s[k] < base) : vN base (s.data.toList.take (k + 1)) = some (n * base + dgN s[k]) := by
  rw [take_snoc s k h, vN_snoc, hv]; simp [stepV, hb]
theorem fold_lt (base : Nat) : ∀ (l : List UInt8) (a n : Nat), l.foldl (stepV base) (some a) = some n → n < (a + 1) * base ^ l.length
  | [], a, n, h => by simp at h; simp; omega
  | b :: l, a, n, h => by
    rw [List.foldl_cons] at h
    by_cases hd : dgN b < base
    · have e : stepV base (some a) b = some (a * base + dgN b) := by simp [stepV, hd]
      rw [e] at h
      have k := fold_lt base l _ n h
      rw [List.length_cons, Nat.pow_succ]
      refine Nat.lt_of_lt_of_le k ?_
      have e2 : (a + 1) * (base ^ l.length * base) = ((a + 1) * base) * base ^ l.length := by rw [Nat.mul_comm (base ^ l.length) base, Nat.mul_assoc]
      rw [e2]
      refine Nat.mul_le_mul_right _ ?_
      rw [Nat.add_mul, Nat.one_mul]
      omega
    · have e : stepV base (some a) b = none := by simp [stepV, hd]
      rw [e, fold_none] at h
      cases h
theorem vN_lt (base : Nat) (l : List UInt8) (n : Nat) (h : vN base l = some n) : n < base ^ l.length := by
  have k := fold_lt base l 0 n h
  simpa using k
theorem vN_take_lt (base most : Nat) (hb : 1 ≤ base) (s : ByteArray) (k : Nat) (hk : k ≤ most) (n : Nat) (hv : vN base (s.data.toList.take k) = some n) : n < base ^ most := by
  refine Nat.lt_of_lt_of_le (vN_lt base _ n hv) (Nat.pow_le_pow_right hb ?_)
  exact Nat.le_trans (List.length_take_le _ _) hk

/-- The number of a text of 1 to most digits, if it is one. -/
def numV (base most : Nat) (s : ByteArray) : Option Nat := if s.size = 0 ∨ most < s.size then none else vN base s.data.toList
def numI (base most : Nat) (s : ByteArray) : Int := ((numV base most s).getD 0 : Nat)
def numB (base most : Nat) (s : ByteArray) : Bool := (numV base most s).isSome
theorem num_out {base most : Nat} {s : ByteArray} (h : s.size = 0 ∨ most < s.size) : numI base most s = 0 ∧ numB base most s = false := by
  unfold numI numB numV; rw [if_pos h]; exact ⟨rfl, rfl⟩
theorem num_bad {base most : Nat} {s : ByteArray} (h : vN base s.data.toList = none) : numI base most s = 0 ∧ numB base most s = false := by
  unfold numI numB numV; rw [h]; split <;> exact ⟨rfl, rfl⟩
theorem num_ok {base most : Nat} {s : ByteArray} {n : Nat} (h : ¬ (s.size = 0 ∨ most < s.size)) (hv : vN base s.data.toList = some n) : numI base most s = n ∧ numB base most s = true := by
  unfold numI numB numV; rw [if_neg h, hv]; exact ⟨rfl, rfl⟩
theorem ret2_ib {x y : Int} {a b : Bool} (h : x = y) (k : a = b) : Ending.returned (.tuple #[.int .i64 x, .bool a]) = .returned (.tuple #[.int .i64 y, .bool b]) := by rw [h, k]
end Go.Proofs.YtedncmbamjkacaaDoor

/- What a digit counts. -/
namespace Go.Proofs.YtedncmbamjkacaaDoor
open Go.RowKit
set_option linter.unusedVariables false

theorem ret_i {k : IntKind} {a b : Int} (h : a = b) : Ending.returned (.int k a) = .returned (.int k b) := by rw [h]

set_option maxHeartbeats 1000000 in
theorem digit_any (c : Int) (w : World) (h0 : 0 ≤ c) (h1 : c < 256) : Calls Tryd.prog 68 #[.int .u8 c] w fun e w' => e = .returned (.int .i64 (dgI c)) ∧ w' = w := by
  by_cases a : 48 ≤ c
  · by_cases b : c ≤ 57
    · have E : Hid (c - 48 = dgI c) := by rw [Hid, dgI, if_pos ⟨a, b⟩]
      go_enter Tryd.func68, Tryd.ntmps68
      go_wp2
      go_ret
      exact ⟨ret_i (by rw [← E.out]), rfl⟩
    · by_cases d : 97 ≤ c
      · by_cases f : c ≤ 102
        · have E : Hid (c - 97 + 10 = dgI c) := by rw [Hid, dgI, if_neg (by omega), if_pos ⟨d, f⟩]; omega
          go_enter Tryd.func68, Tryd.ntmps68
          go_wp2
          go_ret
          exact ⟨ret_i (by rw [← E.out]), rfl⟩
        · have E : Hid (16 = dgI c) := by rw [Hid, dgI, if_neg (by omega), if_neg (by omega), if_neg (by omega)]
          have g : 65 ≤ c := by omega
          have g' : ¬ c ≤ 70 := by omega
          go_enter Tryd.func68, Tryd.ntmps68
          go_wp2
          go_ret
          exact ⟨ret_i E.out, rfl⟩
      · by_cases g : 65 ≤ c
        · by_cases g' : c ≤ 70
          · have E : Hid (c - 65 + 10 = dgI c) := by rw [Hid, dgI, if_neg (by omega), if_neg (by omega), if_pos ⟨g, g'⟩]; omega
            go_enter Tryd.func68, Tryd.ntmps68
            go_wp2
            go_ret
            exact ⟨ret_i (by rw [← E.out]), rfl⟩
          · have E : Hid (16 = dgI c) := by rw [Hid, dgI, if_neg (by omega), if_neg (by omega), if_neg (by omega)]
            go_enter Tryd.func68, Tryd.ntmps68
            go_wp2
            go_ret
            exact ⟨ret_i E.out, rfl⟩
        · have E : Hid (16 = dgI c) := by rw [Hid, dgI, if_neg (by omega), if_neg (by omega), if_neg (by omega)]
          go_enter Tryd.func68, Tryd.ntmps68
          go_wp2
          go_ret
          exact ⟨ret_i E.out, rfl⟩
  · have E : Hid (16 = dgI c) := by rw [Hid, dgI, if_neg (by omega), if_neg (by omega), if_neg (by omega)]
    have d : ¬ 97 ≤ c := by omega
    have g : ¬ 65 ≤ c := by omega
    go_enter Tryd.func68, Tryd.ntmps68
    go_wp2
    go_ret
    exact ⟨ret_i E.out, rfl⟩

end Go.Proofs.YtedncmbamjkacaaDoor

/- Decimal: what it answers of every text. -/
namespace Go.Proofs.YtedncmbamjkacaaDoor
open Go.RowKit
set_option linter.unusedVariables false

set_option maxHeartbeats 1000000 in
theorem number10 (s : ByteArray) (w : World) (hs : s.size ≤ maxLen) :
    Calls Tryd.prog 58 #[.string s, .int .i64 10, .int .i64 18] w fun e w' => e = .returned (.tuple #[.int .i64 (numI 10 18 s), .bool (numB 10 18 s)]) ∧ w' = w := by
  unfold maxLen at hs
  by_cases hz : s.size = 0
  · have he := empty_of hz
    subst he
    go_enter Tryd.func58, Tryd.ntmps58
    go_wp2
    go_ret2
    exact ⟨ret2_ib (num_out (.inl rfl)).1.symm (num_out (.inl rfl)).2.symm, rfl⟩
  · have hne := isEmpty_of hz
    by_cases hm : (18 : Int) < (s.size : Int)
    · have E : Hid (numI 10 18 s = 0 ∧ numB 10 18 s = false) := num_out (.inr (by omega))
      go_enter Tryd.func58, Tryd.ntmps58
      go_wp2
      go_ret2
      exact ⟨ret2_ib E.out.1.symm E.out.2.symm, rfl⟩
    · have hout : Hid (¬ (s.size = 0 ∨ 18 < s.size)) := by rw [Hid]; omega
      clear hz
      go_enter Tryd.func58, Tryd.ntmps58
      go_wp2
      go_loop [8, 21] (fun vn vi => ∃ k n : Nat, k ≤ s.size ∧ vi = .int .i64 k ∧ vn = .int .i64 n ∧ Hid (vN 10 (s.data.toList.take k) = some n)) (fun _ vi => s.size - (intOf vi).toNat)
      case atStart => exact ⟨0, 0, Nat.zero_le _, rfl, rfl, rfl⟩
      case round =>
        obtain ⟨k, n, hk, rfl, rfl, hv⟩ := hrel
        by_cases hlt : k < s.size
        · have bd := byte_bd s[k]
          have hn : n < 100000000000000000 := vN_take_lt 10 17 (by decide) s k (by omega) n hv.out
          have hd := dgI_bd (s[k].toNat : Int)
          have HD : Hid (((dgN s[k] : Nat) : Int) = dgI (s[k].toNat : Int)) := dgN_cast s[k]
          go_wp2_with fail
          refine (digit_any _ _ bd.1 bd.2).mono ?_
          rintro e w' ⟨rfl, rfl⟩
          by_cases hb : 10 ≤ dgI (s[k].toNat : Int)
          · have E : Hid (numI 10 18 s = 0 ∧ numB 10 18 s = false) := num_bad (vN_bad_at 10 s k hlt (by have := HD.out; omega))
            go_wp2
            go_ret2
            exact ⟨ret2_ib E.out.1.symm E.out.2.symm, rfl⟩
          · have E : Hid (vN 10 (s.data.toList.take (k + 1)) = some (n * 10 + dgN s[k])) := vN_next 10 s k hlt n hv.out (by have := HD.out; omega)
            go_wp2
            go_round
            case rel => exact ⟨k + 1, n * 10 + dgN s[k], by omega, by go_num, by have := HD.out; rw [Int.natCast_add, Int.natCast_mul, this]; rfl, E⟩
            case measure => simp [intOf]; omega
        · go_wp2
          go_ret2
          have hk' : k = s.size := by omega
          subst hk'
          have h := hv.out
          rw [List.take_of_length_le (by simp)] at h
          exact ⟨ret2_ib (num_ok hout.out h).1.symm (num_ok hout.out h).2.symm, rfl⟩

theorem decimal_any (s : ByteArray) (w : World) (hs : s.size ≤ maxLen) :
    Calls Tryd.prog 40 #[.string s] w fun e w' => e = .returned (.tuple #[.int .i64 (numI 10 18 s), .bool (numB 10 18 s)]) ∧ w' = w := by
  go_enter Tryd.func40, Tryd.ntmps40
  go_wp2_with fail
  refine (number10 s _ hs).mono ?_
  rintro e w' ⟨rfl, rfl⟩
  go_wp2
  go_ret2
  exact ⟨rfl, rfl⟩

end Go.Proofs.YtedncmbamjkacaaDoor

/- How great a number is that is read. -/
namespace Go.Proofs.YtedncmbamjkacaaDoor
open Go.RowKit
set_option linter.unusedVariables false

theorem numI_bdT (s : ByteArray) : 0 ≤ numI 10 18 s ∧ numI 10 18 s < 1000000000000000000 := by
  unfold numI numV
  split
  · exact ⟨by decide, by decide⟩
  · rename_i h
    cases hv : vN 10 s.data.toList with
    | none => exact ⟨by decide, by decide⟩
    | some n =>
      have k := vN_take_lt 10 18 (by decide) s s.size (by omega) n (by rw [List.take_of_length_le (show s.data.toList.length ≤ s.size from Nat.le_refl _)]; exact hv)
      show 0 ≤ (n : Int) ∧ (n : Int) < _
      have e : (10 : Nat) ^ 18 = 1000000000000000000 := by decide
      omega
end Go.Proofs.YtedncmbamjkacaaDoor

/- A line's words (plain); record. -/
namespace Go.Proofs.YtedncmbamjkacaaDoor
open Go.RowKit
set_option linter.unusedVariables false

def p10 (s : ByteArray) : List ByteArray := Lib.splitB ⟨#[32]⟩ 0 (min 10 (s.size + 1) - 1) s
theorem splitB_sizes (sep : ByteArray) : ∀ (k : Nat) (s : ByteArray), ∀ x ∈ Lib.splitB sep 0 k s, x.size ≤ s.size
  | 0, s, x, hx => by
    unfold Lib.splitB at hx
    simp at hx
    rw [hx]; exact Nat.le_refl _
  | k + 1, s, x, hx => by
    unfold Lib.splitB at hx
    split at hx
    · simp at hx
      rw [hx]
      exact Nat.le_refl _
    · rcases List.mem_cons.1 hx with h | h
      · rw [h]; exact extract_le _ _ _
      · exact Nat.le_trans (splitB_sizes sep k _ x h) (extract_le _ _ _)
theorem p10_size (s : ByteArray) : ∀ x ∈ p10 s, x.size ≤ s.size := splitB_sizes _ _ s
theorem p10_any (s : ByteArray) (w : World) (hs : s.size < 4294967281) (hM : MaxL w) :
    Calls Tryd.prog 38 #[.string s, .string ⟨#[32]⟩, .int .i64 10] w fun e w' => e = .returned (.slice (some ⟨w.heap.size, 0, none⟩) (p10 s).length (min 10 (s.size + 1))) ∧ Below w.heap.size w w' ∧ w.heap.size < w'.heap.size ∧ (∀ i x, (p10 s)[i]? = some x → w'.cell? ⟨w.heap.size, i, none⟩ = some (.string x)) := by
  obtain ⟨m, hm⟩ := hM
  refine (Tryd.strings_SplitN s ⟨#[32]⟩ 10 m w hs hm (by decide) (by decide) (by decide)).mono ?_
  rintro e w' ⟨rfl, rfl⟩
  refine ⟨rfl, (Below.refl _ _).alloc (Nat.le_refl _) _, by simp, ?_⟩
  intro i x hx
  refine tblk_cell (tblk_new _ _) ?_
  unfold Lib.cellsOf
  have hi : i < (p10 s).length := (List.getElem?_eq_some_iff.1 hx).1
  unfold p10 at hx hi
  rw [List.getElem?_toArray, List.getElem?_append_left (by simpa using hi), List.getElem?_map, hx]
  rfl
theorem p10_len (s : ByteArray) : (p10 s).length ≤ min 10 (s.size + 1) := by
  unfold p10
  have : ∀ (k : Nat) (s : ByteArray), (Lib.splitB ⟨#[32]⟩ 0 k s).length ≤ k + 1 := by
    intro k
    induction k with
    | zero => intro s; unfold Lib.splitB; simp
    | succ k ih =>
      intro s
      unfold Lib.splitB
      split
      · simp
      · rw [List.length_cons]; exact Nat.succ_le_succ (ih _)
  have := this (min 10 (s.size + 1) - 1) s
  omega
/-- The words that are numbers; are all? The record of nine words. -/
def digW (ws : List ByteArray) : List ByteArray := ws.take 4 ++ ws.drop 6
def okW (ws : List ByteArray) : Bool := (digW ws).all (numB 10 18)
def entW (ws : List ByteArray) : EntP := ⟨numI 10 18 (ws.getD 0 ⟨#[]⟩), numI 10 18 (ws.getD 1 ⟨#[]⟩), numI 10 18 (ws.getD 2 ⟨#[]⟩), numI 10 18 (ws.getD 3 ⟨#[]⟩), ws.getD 4 ⟨#[]⟩, ws.getD 5 ⟨#[]⟩, numI 10 18 (ws.getD 6 ⟨#[]⟩), numI 10 18 (ws.getD 7 ⟨#[]⟩), numI 10 18 (ws.getD 8 ⟨#[]⟩)⟩
def zeroE : EntP := ⟨0, 0, 0, 0, ⟨#[]⟩, ⟨#[]⟩, 0, 0, 0⟩
theorem nine {α : Type} {l : List α} (h : l.length = 9) : ∃ a b c d e f g i j, l = [a, b, c, d, e, f, g, i, j] := by
  match l, h with
  | [a, b, c, d, e, f, g, i, j], _ => exact ⟨a, b, c, d, e, f, g, i, j, rfl⟩
/-- The numbers' block behind i words. -/
def nbC (D : List ByteArray) (i : Nat) : Array Value := (((D.take i).map (numI 10 18) ++ List.replicate (7 - i) 0).map (Value.int .i64)).toArray
theorem nbC_zero (D : List ByteArray) : nbC D 0 = #[.int .i64 0, .int .i64 0, .int .i64 0, .int .i64 0, .int .i64 0, .int .i64 0, .int .i64 0] := rfl
theorem nbC_set {D : List ByteArray} (hD : D.length = 7) {i : Nat} (hi : i < 7) : (nbC D i).setIfInBounds i (.int .i64 (numI 10 18 (D[i]'(by omega)))) = nbC D (i + 1) := by
  unfold nbC
  apply Array.toList_inj.1
  rw [Array.toList_setIfInBounds]
  simp only
  have h7 : 7 - i = (7 - (i + 1)) + 1 := by omega
  rw [h7, List.replicate_succ, List.take_succ_eq_append_getElem (by omega)]
  rw [List.map_append, List.map_append, List.map_append, List.map_append, List.map_cons]
  rw [List.set_append_right _ _ (by simp; omega)]
  have e : i - (((D.take i).map (numI 10 18)).map (Value.int .i64)).length = 0 := by simp; omega
  rw [e, List.set_cons_zero]
  simp
theorem nbC_end {p0 p1 p2 p3 p4 p5 p6 : ByteArray} : nbC [p0, p1, p2, p3, p4, p5, p6] 7 = #[.int .i64 (numI 10 18 p0), .int .i64 (numI 10 18 p1), .int .i64 (numI 10 18 p2), .int .i64 (numI 10 18 p3), .int .i64 (numI 10 18 p4), .int .i64 (numI 10 18 p5), .int .i64 (numI 10 18 p6)] := rfl
set_option maxHeartbeats 800000 in
theorem record_any (z0 z1 z2 z3 z4 z5 z6 : Int) (m t : ByteArray) (w : World) : Calls Tryd.prog 41 #[.agg #[.int .i64 z0, .int .i64 z1, .int .i64 z2, .int .i64 z3, .int .i64 z4, .int .i64 z5, .int .i64 z6], .string m, .string t] w fun r w' => r = .returned (.agg #[.int .i64 z0, .int .i64 z1, .int .i64 z2, .int .i64 z3, .string m, .string t, .int .i64 z4, .int .i64 z5, .int .i64 z6]) ∧ Below w.heap.size w w' := by
  go_enter Tryd.func41, Tryd.ntmps41
  go_wp2
  refine bodyPost_ret (v := .agg #[.int .i64 z0, .int .i64 z1, .int .i64 z2, .int .i64 z3, .string m, .string t, .int .i64 z4, .int .i64 z5, .int .i64 z6]) (by simp [results, Tryd.results41, go_sem]) rfl ⟨rfl, ?_⟩
  exact ((Below.refl _ _).alloc (Nat.le_refl _) _).alloc (by simp) _
end Go.Proofs.YtedncmbamjkacaaDoor

/- parse: the record, right or not, of a line's words. -/
namespace Go.Proofs.YtedncmbamjkacaaDoor
open Go.RowKit
set_option linter.unusedVariables false

/-- What parse answers. -/
def parE (s : ByteArray) : Bool := decide ((p10 s).length = 9) && okW (p10 s)
def parV (s : ByteArray) : EntP := if parE s = true then entW (p10 s) else zeroE
theorem entV_zero : entV zeroE = #[.int .i64 0, .int .i64 0, .int .i64 0, .int .i64 0, .string ⟨#[]⟩, .string ⟨#[]⟩, .int .i64 0, .int .i64 0, .int .i64 0] := rfl
theorem Kp.set1 (w : World) (b o : Nat) (v : Value) : Kp (fun k => k = b) w (w.setCell ⟨b, o, none⟩ v) :=
  ⟨rfl, rfl, rfl, by simp [World.setCell], fun k _ hk => Below.heap_setCell _ _ _ _ hk⟩
theorem set9_blk {w : World} {b : Nat} {z0 z1 z2 z3 z4 z5 z6 z7 z8 : Value} {t : TypeId} (h : w.heap[b]? = some (.cells #[z0, z1, z2, z3, z4, z5, z6, z7, z8] t)) (y0 y1 y2 y3 y4 y5 y6 y7 y8 : Value) :
    ((((((((((w.setCell ⟨b, 0, none⟩ y0).setCell ⟨b, 1, none⟩ y1).setCell ⟨b, 2, none⟩ y2).setCell ⟨b, 3, none⟩ y3).setCell ⟨b, 4, none⟩ y4).setCell ⟨b, 5, none⟩ y5).setCell ⟨b, 6, none⟩ y6).setCell ⟨b, 7, none⟩ y7).setCell ⟨b, 8, none⟩ y8)).heap[b]? = some (.cells #[y0, y1, y2, y3, y4, y5, y6, y7, y8] t) := by
  have h0 : ((w.setCell ⟨b, 0, none⟩ y0)).heap[b]? = some (.cells #[y0, z1, z2, z3, z4, z5, z6, z7, z8] t) := ring_set h
  have h1 : (((w.setCell ⟨b, 0, none⟩ y0).setCell ⟨b, 1, none⟩ y1)).heap[b]? = some (.cells #[y0, y1, z2, z3, z4, z5, z6, z7, z8] t) := ring_set h0
  have h2 : ((((w.setCell ⟨b, 0, none⟩ y0).setCell ⟨b, 1, none⟩ y1).setCell ⟨b, 2, none⟩ y2)).heap[b]? = some (.cells #[y0, y1, y2, z3, z4, z5, z6, z7, z8] t) := ring_set h1
  have h3 : (((((w.setCell ⟨b, 0, none⟩ y0).setCell ⟨b, 1, none⟩ y1).setCell ⟨b, 2, none⟩ y2).setCell ⟨b, 3, none⟩ y3)).heap[b]? = some (.cells #[y0, y1, y2, y3, z4, z5, z6, z7, z8] t) := ring_set h2
  have h4 : ((((((w.setCell ⟨b, 0, none⟩ y0).setCell ⟨b, 1, none⟩ y1).setCell ⟨b, 2, none⟩ y2).setCell ⟨b, 3, none⟩ y3).setCell ⟨b, 4, none⟩ y4)).heap[b]? = some (.cells #[y0, y1, y2, y3, y4, z5, z6, z7, z8] t) := ring_set h3
  have h5 : (((((((w.setCell ⟨b, 0, none⟩ y0).setCell ⟨b, 1, none⟩ y1).setCell ⟨b, 2, none⟩ y2).setCell ⟨b, 3, none⟩ y3).setCell ⟨b, 4, none⟩ y4).setCell ⟨b, 5, none⟩ y5)).heap[b]? = some (.cells #[y0, y1, y2, y3, y4, y5, z6, z7, z8] t) := ring_set h4
  have h6 : ((((((((w.setCell ⟨b, 0, none⟩ y0).setCell ⟨b, 1, none⟩ y1).setCell ⟨b, 2, none⟩ y2).setCell ⟨b, 3, none⟩ y3).setCell ⟨b, 4, none⟩ y4).setCell ⟨b, 5, none⟩ y5).setCell ⟨b, 6, none⟩ y6)).heap[b]? = some (.cells #[y0, y1, y2, y3, y4, y5, y6, z7, z8] t) := ring_set h5
  have h7 : (((((((((w.setCell ⟨b, 0, none⟩ y0).setCell ⟨b, 1, none⟩ y1).setCell ⟨b, 2, none⟩ y2).setCell ⟨b, 3, none⟩ y3).setCell ⟨b, 4, none⟩ y4).setCell ⟨b, 5, none⟩ y5).setCell ⟨b, 6, none⟩ y6).setCell ⟨b, 7, none⟩ y7)).heap[b]? = some (.cells #[y0, y1, y2, y3, y4, y5, y6, y7, z8] t) := ring_set h6
  have h8 : ((((((((((w.setCell ⟨b, 0, none⟩ y0).setCell ⟨b, 1, none⟩ y1).setCell ⟨b, 2, none⟩ y2).setCell ⟨b, 3, none⟩ y3).setCell ⟨b, 4, none⟩ y4).setCell ⟨b, 5, none⟩ y5).setCell ⟨b, 6, none⟩ y6).setCell ⟨b, 7, none⟩ y7).setCell ⟨b, 8, none⟩ y8)).heap[b]? = some (.cells #[y0, y1, y2, y3, y4, y5, y6, y7, y8] t) := ring_set h7
  exact h8
theorem set9_below {B b : Nat} {w W : World} (h : Below B w W) (hb : B ≤ b) (y0 y1 y2 y3 y4 y5 y6 y7 y8 : Value) : Below B w ((((((((((W.setCell ⟨b, 0, none⟩ y0).setCell ⟨b, 1, none⟩ y1).setCell ⟨b, 2, none⟩ y2).setCell ⟨b, 3, none⟩ y3).setCell ⟨b, 4, none⟩ y4).setCell ⟨b, 5, none⟩ y5).setCell ⟨b, 6, none⟩ y6).setCell ⟨b, 7, none⟩ y7).setCell ⟨b, 8, none⟩ y8)) :=
  (((((((((h.setCell (p := ⟨b, 0, none⟩) hb y0).setCell (p := ⟨b, 1, none⟩) hb y1).setCell (p := ⟨b, 2, none⟩) hb y2).setCell (p := ⟨b, 3, none⟩) hb y3).setCell (p := ⟨b, 4, none⟩) hb y4).setCell (p := ⟨b, 5, none⟩) hb y5).setCell (p := ⟨b, 6, none⟩) hb y6).setCell (p := ⟨b, 7, none⟩) hb y7).setCell (p := ⟨b, 8, none⟩) hb y8)
theorem cells9 {w : World} {b : Nat} {z0 z1 z2 z3 z4 z5 z6 z7 z8 : Value} {t : TypeId} (h : w.heap[b]? = some (.cells #[z0, z1, z2, z3, z4, z5, z6, z7, z8] t)) : w.cell? ⟨b, 0, none⟩ = some z0 ∧ w.cell? ⟨b, 1, none⟩ = some z1 ∧ w.cell? ⟨b, 2, none⟩ = some z2 ∧ w.cell? ⟨b, 3, none⟩ = some z3 ∧ w.cell? ⟨b, 4, none⟩ = some z4 ∧ w.cell? ⟨b, 5, none⟩ = some z5 ∧ w.cell? ⟨b, 6, none⟩ = some z6 ∧ w.cell? ⟨b, 7, none⟩ = some z7 ∧ w.cell? ⟨b, 8, none⟩ = some z8 :=
  ⟨ring_cell h rfl, ring_cell h rfl, ring_cell h rfl, ring_cell h rfl, ring_cell h rfl, ring_cell h rfl, ring_cell h rfl, ring_cell h rfl, ring_cell h rfl⟩
theorem cells7 {w : World} {b : Nat} {z0 z1 z2 z3 z4 z5 z6 : Value} {t : TypeId} (h : w.heap[b]? = some (.cells #[z0, z1, z2, z3, z4, z5, z6] t)) : w.cell? ⟨b, 0, none⟩ = some z0 ∧ w.cell? ⟨b, 1, none⟩ = some z1 ∧ w.cell? ⟨b, 2, none⟩ = some z2 ∧ w.cell? ⟨b, 3, none⟩ = some z3 ∧ w.cell? ⟨b, 4, none⟩ = some z4 ∧ w.cell? ⟨b, 5, none⟩ = some z5 ∧ w.cell? ⟨b, 6, none⟩ = some z6 :=
  ⟨ring_cell h rfl, ring_cell h rfl, ring_cell h rfl, ring_cell h rfl, ring_cell h rfl, ring_cell h rfl, ring_cell h rfl⟩
theorem nbC_at {D : List ByteArray} (hD : D.length = 7) {i : Nat} (hi : i < 7) : ∃ y, (nbC D i)[i]? = some y := by
  refine ⟨(nbC D i)[i]'?_, Array.getElem?_eq_getElem _⟩
  unfold nbC
  simp
  omega
/-- How far the words' numbers are read. -/
structure PI13 (D : List ByteArray) (w3 : World) (nb i : Nat) (wr : World) : Prop where
  blk : wr.heap[nb]? = some (.cells (nbC D i) 45)
  all : (D.take i).all (numB 10 18) = true
  kp : Kp (fun k => k = nb) w3 wr
theorem PI13.next {D : List ByteArray} {w3 wr : World} {nb i : Nat} (h : PI13 D w3 nb i wr) (hD : D.length = 7) (hi : i < 7) (hb : numB 10 18 (D[i]'(by omega)) = true) : PI13 D w3 nb (i + 1) (wr.setCell ⟨nb, i, none⟩ (.int .i64 (numI 10 18 (D[i]'(by omega))))) := by
  refine ⟨?_, ?_, h.kp.then (Kp.set1 _ nb i _)⟩
  · rw [ring_set h.blk, nbC_set hD hi]
  · rw [List.take_succ_eq_append_getElem (by omega), List.all_append, h.all, List.all_cons, hb]; rfl
set_option maxRecDepth 100000 in
set_option maxHeartbeats 1600000 in
theorem enparse_any (s : ByteArray) (w : World) (hs : s.size < 4294967281) (hM : MaxL w) : Calls Tryd.prog 24 #[.string s] w fun r w' => r = .returned (.tuple #[.agg (entV (parV s)), .bool (parE s)]) ∧ Below w.heap.size w w' := by
  have BA : Below w.heap.size w (w.alloc (.cells #[.int .i64 0, .int .i64 0, .int .i64 0, .int .i64 0, .string ⟨#[]⟩, .string ⟨#[]⟩, .int .i64 0, .int .i64 0, .int .i64 0] 23)) := (Below.refl _ _).alloc (Nat.le_refl _) _
  have NA := tblk_new w (.cells #[.int .i64 0, .int .i64 0, .int .i64 0, .int .i64 0, .string ⟨#[]⟩, .string ⟨#[]⟩, .int .i64 0, .int .i64 0, .int .i64 0] 23)
  have sA : (w.alloc (.cells #[.int .i64 0, .int .i64 0, .int .i64 0, .int .i64 0, .string ⟨#[]⟩, .string ⟨#[]⟩, .int .i64 0, .int .i64 0, .int .i64 0] 23)).heap.size = w.heap.size + 1 := by simp
  have HS : Hid (Calls Tryd.prog 38 #[.string s, .string ⟨#[32]⟩, .int .i64 10] (w.alloc (.cells #[.int .i64 0, .int .i64 0, .int .i64 0, .int .i64 0, .string ⟨#[]⟩, .string ⟨#[]⟩, .int .i64 0, .int .i64 0, .int .i64 0] 23)) fun e w' => e = .returned (.slice (some ⟨w.heap.size + 1, 0, none⟩) (p10 s).length (min 10 (s.size + 1))) ∧ Below (w.heap.size + 1) (w.alloc (.cells #[.int .i64 0, .int .i64 0, .int .i64 0, .int .i64 0, .string ⟨#[]⟩, .string ⟨#[]⟩, .int .i64 0, .int .i64 0, .int .i64 0] 23)) w' ∧ w.heap.size + 1 < w'.heap.size ∧ (∀ i x, (p10 s)[i]? = some x → w'.cell? ⟨w.heap.size + 1, i, none⟩ = some (.string x))) := by
    have := p10_any s (w.alloc (.cells #[.int .i64 0, .int .i64 0, .int .i64 0, .int .i64 0, .string ⟨#[]⟩, .string ⟨#[]⟩, .int .i64 0, .int .i64 0, .int .i64 0] 23)) hs (hM.below BA)
    rw [sA] at this
    exact this
  have hlen := p10_len s
  have hsz := p10_size s
  unfold parV
  by_cases h9 : (p10 s).length = 9
  · obtain ⟨C, hC⟩ : ∃ C, C = min 10 (s.size + 1) := ⟨_, rfl⟩
    have hC9 : 9 ≤ C := by omega
    have hC10 : C ≤ 10 := by omega
    rw [← hC] at HS
    have hPE : parE s = okW (p10 s) := by unfold parE; rw [decide_eq_true h9, Bool.true_and]
    rw [hPE]
    have hZ : ∀ x ∈ p10 s, x.size ≤ 4294967281 := fun x hx => by have := hsz x hx; omega
    clear hPE hC hlen hsz hM hs
    generalize p10 s = ws at *
    obtain ⟨p0, p1, p2, p3, p4, p5, p6, p7, p8, rfl⟩ := nine h9
    have HOK : Hid (okW [p0, p1, p2, p3, p4, p5, p6, p7, p8] = [p0, p1, p2, p3, p6, p7, p8].all (numB 10 18)) := rfl
    have HEN : Hid (entV (entW [p0, p1, p2, p3, p4, p5, p6, p7, p8]) = #[.int .i64 (numI 10 18 p0), .int .i64 (numI 10 18 p1), .int .i64 (numI 10 18 p2), .int .i64 (numI 10 18 p3), .string p4, .string p5, .int .i64 (numI 10 18 p6), .int .i64 (numI 10 18 p7), .int .i64 (numI 10 18 p8)]) := rfl
    have HDZ : Hid (∀ x ∈ [p0, p1, p2, p3, p6, p7, p8], x.size ≤ maxLen) := fun x hx => by
      have := hZ x (by simp only [List.mem_cons, List.not_mem_nil, or_false] at hx ⊢; rcases hx with h | h | h | h | h | h | h <;> simp [h])
      unfold maxLen; omega
    generalize okW [p0, p1, p2, p3, p4, p5, p6, p7, p8] = ok at *
    generalize entW [p0, p1, p2, p3, p4, p5, p6, p7, p8] = en at *
    have HE1 : Hid (ok = false → entV (if ok = true then en else zeroE) = #[.int .i64 0, .int .i64 0, .int .i64 0, .int .i64 0, .string ⟨#[]⟩, .string ⟨#[]⟩, .int .i64 0, .int .i64 0, .int .i64 0]) := fun h => by rw [h]; rfl
    have HE2 : Hid (ok = true → entV (if ok = true then en else zeroE) = #[.int .i64 (numI 10 18 p0), .int .i64 (numI 10 18 p1), .int .i64 (numI 10 18 p2), .int .i64 (numI 10 18 p3), .string p4, .string p5, .int .i64 (numI 10 18 p6), .int .i64 (numI 10 18 p7), .int .i64 (numI 10 18 p8)]) := fun h => by rw [h, if_pos rfl]; exact HEN.out
    generalize (if ok = true then en else zeroE) = EN at *
    generalize entV EN = EA at *
    clear HEN
    clear h9 hZ
    have hl9 : ([p0, p1, p2, p3, p4, p5, p6, p7, p8] : List ByteArray).length = 9 := rfl
    rw [hl9] at HS
    clear hl9
    go_enter Tryd.func24, Tryd.ntmps24
    go_wp2_with fail
    refine HS.out.mono ?_
    rintro r w1 ⟨rfl, B1, L1, hc⟩
    have N1 : w1.heap[w.heap.size]? = some (.cells #[.int .i64 0, .int .i64 0, .int .i64 0, .int .i64 0, .string ⟨#[]⟩, .string ⟨#[]⟩, .int .i64 0, .int .i64 0, .int .i64 0] 23) := (B1.block _ (by omega)).trans NA
    have D1 := BA.trans (B1.mono (by omega))
    have x0 := hc 0 p0 rfl
    have x1 := hc 1 p1 rfl
    have x2 := hc 2 p2 rfl
    have x3 := hc 3 p3 rfl
    have x4 := hc 4 p4 rfl
    have x5 := hc 5 p5 rfl
    have x6 := hc 6 p6 rfl
    have x7 := hc 7 p7 rfl
    have x8 := hc 8 p8 rfl
    have T1 : Txs w1.heap.size w1 (.slice (some ⟨w.heap.size + 1, 0, none⟩) 4 C) [p0, p1, p2, p3] := ⟨_, C, rfl, (fun e => by cases e), by show 4 ≤ C; omega, by unfold maxLen; omega, fun _ => ⟨w.heap.size + 1, 0, rfl, L1, fun j hj => by
      have hj4 : j < 4 := hj
      have : j = 0 ∨ j = 1 ∨ j = 2 ∨ j = 3 := by omega
      rcases this with rfl | rfl | rfl | rfl <;> assumption⟩⟩
    have T2 : Txs w1.heap.size w1 (.slice (some ⟨w.heap.size + 1, 6, none⟩) 3 (C - 6)) [p6, p7, p8] := ⟨_, C - 6, rfl, (fun e => by cases e), by show 3 ≤ C - 6; omega, by unfold maxLen; omega, fun _ => ⟨w.heap.size + 1, 6, rfl, L1, fun j hj => by
      have hj4 : j < 3 := hj
      have : j = 0 ∨ j = 1 ∨ j = 2 := by omega
      rcases this with rfl | rfl | rfl <;> assumption⟩⟩
    clear hc B1 BA NA sA HS
    have B2 : Below w1.heap.size w1 (w1.alloc (.cells #[.int .i64 0, .int .i64 0, .int .i64 0, .int .i64 0, .int .i64 0, .int .i64 0, .int .i64 0] 45)) := (Below.refl _ _).alloc (Nat.le_refl _) _
    have N2 := tblk_new w1 (.cells #[.int .i64 0, .int .i64 0, .int .i64 0, .int .i64 0, .int .i64 0, .int .i64 0, .int .i64 0] 45)
    have s2 : (w1.alloc (.cells #[.int .i64 0, .int .i64 0, .int .i64 0, .int .i64 0, .int .i64 0, .int .i64 0, .int .i64 0] 45)).heap.size = w1.heap.size + 1 := by simp
    have HCC : Hid (∀ W, W = ((w1.alloc (.cells #[.int .i64 0, .int .i64 0, .int .i64 0, .int .i64 0, .int .i64 0, .int .i64 0, .int .i64 0] 45)).drew.alloc (.cells #[.slice (some ⟨w.heap.size + 1, 0, none⟩) 4 C, .slice (some ⟨w.heap.size + 1, 6, none⟩) 3 (C - 6)] 52)) → Calls Tryd.prog 39 #[.slice (some ⟨w1.heap.size + 1, 0, none⟩) 2 2] W fun e w' => ∃ b c, e = .returned (.slice (some ⟨b, 0, none⟩) 7 c) ∧ OwnT (w1.heap.size + 2) w' (.slice (some ⟨b, 0, none⟩) 7 c) [p0, p1, p2, p3, p6, p7, p8] ∧ Below (w1.heap.size + 1) (w1.alloc (.cells #[.int .i64 0, .int .i64 0, .int .i64 0, .int .i64 0, .int .i64 0, .int .i64 0, .int .i64 0] 45)) w') := by
      rintro W rfl
      have B3 : Below (w1.heap.size + 1) (w1.alloc (.cells #[.int .i64 0, .int .i64 0, .int .i64 0, .int .i64 0, .int .i64 0, .int .i64 0, .int .i64 0] 45)) ((w1.alloc (.cells #[.int .i64 0, .int .i64 0, .int .i64 0, .int .i64 0, .int .i64 0, .int .i64 0, .int .i64 0] 45)).drew.alloc (.cells #[.slice (some ⟨w.heap.size + 1, 0, none⟩) 4 C, .slice (some ⟨w.heap.size + 1, 6, none⟩) 3 (C - 6)] 52)) := (Below.refl _ _).drew.alloc (Nat.le_of_eq s2.symm) _
      have N3 := tblk_new (w1.alloc (.cells #[.int .i64 0, .int .i64 0, .int .i64 0, .int .i64 0, .int .i64 0, .int .i64 0, .int .i64 0] 45)).drew (.cells #[.slice (some ⟨w.heap.size + 1, 0, none⟩) 4 C, .slice (some ⟨w.heap.size + 1, 6, none⟩) 3 (C - 6)] 52)
      have s3 : (w1.alloc (.cells #[.int .i64 0, .int .i64 0, .int .i64 0, .int .i64 0, .int .i64 0, .int .i64 0, .int .i64 0] 45)).drew.heap.size = w1.heap.size + 1 := s2
      rw [s3] at N3
      have s4 : ((w1.alloc (.cells #[.int .i64 0, .int .i64 0, .int .i64 0, .int .i64 0, .int .i64 0, .int .i64 0, .int .i64 0] 45)).drew.alloc (.cells #[.slice (some ⟨w.heap.size + 1, 0, none⟩) 4 C, .slice (some ⟨w.heap.size + 1, 6, none⟩) 3 (C - 6)] 52)).heap.size = w1.heap.size + 2 := by simp
      have Bw : Below w1.heap.size w1 ((w1.alloc (.cells #[.int .i64 0, .int .i64 0, .int .i64 0, .int .i64 0, .int .i64 0, .int .i64 0, .int .i64 0] 45)).drew.alloc (.cells #[.slice (some ⟨w.heap.size + 1, 0, none⟩) 4 C, .slice (some ⟨w.heap.size + 1, 6, none⟩) 3 (C - 6)] 52)) := B2.trans (B3.mono (by omega))
      have k := concat_any [p0, p1, p2, p3] [p6, p7, p8] (w1.heap.size + 1) _ _ C (C - 6) _ rfl rfl (by omega) (tblk_cell N3 rfl) (tblk_cell N3 rfl) ((T1.keep Bw).mono (by omega)) ((T2.keep Bw).mono (by omega))
      refine k.mono ?_
      rintro e w' ⟨b, c, rfl, O, B⟩
      rw [s4] at O B
      exact ⟨b, c, rfl, O, B3.trans (B.mono (by omega))⟩
    have hC6 : ¬ C = 6 := by omega
    have i4 : (4 : Int) ≤ (C : Int) := by omega
    have i6 : (6 : Int) ≤ 9 := by omega
    clear T1 T2
    go_wp2_with fail
    go_region_held3 (fun _ => True) (go_keep) (first | (go_at_call 39; refine (HCC.out _ rfl).mono ?_; rintro e w3 ⟨gb, cb, rfl, O3, B3⟩))
    have hD7 : ([p0, p1, p2, p3, p6, p7, p8] : List ByteArray).length = 7 := rfl
    have N3 : w3.heap[w.heap.size]? = some (.cells #[.int .i64 0, .int .i64 0, .int .i64 0, .int .i64 0, .string ⟨#[]⟩, .string ⟨#[]⟩, .int .i64 0, .int .i64 0, .int .i64 0] 23) := (B3.block _ (by omega)).trans ((B2.block _ (by omega)).trans N1)
    have NB3 : w3.heap[w1.heap.size]? = some (.cells #[.int .i64 0, .int .i64 0, .int .i64 0, .int .i64 0, .int .i64 0, .int .i64 0, .int .i64 0] 45) := (B3.block _ (by omega)).trans N2
    have y4 : w3.cell? ⟨w.heap.size + 1, 4, none⟩ = some (.string p4) := (B3.cell (p := ⟨w.heap.size + 1, 4, none⟩) (by show _ + 1 < _; omega)).trans ((B2.cell (p := ⟨w.heap.size + 1, 4, none⟩) L1).trans x4)
    have y5 : w3.cell? ⟨w.heap.size + 1, 5, none⟩ = some (.string p5) := (B3.cell (p := ⟨w.heap.size + 1, 5, none⟩) (by show _ + 1 < _; omega)).trans ((B2.cell (p := ⟨w.heap.size + 1, 5, none⟩) L1).trans x5)
    have D3 : Below w.heap.size w w3 := (D1.trans (B2.mono D1.size)).trans (B3.mono (by have := D1.size; omega))
    have hs3 := B3.size
    rw [s2] at hs3
    obtain ⟨a5, c5, e5, _, r2, r3, r4⟩ := O3.txs
    have e5' : Value.slice (some ⟨gb, 0, none⟩) 7 cb = .slice a5 7 c5 := e5
    obtain ⟨rfl, _, rfl⟩ := slice_inj e5'
    obtain ⟨gw, ow, hgo, hgw, hcw⟩ := r4 (by show 0 < 7; omega)
    have hgo' := Option.some.inj hgo
    obtain rfl : gb = gw := congrArg Addr.block hgo'
    obtain rfl : 0 = ow := congrArg Addr.off hgo'
    simp only [Nat.zero_add] at hcw
    have HCW : Hid (∀ (j : Nat) (hj : j < [p0, p1, p2, p3, p6, p7, p8].length), w3.cell? ⟨gb, j, none⟩ = some (.string [p0, p1, p2, p3, p6, p7, p8][j])) := hcw
    have hgne : gb ≠ w1.heap.size := by
      obtain ⟨_, ⟨h, _⟩ | ⟨g6, _, _, hv, hg6, _⟩⟩ := O3
      · cases h
      · have := Option.some.inj (slice_inj hv).1
        have : gb = g6 := congrArg Addr.block this
        omega
    have P0 : PI13 [p0, p1, p2, p3, p6, p7, p8] w3 w1.heap.size 0 w3 := ⟨NB3, rfl, Kp.refl _ _⟩
    have HFIN : Hid (ok = [p0, p1, p2, p3, p6, p7, p8].all (numB 10 18)) := HOK.out
    have HEW : Hid (nbC [p0, p1, p2, p3, p6, p7, p8] 7 = #[.int .i64 (numI 10 18 p0), .int .i64 (numI 10 18 p1), .int .i64 (numI 10 18 p2), .int .i64 (numI 10 18 p3), .int .i64 (numI 10 18 p6), .int .i64 (numI 10 18 p7), .int .i64 (numI 10 18 p8)]) := rfl
    clear B3 B2 N1 N2 O3 hcw r4 r2 r3 e5 e5' hgo hgo' x0 x1 x2 x3 x4 x5 x6 x7 x8 HCC NB3 D1 hC6 i4 i6 HOK s2
    generalize hDD : [p0, p1, p2, p3, p6, p7, p8] = D at *
    have HDD : Hid ([p0, p1, p2, p3, p6, p7, p8] = D) := hDD
    clear hDD
    go_wp2_with fail
    go_loopw [22] (fun vi wr => ∃ i : Nat, i ≤ 7 ∧ vi = .int .i64 i ∧ Hid (PI13 D w3 w1.heap.size i wr)) (fun vi _ => 7 - (intOf vi).toNat)
    case atStart => exact ⟨0, Nat.zero_le _, rfl, P0⟩
    case round =>
      obtain ⟨i, hi, rfl, hP⟩ := hrel
      clear P0
      have hKP := hP.out.kp
      have D4 : Below w.heap.size w wr := D3.trans (hKP.below (by omega) (fun k hk c => by omega))
      have N4 : wr.heap[w.heap.size]? = some (.cells #[.int .i64 0, .int .i64 0, .int .i64 0, .int .i64 0, .string ⟨#[]⟩, .string ⟨#[]⟩, .int .i64 0, .int .i64 0, .int .i64 0] 23) := (hKP.block _ (by omega) (by omega)).trans N3
      by_cases hlt : i < 7
      · have hiD : i < D.length := by omega
        have q1 : wr.cell? ⟨gb, i, none⟩ = some (.string D[i]) := by
          have := HCW.out i hiD
          rw [← this]; simp [World.cell?, hKP.block gb hgw hgne]
        obtain ⟨y, hy⟩ := nbC_at hD7 hlt
        have q2 : wr.cell? ⟨w1.heap.size, i, none⟩ = some y := ring_cell hP.out.blk hy
        have q3 : wr.frozen? ⟨w1.heap.size, i, none⟩ = false := ring_z hP.out.blk
        have HDX : Hid (Calls Tryd.prog 40 #[.string D[i]] wr fun e w' => e = .returned (.tuple #[.int .i64 (numI 10 18 D[i]), .bool (numB 10 18 D[i])]) ∧ wr = w') := (decimal_any D[i] wr (HDZ.out _ (List.getElem_mem hiD))).mono fun e w' h => ⟨h.1, h.2.symm⟩
        have HNX : Hid (numB 10 18 D[i] = true → PI13 D w3 w1.heap.size (i + 1) (wr.setCell ⟨w1.heap.size, i, none⟩ (.int .i64 (numI 10 18 D[i])))) := fun h => hP.out.next hD7 hlt h
        have HNO : Hid (numB 10 18 D[i] = false → ok = false) := fun h => by
          rw [HFIN.out, List.all_eq_false]
          exact ⟨_, List.getElem_mem hiD, by rw [h]; decide⟩
        have N5 : (wr.setCell ⟨w1.heap.size, i, none⟩ (.int .i64 (numI 10 18 D[i]))).heap[w.heap.size]? = some (.cells #[.int .i64 0, .int .i64 0, .int .i64 0, .int .i64 0, .string ⟨#[]⟩, .string ⟨#[]⟩, .int .i64 0, .int .i64 0, .int .i64 0] 23) := (Below.heap_setCell _ _ _ _ (by show w.heap.size ≠ w1.heap.size; omega)).trans N4
        have D5 : Below w.heap.size w (wr.setCell ⟨w1.heap.size, i, none⟩ (.int .i64 (numI 10 18 D[i]))) := D4.setCell (p := ⟨w1.heap.size, i, none⟩) (by show w.heap.size ≤ w1.heap.size; omega) _
        have ii : (i : Int) < 7 := by omega
        clear hy
        generalize D[i] = x at *
        clear hiD
        generalize numI 10 18 x = z at *
        cases hb : numB 10 18 x
        · have hok : ok = false := HNO.out hb
          rw [hb] at HDX
          have HAN : Hid (Ending.returned (.tuple #[.agg #[.int .i64 0, .int .i64 0, .int .i64 0, .int .i64 0, .string ⟨#[]⟩, .string ⟨#[]⟩, .int .i64 0, .int .i64 0, .int .i64 0], .bool false]) = Ending.returned (.tuple #[.agg EA, .bool ok])) := by rw [Hid, HE1.out hok, hok]
          clear HNX HNO hb hP D4 N4 hok HE1 HE2
          obtain ⟨f0, f1, f2, f3, f4, f5, f6, f7, f8⟩ := cells9 N5
          have g0 : (wr.setCell ⟨w1.heap.size, i, none⟩ (.int .i64 z)).frozen? ⟨w.heap.size, 0, none⟩ = false := ring_z N5
          have g1 : (wr.setCell ⟨w1.heap.size, i, none⟩ (.int .i64 z)).frozen? ⟨w.heap.size, 1, none⟩ = false := ring_z N5
          have g2 : (wr.setCell ⟨w1.heap.size, i, none⟩ (.int .i64 z)).frozen? ⟨w.heap.size, 2, none⟩ = false := ring_z N5
          have g3 : (wr.setCell ⟨w1.heap.size, i, none⟩ (.int .i64 z)).frozen? ⟨w.heap.size, 3, none⟩ = false := ring_z N5
          have g4 : (wr.setCell ⟨w1.heap.size, i, none⟩ (.int .i64 z)).frozen? ⟨w.heap.size, 4, none⟩ = false := ring_z N5
          have g5 : (wr.setCell ⟨w1.heap.size, i, none⟩ (.int .i64 z)).frozen? ⟨w.heap.size, 5, none⟩ = false := ring_z N5
          have g6 : (wr.setCell ⟨w1.heap.size, i, none⟩ (.int .i64 z)).frozen? ⟨w.heap.size, 6, none⟩ = false := ring_z N5
          have g7 : (wr.setCell ⟨w1.heap.size, i, none⟩ (.int .i64 z)).frozen? ⟨w.heap.size, 7, none⟩ = false := ring_z N5
          have g8 : (wr.setCell ⟨w1.heap.size, i, none⟩ (.int .i64 z)).frozen? ⟨w.heap.size, 8, none⟩ = false := ring_z N5
          go_wp2_with fail
          refine HDX.out.mono ?_
          rintro e w' ⟨rfl, rfl⟩
          go_wp2
          have HFB : Hid (((((((((((wr.setCell ⟨w1.heap.size, i, none⟩ (.int .i64 z)).setCell ⟨w.heap.size, 0, none⟩ (.int .i64 0)).setCell ⟨w.heap.size, 1, none⟩ (.int .i64 0)).setCell ⟨w.heap.size, 2, none⟩ (.int .i64 0)).setCell ⟨w.heap.size, 3, none⟩ (.int .i64 0)).setCell ⟨w.heap.size, 4, none⟩ (.string ⟨#[]⟩)).setCell ⟨w.heap.size, 5, none⟩ (.string ⟨#[]⟩)).setCell ⟨w.heap.size, 6, none⟩ (.int .i64 0)).setCell ⟨w.heap.size, 7, none⟩ (.int .i64 0)).setCell ⟨w.heap.size, 8, none⟩ (.int .i64 0)).heap[w.heap.size]? = some (.cells #[.int .i64 0, .int .i64 0, .int .i64 0, .int .i64 0, .string ⟨#[]⟩, .string ⟨#[]⟩, .int .i64 0, .int .i64 0, .int .i64 0] 23)) := set9_blk N5 (.int .i64 0) (.int .i64 0) (.int .i64 0) (.int .i64 0) (.string ⟨#[]⟩) (.string ⟨#[]⟩) (.int .i64 0) (.int .i64 0) (.int .i64 0)
          have HFD : Hid (Below w.heap.size w ((((((((((wr.setCell ⟨w1.heap.size, i, none⟩ (.int .i64 z)).setCell ⟨w.heap.size, 0, none⟩ (.int .i64 0)).setCell ⟨w.heap.size, 1, none⟩ (.int .i64 0)).setCell ⟨w.heap.size, 2, none⟩ (.int .i64 0)).setCell ⟨w.heap.size, 3, none⟩ (.int .i64 0)).setCell ⟨w.heap.size, 4, none⟩ (.string ⟨#[]⟩)).setCell ⟨w.heap.size, 5, none⟩ (.string ⟨#[]⟩)).setCell ⟨w.heap.size, 6, none⟩ (.int .i64 0)).setCell ⟨w.heap.size, 7, none⟩ (.int .i64 0)).setCell ⟨w.heap.size, 8, none⟩ (.int .i64 0))) := set9_below D5 (Nat.le_refl _) (.int .i64 0) (.int .i64 0) (.int .i64 0) (.int .i64 0) (.string ⟨#[]⟩) (.string ⟨#[]⟩) (.int .i64 0) (.int .i64 0) (.int .i64 0)
          generalize ((((((((((wr.setCell ⟨w1.heap.size, i, none⟩ (.int .i64 z)).setCell ⟨w.heap.size, 0, none⟩ (.int .i64 0)).setCell ⟨w.heap.size, 1, none⟩ (.int .i64 0)).setCell ⟨w.heap.size, 2, none⟩ (.int .i64 0)).setCell ⟨w.heap.size, 3, none⟩ (.int .i64 0)).setCell ⟨w.heap.size, 4, none⟩ (.string ⟨#[]⟩)).setCell ⟨w.heap.size, 5, none⟩ (.string ⟨#[]⟩)).setCell ⟨w.heap.size, 6, none⟩ (.int .i64 0)).setCell ⟨w.heap.size, 7, none⟩ (.int .i64 0)).setCell ⟨w.heap.size, 8, none⟩ (.int .i64 0)) = WF at *
          obtain ⟨h0, h1, h2, h3, h4, h5, h6, h7, h8⟩ := cells9 HFB.out
          refine bodyPost_ret (v := .tuple #[.agg #[.int .i64 0, .int .i64 0, .int .i64 0, .int .i64 0, .string ⟨#[]⟩, .string ⟨#[]⟩, .int .i64 0, .int .i64 0, .int .i64 0], .bool false]) (by simp [results, Tryd.results24, go_sem, h0, h1, h2, h3, h4, h5, h6, h7, h8]) rfl ⟨HAN.out, HFD.out⟩
        · have hN := HNX.out hb
          have HN : Hid (PI13 D w3 w1.heap.size (i + 1) (wr.setCell ⟨w1.heap.size, i, none⟩ (.int .i64 z))) := hN
          rw [hb] at HDX
          clear HNX HNO hb hN hP D4 N4 N5 D5
          go_wp2_with fail
          refine HDX.out.mono ?_
          rintro e w' ⟨rfl, rfl⟩
          go_wp2
          go_roundw
          case rel => exact ⟨i + 1, by omega, by go_num, HN.out⟩
          case measure => simp [intOf]; omega
      · have hi7 : i = 7 := by omega
        subst hi7
        have hall := hP.out.all
        rw [List.take_of_length_le (by omega)] at hall
        have hok : ok = true := HFIN.out.trans hall
        have HAN : Hid (Ending.returned (.tuple #[.agg #[.int .i64 (numI 10 18 p0), .int .i64 (numI 10 18 p1), .int .i64 (numI 10 18 p2), .int .i64 (numI 10 18 p3), .string p4, .string p5, .int .i64 (numI 10 18 p6), .int .i64 (numI 10 18 p7), .int .i64 (numI 10 18 p8)], .bool true]) = Ending.returned (.tuple #[.agg EA, .bool ok])) := by rw [Hid, HE2.out hok, hok]
        clear hok HE1 HE2
        have hblk := hP.out.blk
        rw [HEW.out] at hblk
        have u4 : wr.cell? ⟨w.heap.size + 1, 4, none⟩ = some (.string p4) := by rw [← y4]; simp [World.cell?, hKP.block (w.heap.size + 1) (by omega) (by omega)]
        have u5 : wr.cell? ⟨w.heap.size + 1, 5, none⟩ = some (.string p5) := by rw [← y5]; simp [World.cell?, hKP.block (w.heap.size + 1) (by omega) (by omega)]
        have hne1 : w1.heap.size ≠ w.heap.size := by omega
        have hne2 : w.heap.size ≠ w1.heap.size := by omega
        clear hall HFIN HEW HCW HDZ HDD y4 y5 N3 D3 hP hlt hi hKP hgne hgw hD7
        generalize numI 10 18 p0 = z0 at *
        generalize numI 10 18 p1 = z1 at *
        generalize numI 10 18 p2 = z2 at *
        generalize numI 10 18 p3 = z3 at *
        generalize numI 10 18 p6 = z4 at *
        generalize numI 10 18 p7 = z5 at *
        generalize numI 10 18 p8 = z6 at *
        obtain ⟨n0, n1, n2, n3, n4, n5, n6⟩ := cells7 hblk
        have hbl := (Array.getElem?_eq_some_iff.1 hblk).1
        have HRC : Hid (∀ W, W = wr.drew → Calls Tryd.prog 41 #[.agg #[.int .i64 z0, .int .i64 z1, .int .i64 z2, .int .i64 z3, .int .i64 z4, .int .i64 z5, .int .i64 z6], .string p4, .string p5] W fun e w' => e = .returned (.agg #[.int .i64 z0, .int .i64 z1, .int .i64 z2, .int .i64 z3, .string p4, .string p5, .int .i64 z4, .int .i64 z5, .int .i64 z6]) ∧ (w'.cell? ⟨w.heap.size, 0, none⟩ = some (.int .i64 0) ∧ w'.cell? ⟨w.heap.size, 1, none⟩ = some (.int .i64 0) ∧ w'.cell? ⟨w.heap.size, 2, none⟩ = some (.int .i64 0) ∧ w'.cell? ⟨w.heap.size, 3, none⟩ = some (.int .i64 0) ∧ w'.cell? ⟨w.heap.size, 4, none⟩ = some (.string ⟨#[]⟩) ∧ w'.cell? ⟨w.heap.size, 5, none⟩ = some (.string ⟨#[]⟩) ∧ w'.cell? ⟨w.heap.size, 6, none⟩ = some (.int .i64 0) ∧ w'.cell? ⟨w.heap.size, 7, none⟩ = some (.int .i64 0) ∧ w'.cell? ⟨w.heap.size, 8, none⟩ = some (.int .i64 0) ∧ w'.frozen? ⟨w.heap.size, 0, none⟩ = false ∧ w'.frozen? ⟨w.heap.size, 1, none⟩ = false ∧ w'.frozen? ⟨w.heap.size, 2, none⟩ = false ∧ w'.frozen? ⟨w.heap.size, 3, none⟩ = false ∧ w'.frozen? ⟨w.heap.size, 4, none⟩ = false ∧ w'.frozen? ⟨w.heap.size, 5, none⟩ = false ∧ w'.frozen? ⟨w.heap.size, 6, none⟩ = false ∧ w'.frozen? ⟨w.heap.size, 7, none⟩ = false ∧ w'.frozen? ⟨w.heap.size, 8, none⟩ = false) ∧ Hid (w'.heap[w.heap.size]? = some (.cells #[.int .i64 0, .int .i64 0, .int .i64 0, .int .i64 0, .string ⟨#[]⟩, .string ⟨#[]⟩, .int .i64 0, .int .i64 0, .int .i64 0] 23)) ∧ Hid (Below w.heap.size w w') ∧ (w'.cell? ⟨w1.heap.size, 0, none⟩ = some (.int .i64 z0) ∧ w'.cell? ⟨w1.heap.size, 1, none⟩ = some (.int .i64 z1) ∧ w'.cell? ⟨w1.heap.size, 2, none⟩ = some (.int .i64 z2) ∧ w'.cell? ⟨w1.heap.size, 3, none⟩ = some (.int .i64 z3) ∧ w'.cell? ⟨w1.heap.size, 4, none⟩ = some (.int .i64 z4) ∧ w'.cell? ⟨w1.heap.size, 5, none⟩ = some (.int .i64 z5) ∧ w'.cell? ⟨w1.heap.size, 6, none⟩ = some (.int .i64 z6) ∧ w'.cell? ⟨w.heap.size + 1, 4, none⟩ = some (.string p4) ∧ w'.cell? ⟨w.heap.size + 1, 5, none⟩ = some (.string p5))) := by
          rintro W rfl
          refine (record_any z0 z1 z2 z3 z4 z5 z6 p4 p5 _).mono ?_
          rintro e w' ⟨rfl, B⟩
          have B' : Below wr.heap.size wr w' := (Below.refl wr.heap.size wr).drew.trans B
          have N6 := (B'.block _ (by omega)).trans N4
          obtain ⟨f0, f1, f2, f3, f4, f5, f6, f7, f8⟩ := cells9 N6
          exact ⟨rfl, ⟨f0, f1, f2, f3, f4, f5, f6, f7, f8, ring_z N6, ring_z N6, ring_z N6, ring_z N6, ring_z N6, ring_z N6, ring_z N6, ring_z N6, ring_z N6⟩, N6, D4.trans (B'.mono D4.size), (B'.cell (p := ⟨w1.heap.size, 0, none⟩) hbl).trans n0, (B'.cell (p := ⟨w1.heap.size, 1, none⟩) hbl).trans n1, (B'.cell (p := ⟨w1.heap.size, 2, none⟩) hbl).trans n2, (B'.cell (p := ⟨w1.heap.size, 3, none⟩) hbl).trans n3, (B'.cell (p := ⟨w1.heap.size, 4, none⟩) hbl).trans n4, (B'.cell (p := ⟨w1.heap.size, 5, none⟩) hbl).trans n5, (B'.cell (p := ⟨w1.heap.size, 6, none⟩) hbl).trans n6, (B'.cell (p := ⟨w.heap.size + 1, 4, none⟩) (by show _ + 1 < _; omega)).trans u4, (B'.cell (p := ⟨w.heap.size + 1, 5, none⟩) (by show _ + 1 < _; omega)).trans u5⟩
        clear hblk N4 D4 hbl
        go_wp2_with fail
        go_region_held3 (fun W => W.cell? ⟨w1.heap.size, 0, none⟩ = some (.int .i64 z0) ∧ W.cell? ⟨w1.heap.size, 1, none⟩ = some (.int .i64 z1) ∧ W.cell? ⟨w1.heap.size, 2, none⟩ = some (.int .i64 z2) ∧ W.cell? ⟨w1.heap.size, 3, none⟩ = some (.int .i64 z3) ∧ W.cell? ⟨w1.heap.size, 4, none⟩ = some (.int .i64 z4) ∧ W.cell? ⟨w1.heap.size, 5, none⟩ = some (.int .i64 z5) ∧ W.cell? ⟨w1.heap.size, 6, none⟩ = some (.int .i64 z6) ∧ W.cell? ⟨w.heap.size + 1, 4, none⟩ = some (.string p4) ∧ W.cell? ⟨w.heap.size + 1, 5, none⟩ = some (.string p5)) (go_keep) (first | (go_at_call 41; refine (HRC.out _ rfl).mono ?_; rintro e w5 ⟨rfl, ⟨f0, f1, f2, f3, f4, f5, f6, f7, f8, g0, g1, g2, g3, g4, g5, g6, g7, g8⟩, N6, D6, hS⟩))
        go_wp2
        have HFB : Hid ((((((((((w5.setCell ⟨w.heap.size, 0, none⟩ (.int .i64 z0)).setCell ⟨w.heap.size, 1, none⟩ (.int .i64 z1)).setCell ⟨w.heap.size, 2, none⟩ (.int .i64 z2)).setCell ⟨w.heap.size, 3, none⟩ (.int .i64 z3)).setCell ⟨w.heap.size, 4, none⟩ (.string p4)).setCell ⟨w.heap.size, 5, none⟩ (.string p5)).setCell ⟨w.heap.size, 6, none⟩ (.int .i64 z4)).setCell ⟨w.heap.size, 7, none⟩ (.int .i64 z5)).setCell ⟨w.heap.size, 8, none⟩ (.int .i64 z6)).heap[w.heap.size]? = some (.cells #[.int .i64 z0, .int .i64 z1, .int .i64 z2, .int .i64 z3, .string p4, .string p5, .int .i64 z4, .int .i64 z5, .int .i64 z6] 23)) := set9_blk N6.out (.int .i64 z0) (.int .i64 z1) (.int .i64 z2) (.int .i64 z3) (.string p4) (.string p5) (.int .i64 z4) (.int .i64 z5) (.int .i64 z6)
        have HFD : Hid (Below w.heap.size w (((((((((w5.setCell ⟨w.heap.size, 0, none⟩ (.int .i64 z0)).setCell ⟨w.heap.size, 1, none⟩ (.int .i64 z1)).setCell ⟨w.heap.size, 2, none⟩ (.int .i64 z2)).setCell ⟨w.heap.size, 3, none⟩ (.int .i64 z3)).setCell ⟨w.heap.size, 4, none⟩ (.string p4)).setCell ⟨w.heap.size, 5, none⟩ (.string p5)).setCell ⟨w.heap.size, 6, none⟩ (.int .i64 z4)).setCell ⟨w.heap.size, 7, none⟩ (.int .i64 z5)).setCell ⟨w.heap.size, 8, none⟩ (.int .i64 z6))) := set9_below D6.out (Nat.le_refl _) (.int .i64 z0) (.int .i64 z1) (.int .i64 z2) (.int .i64 z3) (.string p4) (.string p5) (.int .i64 z4) (.int .i64 z5) (.int .i64 z6)
        generalize (((((((((w5.setCell ⟨w.heap.size, 0, none⟩ (.int .i64 z0)).setCell ⟨w.heap.size, 1, none⟩ (.int .i64 z1)).setCell ⟨w.heap.size, 2, none⟩ (.int .i64 z2)).setCell ⟨w.heap.size, 3, none⟩ (.int .i64 z3)).setCell ⟨w.heap.size, 4, none⟩ (.string p4)).setCell ⟨w.heap.size, 5, none⟩ (.string p5)).setCell ⟨w.heap.size, 6, none⟩ (.int .i64 z4)).setCell ⟨w.heap.size, 7, none⟩ (.int .i64 z5)).setCell ⟨w.heap.size, 8, none⟩ (.int .i64 z6)) = WF at *
        obtain ⟨h0, h1, h2, h3, h4, h5, h6, h7, h8⟩ := cells9 HFB.out
        refine bodyPost_ret (v := .tuple #[.agg #[.int .i64 z0, .int .i64 z1, .int .i64 z2, .int .i64 z3, .string p4, .string p5, .int .i64 z4, .int .i64 z5, .int .i64 z6], .bool true]) (by simp [results, Tryd.results24, go_sem, h0, h1, h2, h3, h4, h5, h6, h7, h8]) rfl ⟨HAN.out, HFD.out⟩
  · have hPE : parE s = false := by unfold parE; rw [decide_eq_false h9, Bool.false_and]
    rw [hPE]
    simp only [Bool.false_eq_true, if_false]
    rw [entV_zero]
    generalize p10 s = ws at *
    generalize min 10 (s.size + 1) = C at *
    have hn9 : ¬ (ws.length : Int) = 9 := by omega
    have hn9' : ((ws.length : Int) == 9) = false := by simpa using hn9
    clear h9 hPE hsz hM hs hlen
    go_enter Tryd.func24, Tryd.ntmps24
    go_wp2_with fail
    refine HS.out.mono ?_
    rintro r w1 ⟨rfl, B1, L1, hc⟩
    have N1 : w1.heap[w.heap.size]? = some (.cells #[.int .i64 0, .int .i64 0, .int .i64 0, .int .i64 0, .string ⟨#[]⟩, .string ⟨#[]⟩, .int .i64 0, .int .i64 0, .int .i64 0] 23) := (B1.block _ (by omega)).trans NA
    have D1 := BA.trans (B1.mono (by omega))
    clear hc NA HS
    obtain ⟨f0, f1, f2, f3, f4, f5, f6, f7, f8⟩ := cells9 N1
    have g0 : w1.frozen? ⟨w.heap.size, 0, none⟩ = false := ring_z N1
    have g1 : w1.frozen? ⟨w.heap.size, 1, none⟩ = false := ring_z N1
    have g2 : w1.frozen? ⟨w.heap.size, 2, none⟩ = false := ring_z N1
    have g3 : w1.frozen? ⟨w.heap.size, 3, none⟩ = false := ring_z N1
    have g4 : w1.frozen? ⟨w.heap.size, 4, none⟩ = false := ring_z N1
    have g5 : w1.frozen? ⟨w.heap.size, 5, none⟩ = false := ring_z N1
    have g6 : w1.frozen? ⟨w.heap.size, 6, none⟩ = false := ring_z N1
    have g7 : w1.frozen? ⟨w.heap.size, 7, none⟩ = false := ring_z N1
    have g8 : w1.frozen? ⟨w.heap.size, 8, none⟩ = false := ring_z N1
    go_wp2
    have HFB : Hid ((((((((((w1.setCell ⟨w.heap.size, 0, none⟩ (.int .i64 0)).setCell ⟨w.heap.size, 1, none⟩ (.int .i64 0)).setCell ⟨w.heap.size, 2, none⟩ (.int .i64 0)).setCell ⟨w.heap.size, 3, none⟩ (.int .i64 0)).setCell ⟨w.heap.size, 4, none⟩ (.string ⟨#[]⟩)).setCell ⟨w.heap.size, 5, none⟩ (.string ⟨#[]⟩)).setCell ⟨w.heap.size, 6, none⟩ (.int .i64 0)).setCell ⟨w.heap.size, 7, none⟩ (.int .i64 0)).setCell ⟨w.heap.size, 8, none⟩ (.int .i64 0)).heap[w.heap.size]? = some (.cells #[.int .i64 0, .int .i64 0, .int .i64 0, .int .i64 0, .string ⟨#[]⟩, .string ⟨#[]⟩, .int .i64 0, .int .i64 0, .int .i64 0] 23)) := set9_blk N1 (.int .i64 0) (.int .i64 0) (.int .i64 0) (.int .i64 0) (.string ⟨#[]⟩) (.string ⟨#[]⟩) (.int .i64 0) (.int .i64 0) (.int .i64 0)
    have HFD : Hid (Below w.heap.size w (((((((((w1.setCell ⟨w.heap.size, 0, none⟩ (.int .i64 0)).setCell ⟨w.heap.size, 1, none⟩ (.int .i64 0)).setCell ⟨w.heap.size, 2, none⟩ (.int .i64 0)).setCell ⟨w.heap.size, 3, none⟩ (.int .i64 0)).setCell ⟨w.heap.size, 4, none⟩ (.string ⟨#[]⟩)).setCell ⟨w.heap.size, 5, none⟩ (.string ⟨#[]⟩)).setCell ⟨w.heap.size, 6, none⟩ (.int .i64 0)).setCell ⟨w.heap.size, 7, none⟩ (.int .i64 0)).setCell ⟨w.heap.size, 8, none⟩ (.int .i64 0))) := set9_below D1 (Nat.le_refl _) (.int .i64 0) (.int .i64 0) (.int .i64 0) (.int .i64 0) (.string ⟨#[]⟩) (.string ⟨#[]⟩) (.int .i64 0) (.int .i64 0) (.int .i64 0)
    generalize (((((((((w1.setCell ⟨w.heap.size, 0, none⟩ (.int .i64 0)).setCell ⟨w.heap.size, 1, none⟩ (.int .i64 0)).setCell ⟨w.heap.size, 2, none⟩ (.int .i64 0)).setCell ⟨w.heap.size, 3, none⟩ (.int .i64 0)).setCell ⟨w.heap.size, 4, none⟩ (.string ⟨#[]⟩)).setCell ⟨w.heap.size, 5, none⟩ (.string ⟨#[]⟩)).setCell ⟨w.heap.size, 6, none⟩ (.int .i64 0)).setCell ⟨w.heap.size, 7, none⟩ (.int .i64 0)).setCell ⟨w.heap.size, 8, none⟩ (.int .i64 0)) = WF at *
    obtain ⟨h0, h1, h2, h3, h4, h5, h6, h7, h8⟩ := cells9 HFB.out
    refine bodyPost_ret (v := .tuple #[.agg #[.int .i64 0, .int .i64 0, .int .i64 0, .int .i64 0, .string ⟨#[]⟩, .string ⟨#[]⟩, .int .i64 0, .int .i64 0, .int .i64 0], .bool false]) (by simp [results, Tryd.results24, go_sem, h0, h1, h2, h3, h4, h5, h6, h7, h8]) rfl ⟨rfl, HFD.out⟩
end Go.Proofs.YtedncmbamjkacaaDoor

/- Read: the right record of just a line. -/
namespace Go.Proofs.YtedncmbamjkacaaDoor
open Go.RowKit
set_option linter.unusedVariables false

theorem bytes_eqR {a b : ByteArray} (h : a.data.toList = b.data.toList) : a = b := by
  cases a; cases b; congr 1; exact Array.toList_inj.1 h
theorem conv_empty (w : World) (a : Option Addr) (c : Nat) : (convert 25 9 (.slice a 0 c)).run Tryd.prog w = .ok (.string ⟨#[]⟩) w := by
  cases a with
  | some ad => exact run_convert_bytes_back (P := Tryd.prog) w 25 9 5 ad c [] Tryd.underlying25 Tryd.underlying5 Tryd.underlying9 (fun j hj => absurd hj (Nat.not_lt_zero _))
  | none => simp [convert, run_underlying Tryd.underlying25, run_underlying Tryd.underlying9, run_underlying Tryd.underlying5, Conv.bytesToString, go_sem]; rfl
theorem conv_all {w : World} {k : Nat} {a : Option Addr} {n c : Nat} {b : List UInt8} (h : Src w k (.slice a n c) b) : (convert 25 9 (.slice a n c)).run Tryd.prog w = .ok (.string ⟨b.toArray⟩) w := by
  rcases Nat.eq_zero_or_pos n with hn | hn
  · subst hn
    have hl := h.len.1
    have : b = [] := List.eq_nil_of_length_eq_zero hl
    subst this
    exact conv_empty w a c
  · exact conv_back h hn
def trimR (s : ByteArray) : ByteArray := ⟨(Lib.trimSuffix s.data.toList [10]).toArray⟩
theorem trimR_size (x : ByteArray) : (trimR x).size ≤ x.size := by
  show (Lib.trimSuffix x.data.toList [10]).toArray.size ≤ x.data.toList.length
  rw [List.size_toArray]
  unfold Lib.trimSuffix
  split
  · rw [List.length_take]; omega
  · exact Nat.le_refl _
/-- Is a line a right record's, and whose? -/
def okR (s : ByteArray) : Bool := parE (trimR s) && (rightE (parV (trimR s)) && (lineL (parV (trimR s)) == s.data.toList))
def valR (s : ByteArray) : EntP := if okR s = true then parV (trimR s) else zeroE
def codR (s : ByteArray) : Int := if okR s = true then 0 else 20
theorem parV_size (s : ByteArray) : (parV s).m.size ≤ s.size ∧ (parV s).t.size ≤ s.size := by
  unfold parV
  have key : ∀ i, ((p10 s).getD i ⟨#[]⟩).size ≤ s.size := fun i => by
    rcases Nat.lt_or_ge i (p10 s).length with c | c
    · rw [List.getD, List.getElem?_eq_getElem c, Option.getD_some]
      exact p10_size s _ (List.getElem_mem c)
    · rw [List.getD, List.getElem?_eq_none c, Option.getD_none]; exact Nat.zero_le _
  split
  · exact ⟨key 4, key 5⟩
  · exact ⟨Nat.zero_le _, Nat.zero_le _⟩
set_option maxRecDepth 100000 in
set_option maxHeartbeats 800000 in
theorem enread_any (b : List UInt8) (k : Nat) (a : Option Addr) (n c : Nat) (w : World) (hS : Src w k (.slice a n c) b) (hk : 0 < b.length → k < w.heap.size) (hn : b.length < 4294967281) (hM : MaxL w) (hL : LmT w) (hP : PowT w) :
    Calls Tryd.prog 9 #[.slice a n c] w fun r w' => r = .returned (.tuple #[.agg (entV (valR ⟨b.toArray⟩)), .int .i64 (codR ⟨b.toArray⟩)]) ∧ Below w.heap.size w w' := by
  have BA : Below w.heap.size w (w.alloc (.cells #[.int .i64 0, .int .i64 0, .int .i64 0, .int .i64 0, .string ⟨#[]⟩, .string ⟨#[]⟩, .int .i64 0, .int .i64 0, .int .i64 0] 23)) := (Below.refl _ _).alloc (Nat.le_refl _) _
  have NA := tblk_new w (.cells #[.int .i64 0, .int .i64 0, .int .i64 0, .int .i64 0, .string ⟨#[]⟩, .string ⟨#[]⟩, .int .i64 0, .int .i64 0, .int .i64 0] 23)
  have HCV : Hid ((convert 25 9 (.slice a n c)).run Tryd.prog (w.alloc (.cells #[.int .i64 0, .int .i64 0, .int .i64 0, .int .i64 0, .string ⟨#[]⟩, .string ⟨#[]⟩, .int .i64 0, .int .i64 0, .int .i64 0] 23)) = .ok (.string ⟨b.toArray⟩) (w.alloc (.cells #[.int .i64 0, .int .i64 0, .int .i64 0, .int .i64 0, .string ⟨#[]⟩, .string ⟨#[]⟩, .int .i64 0, .int .i64 0, .int .i64 0] 23))) := conv_all (hS.keep hk BA)
  have hcv := HCV.out
  obtain ⟨s, hs⟩ : ∃ s : ByteArray, (⟨b.toArray⟩ : ByteArray) = s := ⟨_, rfl⟩
  have hsz : s.size < 4294967281 := by rw [← hs]; show b.toArray.size < _; rw [List.size_toArray]; exact hn
  rw [hs] at hcv ⊢
  have htz := trimR_size s
  have hpz := parV_size (trimR s)
  have HT : Hid (∀ W, Calls Tryd.prog 25 #[.string s, .string ⟨#[10]⟩] W fun e w' => e = .returned (.string (trimR s)) ∧ W = w') := fun W => (Tryd.strings_TrimSuffix s ⟨#[10]⟩ W (by omega)).mono fun e w' h => ⟨h.1, h.2.symm⟩
  have HPA : Hid (∀ W, Below w.heap.size w W → Calls Tryd.prog 24 #[.string (trimR s)] W fun r w' => r = .returned (.tuple #[.agg (entV (parV (trimR s))), .bool (parE (trimR s))]) ∧ Below W.heap.size W w') := fun W hW => enparse_any (trimR s) W (by omega) (hM.below hW)
  have HR : Hid (∀ W, Below w.heap.size w W → Calls Tryd.prog 7 #[.agg (entV (parV (trimR s)))] W fun r w' => r = .returned (.bool (rightE (parV (trimR s)))) ∧ Below W.heap.size W w') := fun W hW => enright_any _ W (by unfold maxLen; omega) (by unfold maxLen; omega) (hL.below hW)
  have HTL : Hid (rightE (parV (trimR s)) = true → ∀ W, Below w.heap.size w W → Calls Tryd.prog 16 #[.agg (entV (parV (trimR s)))] W fun r w' => r = .returned (.string (lineB (parV (trimR s)))) ∧ Below W.heap.size W w') := fun h W hW => entell_any _ W h (hP.below hW)
  have HOK : Hid (okR s = (parE (trimR s) && (rightE (parV (trimR s)) && (lineL (parV (trimR s)) == s.data.toList)))) := rfl
  have HV0 : Hid (okR s = false → Ending.returned (.tuple #[.agg #[.int .i64 0, .int .i64 0, .int .i64 0, .int .i64 0, .string ⟨#[]⟩, .string ⟨#[]⟩, .int .i64 0, .int .i64 0, .int .i64 0], .int .i64 20]) = .returned (.tuple #[.agg (entV (valR s)), .int .i64 (codR s)])) := fun h => by
    unfold valR codR; rw [h]; rfl
  have HV1 : Hid (okR s = true → Ending.returned (.tuple #[.agg (entV (parV (trimR s))), .int .i64 0]) = .returned (.tuple #[.agg (entV (valR s)), .int .i64 (codR s)])) := fun h => by
    unfold valR codR; rw [h]; rfl
  generalize valR s = VR at *
  generalize codR s = CR at *
  generalize okR s = OK at *
  generalize parE (trimR s) = b0 at *
  generalize parV (trimR s) = pv at *
  generalize trimR s = ts at *
  generalize rightE pv = b1 at *
  have HLB : Hid ((lineB pv).data.toList = lineL pv) := rfl
  generalize lineB pv = lb at *
  generalize lineL pv = ll at *
  obtain ⟨eq, ea, ek, en, em, et, ec, eu, ed⟩ := pv
  clear hS hk hn hM hL hP hs htz hpz HCV
  generalize entV VR = VA at *
  unfold entV at *
  simp only at *
  go_enter Tryd.func9, Tryd.ntmps9
  go_wp2_with fail
  refine (HT.out _).mono ?_
  rintro r w1 ⟨rfl, rfl⟩
  go_wp2_with fail
  refine (HPA.out _ BA).mono ?_
  rintro r w2 ⟨rfl, B2⟩
  have D2 := BA.trans (B2.mono BA.size)
  have N2 := tblk_below NA B2
  have B3 : Below w2.heap.size w2 (w2.alloc (.cells #[.int .i64 eq, .int .i64 ea, .int .i64 ek, .int .i64 en, .string em, .string et, .int .i64 ec, .int .i64 eu, .int .i64 ed] 23)) := (Below.refl _ _).alloc (Nat.le_refl _) _
  have M3 := tblk_new w2 (.cells #[.int .i64 eq, .int .i64 ea, .int .i64 ek, .int .i64 en, .string em, .string et, .int .i64 ec, .int .i64 eu, .int .i64 ed] 23)
  have N3 := tblk_below N2 B3
  have D3 := D2.trans (B3.mono D2.size)
  have hlt := (Array.getElem?_eq_some_iff.1 N2).1
  clear BA NA B2 B3 N2 D2
  go_upto_region 3 with fail
  generalize (w2.alloc (.cells #[.int .i64 eq, .int .i64 ea, .int .i64 ek, .int .i64 en, .string em, .string et, .int .i64 ec, .int .i64 eu, .int .i64 ed] 23)) = w3 at *
  cases b0 with
  | false =>
    have hO : Hid (OK = false) := HOK.out
    clear HTL HR HPA HT M3
    obtain ⟨f0, f1, f2, f3, f4, f5, f6, f7, f8⟩ := cells9 N3
    have g0 : w3.frozen? ⟨w.heap.size, 0, none⟩ = false := ring_z N3
    have g1 : w3.frozen? ⟨w.heap.size, 1, none⟩ = false := ring_z N3
    have g2 : w3.frozen? ⟨w.heap.size, 2, none⟩ = false := ring_z N3
    have g3 : w3.frozen? ⟨w.heap.size, 3, none⟩ = false := ring_z N3
    have g4 : w3.frozen? ⟨w.heap.size, 4, none⟩ = false := ring_z N3
    have g5 : w3.frozen? ⟨w.heap.size, 5, none⟩ = false := ring_z N3
    have g6 : w3.frozen? ⟨w.heap.size, 6, none⟩ = false := ring_z N3
    have g7 : w3.frozen? ⟨w.heap.size, 7, none⟩ = false := ring_z N3
    have g8 : w3.frozen? ⟨w.heap.size, 8, none⟩ = false := ring_z N3
    have HD3 : Hid (Below w.heap.size w w3) := D3
    have HN3 : Hid (w3.heap[w.heap.size]? = some (.cells #[.int .i64 0, .int .i64 0, .int .i64 0, .int .i64 0, .string ⟨#[]⟩, .string ⟨#[]⟩, .int .i64 0, .int .i64 0, .int .i64 0] 23)) := N3
    clear D3 N3
    go_wp2
    have HFB : Hid ((((((((((w3.setCell ⟨w.heap.size, 0, none⟩ (.int .i64 0)).setCell ⟨w.heap.size, 1, none⟩ (.int .i64 0)).setCell ⟨w.heap.size, 2, none⟩ (.int .i64 0)).setCell ⟨w.heap.size, 3, none⟩ (.int .i64 0)).setCell ⟨w.heap.size, 4, none⟩ (.string ⟨#[]⟩)).setCell ⟨w.heap.size, 5, none⟩ (.string ⟨#[]⟩)).setCell ⟨w.heap.size, 6, none⟩ (.int .i64 0)).setCell ⟨w.heap.size, 7, none⟩ (.int .i64 0)).setCell ⟨w.heap.size, 8, none⟩ (.int .i64 0)).heap[w.heap.size]? = some (.cells #[.int .i64 0, .int .i64 0, .int .i64 0, .int .i64 0, .string ⟨#[]⟩, .string ⟨#[]⟩, .int .i64 0, .int .i64 0, .int .i64 0] 23)) := set9_blk HN3.out (.int .i64 0) (.int .i64 0) (.int .i64 0) (.int .i64 0) (.string ⟨#[]⟩) (.string ⟨#[]⟩) (.int .i64 0) (.int .i64 0) (.int .i64 0)
    have HFD : Hid (Below w.heap.size w (((((((((w3.setCell ⟨w.heap.size, 0, none⟩ (.int .i64 0)).setCell ⟨w.heap.size, 1, none⟩ (.int .i64 0)).setCell ⟨w.heap.size, 2, none⟩ (.int .i64 0)).setCell ⟨w.heap.size, 3, none⟩ (.int .i64 0)).setCell ⟨w.heap.size, 4, none⟩ (.string ⟨#[]⟩)).setCell ⟨w.heap.size, 5, none⟩ (.string ⟨#[]⟩)).setCell ⟨w.heap.size, 6, none⟩ (.int .i64 0)).setCell ⟨w.heap.size, 7, none⟩ (.int .i64 0)).setCell ⟨w.heap.size, 8, none⟩ (.int .i64 0))) := set9_below HD3.out (Nat.le_refl _) (.int .i64 0) (.int .i64 0) (.int .i64 0) (.int .i64 0) (.string ⟨#[]⟩) (.string ⟨#[]⟩) (.int .i64 0) (.int .i64 0) (.int .i64 0)
    generalize (((((((((w3.setCell ⟨w.heap.size, 0, none⟩ (.int .i64 0)).setCell ⟨w.heap.size, 1, none⟩ (.int .i64 0)).setCell ⟨w.heap.size, 2, none⟩ (.int .i64 0)).setCell ⟨w.heap.size, 3, none⟩ (.int .i64 0)).setCell ⟨w.heap.size, 4, none⟩ (.string ⟨#[]⟩)).setCell ⟨w.heap.size, 5, none⟩ (.string ⟨#[]⟩)).setCell ⟨w.heap.size, 6, none⟩ (.int .i64 0)).setCell ⟨w.heap.size, 7, none⟩ (.int .i64 0)).setCell ⟨w.heap.size, 8, none⟩ (.int .i64 0)) = WF at *
    obtain ⟨h0, h1, h2, h3, h4, h5, h6, h7, h8⟩ := cells9 HFB.out
    refine bodyPost_ret (v := .tuple #[.agg #[.int .i64 0, .int .i64 0, .int .i64 0, .int .i64 0, .string ⟨#[]⟩, .string ⟨#[]⟩, .int .i64 0, .int .i64 0, .int .i64 0], .int .i64 20]) (by simp [results, Tryd.results9, go_sem, h0, h1, h2, h3, h4, h5, h6, h7, h8]) rfl ⟨HV0.out hO.out, HFD.out⟩
  | true =>
    have HO2 : Hid (OK = (b1 && (ll == s.data.toList))) := HOK.out
    clear HOK
    obtain ⟨m0, m1, m2, m3, m4, m5, m6, m7, m8⟩ := cells9 M3
    go_wp2_with fail
    refine (HR.out _ D3).mono ?_
    rintro r w4 ⟨rfl, B4⟩
    have D4 := D3.trans (B4.mono D3.size)
    have N4 := tblk_below N3 B4
    have M4 := tblk_below M3 B4
    clear D3 N3 M3 B4 m0 m1 m2 m3 m4 m5 m6 m7 m8
    cases b1 with
    | false =>
      have hO : Hid (OK = false) := HO2.out
      clear HTL HR HPA HT M4
      obtain ⟨f0, f1, f2, f3, f4, f5, f6, f7, f8⟩ := cells9 N4
      have g0 : w4.frozen? ⟨w.heap.size, 0, none⟩ = false := ring_z N4
      have g1 : w4.frozen? ⟨w.heap.size, 1, none⟩ = false := ring_z N4
      have g2 : w4.frozen? ⟨w.heap.size, 2, none⟩ = false := ring_z N4
      have g3 : w4.frozen? ⟨w.heap.size, 3, none⟩ = false := ring_z N4
      have g4 : w4.frozen? ⟨w.heap.size, 4, none⟩ = false := ring_z N4
      have g5 : w4.frozen? ⟨w.heap.size, 5, none⟩ = false := ring_z N4
      have g6 : w4.frozen? ⟨w.heap.size, 6, none⟩ = false := ring_z N4
      have g7 : w4.frozen? ⟨w.heap.size, 7, none⟩ = false := ring_z N4
      have g8 : w4.frozen? ⟨w.heap.size, 8, none⟩ = false := ring_z N4
      have HD3 : Hid (Below w.heap.size w w4) := D4
      have HN3 : Hid (w4.heap[w.heap.size]? = some (.cells #[.int .i64 0, .int .i64 0, .int .i64 0, .int .i64 0, .string ⟨#[]⟩, .string ⟨#[]⟩, .int .i64 0, .int .i64 0, .int .i64 0] 23)) := N4
      clear D4 N4
      go_wp2
      have HFB : Hid ((((((((((w4.setCell ⟨w.heap.size, 0, none⟩ (.int .i64 0)).setCell ⟨w.heap.size, 1, none⟩ (.int .i64 0)).setCell ⟨w.heap.size, 2, none⟩ (.int .i64 0)).setCell ⟨w.heap.size, 3, none⟩ (.int .i64 0)).setCell ⟨w.heap.size, 4, none⟩ (.string ⟨#[]⟩)).setCell ⟨w.heap.size, 5, none⟩ (.string ⟨#[]⟩)).setCell ⟨w.heap.size, 6, none⟩ (.int .i64 0)).setCell ⟨w.heap.size, 7, none⟩ (.int .i64 0)).setCell ⟨w.heap.size, 8, none⟩ (.int .i64 0)).heap[w.heap.size]? = some (.cells #[.int .i64 0, .int .i64 0, .int .i64 0, .int .i64 0, .string ⟨#[]⟩, .string ⟨#[]⟩, .int .i64 0, .int .i64 0, .int .i64 0] 23)) := set9_blk HN3.out (.int .i64 0) (.int .i64 0) (.int .i64 0) (.int .i64 0) (.string ⟨#[]⟩) (.string ⟨#[]⟩) (.int .i64 0) (.int .i64 0) (.int .i64 0)
      have HFD : Hid (Below w.heap.size w (((((((((w4.setCell ⟨w.heap.size, 0, none⟩ (.int .i64 0)).setCell ⟨w.heap.size, 1, none⟩ (.int .i64 0)).setCell ⟨w.heap.size, 2, none⟩ (.int .i64 0)).setCell ⟨w.heap.size, 3, none⟩ (.int .i64 0)).setCell ⟨w.heap.size, 4, none⟩ (.string ⟨#[]⟩)).setCell ⟨w.heap.size, 5, none⟩ (.string ⟨#[]⟩)).setCell ⟨w.heap.size, 6, none⟩ (.int .i64 0)).setCell ⟨w.heap.size, 7, none⟩ (.int .i64 0)).setCell ⟨w.heap.size, 8, none⟩ (.int .i64 0))) := set9_below HD3.out (Nat.le_refl _) (.int .i64 0) (.int .i64 0) (.int .i64 0) (.int .i64 0) (.string ⟨#[]⟩) (.string ⟨#[]⟩) (.int .i64 0) (.int .i64 0) (.int .i64 0)
      generalize (((((((((w4.setCell ⟨w.heap.size, 0, none⟩ (.int .i64 0)).setCell ⟨w.heap.size, 1, none⟩ (.int .i64 0)).setCell ⟨w.heap.size, 2, none⟩ (.int .i64 0)).setCell ⟨w.heap.size, 3, none⟩ (.int .i64 0)).setCell ⟨w.heap.size, 4, none⟩ (.string ⟨#[]⟩)).setCell ⟨w.heap.size, 5, none⟩ (.string ⟨#[]⟩)).setCell ⟨w.heap.size, 6, none⟩ (.int .i64 0)).setCell ⟨w.heap.size, 7, none⟩ (.int .i64 0)).setCell ⟨w.heap.size, 8, none⟩ (.int .i64 0)) = WF at *
      obtain ⟨h0, h1, h2, h3, h4, h5, h6, h7, h8⟩ := cells9 HFB.out
      refine bodyPost_ret (v := .tuple #[.agg #[.int .i64 0, .int .i64 0, .int .i64 0, .int .i64 0, .string ⟨#[]⟩, .string ⟨#[]⟩, .int .i64 0, .int .i64 0, .int .i64 0], .int .i64 20]) (by simp [results, Tryd.results9, go_sem, h0, h1, h2, h3, h4, h5, h6, h7, h8]) rfl ⟨HV0.out hO.out, HFD.out⟩
    | true =>
      have HO3 : Hid (OK = (ll == s.data.toList)) := HO2.out
      obtain ⟨m0, m1, m2, m3, m4, m5, m6, m7, m8⟩ := cells9 M4
      clear HO2
      go_wp2_with fail
      refine (HTL.out (by first | rfl | trivial) _ D4).mono ?_
      rintro r w5 ⟨rfl, B5⟩
      have D5 := D4.trans (B5.mono D4.size)
      have N5 := tblk_below N4 B5
      have M5 := tblk_below M4 B5
      clear D4 N4 M4 B5 m0 m1 m2 m3 m4 m5 m6 m7 m8 HTL HR HPA HT
      obtain ⟨f0, f1, f2, f3, f4, f5, f6, f7, f8⟩ := cells9 N5
      have g0 : w5.frozen? ⟨w.heap.size, 0, none⟩ = false := ring_z N5
      have g1 : w5.frozen? ⟨w.heap.size, 1, none⟩ = false := ring_z N5
      have g2 : w5.frozen? ⟨w.heap.size, 2, none⟩ = false := ring_z N5
      have g3 : w5.frozen? ⟨w.heap.size, 3, none⟩ = false := ring_z N5
      have g4 : w5.frozen? ⟨w.heap.size, 4, none⟩ = false := ring_z N5
      have g5 : w5.frozen? ⟨w.heap.size, 5, none⟩ = false := ring_z N5
      have g6 : w5.frozen? ⟨w.heap.size, 6, none⟩ = false := ring_z N5
      have g7 : w5.frozen? ⟨w.heap.size, 7, none⟩ = false := ring_z N5
      have g8 : w5.frozen? ⟨w.heap.size, 8, none⟩ = false := ring_z N5
      have HD3 : Hid (Below w.heap.size w w5) := D5
      have HN3 : Hid (w5.heap[w.heap.size]? = some (.cells #[.int .i64 0, .int .i64 0, .int .i64 0, .int .i64 0, .string ⟨#[]⟩, .string ⟨#[]⟩, .int .i64 0, .int .i64 0, .int .i64 0] 23)) := N5
      obtain ⟨m0, m1, m2, m3, m4, m5, m6, m7, m8⟩ := cells9 M5
      clear D5 N5 M5
      by_cases he : lb = s
      · have hO : Hid (OK = true) := by rw [Hid, HO3.out, ← HLB.out, he]; exact beq_self_eq_true _
        subst he
        go_wp2
        have HFB : Hid ((((((((((w5.setCell ⟨w.heap.size, 0, none⟩ (.int .i64 eq)).setCell ⟨w.heap.size, 1, none⟩ (.int .i64 ea)).setCell ⟨w.heap.size, 2, none⟩ (.int .i64 ek)).setCell ⟨w.heap.size, 3, none⟩ (.int .i64 en)).setCell ⟨w.heap.size, 4, none⟩ (.string em)).setCell ⟨w.heap.size, 5, none⟩ (.string et)).setCell ⟨w.heap.size, 6, none⟩ (.int .i64 ec)).setCell ⟨w.heap.size, 7, none⟩ (.int .i64 eu)).setCell ⟨w.heap.size, 8, none⟩ (.int .i64 ed)).heap[w.heap.size]? = some (.cells #[.int .i64 eq, .int .i64 ea, .int .i64 ek, .int .i64 en, .string em, .string et, .int .i64 ec, .int .i64 eu, .int .i64 ed] 23)) := set9_blk HN3.out (.int .i64 eq) (.int .i64 ea) (.int .i64 ek) (.int .i64 en) (.string em) (.string et) (.int .i64 ec) (.int .i64 eu) (.int .i64 ed)
        have HFD : Hid (Below w.heap.size w (((((((((w5.setCell ⟨w.heap.size, 0, none⟩ (.int .i64 eq)).setCell ⟨w.heap.size, 1, none⟩ (.int .i64 ea)).setCell ⟨w.heap.size, 2, none⟩ (.int .i64 ek)).setCell ⟨w.heap.size, 3, none⟩ (.int .i64 en)).setCell ⟨w.heap.size, 4, none⟩ (.string em)).setCell ⟨w.heap.size, 5, none⟩ (.string et)).setCell ⟨w.heap.size, 6, none⟩ (.int .i64 ec)).setCell ⟨w.heap.size, 7, none⟩ (.int .i64 eu)).setCell ⟨w.heap.size, 8, none⟩ (.int .i64 ed))) := set9_below HD3.out (Nat.le_refl _) (.int .i64 eq) (.int .i64 ea) (.int .i64 ek) (.int .i64 en) (.string em) (.string et) (.int .i64 ec) (.int .i64 eu) (.int .i64 ed)
        generalize (((((((((w5.setCell ⟨w.heap.size, 0, none⟩ (.int .i64 eq)).setCell ⟨w.heap.size, 1, none⟩ (.int .i64 ea)).setCell ⟨w.heap.size, 2, none⟩ (.int .i64 ek)).setCell ⟨w.heap.size, 3, none⟩ (.int .i64 en)).setCell ⟨w.heap.size, 4, none⟩ (.string em)).setCell ⟨w.heap.size, 5, none⟩ (.string et)).setCell ⟨w.heap.size, 6, none⟩ (.int .i64 ec)).setCell ⟨w.heap.size, 7, none⟩ (.int .i64 eu)).setCell ⟨w.heap.size, 8, none⟩ (.int .i64 ed)) = WF at *
        obtain ⟨h0, h1, h2, h3, h4, h5, h6, h7, h8⟩ := cells9 HFB.out
        refine bodyPost_ret (v := .tuple #[.agg #[.int .i64 eq, .int .i64 ea, .int .i64 ek, .int .i64 en, .string em, .string et, .int .i64 ec, .int .i64 eu, .int .i64 ed], .int .i64 0]) (by simp [results, Tryd.results9, go_sem, h0, h1, h2, h3, h4, h5, h6, h7, h8]) rfl ⟨HV1.out hO.out, HFD.out⟩
      · have hO : Hid (OK = false) := by rw [Hid, HO3.out, ← HLB.out, beq_eq_false_iff_ne]; exact fun h => he (bytes_eqR h)
        have he2 : (lb.toList == s.toList) = false := by
          rw [beq_eq_false_iff_ne]
          intro h
          exact he (by rw [ByteArray.toList_eq, ByteArray.toList_eq] at h; exact bytes_eqR h)
        have he3 : ¬ lb.toList = s.toList := by simpa using he2
        clear he
        go_wp2
        have HFB : Hid ((((((((((w5.setCell ⟨w.heap.size, 0, none⟩ (.int .i64 0)).setCell ⟨w.heap.size, 1, none⟩ (.int .i64 0)).setCell ⟨w.heap.size, 2, none⟩ (.int .i64 0)).setCell ⟨w.heap.size, 3, none⟩ (.int .i64 0)).setCell ⟨w.heap.size, 4, none⟩ (.string ⟨#[]⟩)).setCell ⟨w.heap.size, 5, none⟩ (.string ⟨#[]⟩)).setCell ⟨w.heap.size, 6, none⟩ (.int .i64 0)).setCell ⟨w.heap.size, 7, none⟩ (.int .i64 0)).setCell ⟨w.heap.size, 8, none⟩ (.int .i64 0)).heap[w.heap.size]? = some (.cells #[.int .i64 0, .int .i64 0, .int .i64 0, .int .i64 0, .string ⟨#[]⟩, .string ⟨#[]⟩, .int .i64 0, .int .i64 0, .int .i64 0] 23)) := set9_blk HN3.out (.int .i64 0) (.int .i64 0) (.int .i64 0) (.int .i64 0) (.string ⟨#[]⟩) (.string ⟨#[]⟩) (.int .i64 0) (.int .i64 0) (.int .i64 0)
        have HFD : Hid (Below w.heap.size w (((((((((w5.setCell ⟨w.heap.size, 0, none⟩ (.int .i64 0)).setCell ⟨w.heap.size, 1, none⟩ (.int .i64 0)).setCell ⟨w.heap.size, 2, none⟩ (.int .i64 0)).setCell ⟨w.heap.size, 3, none⟩ (.int .i64 0)).setCell ⟨w.heap.size, 4, none⟩ (.string ⟨#[]⟩)).setCell ⟨w.heap.size, 5, none⟩ (.string ⟨#[]⟩)).setCell ⟨w.heap.size, 6, none⟩ (.int .i64 0)).setCell ⟨w.heap.size, 7, none⟩ (.int .i64 0)).setCell ⟨w.heap.size, 8, none⟩ (.int .i64 0))) := set9_below HD3.out (Nat.le_refl _) (.int .i64 0) (.int .i64 0) (.int .i64 0) (.int .i64 0) (.string ⟨#[]⟩) (.string ⟨#[]⟩) (.int .i64 0) (.int .i64 0) (.int .i64 0)
        generalize (((((((((w5.setCell ⟨w.heap.size, 0, none⟩ (.int .i64 0)).setCell ⟨w.heap.size, 1, none⟩ (.int .i64 0)).setCell ⟨w.heap.size, 2, none⟩ (.int .i64 0)).setCell ⟨w.heap.size, 3, none⟩ (.int .i64 0)).setCell ⟨w.heap.size, 4, none⟩ (.string ⟨#[]⟩)).setCell ⟨w.heap.size, 5, none⟩ (.string ⟨#[]⟩)).setCell ⟨w.heap.size, 6, none⟩ (.int .i64 0)).setCell ⟨w.heap.size, 7, none⟩ (.int .i64 0)).setCell ⟨w.heap.size, 8, none⟩ (.int .i64 0)) = WF at *
        obtain ⟨h0, h1, h2, h3, h4, h5, h6, h7, h8⟩ := cells9 HFB.out
        refine bodyPost_ret (v := .tuple #[.agg #[.int .i64 0, .int .i64 0, .int .i64 0, .int .i64 0, .string ⟨#[]⟩, .string ⟨#[]⟩, .int .i64 0, .int .i64 0, .int .i64 0], .int .i64 20]) (by simp [results, Tryd.results9, go_sem, h0, h1, h2, h3, h4, h5, h6, h7, h8]) rfl ⟨HV0.out hO.out, HFD.out⟩
end Go.Proofs.YtedncmbamjkacaaDoor
