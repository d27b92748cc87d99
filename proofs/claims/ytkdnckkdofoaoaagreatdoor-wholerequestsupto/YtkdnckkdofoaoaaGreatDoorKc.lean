/- Texts that the proof leans on, one behind the other: SgnA SgnB SgnV TxtK TxtF TxtT TrimA TxtA FldA FldL -/
import Derived.Test.YtkdnckkdofoaoaaGreatDoorKb
import Derived.WalkKit
import Derived.WalkSpells
import Derived.WalkLawsBesides
import Derived.Laws.Pointers
import Derived.Laws.EntriesVeiled
import Derived.Lib.Bytealg
import Derived.Test.YtkdnckkdofoaoaaGreatDoorKa
import Derived.Lib.Walk
import Derived.Lib.ItoaMem
import Derived.Laws.IdiomStrings
import Derived.Test.YtkdnckkdofoaoaaGreatDoorRows
import Derived.Lib.SmallJoins
/- The closures of package sign: which bytes each lets stand. -/
namespace Go.Proofs.YtkdnckkdofoaoaaGreatDoor
open Go.RowKit
set_option linter.unusedVariables false

theorem sblk_lt {w : World} {b : Nat} {o : Obj} (h : w.heap[b]? = some o) : b < w.heap.size := (Array.getElem?_eq_some_iff.1 h).1
theorem sblk_new (w : World) (o : Obj) : (w.alloc o).heap[w.heap.size]? = some o := by
  show (w.heap.push o)[w.heap.size]? = _; simp
theorem sblk_alloc {w : World} {b : Nat} {o : Obj} (h : w.heap[b]? = some o) (o' : Obj) : (w.alloc o').heap[b]? = some o := by
  rw [Below.heap_alloc _ _ _ (sblk_lt h)]; exact h
theorem sblk_cell {w : World} {b i : Nat} {c : Array Value} {t : TypeId} {v : Value} (h : w.heap[b]? = some (.cells c t)) (hv : c[i]? = some v) : w.cell? ⟨b, i, none⟩ = some v := by
  simp [World.cell?, h, hv]
theorem sblk_below {w w' : World} {b : Nat} {o : Obj} (h : w.heap[b]? = some o) (k : Below w.heap.size w w') : w'.heap[b]? = some o := (k.block b (sblk_lt h)).trans h

/-- A byte from lo to hi. -/
def spanP (lo hi c : Int) : Bool := decide (lo ≤ c) && decide (c ≤ hi)
theorem span_call (lo hi c : Int) (p q : Nat) (w : World) (h1 : w.heap[p]? = some (.cells #[.int .u8 lo] 5)) (h2 : w.heap[q]? = some (.cells #[.int .u8 hi] 5)) :
    Calls Tryz.prog 139 #[.int .u8 c, .pointer (some ⟨p, 0, none⟩), .pointer (some ⟨q, 0, none⟩)] w fun e w' => e = .returned (.bool (spanP lo hi c)) ∧ w' = w := by
  have c1 : w.cell? ⟨p, 0, none⟩ = some (.int .u8 lo) := sblk_cell h1 rfl
  have c2 : w.cell? ⟨q, 0, none⟩ = some (.int .u8 hi) := sblk_cell h2 rfl
  clear h1 h2
  unfold spanP
  by_cases k : lo ≤ c
  · rw [decide_eq_true k]
    go_enter Tryz.func139, Tryz.ntmps139
    go_wp2
    go_ret
    exact ⟨by simp, rfl⟩
  · rw [decide_eq_false k]
    go_enter Tryz.func139, Tryz.ntmps139
    go_wp2
    go_ret
    exact ⟨rfl, rfl⟩

/-- A byte of a text. -/
def amongP (s : ByteArray) (c : Int) : Bool := decide (0 ≤ Lib.indexByte s.data.toList c.toNat.toUInt8)
theorem indexByte_run (s : ByteArray) (c : Int) (w : World) : (callFunc 196 #[.string s, .int .u8 c]).run Tryz.prog w = .ok (.value (.int .i64 (Lib.indexByte s.data.toList c.toNat.toUInt8))) w := by
  rw [run_callFunc_extern Tryz.func196 (by kernel_rfl) (by kernel_rfl) (by kernel_rfl) (show Extern.find Tryz.f196 = some Extern.BytealgIndexByte.indexByte by kernel_rfl), Lib.run_indexByteString]
  rfl
theorem among_call (s : ByteArray) (c : Int) (p : Nat) (w : World) (h1 : w.heap[p]? = some (.cells #[.string s] 9)) :
    Calls Tryz.prog 140 #[.int .u8 c, .pointer (some ⟨p, 0, none⟩)] w fun e w' => e = .returned (.bool (amongP s c)) ∧ w' = w := by
  have c1 : w.cell? ⟨p, 0, none⟩ = some (.string s) := sblk_cell h1 rfl
  clear h1
  have hr := indexByte_run
  unfold amongP
  go_enter Tryz.func140, Tryz.ntmps140
  go_wp2
  go_ret
  exact ⟨by simp, rfl⟩

theorem span_any (lo hi : Int) (w : World) : Calls Tryz.prog 103 #[.int .u8 lo, .int .u8 hi] w fun e w' => ∃ p q : Nat, e = .returned (.func (.func 139) #[] #[.pointer (some ⟨p, 0, none⟩), .pointer (some ⟨q, 0, none⟩)]) ∧
    w'.heap[p]? = some (.cells #[.int .u8 lo] 5) ∧ w'.heap[q]? = some (.cells #[.int .u8 hi] 5) ∧ Below w.heap.size w w' := by
  have hmf : ∀ (fn : Fn) (first cap : Array Value) (w : World), (Instr.makeFunc fn first cap).run Tryz.prog w = .ok (.func fn first cap) w := fun _ _ _ _ => rfl
  go_enter Tryz.func103, Tryz.ntmps103
  go_wp2
  go_ret
  refine ⟨_, _, rfl, sblk_alloc (sblk_new _ _) _, ?_, ((Below.refl _ _).alloc (Nat.le_refl _) _).alloc (by simp) _⟩
  have h := sblk_new (w.alloc (.cells #[.int .u8 lo] 5)) (.cells #[.int .u8 hi] 5)
  rw [show (w.alloc (.cells #[.int .u8 lo] 5)).heap.size = w.heap.size + 1 from by simp] at h
  exact h

theorem among_any (s : ByteArray) (w : World) : Calls Tryz.prog 104 #[.string s] w fun e w' => ∃ p : Nat, e = .returned (.func (.func 140) #[] #[.pointer (some ⟨p, 0, none⟩)]) ∧
    w'.heap[p]? = some (.cells #[.string s] 9) ∧ Below w.heap.size w w' := by
  have hmf : ∀ (fn : Fn) (first cap : Array Value) (w : World), (Instr.makeFunc fn first cap).run Tryz.prog w = .ok (.func fn first cap) w := fun _ _ _ _ => rfl
  go_enter Tryz.func104, Tryz.ntmps104
  go_wp2
  go_ret
  exact ⟨_, rfl, sblk_new _ _, (Below.refl _ _).alloc (Nat.le_refl _) _⟩

theorem either_any (b n c : Nat) (w : World) : Calls Tryz.prog 102 #[.slice (some ⟨b, 0, none⟩) n c] w fun e w' => ∃ p : Nat, e = .returned (.func (.func 138) #[] #[.pointer (some ⟨p, 0, none⟩)]) ∧
    w'.heap[p]? = some (.cells #[.slice (some ⟨b, 0, none⟩) n c] 137) ∧ Below w.heap.size w w' := by
  have hmf : ∀ (fn : Fn) (first cap : Array Value) (w : World), (Instr.makeFunc fn first cap).run Tryz.prog w = .ok (.func fn first cap) w := fun _ _ _ _ => rfl
  go_enter Tryz.func102, Tryz.ntmps102
  go_wp2
  go_ret
  exact ⟨_, rfl, sblk_new _ _, (Below.refl _ _).alloc (Nat.le_refl _) _⟩

/-- All bytes of a text. -/
def allB (p : Int → Bool) (l : List UInt8) : Bool := l.all fun b => p (b.toNat : Int)

theorem allB_snoc {p : Int → Bool} (s : ByteArray) (k : Nat) (h : k < s.size) (ha : allB p (s.data.toList.take k) = true) (hc : p (s[k].toNat : Int) = true) : allB p (s.data.toList.take (k + 1)) = true := by
  rw [take_snoc s k h]; unfold allB at *; rw [List.all_append, ha]; simp [hc]
theorem allB_false {p : Int → Bool} (s : ByteArray) (k : Nat) (h : k < s.size) (hc : p (s[k].toNat : Int) = false) : allB p s.data.toList = false := by
  unfold allB
  rw [List.all_eq_false]
  exact ⟨s[k], by rw [show s[k] = s.data.toList[k]'(by simpa using h) from rfl]; exact List.getElem_mem _, by simp [hc]⟩

set_option maxHeartbeats 1000000 in
theorem all49 (s : ByteArray) (a : Value) (p : Int → Bool) (w : World) (hs : s.size ≤ maxLen)
    (hp : ∀ c : Int, 0 ≤ c → c < 256 → Calls Tryz.prog 138 #[.int .u8 c, a] w fun e w' => e = .returned (.bool (p c)) ∧ w' = w) :
    Calls Tryz.prog 101 #[.string s, .func (.func 138) #[] #[a]] w fun e w' => e = .returned (.bool (allB p s.data.toList)) ∧ w' = w := by
  unfold maxLen at hs
  have HP : Hid (∀ c : Int, 0 ≤ c → c < 256 → Calls Tryz.prog 138 #[.int .u8 c, a] w fun e w' => e = .returned (.bool (p c)) ∧ w' = w) := hp
  clear hp
  go_enter Tryz.func101, Tryz.ntmps101
  go_wp2
  go_loop [8] (fun i => ∃ k : Nat, k ≤ s.size ∧ i = .int .i64 k ∧ Hid (allB p (s.data.toList.take k) = true)) (fun i => s.size - (intOf i).toNat)
  case atStart => exact ⟨0, Nat.zero_le _, rfl, rfl⟩
  case round =>
    obtain ⟨k, hk, rfl, hA⟩ := hrel
    by_cases hlt : k < s.size
    · go_wp2_with fail
      refine (HP.out _ (by omega) (by have := s[k].toNat_lt; omega)).mono ?_
      rintro e w' ⟨rfl, rfl⟩
      cases hpc : p (s[k].toNat : Int)
      · have HC : Hid (p (s[k].toNat : Int) = false) := hpc
        clear hpc
        go_wp2
        go_ret
        exact ⟨ret_b (allB_false s k hlt HC.out).symm, rfl⟩
      · have HC : Hid (p (s[k].toNat : Int) = true) := hpc
        clear hpc
        go_wp2
        go_round
        case rel => exact ⟨k + 1, by omega, by go_num, allB_snoc s k hlt hA.out HC.out⟩
        case measure => simp [intOf]; omega
    · go_wp2
      go_ret
      have hk' : k = s.size := by omega
      subst hk'
      exact ⟨ret_b (by have h := hA.out; rw [List.take_of_length_le (by simp)] at h; exact h.symm), rfl⟩

set_option maxHeartbeats 1000000 in
theorem all50 (s : ByteArray) (a b : Value) (p : Int → Bool) (w : World) (hs : s.size ≤ maxLen)
    (hp : ∀ c : Int, 0 ≤ c → c < 256 → Calls Tryz.prog 139 #[.int .u8 c, a, b] w fun e w' => e = .returned (.bool (p c)) ∧ w' = w) :
    Calls Tryz.prog 101 #[.string s, .func (.func 139) #[] #[a, b]] w fun e w' => e = .returned (.bool (allB p s.data.toList)) ∧ w' = w := by
  unfold maxLen at hs
  have HP : Hid (∀ c : Int, 0 ≤ c → c < 256 → Calls Tryz.prog 139 #[.int .u8 c, a, b] w fun e w' => e = .returned (.bool (p c)) ∧ w' = w) := hp
  clear hp
  go_enter Tryz.func101, Tryz.ntmps101
  go_wp2
  go_loop [8] (fun i => ∃ k : Nat, k ≤ s.size ∧ i = .int .i64 k ∧ Hid (allB p (s.data.toList.take k) = true)) (fun i => s.size - (intOf i).toNat)
  case atStart => exact ⟨0, Nat.zero_le _, rfl, rfl⟩
  case round =>
    obtain ⟨k, hk, rfl, hA⟩ := hrel
    by_cases hlt : k < s.size
    · go_wp2_with fail
      refine (HP.out _ (by omega) (by have := s[k].toNat_lt; omega)).mono ?_
      rintro e w' ⟨rfl, rfl⟩
      cases hpc : p (s[k].toNat : Int)
      · have HC : Hid (p (s[k].toNat : Int) = false) := hpc
        clear hpc
        go_wp2
        go_ret
        exact ⟨ret_b (allB_false s k hlt HC.out).symm, rfl⟩
      · have HC : Hid (p (s[k].toNat : Int) = true) := hpc
        clear hpc
        go_wp2
        go_round
        case rel => exact ⟨k + 1, by omega, by go_num, allB_snoc s k hlt hA.out HC.out⟩
        case measure => simp [intOf]; omega
    · go_wp2
      go_ret
      have hk' : k = s.size := by omega
      subst hk'
      exact ⟨ret_b (by have h := hA.out; rw [List.take_of_length_le (by simp)] at h; exact h.symm), rfl⟩

end Go.Proofs.YtkdnckkdofoaoaaGreatDoor

/- Token, Value and Target: what each answers of every text. -/
namespace Go.Proofs.YtkdnckkdofoaoaaGreatDoor
open Go.RowKit
set_option linter.unusedVariables false

/-- A token's signs; the tab. -/
def sgn : ByteArray := ⟨#[33, 35, 36, 37, 38, 39, 42, 43, 45, 46, 94, 95, 96, 124, 126]⟩
def tab : ByteArray := ⟨#[9]⟩

/-- Which bytes these closures together let stand. -/
def tokP (c : Int) : Bool := spanP 97 122 c || spanP 65 90 c || spanP 48 57 c || amongP sgn c
set_option maxHeartbeats 2000000 in
theorem either4 (c : Int) (r b cap : Nat) (p0 q0 : Nat) (p1 q1 : Nat) (p2 q2 : Nat) (p3 : Nat) (w : World) (hr : w.heap[r]? = some (.cells #[.slice (some ⟨b, 0, none⟩) 4 cap] 137))
    (hb : w.heap[b]? = some (.cells #[.func (.func 139) #[] #[.pointer (some ⟨p0, 0, none⟩), .pointer (some ⟨q0, 0, none⟩)], .func (.func 139) #[] #[.pointer (some ⟨p1, 0, none⟩), .pointer (some ⟨q1, 0, none⟩)], .func (.func 139) #[] #[.pointer (some ⟨p2, 0, none⟩), .pointer (some ⟨q2, 0, none⟩)], .func (.func 140) #[] #[.pointer (some ⟨p3, 0, none⟩)]] 107)) (h0 : w.heap[p0]? = some (.cells #[.int .u8 97] 5)) (k0 : w.heap[q0]? = some (.cells #[.int .u8 122] 5)) (h1 : w.heap[p1]? = some (.cells #[.int .u8 65] 5)) (k1 : w.heap[q1]? = some (.cells #[.int .u8 90] 5)) (h2 : w.heap[p2]? = some (.cells #[.int .u8 48] 5)) (k2 : w.heap[q2]? = some (.cells #[.int .u8 57] 5)) (h3 : w.heap[p3]? = some (.cells #[.string sgn] 9)) :
    Calls Tryz.prog 138 #[.int .u8 c, .pointer (some ⟨r, 0, none⟩)] w fun e w' => e = .returned (.bool (tokP c)) ∧ w' = w := by
  have cr : w.cell? ⟨r, 0, none⟩ = some (.slice (some ⟨b, 0, none⟩) 4 cap) := sblk_cell hr rfl
  have b0 : w.cell? ⟨b, 0, none⟩ = some (.func (.func 139) #[] #[.pointer (some ⟨p0, 0, none⟩), .pointer (some ⟨q0, 0, none⟩)]) := sblk_cell hb rfl
  have b1 : w.cell? ⟨b, 1, none⟩ = some (.func (.func 139) #[] #[.pointer (some ⟨p1, 0, none⟩), .pointer (some ⟨q1, 0, none⟩)]) := sblk_cell hb rfl
  have b2 : w.cell? ⟨b, 2, none⟩ = some (.func (.func 139) #[] #[.pointer (some ⟨p2, 0, none⟩), .pointer (some ⟨q2, 0, none⟩)]) := sblk_cell hb rfl
  have b3 : w.cell? ⟨b, 3, none⟩ = some (.func (.func 140) #[] #[.pointer (some ⟨p3, 0, none⟩)]) := sblk_cell hb rfl
  clear hr hb
  unfold tokP
  go_enter Tryz.func138, Tryz.ntmps138
  go_wp2
  refine wp_loop_rounds 5 ?_
  rw [rounds_succ]
  go_wp2_with fail
  refine (span_call 97 122 c p0 q0 _ h0 k0).mono ?_
  rintro e w1 ⟨rfl, rfl⟩
  cases e0 : spanP 97 122 c
  case true =>
    go_wp2
    go_ret
    exact ⟨ret_b (by simp [e0]), rfl⟩
  case false =>
    go_wp2
    rw [rounds_succ]
    go_wp2_with fail
    refine (span_call 65 90 c p1 q1 _ h1 k1).mono ?_
    rintro e w1 ⟨rfl, rfl⟩
    cases e1 : spanP 65 90 c
    case true =>
      go_wp2
      go_ret
      exact ⟨ret_b (by simp [e1]), rfl⟩
    case false =>
      go_wp2
      rw [rounds_succ]
      go_wp2_with fail
      refine (span_call 48 57 c p2 q2 _ h2 k2).mono ?_
      rintro e w1 ⟨rfl, rfl⟩
      cases e2 : spanP 48 57 c
      case true =>
        go_wp2
        go_ret
        exact ⟨ret_b (by simp [e2]), rfl⟩
      case false =>
        go_wp2
        rw [rounds_succ]
        go_wp2_with fail
        refine (among_call sgn c p3 _ h3).mono ?_
        rintro e w1 ⟨rfl, rfl⟩
        cases e3 : amongP sgn c
        case true =>
          go_wp2
          go_ret
          exact ⟨ret_b (by simp [e3]), rfl⟩
        case false =>
          go_wp2
          rw [rounds_succ]
          go_wp2
          go_ret
          exact ⟨ret_b (by simp [e0, e1, e2, e3]), rfl⟩

/-- Which bytes these closures together let stand. -/
def valP (c : Int) : Bool := spanP 32 126 c || spanP 128 255 c || amongP tab c
set_option maxHeartbeats 2000000 in
theorem either3 (c : Int) (r b cap : Nat) (p0 q0 : Nat) (p1 q1 : Nat) (p2 : Nat) (w : World) (hr : w.heap[r]? = some (.cells #[.slice (some ⟨b, 0, none⟩) 3 cap] 137))
    (hb : w.heap[b]? = some (.cells #[.func (.func 139) #[] #[.pointer (some ⟨p0, 0, none⟩), .pointer (some ⟨q0, 0, none⟩)], .func (.func 139) #[] #[.pointer (some ⟨p1, 0, none⟩), .pointer (some ⟨q1, 0, none⟩)], .func (.func 140) #[] #[.pointer (some ⟨p2, 0, none⟩)]] 107)) (h0 : w.heap[p0]? = some (.cells #[.int .u8 32] 5)) (k0 : w.heap[q0]? = some (.cells #[.int .u8 126] 5)) (h1 : w.heap[p1]? = some (.cells #[.int .u8 128] 5)) (k1 : w.heap[q1]? = some (.cells #[.int .u8 255] 5)) (h2 : w.heap[p2]? = some (.cells #[.string tab] 9)) :
    Calls Tryz.prog 138 #[.int .u8 c, .pointer (some ⟨r, 0, none⟩)] w fun e w' => e = .returned (.bool (valP c)) ∧ w' = w := by
  have cr : w.cell? ⟨r, 0, none⟩ = some (.slice (some ⟨b, 0, none⟩) 3 cap) := sblk_cell hr rfl
  have b0 : w.cell? ⟨b, 0, none⟩ = some (.func (.func 139) #[] #[.pointer (some ⟨p0, 0, none⟩), .pointer (some ⟨q0, 0, none⟩)]) := sblk_cell hb rfl
  have b1 : w.cell? ⟨b, 1, none⟩ = some (.func (.func 139) #[] #[.pointer (some ⟨p1, 0, none⟩), .pointer (some ⟨q1, 0, none⟩)]) := sblk_cell hb rfl
  have b2 : w.cell? ⟨b, 2, none⟩ = some (.func (.func 140) #[] #[.pointer (some ⟨p2, 0, none⟩)]) := sblk_cell hb rfl
  clear hr hb
  unfold valP
  go_enter Tryz.func138, Tryz.ntmps138
  go_wp2
  refine wp_loop_rounds 4 ?_
  rw [rounds_succ]
  go_wp2_with fail
  refine (span_call 32 126 c p0 q0 _ h0 k0).mono ?_
  rintro e w1 ⟨rfl, rfl⟩
  cases e0 : spanP 32 126 c
  case true =>
    go_wp2
    go_ret
    exact ⟨ret_b (by simp [e0]), rfl⟩
  case false =>
    go_wp2
    rw [rounds_succ]
    go_wp2_with fail
    refine (span_call 128 255 c p1 q1 _ h1 k1).mono ?_
    rintro e w1 ⟨rfl, rfl⟩
    cases e1 : spanP 128 255 c
    case true =>
      go_wp2
      go_ret
      exact ⟨ret_b (by simp [e1]), rfl⟩
    case false =>
      go_wp2
      rw [rounds_succ]
      go_wp2_with fail
      refine (among_call tab c p2 _ h2).mono ?_
      rintro e w1 ⟨rfl, rfl⟩
      cases e2 : amongP tab c
      case true =>
        go_wp2
        go_ret
        exact ⟨ret_b (by simp [e2]), rfl⟩
      case false =>
        go_wp2
        rw [rounds_succ]
        go_wp2
        go_ret
        exact ⟨ret_b (by simp [e0, e1, e2]), rfl⟩

end Go.Proofs.YtkdnckkdofoaoaaGreatDoor

/- Token and Value: what each answers of every text. -/
namespace Go.Proofs.YtkdnckkdofoaoaaGreatDoor
open Go.RowKit
set_option linter.unusedVariables false

set_option maxHeartbeats 1000000 in
theorem value_any (s : ByteArray) (w : World) (hs : s.size ≤ maxLen) :
    Calls Tryz.prog 160 #[.string s] w fun e w' => e = .returned (.bool (allB valP s.data.toList)) ∧ Below w.heap.size w w' := by
  go_enter Tryz.func160, Tryz.ntmps160
  go_wp2_with fail
  refine (span_any 32 126 _).mono ?_
  rintro e w1 ⟨p0, q0, rfl, h0, k0, B1⟩
  go_wp2_with fail
  refine (span_any 128 255 _).mono ?_
  rintro e w2 ⟨p1, q1, rfl, h1, k1, B2⟩
  go_wp2_with fail
  refine (among_any tab _).mono ?_
  rintro e w3 ⟨p2, rfl, h2, B3⟩
  go_wp2_with fail
  have hb := sblk_new w3 (.cells #[.func (.func 139) #[] #[.pointer (some ⟨p0, 0, none⟩), .pointer (some ⟨q0, 0, none⟩)], .func (.func 139) #[] #[.pointer (some ⟨p1, 0, none⟩), .pointer (some ⟨q1, 0, none⟩)], .func (.func 140) #[] #[.pointer (some ⟨p2, 0, none⟩)]] 107)
  have B4 := (Below.refl w3.heap.size w3).alloc (Nat.le_refl _) (.cells #[.func (.func 139) #[] #[.pointer (some ⟨p0, 0, none⟩), .pointer (some ⟨q0, 0, none⟩)], .func (.func 139) #[] #[.pointer (some ⟨p1, 0, none⟩), .pointer (some ⟨q1, 0, none⟩)], .func (.func 140) #[] #[.pointer (some ⟨p2, 0, none⟩)]] 107)
  refine (either_any w3.heap.size 3 3 (w3.alloc (.cells #[.func (.func 139) #[] #[.pointer (some ⟨p0, 0, none⟩), .pointer (some ⟨q0, 0, none⟩)], .func (.func 139) #[] #[.pointer (some ⟨p1, 0, none⟩), .pointer (some ⟨q1, 0, none⟩)], .func (.func 140) #[] #[.pointer (some ⟨p2, 0, none⟩)]] 107))).mono ?_
  generalize w3.alloc (.cells #[.func (.func 139) #[] #[.pointer (some ⟨p0, 0, none⟩), .pointer (some ⟨q0, 0, none⟩)], .func (.func 139) #[] #[.pointer (some ⟨p1, 0, none⟩), .pointer (some ⟨q1, 0, none⟩)], .func (.func 140) #[] #[.pointer (some ⟨p2, 0, none⟩)]] 107) = w4 at *
  rintro e w5 ⟨r, rfl, hr, B5⟩
  have D3 := B4.trans (B5.mono B4.size)
  have D2 := B3.trans (D3.mono B3.size)
  have D1 := B2.trans (D2.mono B2.size)
  have D0 := B1.trans (D1.mono B1.size)
  have H := fun c (_ : (0 : Int) ≤ c) (_ : c < 256) => either3 c r w3.heap.size 3 p0 q0 p1 q1 p2 w5 hr (sblk_below hb B5) (sblk_below h0 D1) (sblk_below k0 D1) (sblk_below h1 D2) (sblk_below k1 D2) (sblk_below h2 D3)
  have HA : Hid (Calls Tryz.prog 101 #[.string s, .func (.func 138) #[] #[.pointer (some ⟨r, 0, none⟩)]] w5 fun e w' => e = .returned (.bool (allB valP s.data.toList)) ∧ w' = w5) := all49 s _ valP w5 hs H
  clear H h0 k0 h1 k1 h2 hb hr B1 B2 B3 B4 B5 D1 D2 D3
  go_wp2_with fail
  refine HA.out.mono ?_
  rintro e w6 ⟨rfl, rfl⟩
  go_wp2
  go_ret
  exact ⟨rfl, D0⟩

set_option maxHeartbeats 2000000 in
theorem token_any (s : ByteArray) (w : World) (hs : s.size ≤ maxLen) :
    Calls Tryz.prog 57 #[.string s] w fun e w' => e = .returned (.bool (allB tokP s.data.toList && decide (0 < s.size))) ∧ Below w.heap.size w w' := by
  by_cases hz : s.size = 0
  · have he := empty_of hz
    subst he
    go_enter Tryz.func57, Tryz.ntmps57
    go_wp2
    go_ret
    exact ⟨rfl, Below.refl _ _⟩
  · have HZ : Hid (decide (0 < s.size) = true) := by rw [Hid]; simp; omega
    have hne := isEmpty_of hz
    clear hz
    rw [HZ.out]
    go_enter Tryz.func57, Tryz.ntmps57
    go_wp2_with fail
    refine (span_any 97 122 _).mono ?_
    rintro e w1 ⟨p0, q0, rfl, h0, k0, B1⟩
    go_wp2_with fail
    refine (span_any 65 90 _).mono ?_
    rintro e w2 ⟨p1, q1, rfl, h1, k1, B2⟩
    go_wp2_with fail
    refine (span_any 48 57 _).mono ?_
    rintro e w3 ⟨p2, q2, rfl, h2, k2, B3⟩
    go_wp2_with fail
    refine (among_any sgn _).mono ?_
    rintro e w4 ⟨p3, rfl, h3, B4⟩
    go_wp2_with fail
    have hb := sblk_new w4 (.cells #[.func (.func 139) #[] #[.pointer (some ⟨p0, 0, none⟩), .pointer (some ⟨q0, 0, none⟩)], .func (.func 139) #[] #[.pointer (some ⟨p1, 0, none⟩), .pointer (some ⟨q1, 0, none⟩)], .func (.func 139) #[] #[.pointer (some ⟨p2, 0, none⟩), .pointer (some ⟨q2, 0, none⟩)], .func (.func 140) #[] #[.pointer (some ⟨p3, 0, none⟩)]] 107)
    have B5 := (Below.refl w4.heap.size w4).alloc (Nat.le_refl _) (.cells #[.func (.func 139) #[] #[.pointer (some ⟨p0, 0, none⟩), .pointer (some ⟨q0, 0, none⟩)], .func (.func 139) #[] #[.pointer (some ⟨p1, 0, none⟩), .pointer (some ⟨q1, 0, none⟩)], .func (.func 139) #[] #[.pointer (some ⟨p2, 0, none⟩), .pointer (some ⟨q2, 0, none⟩)], .func (.func 140) #[] #[.pointer (some ⟨p3, 0, none⟩)]] 107)
    refine (either_any w4.heap.size 4 4 (w4.alloc (.cells #[.func (.func 139) #[] #[.pointer (some ⟨p0, 0, none⟩), .pointer (some ⟨q0, 0, none⟩)], .func (.func 139) #[] #[.pointer (some ⟨p1, 0, none⟩), .pointer (some ⟨q1, 0, none⟩)], .func (.func 139) #[] #[.pointer (some ⟨p2, 0, none⟩), .pointer (some ⟨q2, 0, none⟩)], .func (.func 140) #[] #[.pointer (some ⟨p3, 0, none⟩)]] 107))).mono ?_
    generalize w4.alloc (.cells #[.func (.func 139) #[] #[.pointer (some ⟨p0, 0, none⟩), .pointer (some ⟨q0, 0, none⟩)], .func (.func 139) #[] #[.pointer (some ⟨p1, 0, none⟩), .pointer (some ⟨q1, 0, none⟩)], .func (.func 139) #[] #[.pointer (some ⟨p2, 0, none⟩), .pointer (some ⟨q2, 0, none⟩)], .func (.func 140) #[] #[.pointer (some ⟨p3, 0, none⟩)]] 107) = w5 at *
    rintro e w6 ⟨r, rfl, hr, B6⟩
    have D4 := B5.trans (B6.mono B5.size)
    have D3 := B4.trans (D4.mono B4.size)
    have D2 := B3.trans (D3.mono B3.size)
    have D1 := B2.trans (D2.mono B2.size)
    have D0 := B1.trans (D1.mono B1.size)
    have H := fun c (_ : (0 : Int) ≤ c) (_ : c < 256) => either4 c r w4.heap.size 4 p0 q0 p1 q1 p2 q2 p3 w6 hr (sblk_below hb B6) (sblk_below h0 D1) (sblk_below k0 D1) (sblk_below h1 D2) (sblk_below k1 D2) (sblk_below h2 D3) (sblk_below k2 D3) (sblk_below h3 D4)
    have HA : Hid (Calls Tryz.prog 101 #[.string s, .func (.func 138) #[] #[.pointer (some ⟨r, 0, none⟩)]] w6 fun e w' => e = .returned (.bool (allB tokP s.data.toList)) ∧ w' = w6) := all49 s _ tokP w6 hs H
    clear H h0 k0 h1 k1 h2 k2 h3 hb hr B1 B2 B3 B4 B5 B6 D1 D2 D3 D4
    go_wp2_with fail
    refine HA.out.mono ?_
    rintro e w7 ⟨rfl, rfl⟩
    go_wp2
    go_ret
    exact ⟨ret_b (by simp), D0⟩
end Go.Proofs.YtkdnckkdofoaoaaGreatDoor

/- Clone; small lemmas on blocks; the library's variable that a search may look at. -/
namespace Go.Proofs.YtkdnckkdofoaoaaGreatDoor
open Go.RowKit
set_option linter.unusedVariables false

theorem clone_any (s : ByteArray) (w : World) (hs : s.size ≤ 281474976710656) : Calls Tryz.prog 73 #[.string s] w fun e w' => e = .returned (.string s) ∧ Below w.heap.size w w' := by
  go_enter Tryz.func73, Tryz.ntmps73
  go_wp2_with fail
  refine (Tryz.stringslite_Clone s _ hs).mono ?_
  rintro e w1 ⟨rfl, B1⟩
  go_wp2
  go_ret
  exact ⟨rfl, B1⟩
theorem owns_below {w w' : World} {base : Nat} {e : TypeId} {size : Nat} {v : Value} {n : Nat} {xs : List Value} (h : w.ownsRow base e size v n xs) (b : Below w.heap.size w w') : w'.ownsRow base e size v n xs := by
  obtain ⟨h1, h2⟩ := h
  refine ⟨h1, ?_⟩
  rcases h2 with h2 | ⟨g, cap, cur, hv, hg, hh, r⟩
  · exact .inl h2
  · exact .inr ⟨g, cap, cur, hv, hg, (b.block g (Array.getElem?_eq_some_iff.1 hh).1).trans hh, r⟩
theorem tblk_cell {w : World} {b i : Nat} {c : Array Value} {t : TypeId} {v : Value} (h : w.heap[b]? = some (.cells c t)) (hv : c[i]? = some v) : w.cell? ⟨b, i, none⟩ = some v := by
  simp [World.cell?, h, hv]
theorem tblk_new (w : World) (o : Obj) : (w.alloc o).heap[w.heap.size]? = some o := by
  show (w.heap.push o)[w.heap.size]? = _; simp
theorem tblk_below {w w' : World} {b : Nat} {o : Obj} (h : w.heap[b]? = some o) (k : Below w.heap.size w w') : w'.heap[b]? = some o := (k.block b (Array.getElem?_eq_some_iff.1 h).1).trans h
theorem isEmpty_t {s : ByteArray} (h : ¬ s.size = 0) : s.toList.isEmpty = false := by
  rw [ByteArray.toList_eq, List.isEmpty_eq_false_iff]
  intro e
  exact h (congrArg List.length e)
theorem empty_t {s : ByteArray} (h : s.size = 0) : s = ⟨#[]⟩ := by
  obtain ⟨⟨l⟩⟩ := s
  cases l with
  | nil => rfl
  | cons a l => exact absurd (show (a :: l).length = 0 from h) (by simp)

/-- The library's variable that a search may look at holds some number. -/
def MaxL (w : World) : Prop := ∃ m, w.cell? ⟨1, 0, none⟩ = some (.int .i64 m)
theorem MaxL.lt {w : World} (h : MaxL w) : 1 < w.heap.size := by
  obtain ⟨m, h⟩ := h
  unfold World.cell? at h
  rcases Nat.lt_or_ge 1 w.heap.size with c | c
  · exact c
  · simp [Array.getElem?_eq_none c] at h
theorem MaxL.below {w w' : World} (h : MaxL w) (b : Below w.heap.size w w') : MaxL w' := by
  have k := h.lt
  obtain ⟨m, h⟩ := h
  exact ⟨m, (b.cell (p := ⟨1, 0, none⟩) k).trans h⟩
end Go.Proofs.YtkdnckkdofoaoaaGreatDoor

/- Fold: what it answers of every text. -/
namespace Go.Proofs.YtkdnckkdofoaoaaGreatDoor
open Go.RowKit
set_option linter.unusedVariables false

def bvT (b : UInt8) : Value := .int .u8 (b.toNat : Int)
def foldB (b : UInt8) : UInt8 := if 65 ≤ (b.toNat : Int) ∧ (b.toNat : Int) ≤ 90 then (b.toNat + 32).toUInt8 else b
def foldL (l : List UInt8) : List UInt8 := l.map foldB
def foldS (s : ByteArray) : ByteArray := ⟨(foldL s.data.toList).toArray⟩
theorem foldB_yes {b : UInt8} (h0 : 65 ≤ (b.toNat : Int)) (h1 : (b.toNat : Int) ≤ 90) : bvT (foldB b) = .int .u8 ((b.toNat : Int) + 32) := by
  unfold bvT foldB
  rw [if_pos ⟨h0, h1⟩]
  have : (b.toNat + 32).toUInt8.toNat = b.toNat + 32 := by simp; omega
  rw [this]; rfl
theorem foldB_no {b : UInt8} (h : ¬ (65 ≤ (b.toNat : Int) ∧ (b.toNat : Int) ≤ 90)) : foldB b = b := by unfold foldB; rw [if_neg h]

/-- A row of bytes with spare places behind. -/
def rowT (l : List UInt8) (z : List Value) : Array Value := (l.map bvT ++ z).toArray
def InRow (w : World) (b : Nat) (l : List UInt8) (z : List Value) : Prop := w.heap[b]? = some (.cells (rowT l z) 5 ((rowT l z).size, (rowT l z).size + 1))
theorem rowT_size (l : List UInt8) (z : List Value) : (rowT l z).size = l.length + z.length := by simp [rowT]
theorem rowT_at (l : List UInt8) (z : List Value) (j : Nat) (h : j < l.length) : (rowT l z)[j]? = some (bvT l[j]) := by
  unfold rowT
  rw [List.getElem?_toArray, List.getElem?_append_left (by simpa using h)]
  simp [h]
theorem InRow.cell {w : World} {b : Nat} {l : List UInt8} {z : List Value} (h : InRow w b l z) (j : Nat) (hj : j < l.length) : w.cell? ⟨b, j, none⟩ = some (.int .u8 (l[j].toNat : Int)) := by
  have k := rowT_at l z j hj
  unfold InRow at h
  simp [World.cell?, h, k]; rfl
theorem InRow.z {w : World} {b : Nat} {l : List UInt8} {z : List Value} (h : InRow w b l z) (j : Nat) (hj : j < l.length) : w.frozen? ⟨b, j, none⟩ = false := by
  unfold InRow at h
  have := rowT_size l z
  simp [World.frozen?, h]; omega
theorem InRow.set {w : World} {b : Nat} {l : List UInt8} {z : List Value} (h : InRow w b l z) (j : Nat) (hj : j < l.length) (x : UInt8) : InRow (w.setCell ⟨b, j, none⟩ (bvT x)) b (l.set j x) z := by
  have e : (rowT l z).setIfInBounds j (bvT x) = rowT (l.set j x) z := by
    unfold rowT
    rw [List.setIfInBounds_toArray, List.set_append_left _ _ (by simpa using hj), List.map_set]
  have es : (rowT (l.set j x) z).size = (rowT l z).size := by rw [rowT_size, rowT_size, List.length_set]
  unfold InRow at *
  rw [es, ← e]
  simp [World.setCell, Array.getElem?_modify, h]
theorem InRow.new (w : World) (s : ByteArray) (cap : Nat) : InRow (w.alloc (.cells (bytesRow s cap) 5 ((bytesRow s cap).size, (bytesRow s cap).size + 1))) w.heap.size s.data.toList (List.replicate (cap - s.size) (.int .u8 0)) := by
  have e : bytesRow s cap = rowT s.data.toList (List.replicate (cap - s.size) (.int .u8 0)) := by
    unfold bytesRow rowT
    apply Array.toList_inj.1
    simp [bvT]
    try rfl
  unfold InRow
  rw [← e]
  show (w.heap.push _)[w.heap.size]? = _
  simp

theorem foldL_take (l : List UInt8) (k : Nat) (h : k < l.length) : (foldL (l.take k) ++ l.drop k).set k (foldB l[k]) = foldL (l.take (k + 1)) ++ l.drop (k + 1) := by
  have hl : (foldL (l.take k)).length = k := by simp [foldL]; omega
  rw [List.drop_eq_getElem_cons h, List.set_append_right _ _ (by omega), hl, Nat.sub_self, List.set_cons_zero, List.take_succ_eq_append_getElem h]
  unfold foldL
  rw [List.map_append, List.append_assoc]; rfl
theorem foldL_at (l : List UInt8) (k : Nat) (h : k < l.length) : (foldL (l.take k) ++ l.drop k)[k]? = some l[k] := by
  have hl : (foldL (l.take k)).length = k := by simp [foldL]; omega
  rw [List.getElem?_append_right (by omega), hl, Nat.sub_self, List.drop_eq_getElem_cons h]; rfl
theorem foldL_len (l : List UInt8) (k : Nat) (h : k ≤ l.length) : (foldL (l.take k) ++ l.drop k).length = l.length := by simp [foldL]; omega

theorem fold_set_same (s : ByteArray) (k : Nat) (h : k < s.size) : (foldL (s.data.toList.take k) ++ s.data.toList.drop k).set k s[k] = foldL (s.data.toList.take k) ++ s.data.toList.drop k := by
  have h1 := foldL_at s.data.toList k h
  have hl : k < (foldL (s.data.toList.take k) ++ s.data.toList.drop k).length := (List.getElem?_eq_some_iff.1 h1).1
  rw [List.getElem?_eq_getElem hl] at h1
  have e : (foldL (s.data.toList.take k) ++ s.data.toList.drop k)[k] = s[k] := Option.some.inj h1
  rw [← e]
  exact List.set_getElem_self hl

set_option maxRecDepth 100000 in
set_option maxHeartbeats 2000000 in
theorem fold_any (s : ByteArray) (w : World) (hs : s.size ≤ maxLen) :
    Calls Tryz.prog 60 #[.string s] w fun e w' => e = .returned (.string (foldS s)) ∧ Below w.heap.size w w' := by
  unfold maxLen at hs
  have hcv := run_bytes_of_string (P := Tryz.prog) w 9 22 5 s Tryz.underlying9 Tryz.underlying22 Tryz.underlying5
  have hrow : InRow ((w.alloc (.cells (bytesRow s (grownCap w s.size 0 5)) 5 ((bytesRow s (grownCap w s.size 0 5)).size, (bytesRow s (grownCap w s.size 0 5)).size + 1))).drew) w.heap.size s.data.toList (List.replicate (grownCap w s.size 0 5 - s.size) (.int .u8 0)) := InRow.new w s _
  generalize List.replicate (grownCap w s.size 0 5 - s.size) (Value.int .u8 0) = z at *
  go_enter Tryz.func60, Tryz.ntmps60
  go_wp2_with fail
  have HB : Below w.heap.size w ((w.alloc (.cells (bytesRow s (grownCap w s.size 0 5)) 5 ((bytesRow s (grownCap w s.size 0 5)).size, (bytesRow s (grownCap w s.size 0 5)).size + 1))).drew) := ((Below.refl _ _).alloc (Nat.le_refl _) _).drew
  clear hcv
  generalize grownCap w s.size 0 5 = cap at *
  go_loopw [9] (fun vi wr => ∃ k : Nat, k ≤ s.size ∧ vi = .int .i64 k ∧ InRow wr w.heap.size (foldL (s.data.toList.take k) ++ s.data.toList.drop k) z ∧ Below w.heap.size w wr) (fun vi _ => s.size - (intOf vi).toNat)
  case atStart => exact ⟨0, Nat.zero_le _, rfl, hrow, HB⟩
  case round =>
    obtain ⟨k, hk, rfl, hr, hB⟩ := hrel
    clear hrow HB
    by_cases hlt : k < s.size
    · have hlen : s.data.toList.length = s.size := rfl
      have hl2 : k < (foldL (s.data.toList.take k) ++ s.data.toList.drop k).length := by rw [foldL_len _ _ (by omega)]; omega
      have e1 : (foldL (s.data.toList.take k) ++ s.data.toList.drop k)[k] = s[k] := by
        have h1 := foldL_at s.data.toList k (by omega)
        rw [List.getElem?_eq_getElem hl2] at h1
        exact Option.some.inj h1
      have hc := hr.cell k hl2
      have hz := hr.z k hl2
      rw [e1] at hc
      have HS : Hid (∀ x : UInt8, x = foldB s[k] → InRow (wr.setCell ⟨w.heap.size, k, none⟩ (bvT x)) w.heap.size (foldL (s.data.toList.take (k + 1)) ++ s.data.toList.drop (k + 1)) z) := fun x hx => by
        have h1 := hr.set k hl2 x
        rw [hx] at h1
        rw [← foldL_take s.data.toList k (by omega), hx]
        exact h1
      have HR : Hid (InRow wr w.heap.size (foldL (s.data.toList.take k) ++ s.data.toList.drop k) z) := hr
      have HF : Hid (s.data.toList.length = s.size) := hlen
      clear hr e1 hl2 hlen
      by_cases a : 65 ≤ (s[k].toNat : Int)
      · by_cases b : (s[k].toNat : Int) ≤ 90
        · go_wp2
          go_roundw
          case rel => exact ⟨k + 1, by omega, by go_num, by rw [← foldB_yes a b]; exact HS.out _ rfl, hB.setCell (Nat.le_refl _) _⟩
          case measure => simp [intOf]; omega
        · go_wp2
          go_roundw
          case rel =>
            refine ⟨k + 1, by omega, by go_num, ?_, hB⟩
            rw [← foldL_take s.data.toList k (by have := HF.out; omega), show s.data.toList[k]'(by have := HF.out; omega) = s[k] from rfl, foldB_no (by omega), fold_set_same s k hlt]
            exact HR.out
          case measure => simp [intOf]; omega
      · go_wp2
        go_roundw
        case rel =>
          refine ⟨k + 1, by omega, by go_num, ?_, hB⟩
          rw [← foldL_take s.data.toList k (by have := HF.out; omega), show s.data.toList[k]'(by have := HF.out; omega) = s[k] from rfl, foldB_no (by omega), fold_set_same s k hlt]
          exact HR.out
        case measure => simp [intOf]; omega
    · have hk' : k = s.size := by omega
      subst hk'
      have hlen : s.data.toList.length = s.size := rfl
      rw [List.take_of_length_le (by omega), List.drop_of_length_le (by omega), List.append_nil] at hr
      have hfl : (foldL s.data.toList).length = s.size := by unfold foldL; rw [List.length_map]; rfl
      have hcv : (convert 22 9 (.slice (some ⟨w.heap.size, 0, none⟩) s.size cap)).run Tryz.prog wr = .ok (.string (foldS s)) wr := by
        have h := run_convert_bytes_back (P := Tryz.prog) wr 22 9 5 ⟨w.heap.size, 0, none⟩ cap (foldL s.data.toList) Tryz.underlying22 Tryz.underlying5 Tryz.underlying9 (fun j hj => by
          rw [Lib.add_plain]; rw [Nat.zero_add]; exact hr.cell j hj)
        rw [hfl] at h
        exact h
      clear hr hlen hfl
      go_wp2
      go_ret
      exact ⟨rfl, hB⟩

end Go.Proofs.YtkdnckkdofoaoaaGreatDoor

/- Trim and Clone: what each answers of every text; the library's variable that a search may look at. -/
namespace Go.Proofs.YtkdnckkdofoaoaaGreatDoor
open Go.RowKit
set_option linter.unusedVariables false

/-- A text without blanks at its ends. -/
def trimP (l : List UInt8) : List UInt8 := Lib.trimS l [32, 9]
def trimT (s : ByteArray) : ByteArray := ⟨(trimP s.data.toList).toArray⟩
theorem dropWhile_len (p : UInt8 → Bool) : ∀ l : List UInt8, (l.dropWhile p).length ≤ l.length
  | [] => Nat.le_refl _
  | b :: l => by
    rw [List.dropWhile_cons]
    split
    · have := dropWhile_len p l; rw [List.length_cons]; omega
    · exact Nat.le_refl _
theorem trimP_len (l : List UInt8) : (trimP l).length ≤ l.length := by
  unfold trimP Lib.trimS Lib.trimLeftS Lib.trimRightS
  refine Nat.le_trans (dropWhile_len _ _) ?_
  rw [List.length_reverse]
  refine Nat.le_trans (dropWhile_len _ _) ?_
  rw [List.length_reverse]; exact Nat.le_refl _
theorem trimT_size (s : ByteArray) : (trimT s).size ≤ s.size := trimP_len s.data.toList

theorem trim_any (s : ByteArray) (w : World) (hs : s.size ≤ 140737488355328) : Calls Tryz.prog 99 #[.string s] w fun e w' => e = .returned (.string (trimT s)) ∧ Below w.heap.size w w' := by
  have H1 : Hid (s.size ≤ 9223372036854775807) := by rw [Hid]; omega
  have H2 : Hid ((trimT s).size ≤ 281474976710656) := by rw [Hid]; have := trimT_size s; omega
  clear hs
  go_enter Tryz.func99, Tryz.ntmps99
  go_wp2_with fail
  refine (Tryz.strings_Trim_laid s ⟨#[32, 9]⟩ _ H1.out (by decide) (ascii_of_all (by decide))).mono ?_
  rintro e w1 ⟨rfl, B1⟩
  go_wp2_with fail
  refine (clone_any (trimT s) _ H2.out).mono ?_
  rintro e w2 ⟨rfl, B2⟩
  go_wp2
  go_ret
  exact ⟨rfl, B1.trans (B2.mono B1.size)⟩

end Go.Proofs.YtkdnckkdofoaoaaGreatDoor

/- Plain lemmas on trimmed texts. -/
namespace Go.Proofs.YtkdnckkdofoaoaaGreatDoor
open Go.RowKit
set_option linter.unusedVariables false

def blk (b : UInt8) : Bool := ([32, 9] : List UInt8).contains b
/-- No blank at the front; none at the end. -/
def NF (l : List UInt8) : Prop := ∀ b, l.head? = some b → blk b = false
def NL (l : List UInt8) : Prop := ∀ b, l.getLast? = some b → blk b = false
theorem trimP_eq (l : List UInt8) : trimP l = (l.reverse.dropWhile blk).reverse.dropWhile blk := rfl
theorem dw_front (l : List UInt8) : NF (l.dropWhile blk) := by
  intro b h
  induction l with
  | nil => simp at h
  | cons a l ih =>
    rw [List.dropWhile_cons] at h
    split at h
    · exact ih h
    · rename_i c
      have : a = b := by simpa using h
      subst this
      simpa using c
theorem dw_same (l : List UInt8) (h : NF l) : l.dropWhile blk = l := by
  cases l with
  | nil => rfl
  | cons a l => rw [List.dropWhile_cons, if_neg (by rw [h a rfl]; decide)]
theorem dw_app (a l : List UInt8) (h : ∀ b ∈ a, blk b = true) : (a ++ l).dropWhile blk = l.dropWhile blk := by
  induction a with
  | nil => rfl
  | cons x a ih =>
    rw [List.cons_append, List.dropWhile_cons, if_pos (h x (.head _))]
    exact ih fun b hb => h b (.tail _ hb)
theorem dw_all (a : List UInt8) (h : ∀ b ∈ a, blk b = true) : a.dropWhile blk = [] := by
  have := dw_app a [] h
  rwa [List.append_nil] at this
theorem dw_last (l : List UInt8) (h : NL l) : NL (l.dropWhile blk) := by
  induction l with
  | nil => exact h
  | cons a l ih =>
    rw [List.dropWhile_cons]
    split
    · refine ih fun b hb => h b ?_
      cases l with
      | nil => simp at hb
      | cons c l => rw [List.getLast?_cons_cons]; exact hb
    · exact h
theorem rev_front {l : List UInt8} (h : NL l) : NF l.reverse := by
  intro b hb
  rw [List.head?_reverse] at hb
  exact h b hb
theorem rev_last {l : List UInt8} (h : NF l) : NL l.reverse := by
  intro b hb
  rw [List.getLast?_reverse] at hb
  exact h b hb
theorem trim_front (l : List UInt8) : NF (trimP l) := by rw [trimP_eq]; exact dw_front _
theorem trim_last (l : List UInt8) : NL (trimP l) := by rw [trimP_eq]; exact dw_last _ (rev_last (dw_front _))
theorem trim_around (a t q : List UInt8) (ha : ∀ b ∈ a, blk b = true) (hq : ∀ b ∈ q, blk b = true) (h1 : NF t) (h2 : NL t) : trimP (a ++ t ++ q) = t := by
  rw [trimP_eq, List.reverse_append, dw_app _ _ (fun b hb => hq b (List.mem_reverse.1 hb)), List.reverse_append]
  by_cases ht : t = []
  · subst ht
    rw [List.reverse_nil, List.nil_append, dw_all _ (fun b hb => ha b (List.mem_reverse.1 hb))]
    rfl
  · rw [dw_same (t.reverse ++ a.reverse)]
    · rw [← List.reverse_append, List.reverse_reverse, dw_app _ _ ha, dw_same _ h1]
    · intro b hb
      refine rev_front h2 b ?_
      cases h : t.reverse with
      | nil => exact absurd (List.reverse_eq_nil_iff.1 h) ht
      | cons c r => rw [h] at hb; exact hb
theorem trim_same (t : List UInt8) (h1 : NF t) (h2 : NL t) : trimP t = t := by
  have h := trim_around [] t [] (fun _ h => by cases h) (fun _ h => by cases h) h1 h2
  rwa [List.nil_append, List.append_nil] at h
theorem trim_idem (l : List UInt8) : trimP (trimP l) = trimP l := trim_same _ (trim_front l) (trim_last l)
theorem trim_xy (t : List UInt8) : trimP ([120, 32] ++ t ++ [9, 121]) = [120, 32] ++ t ++ [9, 121] := by
  refine trim_same _ (fun b h => ?_) (fun b h => ?_)
  · have e : b = 120 := by simpa using h.symm
    subst e; decide
  · rw [List.getLast?_append] at h
    have e : b = 121 := by simpa using h.symm
    subst e; decide

theorem trimT_idem (s : ByteArray) : trimT (trimT s) = trimT s := by unfold trimT; simp [trim_idem]
theorem bytes_eq {a b : ByteArray} (h : a.data.toList = b.data.toList) : a = b := by
  obtain ⟨⟨l⟩⟩ := a
  obtain ⟨⟨l'⟩⟩ := b
  simp at h
  rw [h]
/-- A text with blanks around another. -/
def Around (t : ByteArray) (n : Nat) (x : ByteArray) : Prop := ∃ a q : List UInt8, (∀ b ∈ a, blk b = true) ∧ (∀ b ∈ q, blk b = true) ∧ x.data.toList = a ++ t.data.toList ++ q ∧ x.size = t.size + n
theorem Around.refl (t : ByteArray) : Around t 0 t := ⟨[], [], (fun _ h => by cases h), (fun _ h => by cases h), by simp, rfl⟩
theorem cat_size (a b : ByteArray) : (a ++ b).size = a.size + b.size := by
  show (a ++ b).data.toList.length = a.data.toList.length + b.data.toList.length
  rw [Joins.data_append, List.length_append]
theorem Around.ahead {t x : ByteArray} {n : Nat} (h : Around t n x) (b : UInt8) (hb : blk b = true) : Around t (n + 1) ((⟨#[b]⟩ : ByteArray) ++ x) := by
  obtain ⟨a, q, ha, hq, hx, hn⟩ := h
  refine ⟨b :: a, q, fun c hc => ?_, hq, ?_, ?_⟩
  · cases hc with
    | head => exact hb
    | tail _ hc => exact ha c hc
  · rw [Joins.data_append, hx]; simp
  · rw [cat_size, hn]; show 1 + _ = _; omega
theorem Around.behind {t x : ByteArray} {n : Nat} (h : Around t n x) (b : UInt8) (hb : blk b = true) : Around t (n + 1) (x ++ (⟨#[b]⟩ : ByteArray)) := by
  obtain ⟨a, q, ha, hq, hx, hn⟩ := h
  refine ⟨a, q ++ [b], ha, fun c hc => ?_, ?_, ?_⟩
  · rcases List.mem_append.1 hc with hc | hc
    · exact hq c hc
    · rw [List.mem_singleton.1 hc]; exact hb
  · rw [Joins.data_append, hx]; simp
  · rw [cat_size, hn]; rfl
theorem Around.trim {s x : ByteArray} {n : Nat} (h : Around (trimT s) n x) : trimT x = trimT s := by
  obtain ⟨a, q, ha, hq, hx, _⟩ := h
  unfold trimT at hx ⊢
  rw [hx]
  simp only
  rw [trim_around a _ q ha hq (by simpa using trim_front _) (by simpa using trim_last _)]
theorem trimT_xy (t : ByteArray) : trimT ((⟨#[120, 32]⟩ : ByteArray) ++ t ++ (⟨#[9, 121]⟩ : ByteArray)) = (⟨#[120, 32]⟩ : ByteArray) ++ t ++ (⟨#[9, 121]⟩ : ByteArray) := by
  refine bytes_eq ?_
  unfold trimT
  rw [Joins.data_append, Joins.data_append]
  exact trim_xy t.data.toList
theorem conv1T (W : World) (x : Int) (b : UInt8) (h : (b.toNat : Int) = x) : (convert 22 9 (.slice (some ⟨W.heap.size, 0, none⟩) 1 1)).run Tryz.prog (W.alloc (.cells #[.int .u8 x] 5)) = .ok (.string ⟨#[b]⟩) (W.alloc (.cells #[.int .u8 x] 5)) := by
  have k := run_convert_bytes_back (P := Tryz.prog) (W.alloc (.cells #[.int .u8 x] 5)) 22 9 5 ⟨W.heap.size, 0, none⟩ 1 [b] Tryz.underlying22 Tryz.underlying5 Tryz.underlying9 (fun j hj => by
    obtain rfl : j = 0 := by simpa using hj
    rw [Lib.add_plain]
    exact tblk_cell (tblk_new _ _) (by simp [h]))
  exact k
end Go.Proofs.YtkdnckkdofoaoaaGreatDoor

/- Same: what it answers of every two texts. -/
namespace Go.Proofs.YtkdnckkdofoaoaaGreatDoor
open Go.RowKit
set_option linter.unusedVariables false

theorem same_any (a b : ByteArray) (w : World) (ha : a.size ≤ maxLen) (hb : b.size ≤ maxLen) :
    Calls Tryz.prog 79 #[.string a, .string b] w fun e w' => e = .returned (.bool ((foldS a).toList == (foldS b).toList)) ∧ Below w.heap.size w w' := by
  go_enter Tryz.func79, Tryz.ntmps79
  go_wp2_with fail
  refine (fold_any a _ ha).mono ?_
  rintro e w1 ⟨rfl, B1⟩
  go_wp2_with fail
  refine (fold_any b _ hb).mono ?_
  rintro e w2 ⟨rfl, B2⟩
  go_wp2
  go_ret
  exact ⟨rfl, B1.trans (B2.mono B1.size)⟩
end Go.Proofs.YtkdnckkdofoaoaaGreatDoor

/- Fields: which are right; a line read and told. -/
namespace Go.Proofs.YtkdnckkdofoaoaaGreatDoor
open Go.RowKit
set_option linter.unusedVariables false

def eqT (a b : ByteArray) : Bool := a.toList == b.toList
def okName (n : ByteArray) : Bool := decide (n.size ≤ 100) && (allB tokP n.data.toList && decide (0 < n.size))
def okVal (v : ByteArray) : Bool := (decide (v.size ≤ 1000) && allB valP v.data.toList) && eqT (trimT v) v
def okF (n v : ByteArray) : Bool := okName n && okVal v
/-- A field, as a value. -/
def fv (n v : ByteArray) : Value := .agg #[.string n, .string v]

set_option maxHeartbeats 1000000 in
theorem rn_any (n : ByteArray) (w : World) (hs : n.size ≤ 140737488355328) : Calls Tryz.prog 136 #[.string n] w fun e w' => e = .returned (.bool (okName n)) ∧ Below w.heap.size w w' := by
  have HT := token_any n w (by unfold maxLen; omega)
  unfold okName
  generalize (allB tokP n.data.toList && decide (0 < n.size)) = t at *
  have HT2 : Hid (Calls Tryz.prog 57 #[.string n] w fun e w' => e = .returned (.bool t) ∧ Below w.heap.size w w') := HT
  clear HT
  by_cases h : n.size ≤ 100
  · have h' : (n.size : Int) ≤ 100 := by omega
    rw [decide_eq_true h, Bool.true_and]
    clear h
    go_enter Tryz.func136, Tryz.ntmps136
    go_wp2_with fail
    refine HT2.out.mono ?_
    rintro e w1 ⟨rfl, B1⟩
    go_wp2
    go_ret
    exact ⟨rfl, B1⟩
  · have h' : ¬ (n.size : Int) ≤ 100 := by omega
    rw [decide_eq_false h, Bool.false_and]
    clear h
    go_enter Tryz.func136, Tryz.ntmps136
    go_wp2
    go_ret
    exact ⟨rfl, Below.refl _ _⟩

set_option maxHeartbeats 1000000 in
theorem rv_any (v : ByteArray) (w : World) (hs : v.size ≤ 140737488355328) : Calls Tryz.prog 137 #[.string v] w fun e w' => e = .returned (.bool (okVal v)) ∧ Below w.heap.size w w' := by
  have HV := value_any v w (by unfold maxLen; omega)
  have HT := fun w => trim_any v w hs
  unfold okVal eqT
  by_cases h : v.size ≤ 1000
  · have h' : (v.size : Int) ≤ 1000 := by omega
    rw [decide_eq_true h, Bool.true_and]
    clear h
    generalize trimT v = T at *
    cases hv : allB valP v.data.toList
    · rw [hv] at HV
      have HV2 : Hid (Calls Tryz.prog 160 #[.string v] w fun e w' => e = .returned (.bool false) ∧ Below w.heap.size w w') := HV
      clear HV HT hv
      rw [Bool.false_and]
      go_enter Tryz.func137, Tryz.ntmps137
      go_wp2_with fail
      refine HV2.out.mono ?_
      rintro e w1 ⟨rfl, B1⟩
      go_wp2
      go_ret
      exact ⟨rfl, B1⟩
    · rw [hv] at HV
      have HV2 : Hid (Calls Tryz.prog 160 #[.string v] w fun e w' => e = .returned (.bool true) ∧ Below w.heap.size w w') := HV
      have HT2 : Hid (∀ w, Calls Tryz.prog 99 #[.string v] w fun e w' => e = .returned (.string T) ∧ Below w.heap.size w w') := HT
      clear HV HT hv
      rw [Bool.true_and]
      go_enter Tryz.func137, Tryz.ntmps137
      go_wp2_with fail
      refine HV2.out.mono ?_
      rintro e w1 ⟨rfl, B1⟩
      go_wp2_with fail
      refine (HT2.out w1).mono ?_
      rintro e w2 ⟨rfl, B2⟩
      go_wp2
      go_ret
      exact ⟨rfl, B1.trans (B2.mono B1.size)⟩
  · have h' : ¬ (v.size : Int) ≤ 1000 := by omega
    rw [decide_eq_false h, Bool.false_and, Bool.false_and]
    clear h HV HT
    go_enter Tryz.func137, Tryz.ntmps137
    go_wp2
    go_ret
    exact ⟨rfl, Below.refl _ _⟩

set_option maxHeartbeats 1000000 in
theorem wrong_any (n v : ByteArray) (w : World) (hn : n.size ≤ 140737488355328) (hv : v.size ≤ 140737488355328) : Calls Tryz.prog 100 #[.agg #[.string n, .string v]] w fun e w' => e = .returned (.bool (!okF n v)) ∧ Below w.heap.size w w' := by
  unfold okF
  have HN := fun w => rn_any n w hn
  have HV := fun w => rv_any v w hv
  generalize okName n = a at *
  generalize okVal v = b at *
  have HN2 : Hid (∀ w, Calls Tryz.prog 136 #[.string n] w fun e w' => e = .returned (.bool a) ∧ Below w.heap.size w w') := HN
  have HV2 : Hid (∀ w, Calls Tryz.prog 137 #[.string v] w fun e w' => e = .returned (.bool b) ∧ Below w.heap.size w w') := HV
  clear HN HV hn hv
  cases a
  · go_enter Tryz.func100, Tryz.ntmps100
    go_wp2_with fail
    refine (HN2.out _).mono ?_
    rintro e w1 ⟨rfl, B1⟩
    have C1 := ((Below.refl w.heap.size w).alloc (Nat.le_refl _) (.cells #[.string n, .string v] 41)).trans (B1.mono (by simp))
    go_wp2
    go_ret
    exact ⟨rfl, C1⟩
  · go_enter Tryz.func100, Tryz.ntmps100
    go_wp2_with fail
    refine (HN2.out _).mono ?_
    rintro e w1 ⟨rfl, B1⟩
    have C1 := ((Below.refl w.heap.size w).alloc (Nat.le_refl _) (.cells #[.string n, .string v] 41)).trans (B1.mono (by simp))
    have hc : w1.cell? ⟨w.heap.size, 1, none⟩ = some (.string v) := tblk_cell ((B1.block _ (by simp)).trans (tblk_new _ _)) rfl
    clear B1
    go_wp2_with fail
    refine (HV2.out _).mono ?_
    rintro e w2 ⟨rfl, B2⟩
    go_wp2
    go_ret
    exact ⟨by simp, C1.trans (B2.mono C1.size)⟩

/-- What Parse answers. -/
def prs (s : ByteArray) : ByteArray × ByteArray × Int :=
  if (Lib.cut s.data.toList [58]).2.2 && okF ⟨(Lib.cut s.data.toList [58]).1.toArray⟩ (trimT ⟨(Lib.cut s.data.toList [58]).2.1.toArray⟩) then (⟨(Lib.cut s.data.toList [58]).1.toArray⟩, trimT ⟨(Lib.cut s.data.toList [58]).2.1.toArray⟩, 0) else (⟨#[]⟩, ⟨#[]⟩, 20)
theorem cut_len (l : List UInt8) : (Lib.cut l [58]).1.length ≤ l.length ∧ (Lib.cut l [58]).2.1.length ≤ l.length := by
  unfold Lib.cut
  split
  · simp only [List.length_take, List.length_drop]; omega
  · simp

theorem drewN_heap (w : World) (k : Nat) : (w.drewN k).heap = w.heap := by simp [World.drewN]
theorem below_drewN (B : Nat) (w : World) (k : Nat) : Below B w (w.drewN k) := by refine ⟨?_, ?_, ?_, ?_, ?_⟩ <;> simp [World.drewN]
theorem tblk_z {w : World} {b i : Nat} {c : Array Value} {t : TypeId} (h : w.heap[b]? = some (.cells c t)) : w.frozen? ⟨b, i, none⟩ = false := by simp [World.frozen?, h]
/-- A field's block, written over. -/
theorem two_cells {w : World} {b : Nat} {x y : Value} {t : TypeId} (h : w.heap[b]? = some (.cells #[x, y] t)) (n v : ByteArray) :
    ((w.setCell ⟨b, 0, none⟩ (.string n)).setCell ⟨b, 1, none⟩ (.string v)).heap[b]? = some (.cells #[.string n, .string v] t) ∧
    ((w.setCell ⟨b, 0, none⟩ (.string n)).setCell ⟨b, 1, none⟩ (.string v)).cell? ⟨b, 0, none⟩ = some (.string n) ∧
    ((w.setCell ⟨b, 0, none⟩ (.string n)).setCell ⟨b, 1, none⟩ (.string v)).cell? ⟨b, 1, none⟩ = some (.string v) ∧ True := by
  have k : ((w.setCell ⟨b, 0, none⟩ (.string n)).setCell ⟨b, 1, none⟩ (.string v)).heap[b]? = some (.cells #[.string n, .string v] t) := by
    simp [World.setCell, Array.getElem?_modify, h]
  exact ⟨k, tblk_cell k rfl, tblk_cell k rfl, trivial⟩

set_option maxRecDepth 100000 in
set_option maxHeartbeats 2000000 in
theorem parse_any (s : ByteArray) (w : World) (hs : s.size < 4294967281) (hM : MaxL w) : Calls Tryz.prog 55 #[.string s] w fun e w' => e = .returned (.tuple #[.agg #[.string (prs s).1, .string (prs s).2.1], .int .i64 (prs s).2.2]) ∧ Below w.heap.size w w' := by
  obtain ⟨m, hm⟩ := hM
  have hlt : 1 < w.heap.size := MaxL.lt ⟨m, hm⟩
  have hcl := cut_len s.data.toList
  have hsz : s.data.toList.length = s.size := rfl
  unfold prs
  have HC : Hid (∀ w : World, w.cell? ⟨1, 0, none⟩ = some (.int .i64 m) → Calls Tryz.prog 98 #[.string s, .string ⟨#[58]⟩] w fun e w' => e = .returned (.tuple #[.string ⟨(Lib.cut s.data.toList [58]).1.toArray⟩, .string ⟨(Lib.cut s.data.toList [58]).2.1.toArray⟩, .bool (Lib.cut s.data.toList [58]).2.2]) ∧ ∃ n, w' = w.drewN n) := fun w hm => Tryz.strings_Cut s ⟨#[58]⟩ m w hs hm
  generalize (Lib.cut s.data.toList [58]) = c at *
  obtain ⟨c1, c2, c3⟩ := c
  simp only at hcl HC ⊢
  have hn : Hid ((⟨c1.toArray⟩ : ByteArray).size ≤ 140737488355328) := by rw [Hid]; show c1.length ≤ _; omega
  have hv : Hid ((⟨c2.toArray⟩ : ByteArray).size ≤ 140737488355328) := by rw [Hid]; show c2.length ≤ _; omega
  have hm2 : (w.alloc (.cells #[.string ⟨#[]⟩, .string ⟨#[]⟩] 41)).cell? ⟨1, 0, none⟩ = some (.int .i64 m) := by
    rw [← hm]; simp only [World.cell?]; rw [Below.heap_alloc _ _ _ hlt]
  have hvt := trimT_size ⟨c2.toArray⟩
  generalize (⟨c1.toArray⟩ : ByteArray) = n at *
  generalize (⟨c2.toArray⟩ : ByteArray) = v at *
  have hv2 : Hid ((trimT v).size ≤ 140737488355328) := by rw [Hid]; have := hv.out; omega
  clear hvt hm hs hcl hsz
  have HTR : Hid (∀ W, Calls Tryz.prog 99 #[.string v] W fun e w' => e = .returned (.string (trimT v)) ∧ Below W.heap.size W w') := fun W => trim_any v W hv.out
  have HWR2 : Hid (∀ W, Calls Tryz.prog 100 #[.agg #[.string n, .string (trimT v)]] W fun e w' => e = .returned (.bool (!okF n (trimT v))) ∧ Below W.heap.size W w') := fun W => wrong_any n (trimT v) W hn.out hv2.out
  generalize trimT v = T at *
  generalize okF n T = ok at *
  cases c3
  · rw [Bool.false_and, if_neg (by decide)]
    go_enter Tryz.func55, Tryz.ntmps55
    go_wp2_with fail
    refine (HC.out _ hm2).mono ?_
    rintro e w1 ⟨rfl, k, rfl⟩
    have hg : ((w.alloc (.cells #[.string ⟨#[]⟩, .string ⟨#[]⟩] 41)).drewN k).heap[w.heap.size]? = some (.cells #[.string ⟨#[]⟩, .string ⟨#[]⟩] 41) := by rw [drewN_heap]; exact tblk_new _ _
    have C1 : Below w.heap.size w ((w.alloc (.cells #[.string ⟨#[]⟩, .string ⟨#[]⟩] 41)).drewN k) := ((Below.refl _ _).alloc (Nat.le_refl _) _).trans (below_drewN _ _ _)
    generalize (w.alloc (.cells #[.string ⟨#[]⟩, .string ⟨#[]⟩] 41)).drewN k = w2 at *
    clear hm2 HC
    have HW := two_cells hg ⟨#[]⟩ ⟨#[]⟩
    have r0 := HW.2.1
    have r1 := HW.2.2.1
    have a0 : w2.cell? ⟨w.heap.size, 0, none⟩ = some (.string ⟨#[]⟩) := tblk_cell hg rfl
    have a1 : w2.cell? ⟨w.heap.size, 1, none⟩ = some (.string ⟨#[]⟩) := tblk_cell hg rfl
    have z0 : w2.frozen? ⟨w.heap.size, 0, none⟩ = false := tblk_z hg
    have z1 : w2.frozen? ⟨w.heap.size, 1, none⟩ = false := tblk_z hg
    have C2 : Hid (Below w.heap.size w ((w2.setCell ⟨w.heap.size, 0, none⟩ (.string ⟨#[]⟩)).setCell ⟨w.heap.size, 1, none⟩ (.string ⟨#[]⟩))) := (C1.setCell (p := ⟨w.heap.size, 0, none⟩) (Nat.le_refl _) _).setCell (p := ⟨w.heap.size, 1, none⟩) (Nat.le_refl _) _
    clear hg HW C1
    go_wp2
    refine bodyPost_ret (v := .tuple #[.agg #[.string ⟨#[]⟩, .string ⟨#[]⟩], .int .i64 20]) (by simp [results, Tryz.results55, go_sem, r0, r1]) rfl ⟨rfl, C2.out⟩
  · cases ok
    · rw [Bool.true_and, if_neg (by decide)]
      go_enter Tryz.func55, Tryz.ntmps55
      go_wp2_with fail
      refine (HC.out _ hm2).mono ?_
      rintro e w1 ⟨rfl, k, rfl⟩
      have hg : ((w.alloc (.cells #[.string ⟨#[]⟩, .string ⟨#[]⟩] 41)).drewN k).heap[w.heap.size]? = some (.cells #[.string ⟨#[]⟩, .string ⟨#[]⟩] 41) := by rw [drewN_heap]; exact tblk_new _ _
      have C1 : Below w.heap.size w ((w.alloc (.cells #[.string ⟨#[]⟩, .string ⟨#[]⟩] 41)).drewN k) := ((Below.refl _ _).alloc (Nat.le_refl _) _).trans (below_drewN _ _ _)
      generalize (w.alloc (.cells #[.string ⟨#[]⟩, .string ⟨#[]⟩] 41)).drewN k = w2 at *
      clear hm2 HC
      go_wp2_with fail
      refine (clone_any n _ (by have := hn.out; omega)).mono ?_
      rintro e w3 ⟨rfl, B3⟩
      have g3 := tblk_below hg B3
      have C3 := C1.trans (B3.mono C1.size)
      clear hg C1 B3
      go_wp2_with fail
      refine (HTR.out _).mono ?_
      rintro e w4 ⟨rfl, B4⟩
      have g4 := tblk_below g3 B4
      have C4 := C3.trans (B4.mono C3.size)
      clear g3 C3 B4
      have hl4 : w.heap.size < w4.heap.size := (Array.getElem?_eq_some_iff.1 g4).1
      go_wp2_with fail
      refine (HWR2.out _).mono ?_
      rintro e w5 ⟨rfl, B5⟩
      have B45 : Below w4.heap.size w4 w5 := ((Below.refl w4.heap.size w4).alloc (Nat.le_refl _) (.cells #[.string n, .string T] 41)).trans (B5.mono (by simp))
      have g5 := tblk_below g4 B45
      have f5 : w5.heap[w4.heap.size]? = some (.cells #[.string n, .string T] 41) := (B5.block _ (by simp)).trans (tblk_new _ _)
      have C5 := C4.trans (B45.mono C4.size)
      clear B5 B45 g4 C4 HWR2
      have a0 : w5.cell? ⟨w.heap.size, 0, none⟩ = some (.string ⟨#[]⟩) := tblk_cell g5 rfl
      have a1 : w5.cell? ⟨w.heap.size, 1, none⟩ = some (.string ⟨#[]⟩) := tblk_cell g5 rfl
      have b0 : w5.cell? ⟨w4.heap.size, 0, none⟩ = some (.string n) := tblk_cell f5 rfl
      have b1 : w5.cell? ⟨w4.heap.size, 1, none⟩ = some (.string T) := tblk_cell f5 rfl
      have z0 : w5.frozen? ⟨w.heap.size, 0, none⟩ = false := tblk_z g5
      have z1 : w5.frozen? ⟨w.heap.size, 1, none⟩ = false := tblk_z g5
      have HW := two_cells g5 ⟨#[]⟩ ⟨#[]⟩
      have r0 := HW.2.1
      have r1 := HW.2.2.1
      have C6 : Hid (Below w.heap.size w ((w5.setCell ⟨w.heap.size, 0, none⟩ (.string ⟨#[]⟩)).setCell ⟨w.heap.size, 1, none⟩ (.string ⟨#[]⟩))) := (C5.setCell (p := ⟨w.heap.size, 0, none⟩) (Nat.le_refl _) _).setCell (p := ⟨w.heap.size, 1, none⟩) (Nat.le_refl _) _
      clear g5 f5 HW C5
      go_wp2
      refine bodyPost_ret (v := .tuple #[.agg #[.string ⟨#[]⟩, .string ⟨#[]⟩], .int .i64 20]) (by simp [results, Tryz.results55, go_sem, r0, r1]) rfl ⟨rfl, C6.out⟩
    · rw [Bool.true_and, if_pos rfl]
      go_enter Tryz.func55, Tryz.ntmps55
      go_wp2_with fail
      refine (HC.out _ hm2).mono ?_
      rintro e w1 ⟨rfl, k, rfl⟩
      have hg : ((w.alloc (.cells #[.string ⟨#[]⟩, .string ⟨#[]⟩] 41)).drewN k).heap[w.heap.size]? = some (.cells #[.string ⟨#[]⟩, .string ⟨#[]⟩] 41) := by rw [drewN_heap]; exact tblk_new _ _
      have C1 : Below w.heap.size w ((w.alloc (.cells #[.string ⟨#[]⟩, .string ⟨#[]⟩] 41)).drewN k) := ((Below.refl _ _).alloc (Nat.le_refl _) _).trans (below_drewN _ _ _)
      generalize (w.alloc (.cells #[.string ⟨#[]⟩, .string ⟨#[]⟩] 41)).drewN k = w2 at *
      clear hm2 HC
      go_wp2_with fail
      refine (clone_any n _ (by have := hn.out; omega)).mono ?_
      rintro e w3 ⟨rfl, B3⟩
      have g3 := tblk_below hg B3
      have C3 := C1.trans (B3.mono C1.size)
      clear hg C1 B3
      go_wp2_with fail
      refine (HTR.out _).mono ?_
      rintro e w4 ⟨rfl, B4⟩
      have g4 := tblk_below g3 B4
      have C4 := C3.trans (B4.mono C3.size)
      clear g3 C3 B4
      have hl4 : w.heap.size < w4.heap.size := (Array.getElem?_eq_some_iff.1 g4).1
      go_wp2_with fail
      refine (HWR2.out _).mono ?_
      rintro e w5 ⟨rfl, B5⟩
      have B45 : Below w4.heap.size w4 w5 := ((Below.refl w4.heap.size w4).alloc (Nat.le_refl _) (.cells #[.string n, .string T] 41)).trans (B5.mono (by simp))
      have g5 := tblk_below g4 B45
      have f5 : w5.heap[w4.heap.size]? = some (.cells #[.string n, .string T] 41) := (B5.block _ (by simp)).trans (tblk_new _ _)
      have C5 := C4.trans (B45.mono C4.size)
      clear B5 B45 g4 C4 HWR2
      have a0 : w5.cell? ⟨w.heap.size, 0, none⟩ = some (.string ⟨#[]⟩) := tblk_cell g5 rfl
      have a1 : w5.cell? ⟨w.heap.size, 1, none⟩ = some (.string ⟨#[]⟩) := tblk_cell g5 rfl
      have b0 : w5.cell? ⟨w4.heap.size, 0, none⟩ = some (.string n) := tblk_cell f5 rfl
      have b1 : w5.cell? ⟨w4.heap.size, 1, none⟩ = some (.string T) := tblk_cell f5 rfl
      have z0 : w5.frozen? ⟨w.heap.size, 0, none⟩ = false := tblk_z g5
      have z1 : w5.frozen? ⟨w.heap.size, 1, none⟩ = false := tblk_z g5
      have HW := two_cells g5 n T
      have r0 := HW.2.1
      have r1 := HW.2.2.1
      have C6 : Hid (Below w.heap.size w ((w5.setCell ⟨w.heap.size, 0, none⟩ (.string n)).setCell ⟨w.heap.size, 1, none⟩ (.string T))) := (C5.setCell (p := ⟨w.heap.size, 0, none⟩) (Nat.le_refl _) _).setCell (p := ⟨w.heap.size, 1, none⟩) (Nat.le_refl _) _
      clear g5 f5 HW C5
      go_wp2
      refine bodyPost_ret (v := .tuple #[.agg #[.string n, .string T], .int .i64 0]) (by simp [results, Tryz.results55, go_sem, r0, r1]) rfl ⟨rfl, C6.out⟩

end Go.Proofs.YtkdnckkdofoaoaaGreatDoor

/- A field's line. -/
namespace Go.Proofs.YtkdnckkdofoaoaaGreatDoor
open Go.RowKit
set_option linter.unusedVariables false

theorem cat_run (W : World) (a b : ByteArray) (h : a.size + b.size ≤ 281474976710656) : (Op.stringOp .add a b).run Tryz.prog W = .ok (.string (a ++ b)) W :=
  run_string_add_sum W a b (by omega)
/-- A field's line. -/
def lineT (n v : ByteArray) : ByteArray := n ++ ⟨#[58, 32]⟩ ++ v ++ ⟨#[13, 10]⟩
set_option maxHeartbeats 1000000 in
theorem line_any (n v : ByteArray) (w : World) (h : n.size + v.size ≤ 140737488355328) : Calls Tryz.prog 96 #[.agg #[.string n, .string v]] w fun e w' => e = .returned (.string (lineT n v)) ∧ Below w.heap.size w w' := by
  unfold lineT
  have h1 := fun W : World => cat_run W n ⟨#[58, 32]⟩ (by show _ + 2 ≤ _; omega)
  have h2 := fun W : World => cat_run W (n ++ ⟨#[58, 32]⟩) v (by rw [cat_size]; show _ + 2 + _ ≤ _; omega)
  have h3 := fun W : World => cat_run W (n ++ ⟨#[58, 32]⟩ ++ v) ⟨#[13, 10]⟩ (by rw [cat_size, cat_size]; show _ + 2 + _ + 2 ≤ _; omega)
  clear h
  go_enter Tryz.func96, Tryz.ntmps96
  go_wp2
  go_ret
  exact ⟨rfl, (Below.refl _ _).alloc (Nat.le_refl _) _⟩
end Go.Proofs.YtkdnckkdofoaoaaGreatDoor
