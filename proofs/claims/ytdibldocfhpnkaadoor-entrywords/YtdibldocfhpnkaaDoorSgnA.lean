/- The closures of package sign: which bytes each lets stand. -/
import Derived.Test.YtdibldocfhpnkaaDoorBase
import Derived.Test.YtdibldocfhpnkaaDoorSpnA
import Derived.Test.YtdibldocfhpnkaaDoorAllB
import Derived.WalkKit
import Derived.WalkSpells
import Derived.WalkLawsBesides
import Derived.Laws.Pointers
import Derived.Laws.EntriesVeiled
import Derived.Lib.Bytealg
namespace Go.Proofs.YtdibldocfhpnkaaDoor
open Go.RowKit
set_option linter.unusedVariables false

theorem sblk_lt {w : World} {b : Nat} {o : Obj} (h : w.heap[b]? = some o) : b < w.heap.size := (Array.getElem?_eq_some_iff.1 h).1
theorem sblk_new (w : World) (o : Obj) : (w.alloc o).heap[w.heap.size]? = some o := by
  show (w.heap.push o)[w.heap.size]? = _; simp
theorem sblk_alloc {w : World} {b : Nat} {o : Obj} (h : w.heap[b]? = some o) (o' : Obj) : (w.alloc o').heap[b]? = some o := by
  rw [Below.heap_alloc _ _ _ (sblk_lt h)]; exact h
theorem sblk_cell {w : World} {b i : Nat} {c : Array Value} {t : TypeId} {v : Value} (h : w.heap[b]? = some (.cells c t)) (hv : c[i]? = some v) : w.cell? ⟨b, i, none⟩ = some v := by
  simp [World.cell?, h, hv]
theorem sblk_below {w w' : World} {b : Nat} {o : Obj} (h : w.heap[b]? = some o) (k : Below w.heap.size w w') : w'.heap[b]? = some o := (k.block b (sblk_lt h)).trans h

/-- A byte from lo to hi. -/
theorem span_call (lo hi c : Int) (p q : Nat) (w : World) (h1 : w.heap[p]? = some (.cells #[.int .u8 lo] 5)) (h2 : w.heap[q]? = some (.cells #[.int .u8 hi] 5)) :
    Calls Tryd.prog 53 #[.int .u8 c, .pointer (some ⟨p, 0, none⟩), .pointer (some ⟨q, 0, none⟩)] w fun e w' => e = .returned (.bool (spanP lo hi c)) ∧ w' = w := by
  have c1 : w.cell? ⟨p, 0, none⟩ = some (.int .u8 lo) := sblk_cell h1 rfl
  have c2 : w.cell? ⟨q, 0, none⟩ = some (.int .u8 hi) := sblk_cell h2 rfl
  clear h1 h2
  unfold spanP
  by_cases k : lo ≤ c
  · rw [decide_eq_true k]
    go_enter Tryd.func53, Tryd.ntmps53
    go_wp2
    go_ret
    exact ⟨by simp, rfl⟩
  · rw [decide_eq_false k]
    go_enter Tryd.func53, Tryd.ntmps53
    go_wp2
    go_ret
    exact ⟨rfl, rfl⟩

/-- A byte of a text. -/
def amongP (s : ByteArray) (c : Int) : Bool := decide (0 ≤ Lib.indexByte s.data.toList c.toNat.toUInt8)
theorem indexByte_run (s : ByteArray) (c : Int) (w : World) : (callFunc 77 #[.string s, .int .u8 c]).run Tryd.prog w = .ok (.value (.int .i64 (Lib.indexByte s.data.toList c.toNat.toUInt8))) w := by
  rw [run_callFunc_extern Tryd.func77 (by kernel_rfl) (by kernel_rfl) (by kernel_rfl) (show Extern.find Tryd.f77 = some Extern.BytealgIndexByte.indexByte by kernel_rfl), Lib.run_indexByteString]
  rfl
theorem among_call (s : ByteArray) (c : Int) (p : Nat) (w : World) (h1 : w.heap[p]? = some (.cells #[.string s] 9)) :
    Calls Tryd.prog 54 #[.int .u8 c, .pointer (some ⟨p, 0, none⟩)] w fun e w' => e = .returned (.bool (amongP s c)) ∧ w' = w := by
  have c1 : w.cell? ⟨p, 0, none⟩ = some (.string s) := sblk_cell h1 rfl
  clear h1
  have hr := indexByte_run
  unfold amongP
  go_enter Tryd.func54, Tryd.ntmps54
  go_wp2
  go_ret
  exact ⟨by simp, rfl⟩

theorem span_any (lo hi : Int) (w : World) : Calls Tryd.prog 37 #[.int .u8 lo, .int .u8 hi] w fun e w' => ∃ p q : Nat, e = .returned (.func (.func 53) #[] #[.pointer (some ⟨p, 0, none⟩), .pointer (some ⟨q, 0, none⟩)]) ∧
    w'.heap[p]? = some (.cells #[.int .u8 lo] 5) ∧ w'.heap[q]? = some (.cells #[.int .u8 hi] 5) ∧ Below w.heap.size w w' := by
  have hmf : ∀ (fn : Fn) (first cap : Array Value) (w : World), (Instr.makeFunc fn first cap).run Tryd.prog w = .ok (.func fn first cap) w := fun _ _ _ _ => rfl
  go_enter Tryd.func37, Tryd.ntmps37
  go_wp2
  go_ret
  refine ⟨_, _, rfl, sblk_alloc (sblk_new _ _) _, ?_, ((Below.refl _ _).alloc (Nat.le_refl _) _).alloc (by simp) _⟩
  have h := sblk_new (w.alloc (.cells #[.int .u8 lo] 5)) (.cells #[.int .u8 hi] 5)
  rw [show (w.alloc (.cells #[.int .u8 lo] 5)).heap.size = w.heap.size + 1 from by simp] at h
  exact h

theorem among_any (s : ByteArray) (w : World) : Calls Tryd.prog 38 #[.string s] w fun e w' => ∃ p : Nat, e = .returned (.func (.func 54) #[] #[.pointer (some ⟨p, 0, none⟩)]) ∧
    w'.heap[p]? = some (.cells #[.string s] 9) ∧ Below w.heap.size w w' := by
  have hmf : ∀ (fn : Fn) (first cap : Array Value) (w : World), (Instr.makeFunc fn first cap).run Tryd.prog w = .ok (.func fn first cap) w := fun _ _ _ _ => rfl
  go_enter Tryd.func38, Tryd.ntmps38
  go_wp2
  go_ret
  exact ⟨_, rfl, sblk_new _ _, (Below.refl _ _).alloc (Nat.le_refl _) _⟩

theorem either_any (b n c : Nat) (w : World) : Calls Tryd.prog 36 #[.slice (some ⟨b, 0, none⟩) n c] w fun e w' => ∃ p : Nat, e = .returned (.func (.func 52) #[] #[.pointer (some ⟨p, 0, none⟩)]) ∧
    w'.heap[p]? = some (.cells #[.slice (some ⟨b, 0, none⟩) n c] 85) ∧ Below w.heap.size w w' := by
  have hmf : ∀ (fn : Fn) (first cap : Array Value) (w : World), (Instr.makeFunc fn first cap).run Tryd.prog w = .ok (.func fn first cap) w := fun _ _ _ _ => rfl
  go_enter Tryd.func36, Tryd.ntmps36
  go_wp2
  go_ret
  exact ⟨_, rfl, sblk_new _ _, (Below.refl _ _).alloc (Nat.le_refl _) _⟩

set_option maxHeartbeats 1000000 in
theorem all49 (s : ByteArray) (a : Value) (p : Int → Bool) (w : World) (hs : s.size ≤ maxLen)
    (hp : ∀ c : Int, 0 ≤ c → c < 256 → Calls Tryd.prog 52 #[.int .u8 c, a] w fun e w' => e = .returned (.bool (p c)) ∧ w' = w) :
    Calls Tryd.prog 35 #[.string s, .func (.func 52) #[] #[a]] w fun e w' => e = .returned (.bool (allB p s.data.toList)) ∧ w' = w := by
  unfold maxLen at hs
  have HP : Hid (∀ c : Int, 0 ≤ c → c < 256 → Calls Tryd.prog 52 #[.int .u8 c, a] w fun e w' => e = .returned (.bool (p c)) ∧ w' = w) := hp
  clear hp
  go_enter Tryd.func35, Tryd.ntmps35
  go_wp2
  go_loop [8] (fun i => ∃ k : Nat, k ≤ s.size ∧ i = .int .i64 k ∧ Hid (allB p (s.data.toList.take k) = true)) (fun i => s.size - (intOf i).toNat)
  case atStart => exact ⟨0, Nat.zero_le _, rfl, rfl⟩
  case round =>
    obtain ⟨k, hk, rfl, hA⟩ := hrel
    by_cases hlt : k < s.size
    · go_wp2_with fail
      refine (HP.out _ (by omega) (by have := s[k].toNat_lt; omega)).mono ?_
      rintro e w' ⟨rfl, rfl⟩
      cases hpc : p (s[k].toNat : Int)
      · have HC : Hid (p (s[k].toNat : Int) = false) := hpc
        clear hpc
        go_wp2
        go_ret
        exact ⟨ret_b (allB_false s k hlt HC.out).symm, rfl⟩
      · have HC : Hid (p (s[k].toNat : Int) = true) := hpc
        clear hpc
        go_wp2
        go_round
        case rel => exact ⟨k + 1, by omega, by go_num, allB_snoc s k hlt hA.out HC.out⟩
        case measure => simp [intOf]; omega
    · go_wp2
      go_ret
      have hk' : k = s.size := by omega
      subst hk'
      exact ⟨ret_b (by have h := hA.out; rw [List.take_of_length_le (by simp)] at h; exact h.symm), rfl⟩

set_option maxHeartbeats 1000000 in
theorem all50 (s : ByteArray) (a b : Value) (p : Int → Bool) (w : World) (hs : s.size ≤ maxLen)
    (hp : ∀ c : Int, 0 ≤ c → c < 256 → Calls Tryd.prog 53 #[.int .u8 c, a, b] w fun e w' => e = .returned (.bool (p c)) ∧ w' = w) :
    Calls Tryd.prog 35 #[.string s, .func (.func 53) #[] #[a, b]] w fun e w' => e = .returned (.bool (allB p s.data.toList)) ∧ w' = w := by
  unfold maxLen at hs
  have HP : Hid (∀ c : Int, 0 ≤ c → c < 256 → Calls Tryd.prog 53 #[.int .u8 c, a, b] w fun e w' => e = .returned (.bool (p c)) ∧ w' = w) := hp
  clear hp
  go_enter Tryd.func35, Tryd.ntmps35
  go_wp2
  go_loop [8] (fun i => ∃ k : Nat, k ≤ s.size ∧ i = .int .i64 k ∧ Hid (allB p (s.data.toList.take k) = true)) (fun i => s.size - (intOf i).toNat)
  case atStart => exact ⟨0, Nat.zero_le _, rfl, rfl⟩
  case round =>
    obtain ⟨k, hk, rfl, hA⟩ := hrel
    by_cases hlt : k < s.size
    · go_wp2_with fail
      refine (HP.out _ (by omega) (by have := s[k].toNat_lt; omega)).mono ?_
      rintro e w' ⟨rfl, rfl⟩
      cases hpc : p (s[k].toNat : Int)
      · have HC : Hid (p (s[k].toNat : Int) = false) := hpc
        clear hpc
        go_wp2
        go_ret
        exact ⟨ret_b (allB_false s k hlt HC.out).symm, rfl⟩
      · have HC : Hid (p (s[k].toNat : Int) = true) := hpc
        clear hpc
        go_wp2
        go_round
        case rel => exact ⟨k + 1, by omega, by go_num, allB_snoc s k hlt hA.out HC.out⟩
        case measure => simp [intOf]; omega
    · go_wp2
      go_ret
      have hk' : k = s.size := by omega
      subst hk'
      exact ⟨ret_b (by have h := hA.out; rw [List.take_of_length_le (by simp)] at h; exact h.symm), rfl⟩

end Go.Proofs.YtdibldocfhpnkaaDoor
