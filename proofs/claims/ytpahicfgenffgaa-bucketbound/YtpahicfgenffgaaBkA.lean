/- Package bucket's calls on a bucket that lies in a block of its own: what each answers, and what the block holds behind it. -/
import Derived.Test.YtpahicfgenffgaaRows
import Derived.WalkKit
import Derived.WalkSpells
import Derived.WalkLawsBesides
import Derived.Laws.Pointers
import Derived.Deep.QuietTactic
import Derived.BigQuiet
import Derived.BigRegion
import Derived.RegionTactic
import Derived.Below
namespace Go.Proofs.Ytpahicfgenffgaa
open Go.RowKit
set_option linter.unusedVariables false

/-- In block b lies a bucket: rate, burst, tokens, the greatest time so far. -/
def IsK (w : World) (b : Nat) (r u k a : Int) : Prop := w.heap[b]? = some (.cells #[.int .i64 r, .int .i64 u, .int .i64 k, .int .i64 a] 43)
theorem IsK.c0 {w : World} {b : Nat} {r u k a : Int} (x : IsK w b r u k a) : w.cell? ⟨b, 0, none⟩ = some (.int .i64 r) := by unfold IsK at x; simp [World.cell?, x]
theorem IsK.c1 {w : World} {b : Nat} {r u k a : Int} (x : IsK w b r u k a) : w.cell? ⟨b, 1, none⟩ = some (.int .i64 u) := by unfold IsK at x; simp [World.cell?, x]
theorem IsK.c2 {w : World} {b : Nat} {r u k a : Int} (x : IsK w b r u k a) : w.cell? ⟨b, 2, none⟩ = some (.int .i64 k) := by unfold IsK at x; simp [World.cell?, x]
theorem IsK.c3 {w : World} {b : Nat} {r u k a : Int} (x : IsK w b r u k a) : w.cell? ⟨b, 3, none⟩ = some (.int .i64 a) := by unfold IsK at x; simp [World.cell?, x]
theorem IsK.z {w : World} {b : Nat} {r u k a : Int} (x : IsK w b r u k a) (o : Nat) : w.frozen? ⟨b, o, none⟩ = false := by unfold IsK at x; simp [World.frozen?, x]
theorem IsK.set2 {w : World} {b : Nat} {r u k a : Int} (x : IsK w b r u k a) (y : Int) : IsK (w.setCell ⟨b, 2, none⟩ (.int .i64 y)) b r u y a := by unfold IsK at *; simp [World.setCell, Array.getElem?_modify, x]
theorem IsK.set3 {w : World} {b : Nat} {r u k a : Int} (x : IsK w b r u k a) (y : Int) : IsK (w.setCell ⟨b, 3, none⟩ (.int .i64 y)) b r u k y := by unfold IsK at *; simp [World.setCell, Array.getElem?_modify, x]
theorem IsK.drew {w : World} {b : Nat} {r u k a : Int} (x : IsK w b r u k a) : IsK w.drew b r u k a := x
theorem IsK.lt {w : World} {b : Nat} {r u k a : Int} (x : IsK w b r u k a) : b < w.heap.size := by unfold IsK at x; exact (Array.getElem?_eq_some_iff.1 x).1

/-- Nothing but block b has turned, and nothing is new. -/
structure But (b : Nat) (w w' : World) : Prop where
  os : w'.os = w.os
  tape : w'.tape = w.tape
  output : w'.output = w.output
  size : w'.heap.size = w.heap.size
  block : ∀ k, k ≠ b → w'.heap[k]? = w.heap[k]?
theorem But.refl (b : Nat) (w : World) : But b w w := ⟨rfl, rfl, rfl, rfl, fun _ _ => rfl⟩
theorem But.trans {b : Nat} {u v w : World} (h : But b u v) (k : But b v w) : But b u w :=
  ⟨k.os.trans h.os, k.tape.trans h.tape, k.output.trans h.output, k.size.trans h.size, fun i hi => (k.block i hi).trans (h.block i hi)⟩
theorem But.set (b o : Nat) (w : World) (v : Value) : But b w (w.setCell ⟨b, o, none⟩ v) :=
  ⟨rfl, rfl, rfl, by simp [World.setCell], fun k hk => Below.heap_setCell _ _ _ _ hk⟩
theorem But.drew (b : Nat) (w : World) : But b w w.drew := ⟨rfl, rfl, rfl, rfl, fun _ _ => rfl⟩
theorem But.isK {b c : Nat} {w w' : World} (h : But b w w') (hc : c ≠ b) {r u k a : Int} (x : IsK w c r u k a) : IsK w' c r u k a := by
  unfold IsK at *; rw [h.block c hc]; exact x
theorem But.below {b B : Nat} {w w' : World} (h : But b w w') (hb : B ≤ b) : Below B w w' :=
  ⟨h.os, h.tape, h.output, Nat.le_of_eq h.size.symm, fun k hk => h.block k (by omega)⟩
theorem Below.isK {B c : Nat} {w w' : World} (h : Below B w w') (hc : c < B) {r u k a : Int} (x : IsK w c r u k a) : IsK w' c r u k a := by
  unfold IsK at *; rw [h.block c hc]; exact x

/-- A number as it counts. -/
def bnd (n : Int) : Int := if n < 0 then 0 else if 1048576 < n then 1048576 else n
theorem bnd_bd (n : Int) : 0 ≤ bnd n ∧ bnd n ≤ 1048576 := by unfold bnd; split <;> (try split) <;> omega
/-- A time as it counts. -/
def tmx (now a : Int) : Int := if now < a then a else if 1099511627776 < now then 1099511627776 else now
theorem tmx_bd {now a : Int} (h : a ≤ 1099511627776) : a ≤ tmx now a ∧ tmx now a ≤ 1099511627776 := by unfold tmx; split <;> (try split) <;> omega
/-- What numbers a bucket may hold. -/
structure KI (r u k a : Int) : Prop where
  r0 : 0 ≤ r
  r1 : r ≤ 1048576
  u0 : 0 ≤ u
  u1 : u ≤ 1048576
  k0 : 0 ≤ k
  k1 : k ≤ u
  a0 : 0 ≤ a
  a1 : a ≤ 1099511627776
/-- How many tokens there are at a time T. -/
def flK (r u k a T : Int) : Int := if k + r * (T - a) ≤ u then k + r * (T - a) else u
theorem flK_bd {r u k a T : Int} (h : KI r u k a) (hT : a ≤ T) : 0 ≤ flK r u k a T ∧ flK r u k a T ≤ u := by
  have : 0 ≤ r * (T - a) := Int.mul_nonneg h.r0 (by omega)
  have := h.k0; have := h.u0
  unfold flK; split <;> omega
theorem mul_bd {r d : Int} (h0 : 0 ≤ r) (h1 : r ≤ 1048576) (h2 : 0 ≤ d) (h3 : d ≤ 1099511627776) : 0 ≤ r * d ∧ r * d ≤ 1152921504606846976 := by
  refine ⟨Int.mul_nonneg h0 h2, ?_⟩
  have : r * d ≤ 1048576 * 1099511627776 := Int.mul_le_mul h1 h3 h2 (by omega)
  omega
theorem KI.fill {r u k a T : Int} (h : KI r u k a) (hT : a ≤ T) (hT1 : T ≤ 1099511627776) : KI r u (flK r u k a T) T :=
  ⟨h.r0, h.r1, h.u0, h.u1, (flK_bd h hT).1, (flK_bd h hT).2, by have := h.a0; omega, hT1⟩

set_option maxHeartbeats 400000 in
theorem bkbnd_any (n : Int) (w : World) : Calls Try.prog 14 #[.int .i64 n] w fun e w' => e = .returned (.int .i64 (bnd n)) ∧ w' = w := by
  rcases Int.lt_or_le n 0 with c | c
  · have f : bnd n = 0 := by unfold bnd; rw [if_pos c]
    rw [f]; clear f
    go_enter Try.func14, Try.ntmps14
    go_wp2
    go_ret
    exact ⟨rfl, rfl⟩
  · rcases Int.lt_or_le 1048576 n with d | d
    · have f : bnd n = 1048576 := by unfold bnd; rw [if_neg (by omega), if_pos d]
      rw [f]; clear f
      go_enter Try.func14, Try.ntmps14
      go_wp2
      go_ret
      exact ⟨rfl, rfl⟩
    · have f : bnd n = n := by unfold bnd; rw [if_neg (by omega), if_neg (by omega)]
      rw [f]; clear f
      go_enter Try.func14, Try.ntmps14
      go_wp2
      go_ret
      exact ⟨rfl, rfl⟩

set_option maxHeartbeats 400000 in
theorem bknew_any (r u : Int) (w : World) : Calls Try.prog 7 #[.int .i64 r, .int .i64 u] w fun e w' => e = .returned (.pointer (some ⟨w.heap.size, 0, none⟩)) ∧ w' = w.alloc (.cells #[.int .i64 (bnd r), .int .i64 (bnd u), .int .i64 (bnd u), .int .i64 0] 43) := by
  generalize hr : bnd r = r'
  generalize hu : bnd u = u'
  have HR : Hid (bnd r = r') := hr
  have HU : Hid (bnd u = u') := hu
  clear hr hu
  go_enter Try.func7, Try.ntmps7
  go_wp2_with fail
  refine (bkbnd_any _ _).mono ?_
  rw [HU.out]
  rintro e w' ⟨rfl, rfl⟩
  go_wp2_with fail
  refine (bkbnd_any _ _).mono ?_
  rw [HR.out]
  rintro e w' ⟨rfl, rfl⟩
  go_wp2
  go_ret
  exact ⟨rfl, rfl⟩
theorem isK_new (w : World) (r u k a : Int) : IsK (w.alloc (.cells #[.int .i64 r, .int .i64 u, .int .i64 k, .int .i64 a] 43)) w.heap.size r u k a := by
  show (w.heap.push _)[w.heap.size]? = _
  simp
theorem new_k (r u : Int) (w : World) : Calls Try.prog 7 #[.int .i64 r, .int .i64 u] w fun e w' => ∃ b, e = .returned (.pointer (some ⟨b, 0, none⟩)) ∧ w.heap.size = b ∧ IsK w' b (bnd r) (bnd u) (bnd u) 0 ∧ KI (bnd r) (bnd u) (bnd u) 0 ∧ Below w.heap.size w w' :=
  (bknew_any r u w).mono fun e w' ⟨he, hw⟩ => ⟨_, he, rfl, hw ▸ isK_new w _ _ _ _, ⟨(bnd_bd r).1, (bnd_bd r).2, (bnd_bd u).1, (bnd_bd u).2, (bnd_bd u).1, Int.le_refl _, Int.le_refl _, by omega⟩, hw ▸ (Below.refl _ _).alloc (Nat.le_refl _) _⟩

set_option maxHeartbeats 800000 in
theorem pass_any (b : Nat) (r u k a now : Int) (w : World) (hk : IsK w b r u k a) (hi : KI r u k a) :
    Calls Try.prog 16 #[.pointer (some ⟨b, 0, none⟩), .int .i64 now] w fun e w' => e = .returned (.tuple #[]) ∧ IsK w' b r u (flK r u k a (tmx now a)) (tmx now a) ∧ But b w w' := by
  have hc0 := hk.c0
  have hc1 := hk.c1
  have hc2 := hk.c2
  have hc3 := hk.c3
  have hz2 := hk.z 2
  have hz3 := hk.z 3
  obtain ⟨r0, r1, u0, u1, k0, k1, a0, a1⟩ := hi
  rcases Int.lt_or_le now a with c | c
  · have f : tmx now a = a := by unfold tmx; rw [if_pos c]
    rw [f]; clear f
    have g : flK r u k a a = k := by unfold flK; rw [Int.sub_self, Int.mul_zero]; split <;> omega
    rw [g]; clear g
    go_enter Try.func16, Try.ntmps16
    go_wp2
    go_region
    all_goals go_wp2
    all_goals go_end0
    all_goals exact ⟨rfl, (hk.drew.set2 _).set3 _, (But.drew _ _).trans ((But.set _ _ _ _).trans (But.set _ _ _ _))⟩
  · have KEY : ∀ T, a ≤ T → T ≤ 1099511627776 → 0 ≤ r * (T - a) ∧ r * (T - a) ≤ 1152921504606846976 := fun T h1 h2 => mul_bd r0 r1 (by omega) (by omega)
    rcases Int.lt_or_le 1099511627776 now with d | d
    · have f : tmx now a = 1099511627776 := by unfold tmx; rw [if_neg (by omega), if_pos d]
      obtain ⟨p0, p1⟩ := KEY _ a1 (Int.le_refl _)
      rw [f]; clear f KEY
      rcases Int.lt_or_le u (k + r * (1099511627776 - a)) with g | g
      · have g1 : flK r u k a 1099511627776 = u := by unfold flK; rw [if_neg (Int.not_le.2 g)]
        rw [g1]; clear g1
        go_enter Try.func16, Try.ntmps16
        go_wp2
        go_region
        all_goals go_wp2
        all_goals go_end0
        all_goals exact ⟨rfl, (hk.drew.set2 _).set3 _, (But.drew _ _).trans ((But.set _ _ _ _).trans (But.set _ _ _ _))⟩
      · have g1 : flK r u k a 1099511627776 = k + r * (1099511627776 - a) := by unfold flK; rw [if_pos g]
        rw [g1]; clear g1
        go_enter Try.func16, Try.ntmps16
        go_wp2
        go_region
        all_goals go_wp2
        all_goals go_end0
        all_goals exact ⟨rfl, (hk.drew.set2 _).set3 _, (But.drew _ _).trans ((But.set _ _ _ _).trans (But.set _ _ _ _))⟩
    · have f : tmx now a = now := by unfold tmx; rw [if_neg (by omega), if_neg (by omega)]
      obtain ⟨p0, p1⟩ := KEY _ c d
      rw [f]; clear f KEY
      rcases Int.lt_or_le u (k + r * (now - a)) with g | g
      · have g1 : flK r u k a now = u := by unfold flK; rw [if_neg (Int.not_le.2 g)]
        rw [g1]; clear g1
        go_enter Try.func16, Try.ntmps16
        go_wp2
        go_region
        all_goals go_wp2
        all_goals go_end0
        all_goals exact ⟨rfl, (hk.drew.set2 _).set3 _, (But.drew _ _).trans ((But.set _ _ _ _).trans (But.set _ _ _ _))⟩
      · have g1 : flK r u k a now = k + r * (now - a) := by unfold flK; rw [if_pos g]
        rw [g1]; clear g1
        go_enter Try.func16, Try.ntmps16
        go_wp2
        go_region
        all_goals go_wp2
        all_goals go_end0
        all_goals exact ⟨rfl, (hk.drew.set2 _).set3 _, (But.drew _ _).trans ((But.set _ _ _ _).trans (But.set _ _ _ _))⟩

end Go.Proofs.Ytpahicfgenffgaa
