/- Records: what is right (plain); package entry's numbersOf, within, Right. -/
import Derived.Test.YtdibldocfhpnkaaDoorSgnG
import Derived.Test.YtdibldocfhpnkaaDoorTxtL
import Derived.Deep.QuietTactic
import Derived.BigQuiet
namespace Go.Proofs.YtdibldocfhpnkaaDoor
open Go.RowKit
set_option linter.unusedVariables false

structure EntP where
  q : Int
  a : Int
  k : Int
  n : Int
  m : ByteArray
  t : ByteArray
  c : Int
  u : Int
  d : Int
def entV (e : EntP) : Array Value := #[.int .i64 e.q, .int .i64 e.a, .int .i64 e.k, .int .i64 e.n, .string e.m, .string e.t, .int .i64 e.c, .int .i64 e.u, .int .i64 e.d]
def numsE (e : EntP) : List Int := [e.q, e.a, e.k, e.n, e.c, e.u, e.d]
def arrV (e : EntP) : Array Value := #[.int .i64 e.q, .int .i64 e.a, .int .i64 e.k, .int .i64 e.n, .int .i64 e.c, .int .i64 e.u, .int .i64 e.d]
def inB (z lo hi : Int) : Bool := decide (lo ≤ z) && decide (z ≤ hi)
def withinP (e : EntP) : Bool := inB e.q 1 1125899906842624 && (inB e.a 0 1125899906842624 && (inB e.k 0 1125899906842624 && (inB e.n 1 2147483647 && (inB e.c 0 999 && (inB e.u 0 1125899906842624 && inB e.d 0 1125899906842624)))))
def tokS (s : ByteArray) : Bool := allB tokP s.data.toList && decide (0 < s.size)
def rightE (e : EntP) : Bool := withinP e && (decide (e.m.size ≤ 20) && (tokS e.m && (decide (e.t.size ≤ 512) && tgtP e.t)))
/-- The tables of the bounds. -/
structure LmT (w : World) : Prop where
  l0 : w.cell? ⟨0, 0, none⟩ = some (.int .i64 1)
  l1 : w.cell? ⟨0, 1, none⟩ = some (.int .i64 0)
  l2 : w.cell? ⟨0, 2, none⟩ = some (.int .i64 0)
  l3 : w.cell? ⟨0, 3, none⟩ = some (.int .i64 1)
  l4 : w.cell? ⟨0, 4, none⟩ = some (.int .i64 0)
  l5 : w.cell? ⟨0, 5, none⟩ = some (.int .i64 0)
  l6 : w.cell? ⟨0, 6, none⟩ = some (.int .i64 0)
  m0 : w.cell? ⟨1, 0, none⟩ = some (.int .i64 1125899906842624)
  m1 : w.cell? ⟨1, 1, none⟩ = some (.int .i64 1125899906842624)
  m2 : w.cell? ⟨1, 2, none⟩ = some (.int .i64 1125899906842624)
  m3 : w.cell? ⟨1, 3, none⟩ = some (.int .i64 2147483647)
  m4 : w.cell? ⟨1, 4, none⟩ = some (.int .i64 999)
  m5 : w.cell? ⟨1, 5, none⟩ = some (.int .i64 1125899906842624)
  m6 : w.cell? ⟨1, 6, none⟩ = some (.int .i64 1125899906842624)
  lt : 0 < w.heap.size
  mt : 1 < w.heap.size
theorem LmT.below {w w' : World} (h : LmT w) (b : Below w.heap.size w w') : LmT w' :=
  ⟨(b.cell (p := ⟨0, 0, none⟩) h.lt).trans h.l0, (b.cell (p := ⟨0, 1, none⟩) h.lt).trans h.l1, (b.cell (p := ⟨0, 2, none⟩) h.lt).trans h.l2, (b.cell (p := ⟨0, 3, none⟩) h.lt).trans h.l3, (b.cell (p := ⟨0, 4, none⟩) h.lt).trans h.l4, (b.cell (p := ⟨0, 5, none⟩) h.lt).trans h.l5, (b.cell (p := ⟨0, 6, none⟩) h.lt).trans h.l6,
   (b.cell (p := ⟨1, 0, none⟩) h.mt).trans h.m0, (b.cell (p := ⟨1, 1, none⟩) h.mt).trans h.m1, (b.cell (p := ⟨1, 2, none⟩) h.mt).trans h.m2, (b.cell (p := ⟨1, 3, none⟩) h.mt).trans h.m3, (b.cell (p := ⟨1, 4, none⟩) h.mt).trans h.m4, (b.cell (p := ⟨1, 5, none⟩) h.mt).trans h.m5, (b.cell (p := ⟨1, 6, none⟩) h.mt).trans h.m6,
   Nat.lt_of_lt_of_le h.lt b.size, Nat.lt_of_lt_of_le h.mt b.size⟩
set_option maxHeartbeats 800000 in
theorem ennums_any (e : EntP) (w : World) : Calls Tryd.prog 19 #[.agg (entV e)] w fun r w' => r = .returned (.agg (arrV e)) ∧ Below w.heap.size w w' := by
  obtain ⟨q, a, k, n, m, t, c, u, d⟩ := e
  unfold entV arrV
  simp only
  go_enter Tryd.func19, Tryd.ntmps19
  go_wp2
  refine bodyPost_ret (v := .agg #[.int .i64 q, .int .i64 a, .int .i64 k, .int .i64 n, .int .i64 c, .int .i64 u, .int .i64 d]) (by simp [results, Tryd.results19, go_sem]) rfl ⟨rfl, ?_⟩
  exact ((Below.refl _ _).alloc (Nat.le_refl _) _).alloc (by simp) _
theorem inB_lo {z lo hi : Int} (h : z < lo) : inB z lo hi = false := by unfold inB; rw [decide_eq_false (by omega)]; rfl
theorem inB_hi {z lo hi : Int} (h : hi < z) : inB z lo hi = false := by unfold inB; rw [decide_eq_false (show ¬ z ≤ hi by omega), Bool.and_false]
theorem inB_in {z lo hi : Int} (h : lo ≤ z) (h' : z ≤ hi) : inB z lo hi = true := by unfold inB; rw [decide_eq_true h, decide_eq_true h']; rfl
/-- What is left to look at behind the first i numbers. -/
def restE (e : EntP) : Nat → Bool
  | 0 => withinP e
  | 1 => inB e.a 0 1125899906842624 && (inB e.k 0 1125899906842624 && (inB e.n 1 2147483647 && (inB e.c 0 999 && (inB e.u 0 1125899906842624 && inB e.d 0 1125899906842624))))
  | 2 => inB e.k 0 1125899906842624 && (inB e.n 1 2147483647 && (inB e.c 0 999 && (inB e.u 0 1125899906842624 && inB e.d 0 1125899906842624)))
  | 3 => inB e.n 1 2147483647 && (inB e.c 0 999 && (inB e.u 0 1125899906842624 && inB e.d 0 1125899906842624))
  | 4 => inB e.c 0 999 && (inB e.u 0 1125899906842624 && inB e.d 0 1125899906842624)
  | 5 => inB e.u 0 1125899906842624 && inB e.d 0 1125899906842624
  | 6 => inB e.d 0 1125899906842624
  | _ => true
theorem rest0 (e : EntP) : restE e 0 = (inB e.q 1 1125899906842624 && restE e 1) := by rfl
theorem rest1 (e : EntP) : restE e 1 = (inB e.a 0 1125899906842624 && restE e 2) := by rfl
theorem rest2 (e : EntP) : restE e 2 = (inB e.k 0 1125899906842624 && restE e 3) := by rfl
theorem rest3 (e : EntP) : restE e 3 = (inB e.n 1 2147483647 && restE e 4) := by rfl
theorem rest4 (e : EntP) : restE e 4 = (inB e.c 0 999 && restE e 5) := by rfl
theorem rest5 (e : EntP) : restE e 5 = (inB e.u 0 1125899906842624 && restE e 6) := by rfl
theorem rest6 (e : EntP) : restE e 6 = (inB e.d 0 1125899906842624 && restE e 7) := by show inB e.d 0 1125899906842624 = (_ && true); rw [Bool.and_true]
set_option maxRecDepth 100000 in
set_option maxHeartbeats 3200000 in
theorem enwithin_any (e : EntP) (w : World) (hL : LmT w) : Calls Tryd.prog 20 #[.agg (arrV e)] w fun r w' => r = .returned (.bool (withinP e)) ∧ Below w.heap.size w w' := by
  obtain ⟨l0, l1, l2, l3, l4, l5, l6, m0, m1, m2, m3, m4, m5, m6, lt, mt⟩ := hL
  have r0 := rest0 e
  have r1 := rest1 e
  have r2 := rest2 e
  have r3 := rest3 e
  have r4 := rest4 e
  have r5 := rest5 e
  have r6 := rest6 e
  have HR0 : Hid (restE e 0 = withinP e) := rfl
  have HR7 : Hid (restE e 7 = true) := rfl
  generalize withinP e = W at *
  generalize restE e = R at *
  obtain ⟨q, a, k, n, m, t, c, u, d⟩ := e
  unfold arrV
  simp only at r0 r1 r2 r3 r4 r5 r6 ⊢
  have H0 : Hid (R 0 = (inB q 1 1125899906842624 && R 1)) := r0
  have H1 : Hid (R 1 = (inB a 0 1125899906842624 && R 2)) := r1
  have H2 : Hid (R 2 = (inB k 0 1125899906842624 && R 3)) := r2
  have H3 : Hid (R 3 = (inB n 1 2147483647 && R 4)) := r3
  have H4 : Hid (R 4 = (inB c 0 999 && R 5)) := r4
  have H5 : Hid (R 5 = (inB u 0 1125899906842624 && R 6)) := r5
  have H6 : Hid (R 6 = (inB d 0 1125899906842624 && R 7)) := r6
  clear r0 r1 r2 r3 r4 r5 r6
  have ix0 : ∀ w, (Instr.index 48 (.agg #[.int .i64 q, .int .i64 a, .int .i64 k, .int .i64 n, .int .i64 c, .int .i64 u, .int .i64 d]) (.int .i64 0)).run Tryd.prog w = .ok (.int .i64 q) w := fun _ => by kernel_rfl
  have ix1 : ∀ w, (Instr.index 48 (.agg #[.int .i64 q, .int .i64 a, .int .i64 k, .int .i64 n, .int .i64 c, .int .i64 u, .int .i64 d]) (.int .i64 1)).run Tryd.prog w = .ok (.int .i64 a) w := fun _ => by kernel_rfl
  have ix2 : ∀ w, (Instr.index 48 (.agg #[.int .i64 q, .int .i64 a, .int .i64 k, .int .i64 n, .int .i64 c, .int .i64 u, .int .i64 d]) (.int .i64 2)).run Tryd.prog w = .ok (.int .i64 k) w := fun _ => by kernel_rfl
  have ix3 : ∀ w, (Instr.index 48 (.agg #[.int .i64 q, .int .i64 a, .int .i64 k, .int .i64 n, .int .i64 c, .int .i64 u, .int .i64 d]) (.int .i64 3)).run Tryd.prog w = .ok (.int .i64 n) w := fun _ => by kernel_rfl
  have ix4 : ∀ w, (Instr.index 48 (.agg #[.int .i64 q, .int .i64 a, .int .i64 k, .int .i64 n, .int .i64 c, .int .i64 u, .int .i64 d]) (.int .i64 4)).run Tryd.prog w = .ok (.int .i64 c) w := fun _ => by kernel_rfl
  have ix5 : ∀ w, (Instr.index 48 (.agg #[.int .i64 q, .int .i64 a, .int .i64 k, .int .i64 n, .int .i64 c, .int .i64 u, .int .i64 d]) (.int .i64 5)).run Tryd.prog w = .ok (.int .i64 u) w := fun _ => by kernel_rfl
  have ix6 : ∀ w, (Instr.index 48 (.agg #[.int .i64 q, .int .i64 a, .int .i64 k, .int .i64 n, .int .i64 c, .int .i64 u, .int .i64 d]) (.int .i64 6)).run Tryd.prog w = .ok (.int .i64 d) w := fun _ => by kernel_rfl
  go_enter Tryd.func20, Tryd.ntmps20
  go_wp2_with fail
  go_loopw [6] (fun vi wr => ∃ i : Nat, i ≤ 7 ∧ vi = .int .i64 i ∧ Hid (R i = W) ∧ Below w.heap.size w wr) (fun vi _ => 7 - (intOf vi).toNat)
  case atStart => exact ⟨0, Nat.zero_le _, rfl, HR0.out, (Below.refl _ _).alloc (Nat.le_refl _) _⟩
  case round =>
    obtain ⟨i, hi, rfl, hW, hB⟩ := hrel
    have e7 : i = 0 ∨ i = 1 ∨ i = 2 ∨ i = 3 ∨ i = 4 ∨ i = 5 ∨ i = 6 ∨ i = 7 := by omega
    clear hi
    rcases e7 with ei | ei | ei | ei | ei | ei | ei | ei
    · have hz : (i : Int) = 0 := by omega
      rw [hz]
      have hW2 : Hid (R 0 = W) := by rw [Hid, ← hW.out, ei]
      clear hW hz ei
      have cl := (hB.cell (p := ⟨0, 0, none⟩) lt).trans l0
      have cm := (hB.cell (p := ⟨1, 0, none⟩) mt).trans m0
      clear l0 m0 l1 m1 l2 m2 l3 m3 l4 m4 l5 m5 l6 m6
      rcases Int.lt_or_le q 1 with g | g
      · have hF : Hid (false = W) := by rw [Hid, ← hW2.out, H0.out, inB_lo g]; rfl
        go_wp2
        go_ret
        exact ⟨ret_b hF.out, hB⟩
      · have g' : decide (q < 1) = false := decide_eq_false (by omega)
        rcases Int.lt_or_le 1125899906842624 q with h | h
        · have hF : Hid (false = W) := by rw [Hid, ← hW2.out, H0.out, inB_hi h]; rfl
          go_wp2
          go_ret
          exact ⟨ret_b hF.out, hB⟩
        · have h' : decide (1125899906842624 < q) = false := decide_eq_false (by omega)
          have hN : Hid (R 1 = W) := by rw [Hid, ← hW2.out, H0.out, inB_in g h]; rfl
          clear g h
          go_wp2
          go_roundw
          case rel => exact ⟨1, by omega, by go_num, hN.out, hB⟩
          case measure => simp [intOf]
    · have hz : (i : Int) = 1 := by omega
      rw [hz]
      have hW2 : Hid (R 1 = W) := by rw [Hid, ← hW.out, ei]
      clear hW hz ei
      have cl := (hB.cell (p := ⟨0, 1, none⟩) lt).trans l1
      have cm := (hB.cell (p := ⟨1, 1, none⟩) mt).trans m1
      clear l0 m0 l1 m1 l2 m2 l3 m3 l4 m4 l5 m5 l6 m6
      rcases Int.lt_or_le a 0 with g | g
      · have hF : Hid (false = W) := by rw [Hid, ← hW2.out, H1.out, inB_lo g]; rfl
        go_wp2
        go_ret
        exact ⟨ret_b hF.out, hB⟩
      · have g' : decide (a < 0) = false := decide_eq_false (by omega)
        rcases Int.lt_or_le 1125899906842624 a with h | h
        · have hF : Hid (false = W) := by rw [Hid, ← hW2.out, H1.out, inB_hi h]; rfl
          go_wp2
          go_ret
          exact ⟨ret_b hF.out, hB⟩
        · have h' : decide (1125899906842624 < a) = false := decide_eq_false (by omega)
          have hN : Hid (R 2 = W) := by rw [Hid, ← hW2.out, H1.out, inB_in g h]; rfl
          clear g h
          go_wp2
          go_roundw
          case rel => exact ⟨2, by omega, by go_num, hN.out, hB⟩
          case measure => simp [intOf]
    · have hz : (i : Int) = 2 := by omega
      rw [hz]
      have hW2 : Hid (R 2 = W) := by rw [Hid, ← hW.out, ei]
      clear hW hz ei
      have cl := (hB.cell (p := ⟨0, 2, none⟩) lt).trans l2
      have cm := (hB.cell (p := ⟨1, 2, none⟩) mt).trans m2
      clear l0 m0 l1 m1 l2 m2 l3 m3 l4 m4 l5 m5 l6 m6
      rcases Int.lt_or_le k 0 with g | g
      · have hF : Hid (false = W) := by rw [Hid, ← hW2.out, H2.out, inB_lo g]; rfl
        go_wp2
        go_ret
        exact ⟨ret_b hF.out, hB⟩
      · have g' : decide (k < 0) = false := decide_eq_false (by omega)
        rcases Int.lt_or_le 1125899906842624 k with h | h
        · have hF : Hid (false = W) := by rw [Hid, ← hW2.out, H2.out, inB_hi h]; rfl
          go_wp2
          go_ret
          exact ⟨ret_b hF.out, hB⟩
        · have h' : decide (1125899906842624 < k) = false := decide_eq_false (by omega)
          have hN : Hid (R 3 = W) := by rw [Hid, ← hW2.out, H2.out, inB_in g h]; rfl
          clear g h
          go_wp2
          go_roundw
          case rel => exact ⟨3, by omega, by go_num, hN.out, hB⟩
          case measure => simp [intOf]
    · have hz : (i : Int) = 3 := by omega
      rw [hz]
      have hW2 : Hid (R 3 = W) := by rw [Hid, ← hW.out, ei]
      clear hW hz ei
      have cl := (hB.cell (p := ⟨0, 3, none⟩) lt).trans l3
      have cm := (hB.cell (p := ⟨1, 3, none⟩) mt).trans m3
      clear l0 m0 l1 m1 l2 m2 l3 m3 l4 m4 l5 m5 l6 m6
      rcases Int.lt_or_le n 1 with g | g
      · have hF : Hid (false = W) := by rw [Hid, ← hW2.out, H3.out, inB_lo g]; rfl
        go_wp2
        go_ret
        exact ⟨ret_b hF.out, hB⟩
      · have g' : decide (n < 1) = false := decide_eq_false (by omega)
        rcases Int.lt_or_le 2147483647 n with h | h
        · have hF : Hid (false = W) := by rw [Hid, ← hW2.out, H3.out, inB_hi h]; rfl
          go_wp2
          go_ret
          exact ⟨ret_b hF.out, hB⟩
        · have h' : decide (2147483647 < n) = false := decide_eq_false (by omega)
          have hN : Hid (R 4 = W) := by rw [Hid, ← hW2.out, H3.out, inB_in g h]; rfl
          clear g h
          go_wp2
          go_roundw
          case rel => exact ⟨4, by omega, by go_num, hN.out, hB⟩
          case measure => simp [intOf]
    · have hz : (i : Int) = 4 := by omega
      rw [hz]
      have hW2 : Hid (R 4 = W) := by rw [Hid, ← hW.out, ei]
      clear hW hz ei
      have cl := (hB.cell (p := ⟨0, 4, none⟩) lt).trans l4
      have cm := (hB.cell (p := ⟨1, 4, none⟩) mt).trans m4
      clear l0 m0 l1 m1 l2 m2 l3 m3 l4 m4 l5 m5 l6 m6
      rcases Int.lt_or_le c 0 with g | g
      · have hF : Hid (false = W) := by rw [Hid, ← hW2.out, H4.out, inB_lo g]; rfl
        go_wp2
        go_ret
        exact ⟨ret_b hF.out, hB⟩
      · have g' : decide (c < 0) = false := decide_eq_false (by omega)
        rcases Int.lt_or_le 999 c with h | h
        · have hF : Hid (false = W) := by rw [Hid, ← hW2.out, H4.out, inB_hi h]; rfl
          go_wp2
          go_ret
          exact ⟨ret_b hF.out, hB⟩
        · have h' : decide (999 < c) = false := decide_eq_false (by omega)
          have hN : Hid (R 5 = W) := by rw [Hid, ← hW2.out, H4.out, inB_in g h]; rfl
          clear g h
          go_wp2
          go_roundw
          case rel => exact ⟨5, by omega, by go_num, hN.out, hB⟩
          case measure => simp [intOf]
    · have hz : (i : Int) = 5 := by omega
      rw [hz]
      have hW2 : Hid (R 5 = W) := by rw [Hid, ← hW.out, ei]
      clear hW hz ei
      have cl := (hB.cell (p := ⟨0, 5, none⟩) lt).trans l5
      have cm := (hB.cell (p := ⟨1, 5, none⟩) mt).trans m5
      clear l0 m0 l1 m1 l2 m2 l3 m3 l4 m4 l5 m5 l6 m6
      rcases Int.lt_or_le u 0 with g | g
      · have hF : Hid (false = W) := by rw [Hid, ← hW2.out, H5.out, inB_lo g]; rfl
        go_wp2
        go_ret
        exact ⟨ret_b hF.out, hB⟩
      · have g' : decide (u < 0) = false := decide_eq_false (by omega)
        rcases Int.lt_or_le 1125899906842624 u with h | h
        · have hF : Hid (false = W) := by rw [Hid, ← hW2.out, H5.out, inB_hi h]; rfl
          go_wp2
          go_ret
          exact ⟨ret_b hF.out, hB⟩
        · have h' : decide (1125899906842624 < u) = false := decide_eq_false (by omega)
          have hN : Hid (R 6 = W) := by rw [Hid, ← hW2.out, H5.out, inB_in g h]; rfl
          clear g h
          go_wp2
          go_roundw
          case rel => exact ⟨6, by omega, by go_num, hN.out, hB⟩
          case measure => simp [intOf]
    · have hz : (i : Int) = 6 := by omega
      rw [hz]
      have hW2 : Hid (R 6 = W) := by rw [Hid, ← hW.out, ei]
      clear hW hz ei
      have cl := (hB.cell (p := ⟨0, 6, none⟩) lt).trans l6
      have cm := (hB.cell (p := ⟨1, 6, none⟩) mt).trans m6
      clear l0 m0 l1 m1 l2 m2 l3 m3 l4 m4 l5 m5 l6 m6
      rcases Int.lt_or_le d 0 with g | g
      · have hF : Hid (false = W) := by rw [Hid, ← hW2.out, H6.out, inB_lo g]; rfl
        go_wp2
        go_ret
        exact ⟨ret_b hF.out, hB⟩
      · have g' : decide (d < 0) = false := decide_eq_false (by omega)
        rcases Int.lt_or_le 1125899906842624 d with h | h
        · have hF : Hid (false = W) := by rw [Hid, ← hW2.out, H6.out, inB_hi h]; rfl
          go_wp2
          go_ret
          exact ⟨ret_b hF.out, hB⟩
        · have h' : decide (1125899906842624 < d) = false := decide_eq_false (by omega)
          have hN : Hid (R 7 = W) := by rw [Hid, ← hW2.out, H6.out, inB_in g h]; rfl
          clear g h
          go_wp2
          go_roundw
          case rel => exact ⟨7, by omega, by go_num, hN.out, hB⟩
          case measure => simp [intOf]
    · have hF : Hid (true = W) := by rw [Hid, ← hW.out, ei, HR7.out]
      go_wp2
      go_ret
      exact ⟨ret_b hF.out, hB⟩
end Go.Proofs.YtdibldocfhpnkaaDoor
