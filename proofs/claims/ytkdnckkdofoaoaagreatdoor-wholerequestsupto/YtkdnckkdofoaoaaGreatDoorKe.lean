/- Texts that the proof leans on, one behind the other: ChkA ChkB ChkC ChkD ChkE ChkH -/
import Derived.Test.YtkdnckkdofoaoaaGreatDoorKb
import Derived.Test.YtkdnckkdofoaoaaGreatDoorKc
import Derived.Test.YtkdnckkdofoaoaaGreatDoorKa
/- Bodies in chunks, byte by byte. -/
namespace Go.Proofs.YtkdnckkdofoaoaaGreatDoor
open Go.RowKit
set_option linter.unusedVariables false

theorem cutAt_le (m : Nat) : ∀ (l : List UInt8) (i k : Nat) (e : Int), i ≤ m → cutAt m i l = (some k, e) → k ≤ m
  | [], i, k, e, hi, h => by simp [cutAt] at h
  | c :: l, i, k, e, hi, h => by
    rw [cutAt] at h
    by_cases h1 : c = 10
    · rw [if_pos h1] at h; simp at h
    · rw [if_neg h1] at h
      by_cases h2 : c = 13
      · rw [if_pos h2] at h
        by_cases h3 : l.head? = none
        · rw [if_pos h3] at h; simp at h
        · rw [if_neg h3] at h
          by_cases h4 : l.head? = some 10
          · rw [if_pos h4] at h
            have : i = k ∧ 0 = e := by simpa using h
            omega
          · rw [if_neg h4] at h; simp at h
      · rw [if_neg h2] at h
        by_cases h3 : m ≤ i
        · rw [if_pos h3] at h; simp at h
        · rw [if_neg h3] at h
          exact cutAt_le m l (i + 1) k e (by omega) h

/-- The text of a line. -/
def tx (l : List UInt8) : ByteArray := ⟨l.toArray⟩
theorem tx_size (l : List UInt8) : (tx l).size = l.length := rfl
/-- The size that a chunk's line tells. -/
def szO (s : List UInt8) : Option Nat := if allB valP (Lib.cut s [59]).2.1 then numV 16 15 (tx (Lib.trimRightS (Lib.cut s [59]).1 [32, 9])) else none
/-- How a chunk's end stands. -/
def endsP (l : List UInt8) : Bool × Int :=
  match l with
  | [] => (false, 0)
  | c :: r => if c = 13 then (match r with | [] => (false, 0) | d :: _ => if d = 10 then (true, 0) else (false, 20)) else (false, 20)
/-- A chunk whose line ends at i and tells o: the error, how many bytes it takes, where its bytes begin, how many they are. -/
def oneK (m : Nat) (b : List UInt8) (i : Nat) (o : Option Nat) : Int × Nat × Nat × Nat :=
  match o with
  | none => (30, 0, 0, 0)
  | some k =>
    if m < k then (2, 0, 0, 0) else if k = 0 then (0, i + 2, 0, 0) else if b.length - (i + 2) < k then (0, 0, 0, 0)
    else if (endsP (b.drop (i + 2 + k))).1 then (0, i + 2 + k + 2, i + 2, k) else ((endsP (b.drop (i + 2 + k))).2, 0, 0, 0)
def oneP (m : Nat) (b : List UInt8) : Int × Nat × Nat × Nat :=
  match cutAt 256 0 b with
  | (none, e) => (e, 0, 0, 0)
  | (some i, _) => oneK m b i (szO (b.take i))
theorem oneP_hit {m i : Nat} {b : List UInt8} {e : Int} (h : cutAt 256 0 b = (some i, e)) : oneP m b = oneK m b i (szO (b.take i)) := by unfold oneP; rw [h]
theorem oneP_miss {m : Nat} {b : List UInt8} {e : Int} (h : cutAt 256 0 b = (none, e)) : oneP m b = (e, 0, 0, 0) := by unfold oneP; rw [h]
theorem oneK_some (m : Nat) (b : List UInt8) (i k : Nat) : oneK m b i (some k) = if m < k then (2, 0, 0, 0) else if k = 0 then (0, i + 2, 0, 0) else if b.length - (i + 2) < k then (0, 0, 0, 0) else if (endsP (b.drop (i + 2 + k))).1 then (0, i + 2 + k + 2, i + 2, k) else ((endsP (b.drop (i + 2 + k))).2, 0, 0, 0) := rfl
def fldOk (l : List UInt8) : Bool := decide ((prs (tx l)).2.2 = 0)
/-- What stands behind something. -/
def plusN (at_ : Nat) (r : Nat × Int) : Nat × Int := if r.1 = 0 then (0, r.2) else (at_ + r.1, 0)
/-- A trailer line, and what follows it. -/
def trK (l : List UInt8) (rest : Nat → Nat × Int) : Nat × Int :=
  match cutAt 256 0 l with
  | (none, e) => (0, e)
  | (some i, _) => if i = 0 then (2, 0) else if fldOk (l.take i) = false then (0, 20) else rest i
/-- The trailer lines, of which r more may come: how many bytes, the error. -/
def trailL : Nat → List UInt8 → Nat × Int
  | 0, l => trK l fun _ => (0, 3)
  | r + 1, l => trK l fun i => plusN (i + 2) (trailL r (l.drop (i + 2)))
theorem trK_miss {l : List UInt8} {e : Int} {f : Nat → Nat × Int} (h : cutAt 256 0 l = (none, e)) : trK l f = (0, e) := by unfold trK; rw [h]
theorem trK_end {l : List UInt8} {f : Nat → Nat × Int} (h : cutAt 256 0 l = (some 0, 0)) : trK l f = (2, 0) := by unfold trK; rw [h]; rfl
theorem trK_bad {i : Nat} {l : List UInt8} {f : Nat → Nat × Int} (h : cutAt 256 0 l = (some i, 0)) (hi : ¬ i = 0) (hf : fldOk (l.take i) = false) : trK l f = (0, 20) := by
  unfold trK; rw [h]; simp only; rw [if_neg hi, if_pos hf]
theorem trK_next {i : Nat} {l : List UInt8} {f : Nat → Nat × Int} (h : cutAt 256 0 l = (some i, 0)) (hi : ¬ i = 0) (hf : fldOk (l.take i) = true) : trK l f = f i := by
  unfold trK; rw [h]; simp only; rw [if_neg hi, if_neg (by rw [hf]; decide)]
theorem trailL_miss {r : Nat} {l : List UInt8} {e : Int} (h : cutAt 256 0 l = (none, e)) : trailL r l = (0, e) := by cases r <;> exact trK_miss h
theorem trailL_end {r : Nat} {l : List UInt8} (h : cutAt 256 0 l = (some 0, 0)) : trailL r l = (2, 0) := by cases r <;> exact trK_end h
theorem trailL_bad {r i : Nat} {l : List UInt8} (h : cutAt 256 0 l = (some i, 0)) (hi : ¬ i = 0) (hf : fldOk (l.take i) = false) : trailL r l = (0, 20) := by cases r <;> exact trK_bad h hi hf
theorem trailL_many {i : Nat} {l : List UInt8} (h : cutAt 256 0 l = (some i, 0)) (hi : ¬ i = 0) (hf : fldOk (l.take i) = true) : trailL 0 l = (0, 3) := trK_next h hi hf
theorem trailL_next {r i : Nat} {l : List UInt8} (h : cutAt 256 0 l = (some i, 0)) (hi : ¬ i = 0) (hf : fldOk (l.take i) = true) : trailL (r + 1) l = plusN (i + 2) (trailL r (l.drop (i + 2))) := trK_next h hi hf
def plusD (acc : List UInt8) (at_ : Nat) (r : List UInt8 × Nat × Int) : List UInt8 × Nat × Int := if r.2.1 = 0 then ([], 0, r.2.2) else (acc ++ r.1, at_ + r.2.1, 0)
/-- A body: its bytes, how many it takes, the error. -/
def decL : Nat → Nat → List UInt8 → List UInt8 × Nat × Int
  | 0, _, _ => ([], 0, 0)
  | f + 1, m, l =>
    if (oneP m l).2.1 = 0 then ([], 0, (oneP m l).1)
    else if (oneP m l).2.2.2 = 0 then plusD [] (oneP m l).2.1 ([], trailL 40 (l.drop (oneP m l).2.1))
    else plusD ((l.drop (oneP m l).2.2.1).take (oneP m l).2.2.2) (oneP m l).2.1 (decL f (m - (oneP m l).2.2.2) (l.drop (oneP m l).2.1))
def decR (m : Nat) (b : List UInt8) : List UInt8 × Nat × Int := decL (b.length + 1) m b

theorem plusD_plusD (a b : List UInt8) (i j : Nat) (r : List UInt8 × Nat × Int) (hj : 0 < j) : plusD a i (plusD b j r) = plusD (a ++ b) (i + j) r := by
  unfold plusD
  by_cases h : r.2.1 = 0
  · rw [if_pos h, if_pos rfl, if_pos h]
  · rw [if_neg h, if_neg (by simp only; omega), if_neg h]
    simp [List.append_assoc, Nat.add_assoc]
theorem plusN_plusN (i j : Nat) (r : Nat × Int) (hj : 0 < j) : plusN i (plusN j r) = plusN (i + j) r := by
  unfold plusN
  by_cases h : r.1 = 0
  · rw [if_pos h, if_pos rfl, if_pos h]
  · rw [if_neg h, if_neg (by simp only; omega), if_neg h]
    simp [Nat.add_assoc]

/-- What is told of a chunk. -/
theorem oneP_cases (m : Nat) (b : List UInt8) : (∃ e, oneP m b = (e, 0, 0, 0)) ∨ (∃ i, oneP m b = (0, i + 2, 0, 0) ∧ i + 2 ≤ b.length ∧ cutAt 256 0 b = (some i, 0) ∧ szO (b.take i) = some 0) ∨
    (∃ i k, oneP m b = (0, i + 2 + k + 2, i + 2, k) ∧ 0 < k ∧ k ≤ m ∧ i + 2 + k + 2 ≤ b.length ∧ cutAt 256 0 b = (some i, 0) ∧ szO (b.take i) = some k ∧ (endsP (b.drop (i + 2 + k))).1 = true) := by
  rcases cut_cases 256 b with ⟨i, h, hl, _⟩ | ⟨e, h⟩
  · rw [oneP_hit h, h]
    cases hz : szO (b.take i) with
    | none => exact .inl ⟨30, rfl⟩
    | some k =>
      rw [oneK_some]
      by_cases h1 : m < k
      · rw [if_pos h1]; exact .inl ⟨2, rfl⟩
      · rw [if_neg h1]
        by_cases h2 : k = 0
        · subst h2
          rw [if_pos rfl]; exact .inr (.inl ⟨i, rfl, hl, rfl, hz⟩)
        · rw [if_neg h2]
          by_cases h3 : b.length - (i + 2) < k
          · rw [if_pos h3]; exact .inl ⟨0, rfl⟩
          · rw [if_neg h3]
            by_cases h4 : (endsP (b.drop (i + 2 + k))).1 = true
            · rw [if_pos h4]
              refine .inr (.inr ⟨i, k, rfl, by omega, by omega, ?_, rfl, hz, h4⟩)
              have : 2 ≤ (b.drop (i + 2 + k)).length := by
                match hd : b.drop (i + 2 + k) with
                | [] => rw [hd] at h4; simp [endsP] at h4
                | [c] => rw [hd] at h4; by_cases hc : c = 13 <;> simp [endsP, hc] at h4
                | c :: d :: r => simp
              rw [List.length_drop] at this
              omega
            · rw [if_neg h4]; exact .inl ⟨_, rfl⟩
  · rw [oneP_miss h]; exact .inl ⟨e, rfl⟩
end Go.Proofs.YtkdnckkdofoaoaaGreatDoor

/- A chunk's size, its end. -/
namespace Go.Proofs.YtkdnckkdofoaoaaGreatDoor
open Go.RowKit
set_option linter.unusedVariables false

theorem cut59_len (l : List UInt8) : (Lib.cut l [59]).1.length ≤ l.length ∧ (Lib.cut l [59]).2.1.length ≤ l.length := by
  unfold Lib.cut
  split
  · simp only [List.length_take, List.length_drop]; omega
  · simp
theorem dropWhile_le (p : UInt8 → Bool) : ∀ l : List UInt8, (l.dropWhile p).length ≤ l.length
  | [] => Nat.le_refl _
  | b :: l => by
    rw [List.dropWhile_cons]
    split
    · have := dropWhile_le p l; rw [List.length_cons]; omega
    · exact Nat.le_refl _
theorem trimR_len (l cs : List UInt8) : (Lib.trimRightS l cs).length ≤ l.length := by
  unfold Lib.trimRightS
  rw [List.length_reverse]
  refine Nat.le_trans (dropWhile_le _ _) ?_
  rw [List.length_reverse]; exact Nat.le_refl _

set_option maxRecDepth 100000 in
set_option maxHeartbeats 2000000 in
theorem sizeof_any (l : List UInt8) (w : World) (hs : l.length ≤ 256) (hM : MaxL w) :
    Calls Tryz.prog 144 #[.string (tx l)] w fun e w' => e = .returned (.tuple #[.int .i64 ((szO l).getD 0 : Nat), .bool (szO l).isSome]) ∧ Below w.heap.size w w' := by
  obtain ⟨m, hm⟩ := hM
  have hcl := cut59_len l
  have htl := trimR_len (Lib.cut l [59]).1 [32, 9]
  have HC : Hid (Calls Tryz.prog 98 #[.string (tx l), .string ⟨#[59]⟩] w fun e w' => e = .returned (.tuple #[.string (tx (Lib.cut l [59]).1), .string (tx (Lib.cut l [59]).2.1), .bool (Lib.cut l [59]).2.2]) ∧ ∃ n, w' = w.drewN n) := Tryz.strings_Cut (tx l) ⟨#[59]⟩ m w (by rw [tx_size]; omega) hm
  unfold szO
  generalize Lib.cut l [59] = c at *
  obtain ⟨c1, c2, c3⟩ := c
  simp only at hcl htl HC ⊢
  have HV : Hid (∀ W, Calls Tryz.prog 160 #[.string (tx c2)] W fun e w' => e = .returned (.bool (allB valP c2)) ∧ Below W.heap.size W w') := fun W => value_any (tx c2) W (by rw [tx_size]; unfold maxLen; omega)
  have HT : Hid (∀ W, Calls Tryz.prog 125 #[.string (tx c1), .string ⟨#[32, 9]⟩] W fun e w' => e = .returned (.string (tx (Lib.trimRightS c1 [32, 9]))) ∧ Below W.heap.size W w') := fun W => Tryz.strings_TrimRight_laid (tx c1) ⟨#[32, 9]⟩ W (by rw [tx_size]; omega) (by decide) (ascii_of_all (by decide))
  have HX : Hid (∀ W, Calls Tryz.prog 172 #[.string (tx (Lib.trimRightS c1 [32, 9]))] W fun e w' => e = .returned (.tuple #[.int .i64 (numI 16 15 (tx (Lib.trimRightS c1 [32, 9]))), .bool (numB 16 15 (tx (Lib.trimRightS c1 [32, 9])))]) ∧ w' = W) := fun W => hex_any _ W (by rw [tx_size]; unfold maxLen; omega)
  unfold numI numB at HX
  generalize numV 16 15 (tx (Lib.trimRightS c1 [32, 9])) = nv at *
  generalize tx (Lib.trimRightS c1 [32, 9]) = t at *
  generalize tx c1 = s1 at *
  generalize tx c2 = s2 at *
  generalize tx l = s at *
  cases hv : allB valP c2
  · rw [hv] at HV
    rw [if_neg (by decide)]
    clear hv hcl htl hm
    go_enter Tryz.func144, Tryz.ntmps144
    go_wp2_with fail
    refine HC.out.mono ?_
    rintro e w1 ⟨rfl, n, rfl⟩
    have B1 := below_drewN w.heap.size w n
    go_wp2_with fail
    refine (HV.out _).mono ?_
    rintro e w2 ⟨rfl, B2⟩
    have C2 := B1.trans (B2.mono B1.size)
    go_wp2
    go_ret2
    exact ⟨rfl, C2⟩
  · rw [hv] at HV
    rw [if_pos rfl]
    clear hv hcl htl hm
    go_enter Tryz.func144, Tryz.ntmps144
    go_wp2_with fail
    refine HC.out.mono ?_
    rintro e w1 ⟨rfl, n, rfl⟩
    have B1 := below_drewN w.heap.size w n
    go_wp2_with fail
    refine (HV.out _).mono ?_
    rintro e w2 ⟨rfl, B2⟩
    have C2 := B1.trans (B2.mono B1.size)
    go_wp2_with fail
    refine (HT.out _).mono ?_
    rintro e w3 ⟨rfl, B3⟩
    have C3 := C2.trans (B3.mono C2.size)
    go_wp2_with fail
    refine (HX.out _).mono ?_
    rintro e w4 ⟨rfl, rfl⟩
    go_wp2
    go_ret2
    exact ⟨rfl, C3⟩

set_option maxRecDepth 100000 in
set_option maxHeartbeats 2000000 in
theorem ends_any (l : List UInt8) (k : Nat) (v : Value) (w : World) (hs : Src w k v l) :
    Calls Tryz.prog 145 #[v] w fun e w' => e = .returned (.tuple #[.bool (endsP l).1, .int .i64 (endsP l).2]) ∧ ∃ n, w' = w.drewN n := by
  obtain ⟨a, c, rfl, h1, h2, h3⟩ := hs
  match l, h3 with
  | [], _ =>
    show Calls Tryz.prog 145 #[.slice a 0 c] w fun e w' => e = .returned (.tuple #[.bool false, .int .i64 0]) ∧ ∃ n, w' = w.drewN n
    go_enter Tryz.func145, Tryz.ntmps145
    go_wp2_with fail
    refine wp_loop_rounds 1 ?_
    rw [rounds_succ]
    go_wp2
    go_ret2
    exact ⟨rfl, 0, (World.drewN_zero _).symm⟩
  | [x], h3 =>
    obtain ⟨off, rfl, hc⟩ := h3 (by simp)
    have q0 : w.cell? ⟨k, off, none⟩ = some (.int .u8 (x.toNat : Int)) := hc 0 (by simp)
    clear hc h3
    by_cases t : x = 13
    · subst t
      have q1 : w.cell? ⟨k, off, none⟩ = some (.int .u8 13) := q0
      clear q0
      show Calls Tryz.prog 145 #[.slice (some ⟨k, off, none⟩) 1 c] w fun e w' => e = .returned (.tuple #[.bool false, .int .i64 0]) ∧ ∃ n, w' = w.drewN n
      go_enter Tryz.func145, Tryz.ntmps145
      go_wp2_with fail
      refine wp_loop_rounds 2 ?_
      rw [rounds_succ]
      go_wp2
      go_quiet (fail)
      go_wp2
      rw [rounds_succ]
      go_wp2
      go_ret2
      exact ⟨rfl, _, rfl⟩
    · have e : endsP [x] = (false, 20) := by simp [endsP, t]
      rw [e]
      have t5 : ((x.toNat : Int) != 13) = true := by simpa using toNat_ne 13 13 rfl t
      have t6 : ((x.toNat : Int) != ((⟨#[13, 10]⟩ : ByteArray)[0].toNat : Int)) = true := t5
      clear e
      show Calls Tryz.prog 145 #[.slice (some ⟨k, off, none⟩) 1 c] w fun e w' => e = .returned (.tuple #[.bool false, .int .i64 20]) ∧ ∃ n, w' = w.drewN n
      generalize (x.toNat : Int) = X at *
      go_enter Tryz.func145, Tryz.ntmps145
      go_wp2_with fail
      refine wp_loop_rounds 1 ?_
      rw [rounds_succ]
      go_wp2
      go_quiet (fail)
      go_wp2
      go_ret2
      exact ⟨rfl, _, rfl⟩
  | x :: y :: r, h3 =>
    obtain ⟨off, rfl, hc⟩ := h3 (by simp)
    have q0 : w.cell? ⟨k, off, none⟩ = some (.int .u8 (x.toNat : Int)) := hc 0 (by simp)
    have q1 : w.cell? ⟨k, off + 1, none⟩ = some (.int .u8 (y.toNat : Int)) := hc 1 (by simp)
    clear hc h3
    obtain ⟨n, hn⟩ : ∃ n, n = (x :: y :: r).length := ⟨_, rfl⟩
    have hn2 : 2 ≤ n := by rw [hn]; simp
    rw [← hn] at h1 ⊢
    clear hn
    unfold maxLen at h2
    have hmin : min (n : Int) 2 = 2 := by omega
    by_cases t : x = 13
    · subst t
      have q2 : w.cell? ⟨k, off, none⟩ = some (.int .u8 13) := q0
      clear q0
      by_cases u : y = 10
      · subst u
        have q3 : w.cell? ⟨k, off + 1, none⟩ = some (.int .u8 10) := q1
        clear q1
        show Calls Tryz.prog 145 #[.slice (some ⟨k, off, none⟩) n c] w fun e w' => e = .returned (.tuple #[.bool true, .int .i64 0]) ∧ ∃ n, w' = w.drewN n
        go_enter Tryz.func145, Tryz.ntmps145
        go_wp2_with fail
        refine wp_loop_rounds 3 ?_
        rw [rounds_succ]
        go_wp2
        go_quiet (fail)
        go_wp2
        rw [rounds_succ]
        go_wp2
        go_quiet (fail)
        go_wp2
        rw [rounds_succ]
        go_wp2
        go_ret2
        exact ⟨by simp; omega, _, rfl⟩
      · have e : endsP (13 :: y :: r) = (false, 20) := by simp [endsP, u]
        rw [e]
        have t5 : ((y.toNat : Int) != 10) = true := by simpa using toNat_ne 10 10 rfl u
        have t6 : ((y.toNat : Int) != ((⟨#[13, 10]⟩ : ByteArray)[1].toNat : Int)) = true := t5
        clear e
        show Calls Tryz.prog 145 #[.slice (some ⟨k, off, none⟩) n c] w fun e w' => e = .returned (.tuple #[.bool false, .int .i64 20]) ∧ ∃ n, w' = w.drewN n
        generalize (y.toNat : Int) = Y at *
        go_enter Tryz.func145, Tryz.ntmps145
        go_wp2_with fail
        refine wp_loop_rounds 2 ?_
        rw [rounds_succ]
        go_wp2
        go_quiet (fail)
        go_wp2
        rw [rounds_succ]
        go_wp2
        go_quiet (fail)
        go_wp2
        go_ret2
        exact ⟨rfl, _, World.drewN_drewN _ _ _⟩
    · have e : endsP (x :: y :: r) = (false, 20) := by simp [endsP, t]
      rw [e]
      have t5 : ((x.toNat : Int) != 13) = true := by simpa using toNat_ne 13 13 rfl t
      have t6 : ((x.toNat : Int) != ((⟨#[13, 10]⟩ : ByteArray)[0].toNat : Int)) = true := t5
      clear e
      show Calls Tryz.prog 145 #[.slice (some ⟨k, off, none⟩) n c] w fun e w' => e = .returned (.tuple #[.bool false, .int .i64 20]) ∧ ∃ n, w' = w.drewN n
      generalize (x.toNat : Int) = X at *
      go_enter Tryz.func145, Tryz.ntmps145
      go_wp2_with fail
      refine wp_loop_rounds 1 ?_
      rw [rounds_succ]
      go_wp2
      go_quiet (fail)
      go_wp2
      go_ret2
      exact ⟨rfl, _, rfl⟩
end Go.Proofs.YtkdnckkdofoaoaaGreatDoor

/- One chunk. -/
namespace Go.Proofs.YtkdnckkdofoaoaaGreatDoor
open Go.RowKit
set_option linter.unusedVariables false

theorem src_none (w : World) (k : Nat) : Src w k (.slice none 0 0) [] := ⟨none, 0, rfl, Nat.le_refl _, Nat.zero_le _, fun h => absurd h (Nat.lt_irrefl _)⟩
/-- What 'one' answers: the bytes, how many it takes, the error. -/
def OneQ (w : World) (kb : Nat) (b : List UInt8) (p : Int × Nat × Nat × Nat) (e : Ending) (w' : World) : Prop :=
  Below w.heap.size w w' ∧ ∃ a n c, e = .returned (.tuple #[.slice a n c, .int .i64 (p.2.1 : Nat), .int .i64 p.1]) ∧ (a = none → c = 0) ∧ Src w kb (.slice a n c) ((b.drop p.2.2.1).take p.2.2.2)
theorem oneq_no {w w' : World} {kb : Nat} {b : List UInt8} {er : Int} (hB : Below w.heap.size w w') : OneQ w kb b (er, 0, 0, 0) (.returned (.tuple #[.slice none 0 0, .int .i64 0, .int .i64 er])) w' :=
  ⟨hB, none, 0, 0, rfl, fun _ => rfl, by rw [List.take_zero]; exact src_none w kb⟩
theorem oneq_end {w w' : World} {kb n : Nat} {b : List UInt8} (hB : Below w.heap.size w w') : OneQ w kb b (0, n, 0, 0) (.returned (.tuple #[.slice none 0 0, .int .i64 (n : Nat), .int .i64 0])) w' :=
  ⟨hB, none, 0, 0, rfl, fun _ => rfl, by rw [List.take_zero]; exact src_none w kb⟩

set_option maxRecDepth 100000 in
set_option maxHeartbeats 8000000 in
theorem one_any (b : List UInt8) (kb : Nat) (v : Value) (m : Nat) (w : World) (hs : Src w kb v b) (hk : 0 < b.length → kb < w.heap.size) (hm : m ≤ 9223372036854775807) (hM : MaxL w) :
    Calls Tryz.prog 109 #[v, .int .i64 (m : Int)] w (OneQ w kb b (oneP m b)) := by
  have HS : Hid (Src w kb v b) := hs
  obtain ⟨a, c, rfl, h1, h2, h3⟩ := hs
  obtain ⟨n, hn⟩ : ∃ n, n = b.length := ⟨_, rfl⟩
  rw [← hn] at HS ⊢
  have HN : Hid (n = b.length) := hn
  have HC : Hid (Calls Tryz.prog 115 #[.slice a n c, .int .i64 256] w fun e w' => e = .returned (cutV 256 b) ∧ w' = w) := cut_any b kb _ 256 w HS.out
  rw [← hn] at h1
  unfold maxLen at h2
  have HK : Hid (0 < b.length → kb < w.heap.size) := hk
  have H3 : Hid (0 < b.length → ∃ off, a = some ⟨kb, off, none⟩ ∧ ∀ (j : Nat) (hj : j < b.length), w.cell? ⟨kb, off + j, none⟩ = some (bv b[j])) := h3
  clear hn h3 hk
  rcases cut_cases 256 b with ⟨i, hcut, hil, _⟩ | ⟨er, hcut⟩
  · have hle : i ≤ 256 := cutAt_le 256 b 0 i 0 (by decide) hcut
    rw [cutV_hit hcut] at HC
    have HZ : Hid (Calls Tryz.prog 144 #[.string ⟨(b.take i).toArray⟩] w fun e w' => e = .returned (.tuple #[.int .i64 ((szO (b.take i)).getD 0 : Nat), .bool (szO (b.take i)).isSome]) ∧ Below w.heap.size w w') := sizeof_any (b.take i) w (by rw [List.length_take]; omega) hM
    have hin : i + 2 ≤ n := by have := HN.out; omega
    have E0 := oneP_hit (m := m) hcut
    generalize (⟨(b.take i).toArray⟩ : ByteArray) = T at *
    have hne : ((i : Int) + 2 == 0) = false := by simp; omega
    cases hz : szO (b.take i) with
    | none =>
      rw [hz] at E0 HZ
      rw [E0]
      show Calls Tryz.prog 109 #[.slice a n c, .int .i64 (m : Int)] w (OneQ w kb b (30, 0, 0, 0))
      clear hz E0 hcut hil
      go_enter Tryz.func109, Tryz.ntmps109
      go_wp2_with fail
      refine HC.out.mono ?_
      rintro e w1 ⟨rfl, rfl⟩
      go_wp2_with fail
      refine HZ.out.mono ?_
      rintro e w2 ⟨rfl, B2⟩
      go_wp2
      refine bodyPost_ret (v := .tuple #[.slice none 0 0, .int .i64 0, .int .i64 30]) (by simp [results, Tryz.results109, go_sem]) rfl (oneq_no B2)
    | some k =>
      rw [hz] at E0 HZ
      rw [oneK_some, ← HN.out] at E0
      have HZ2 : Hid (Calls Tryz.prog 144 #[.string T] w fun e w' => e = .returned (.tuple #[.int .i64 (k : Int), .bool true]) ∧ Below w.heap.size w w') := HZ
      clear HZ hz hcut hil
      by_cases g1 : m < k
      · rw [if_pos g1] at E0
        rw [E0]
        have i1 : (m : Int) < (k : Int) := by omega
        clear E0 g1
        go_enter Tryz.func109, Tryz.ntmps109
        go_wp2_with fail
        refine HC.out.mono ?_
        rintro e w1 ⟨rfl, rfl⟩
        go_wp2_with fail
        refine HZ2.out.mono ?_
        rintro e w2 ⟨rfl, B2⟩
        go_wp2
        refine bodyPost_ret (v := .tuple #[.slice none 0 0, .int .i64 0, .int .i64 2]) (by simp [results, Tryz.results109, go_sem]) rfl (oneq_no B2)
      · rw [if_neg g1] at E0
        have i1 : ¬ (m : Int) < (k : Int) := by omega
        by_cases g2 : k = 0
        · rw [if_pos g2] at E0
          rw [E0]
          subst g2
          clear E0 g1
          go_enter Tryz.func109, Tryz.ntmps109
          go_wp2_with fail
          refine HC.out.mono ?_
          rintro e w1 ⟨rfl, rfl⟩
          go_wp2_with fail
          refine HZ2.out.mono ?_
          rintro e w2 ⟨rfl, B2⟩
          go_wp2
          refine bodyPost_ret (v := .tuple #[.slice none 0 0, .int .i64 ((i : Int) + 2), .int .i64 0]) (by simp [results, Tryz.results109, go_sem]) rfl (oneq_end (n := i + 2) B2)
        · rw [if_neg g2] at E0
          have i2 : ((k : Int) == 0) = false := by simp; omega
          have i2' : ¬ ((k : Int) = 0) := by omega
          by_cases g3 : n - (i + 2) < k
          · rw [if_pos g3] at E0
            rw [E0]
            have i3 : (n : Int) - ((i : Int) + 2) < (k : Int) := by omega
            clear E0 g1 g2 g3
            go_enter Tryz.func109, Tryz.ntmps109
            go_wp2_with fail
            refine HC.out.mono ?_
            rintro e w1 ⟨rfl, rfl⟩
            go_wp2_with fail
            refine HZ2.out.mono ?_
            rintro e w2 ⟨rfl, B2⟩
            go_wp2
            refine bodyPost_ret (v := .tuple #[.slice none 0 0, .int .i64 0, .int .i64 0]) (by simp [results, Tryz.results109, go_sem]) rfl (oneq_no B2)
          · rw [if_neg g3] at E0
            have i3 : ¬ (n : Int) - ((i : Int) + 2) < (k : Int) := by omega
            have hnk : i + 2 + k ≤ n := by omega
            obtain ⟨off, rfl, _⟩ := H3.out (by have := HN.out; omega)
            have hcc : i + 2 < c := by omega
            have HEN : Hid (∀ W (v' : Value), Src W kb v' (b.drop (i + 2 + k)) → Calls Tryz.prog 145 #[v'] W fun e w' => e = .returned (.tuple #[.bool (endsP (b.drop (i + 2 + k))).1, .int .i64 (endsP (b.drop (i + 2 + k))).2]) ∧ ∃ n, w' = W.drewN n) := fun W v' h => ends_any _ kb v' W h
            have HD : Hid (Src w kb (.slice (some ⟨kb, off + (i + 2), none⟩) k (c - (i + 2))) ((b.drop (i + 2)).take k)) := by
              have x1 := HS.out.cut (m := i + 2) (a' := some ⟨kb, off + (i + 2), none⟩) (by have := HN.out; omega) (fun _ => by simp [addr_add])
              exact x1.take (by rw [List.length_drop]; have := HN.out; omega)
            have hx : (endsP (b.drop (i + 2 + k))).1 = true → (endsP (b.drop (i + 2 + k))).2 = 0 := by
              generalize b.drop (i + 2 + k) = d
              match d with
              | [] => simp [endsP]
              | [x] => by_cases hx : x = 13 <;> simp [endsP, hx]
              | x :: y :: r => by_cases hx : x = 13 <;> by_cases hy : y = 10 <;> simp [endsP, hx, hy]
            have hx2 : (endsP (b.drop (i + 2 + k))).1 = true → i + 2 + k + 2 ≤ n := by
              intro ht
              have : 2 ≤ (b.drop (i + 2 + k)).length := by
                match hd : b.drop (i + 2 + k) with
                | [] => rw [hd] at ht; simp [endsP] at ht
                | [x] => rw [hd] at ht; by_cases hx : x = 13 <;> simp [endsP, hx] at ht
                | x :: y :: r => simp
              rw [List.length_drop] at this
              have := HN.out
              omega
            generalize endsP (b.drop (i + 2 + k)) = p at *
            obtain ⟨p1, p2⟩ := p
            simp only at E0 HEN hx hx2
            clear g1 g2 g3 H3
            cases p1
            · rw [if_neg (by decide)] at E0
              rw [E0]
              clear E0 hx hx2
              go_enter Tryz.func109, Tryz.ntmps109
              go_wp2_with fail
              refine HC.out.mono ?_
              rintro e w1 ⟨rfl, rfl⟩
              go_wp2_with fail
              refine HZ2.out.mono ?_
              rintro e w2 ⟨rfl, B2⟩
              have HS2 : Hid (∀ nq (a' : Option Addr), (i + 2 + k < c → a' = (some (⟨kb, off, none⟩ : Addr)).map (fun x => x.add (i + 2 + k))) → Src (w2.drewN nq) kb (.slice a' (n - (i + 2 + k)) (c - (i + 2 + k))) (b.drop (i + 2 + k))) := fun nq a' ha' => ((HS.out.keep HK.out B2).cut (by have := HN.out; omega) ha').frame (by rw [drewN_heap])
              by_cases q0 : p2 = 0
              · subst q0
                go_wp2
                go_quiet (fail)
                go_wp2_with fail
                all_goals
                  refine (HEN.out _ _ (by first | exact HS2.out _ _ (fun _ => by simp [addr_add]) | exact HS2.out _ _ (fun h => by omega) | (have hx := HS2.out nq (some ⟨kb, off, none⟩) (fun h => by omega); rw [show c - (i + 2 + k) = 0 by omega] at hx; exact hx))).mono ?_
                  rintro e w3 ⟨rfl, nq2, rfl⟩
                  have C3 := (B2.trans (below_drewN w1.heap.size w2 nq)).trans (below_drewN w1.heap.size _ nq2)
                  go_wp2
                  refine bodyPost_ret (v := .tuple #[.slice none 0 0, .int .i64 0, .int .i64 0]) (by simp [results, Tryz.results109, go_sem]) rfl (oneq_no (by simpa using C3))
              · have q1 : (p2 != 0) = true := by simpa using q0
                go_wp2
                go_quiet (fail)
                go_wp2_with fail
                all_goals
                  refine (HEN.out _ _ (by first | exact HS2.out _ _ (fun _ => by simp [addr_add]) | exact HS2.out _ _ (fun h => by omega) | (have hx := HS2.out nq (some ⟨kb, off, none⟩) (fun h => by omega); rw [show c - (i + 2 + k) = 0 by omega] at hx; exact hx))).mono ?_
                  rintro e w3 ⟨rfl, nq2, rfl⟩
                  have C3 := (B2.trans (below_drewN w1.heap.size w2 nq)).trans (below_drewN w1.heap.size _ nq2)
                  go_wp2
                  refine bodyPost_ret (v := .tuple #[.slice none 0 0, .int .i64 0, .int .i64 p2]) (by simp [results, Tryz.results109, go_sem]) rfl (oneq_no (by simpa using C3))
            · rw [if_pos rfl] at E0
              rw [E0]
              obtain rfl : p2 = 0 := hx rfl
              have hn4 := hx2 rfl
              clear E0 hx hx2
              go_enter Tryz.func109, Tryz.ntmps109
              go_wp2_with fail
              refine HC.out.mono ?_
              rintro e w1 ⟨rfl, rfl⟩
              go_wp2_with fail
              refine HZ2.out.mono ?_
              rintro e w2 ⟨rfl, B2⟩
              have HS2 : Hid (∀ nq (a' : Option Addr), (i + 2 + k < c → a' = (some (⟨kb, off, none⟩ : Addr)).map (fun x => x.add (i + 2 + k))) → Src (w2.drewN nq) kb (.slice a' (n - (i + 2 + k)) (c - (i + 2 + k))) (b.drop (i + 2 + k))) := fun nq a' ha' => ((HS.out.keep HK.out B2).cut (by have := HN.out; omega) ha').frame (by rw [drewN_heap])
              go_wp2
              go_quiet (fail)
              go_wp2_with fail
              all_goals
                refine (HEN.out _ _ (by first | exact HS2.out _ _ (fun _ => by simp [addr_add]) | exact HS2.out _ _ (fun h => by omega) | (have hx := HS2.out nq (some ⟨kb, off, none⟩) (fun h => by omega); rw [show c - (i + 2 + k) = 0 by omega] at hx; exact hx))).mono ?_
                rintro e w3 ⟨rfl, nq2, rfl⟩
                have C3 := (B2.trans (below_drewN w1.heap.size w2 nq)).trans (below_drewN w1.heap.size _ nq2)
                go_wp2
                refine bodyPost_ret (v := .tuple #[.slice (some ⟨kb, off + (i + 2), none⟩) k (c - (i + 2)), .int .i64 ((i + 2 + k + 2 : Nat) : Int), .int .i64 0]) (by simp [results, Tryz.results109, go_sem]; try omega) rfl ⟨by simpa using C3, _, _, _, rfl, (fun h => by cases h), HD.out⟩
  · rw [cutV_miss hcut] at HC
    have E0 : oneP m b = (er, 0, 0, 0) := oneP_miss hcut
    rw [E0]
    clear E0 hcut
    by_cases h0 : er = 0
    · subst h0
      go_enter Tryz.func109, Tryz.ntmps109
      go_wp2_with fail
      refine HC.out.mono ?_
      rintro e w1 ⟨rfl, rfl⟩
      go_wp2
      refine bodyPost_ret (v := .tuple #[.slice none 0 0, .int .i64 0, .int .i64 0]) (by simp [results, Tryz.results109, go_sem]) rfl (oneq_no (Below.refl _ _))
    · have h0' : (er != 0) = true := by simpa using h0
      go_enter Tryz.func109, Tryz.ntmps109
      go_wp2_with fail
      refine HC.out.mono ?_
      rintro e w1 ⟨rfl, rfl⟩
      go_wp2
      refine bodyPost_ret (v := .tuple #[.slice none 0 0, .int .i64 0, .int .i64 er]) (by simp [results, Tryz.results109, go_sem]) rfl (oneq_no (Below.refl _ _))
end Go.Proofs.YtkdnckkdofoaoaaGreatDoor

/- Trailer lines. -/
namespace Go.Proofs.YtkdnckkdofoaoaaGreatDoor
open Go.RowKit
set_option linter.unusedVariables false

theorem trailL_ok : ∀ (r : Nat) (l : List UInt8), (trailL r l).1 ≠ 0 → (trailL r l).2 = 0 := by
  intro r
  induction r with
  | zero =>
    intro l h
    rcases cut_cases 256 l with ⟨i, hc, _, _⟩ | ⟨e, hc⟩
    · by_cases hi : i = 0
      · subst hi; rw [trailL_end hc]
      · cases hf : fldOk (l.take i)
        · rw [trailL_bad hc hi hf] at h; exact absurd rfl h
        · rw [trailL_many hc hi hf] at h; exact absurd rfl h
    · rw [trailL_miss hc] at h; exact absurd rfl h
  | succ r ih =>
    intro l h
    rcases cut_cases 256 l with ⟨i, hc, _, _⟩ | ⟨e, hc⟩
    · by_cases hi : i = 0
      · subst hi; rw [trailL_end hc]
      · cases hf : fldOk (l.take i)
        · rw [trailL_bad hc hi hf] at h; exact absurd rfl h
        · rw [trailL_next hc hi hf] at h ⊢
          unfold plusN at h ⊢
          by_cases h0 : (trailL r (l.drop (i + 2))).1 = 0
          · rw [if_pos h0] at h; exact absurd rfl h
          · rw [if_neg h0]
    · rw [trailL_miss hc] at h; exact absurd rfl h
theorem plusN_zero (r : Nat × Int) (h : r.1 ≠ 0 → r.2 = 0) : plusN 0 r = r := by
  unfold plusN
  obtain ⟨a, b⟩ := r
  by_cases h0 : a = 0
  · rw [if_pos h0]; rw [show a = 0 from h0]
  · rw [if_neg h0]; have h2 : b = 0 := h h0; rw [h2]; show (0 + a, (0 : Int)) = (a, 0); rw [Nat.zero_add]
theorem plusN_err (i : Nat) (e : Int) : plusN i (0, e) = (0, e) := rfl
theorem plusN_two (i : Nat) : plusN i (2, 0) = (i + 2, 0) := rfl
theorem prs_code (s : ByteArray) : (prs s).2.2 = 0 ∨ (prs s).2.2 = 20 := by
  unfold prs
  split
  · exact .inl rfl
  · exact .inr rfl

set_option maxRecDepth 100000 in
set_option maxHeartbeats 8000000 in
theorem trailer_any (b : List UInt8) (kb : Nat) (v : Value) (w : World) (hs : Src w kb v b) (hk : 0 < b.length → kb < w.heap.size) (hM : MaxL w) :
    Calls Tryz.prog 110 #[v] w fun e w' => e = .returned (.tuple #[.int .i64 ((trailL 40 b).1 : Nat), .int .i64 (trailL 40 b).2]) ∧ Below w.heap.size w w' := by
  have HS : Hid (Src w kb v b) := hs
  obtain ⟨a, c, rfl, h1, h2, h3⟩ := hs
  obtain ⟨n, hn⟩ : ∃ n, n = b.length := ⟨_, rfl⟩
  rw [← hn] at HS ⊢
  have HN : Hid (n = b.length) := hn
  have HK : Hid (0 < b.length → kb < w.heap.size) := hk
  rw [← hn] at h1
  unfold maxLen at h2
  have HM : Hid (MaxL w) := hM
  have HP0 : Hid (trailL 40 b = plusN 0 (trailL 40 (b.drop 0))) := (plusN_zero _ (trailL_ok 40 b)).symm
  generalize trailL 40 b = R at *
  clear hn h3 hk hM
  go_enter Tryz.func110, Tryz.ntmps110
  go_wp2_with fail
  go_loopw [4, 5] (fun va vc wr => ∃ at_ r q : Nat, at_ ≤ n ∧ q + r = 40 ∧ va = .int .i64 at_ ∧ vc = .int .i64 q ∧ Hid (R = plusN at_ (trailL r (b.drop at_))) ∧ Below w.heap.size w wr) (fun _ vc _ => 40 - (intOf vc).toNat)
  case atStart => exact ⟨0, 40, 0, Nat.zero_le _, rfl, rfl, rfl, HP0, Below.refl _ _⟩
  case round =>
    obtain ⟨at_, r, q, hat, hr, rfl, rfl, hR, hB⟩ := hrel
    clear HP0
    have HSA : Hid (∀ a' : Option Addr, (at_ < c → a' = a.map (fun x => x.add at_)) → Src wr kb (.slice a' (n - at_) (c - at_)) (b.drop at_)) := fun a' ha' => (HS.out.keep HK.out hB).cut (by have := HN.out; omega) ha'
    have HCU : Hid (∀ v', Src wr kb v' (b.drop at_) → Calls Tryz.prog 115 #[v', .int .i64 256] wr fun e w' => e = .returned (cutV 256 (b.drop at_)) ∧ w' = wr) := fun v' h => cut_any _ kb _ 256 wr h
    rcases cut_cases 256 (b.drop at_) with ⟨i, hcut, hil, _⟩ | ⟨er, hcut⟩
    · have hle : i ≤ 256 := cutAt_le 256 _ 0 i 0 (by decide) hcut
      rw [cutV_hit hcut] at HCU
      have hin : at_ + i + 2 ≤ n := by rw [List.length_drop] at hil; have := HN.out; omega
      by_cases hi : i = 0
      · subst hi
        have HE : Hid (R = (at_ + 2, 0)) := by rw [Hid, hR.out, trailL_end hcut, plusN_two]
        rw [List.take_zero] at HCU
        clear hcut hR hil
        go_wp2_with fail
        all_goals
          refine (HCU.out _ (by first | exact HSA.out _ (fun _ => rfl) | exact HSA.out _ (fun h => if_neg (by omega)) | exact HSA.out _ (fun h => by omega) | (have hx := HSA.out a (fun h => by omega); rw [show c - at_ = 0 by omega] at hx; exact hx))).mono ?_
          rintro e w1 ⟨rfl, rfl⟩
          go_wp2
          go_ret2
          exact ⟨by rw [HE.out]; go_num, hB⟩
      · have hT : Hid (∀ W, MaxL W → Calls Tryz.prog 55 #[.string ⟨((b.drop at_).take i).toArray⟩] W fun e w' => e = .returned (.tuple #[.agg #[.string (prs (tx ((b.drop at_).take i))).1, .string (prs (tx ((b.drop at_).take i))).2.1], .int .i64 (prs (tx ((b.drop at_).take i))).2.2]) ∧ Below W.heap.size W w') := fun W h => parse_any (tx ((b.drop at_).take i)) W (by rw [tx_size, List.length_take]; omega) h
        have hne : (⟨((b.drop at_).take i).toArray⟩ : ByteArray).toList.isEmpty = false := isEmpty_of (by show ¬ ((b.drop at_).take i).length = 0; rw [List.length_take]; omega)
        have hfd : fldOk ((b.drop at_).take i) = decide ((prs (tx ((b.drop at_).take i))).2.2 = 0) := rfl
        have hcode := prs_code (tx ((b.drop at_).take i))
        generalize prs (tx ((b.drop at_).take i)) = pq at *
        generalize (⟨((b.drop at_).take i).toArray⟩ : ByteArray) = T at *
        obtain ⟨q1, q2, q3⟩ := pq
        simp only at hT hfd hcode
        have hnz : ((i : Int) + 2 == 0) = false := by simp; omega
        have hM1 : Hid (MaxL wr) := HM.out.below hB
        rcases hcode with rfl | rfl
        · have hok : fldOk ((b.drop at_).take i) = true := by rw [hfd]; rfl
          clear hfd hil
          cases r with
          | zero =>
            have HE : Hid (R = (0, 3)) := by rw [Hid, hR.out, trailL_many hcut hi hok, plusN_err]
            obtain rfl : q = 40 := by omega
            clear hcut hR hok
            go_wp2_with fail
            all_goals
              refine (HCU.out _ (by first | exact HSA.out _ (fun _ => rfl) | exact HSA.out _ (fun h => if_neg (by omega)) | exact HSA.out _ (fun h => by omega) | (have hx := HSA.out a (fun h => by omega); rw [show c - at_ = 0 by omega] at hx; exact hx))).mono ?_
              rintro e w1 ⟨rfl, rfl⟩
              go_wp2_with fail
              refine (hT.out _ hM1.out).mono ?_
              rintro e w2 ⟨rfl, B2⟩
              have C2 := hB.trans (B2.mono hB.size)
              have C3 := C2.alloc C2.size (.cells #[.string q1, .string q2] 41)
              go_wp2
              go_ret2
              exact ⟨by rw [HE.out]; rfl, C3⟩
          | succ r =>
            have HE : Hid (R = plusN (at_ + i + 2) (trailL r (b.drop (at_ + i + 2)))) := by
              rw [Hid, hR.out, trailL_next hcut hi hok, plusN_plusN _ _ _ (by omega), List.drop_drop, ← Nat.add_assoc]
            have hq : ((q : Int) == 40) = false := by simp; omega
            have hq' : ¬ ((q : Int) = 40) := by omega
            clear hcut hR hok
            go_wp2_with fail
            all_goals
              refine (HCU.out _ (by first | exact HSA.out _ (fun _ => rfl) | exact HSA.out _ (fun h => if_neg (by omega)) | exact HSA.out _ (fun h => by omega) | (have hx := HSA.out a (fun h => by omega); rw [show c - at_ = 0 by omega] at hx; exact hx))).mono ?_
              rintro e w1 ⟨rfl, rfl⟩
              go_wp2_with fail
              refine (hT.out _ hM1.out).mono ?_
              rintro e w2 ⟨rfl, B2⟩
              have C2 := hB.trans (B2.mono hB.size)
              have C3 := C2.alloc C2.size (.cells #[.string q1, .string q2] 41)
              go_wp2
              go_roundw
              case rel => exact ⟨at_ + i + 2, r, q + 1, by omega, by omega, by go_num, by go_num, HE, C3⟩
              case measure => simp [intOf]; omega
        · have HE : Hid (R = (0, 20)) := by rw [Hid, hR.out, trailL_bad hcut hi (by rw [hfd]; rfl), plusN_err]
          clear hcut hR hil hfd
          go_wp2_with fail
          all_goals
            refine (HCU.out _ (by first | exact HSA.out _ (fun _ => rfl) | exact HSA.out _ (fun h => if_neg (by omega)) | exact HSA.out _ (fun h => by omega) | (have hx := HSA.out a (fun h => by omega); rw [show c - at_ = 0 by omega] at hx; exact hx))).mono ?_
            rintro e w1 ⟨rfl, rfl⟩
            go_wp2_with fail
            refine (hT.out _ hM1.out).mono ?_
            rintro e w2 ⟨rfl, B2⟩
            have C2 := hB.trans (B2.mono hB.size)
            have C3 := C2.alloc C2.size (.cells #[.string q1, .string q2] 41)
            go_wp2
            go_ret2
            exact ⟨by rw [HE.out]; rfl, C3⟩
    · rw [cutV_miss hcut] at HCU
      have HE : Hid (R = (0, er)) := by rw [Hid, hR.out, trailL_miss hcut, plusN_err]
      clear hcut hR
      by_cases h0 : er = 0
      · subst h0
        go_wp2_with fail
        all_goals
          refine (HCU.out _ (by first | exact HSA.out _ (fun _ => rfl) | exact HSA.out _ (fun h => if_neg (by omega)) | exact HSA.out _ (fun h => by omega) | (have hx := HSA.out a (fun h => by omega); rw [show c - at_ = 0 by omega] at hx; exact hx))).mono ?_
          rintro e w1 ⟨rfl, rfl⟩
          go_wp2
          go_ret2
          exact ⟨by rw [HE.out]; rfl, hB⟩
      · have h0' : (er != 0) = true := by simpa using h0
        go_wp2_with fail
        all_goals
          refine (HCU.out _ (by first | exact HSA.out _ (fun _ => rfl) | exact HSA.out _ (fun h => if_neg (by omega)) | exact HSA.out _ (fun h => by omega) | (have hx := HSA.out a (fun h => by omega); rw [show c - at_ = 0 by omega] at hx; exact hx))).mono ?_
          rintro e w1 ⟨rfl, rfl⟩
          go_wp2
          go_ret2
          exact ⟨by rw [HE.out]; rfl, hB⟩
end Go.Proofs.YtkdnckkdofoaoaaGreatDoor

/- Decode. -/
namespace Go.Proofs.YtkdnckkdofoaoaaGreatDoor
open Go.RowKit
set_option linter.unusedVariables false

theorem decL_miss {f m : Nat} {l : List UInt8} {e : Int} (h : oneP m l = (e, 0, 0, 0)) : decL (f + 1) m l = ([], 0, e) := by
  rw [decL, h, if_pos rfl]
theorem decL_last {f m n : Nat} {l : List UInt8} (h : oneP m l = (0, n, 0, 0)) (hn : ¬ n = 0) : decL (f + 1) m l = plusD [] n ([], trailL 40 (l.drop n)) := by
  rw [decL, h, if_neg hn, if_pos rfl]
theorem decL_next {f m n o k : Nat} {l : List UInt8} (h : oneP m l = (0, n, o, k)) (hn : ¬ n = 0) (hk : ¬ k = 0) : decL (f + 1) m l = plusD ((l.drop o).take k) n (decL f (m - k) (l.drop n)) := by
  rw [decL, h, if_neg hn, if_neg hk]
theorem trailL_le : ∀ (r : Nat) (l : List UInt8), (trailL r l).1 ≤ l.length := by
  intro r
  induction r with
  | zero =>
    intro l
    rcases cut_cases 256 l with ⟨i, hc, hl, _⟩ | ⟨e, hc⟩
    · by_cases hi : i = 0
      · subst hi; rw [trailL_end hc]; exact hl
      · cases hf : fldOk (l.take i)
        · rw [trailL_bad hc hi hf]; exact Nat.zero_le _
        · rw [trailL_many hc hi hf]; exact Nat.zero_le _
    · rw [trailL_miss hc]; exact Nat.zero_le _
  | succ r ih =>
    intro l
    rcases cut_cases 256 l with ⟨i, hc, hl, _⟩ | ⟨e, hc⟩
    · by_cases hi : i = 0
      · subst hi; rw [trailL_end hc]; exact hl
      · cases hf : fldOk (l.take i)
        · rw [trailL_bad hc hi hf]; exact Nat.zero_le _
        · rw [trailL_next hc hi hf]
          have h := ih (l.drop (i + 2))
          rw [List.length_drop] at h
          unfold plusN
          split
          · exact Nat.zero_le _
          · show i + 2 + _ ≤ _; omega
    · rw [trailL_miss hc]; exact Nat.zero_le _
def okR (r : List UInt8 × Nat × Int) : Prop := (r.2.1 = 0 → r.1 = []) ∧ (r.2.1 ≠ 0 → r.2.2 = 0)
theorem okR_plusD (a : List UInt8) (i : Nat) (r : List UInt8 × Nat × Int) : okR (plusD a i r) := by
  unfold plusD okR
  by_cases h : r.2.1 = 0
  · rw [if_pos h]; exact ⟨fun _ => rfl, fun c => absurd rfl c⟩
  · rw [if_neg h]; exact ⟨fun c => by simp only at c; omega, fun _ => rfl⟩
theorem decL_ok (f m : Nat) (l : List UInt8) : okR (decL f m l) := by
  cases f with
  | zero => exact ⟨fun _ => rfl, fun c => absurd rfl c⟩
  | succ f =>
    rcases oneP_cases m l with ⟨e, h⟩ | ⟨i, h, _⟩ | ⟨i, k, h, hk, _⟩
    · rw [decL_miss h]; exact ⟨fun _ => rfl, fun c => absurd rfl c⟩
    · rw [decL_last h (by omega)]; exact okR_plusD _ _ _
    · rw [decL_next h (by omega) (by omega)]; exact okR_plusD _ _ _
theorem plusD_zero (r : List UInt8 × Nat × Int) (h : okR r) : plusD [] 0 r = r := by
  obtain ⟨a, n, e⟩ := r
  unfold plusD
  by_cases h0 : n = 0
  · rw [if_pos h0]
    have := h.1 h0
    simp only at this
    rw [this, h0]
  · rw [if_neg h0]
    have := h.2 h0
    simp only at this
    rw [this, List.nil_append, Nat.zero_add]
theorem plusD_err (a : List UInt8) (i : Nat) (e : Int) : plusD a i ([], 0, e) = ([], 0, e) := rfl

def DecQ (w : World) (R : List UInt8 × Nat × Int) (e : Ending) (w' : World) : Prop :=
  ∃ v', e = .returned (.tuple #[v', .int .i64 (R.2.1 : Nat), .int .i64 R.2.2]) ∧ Own w.heap.size w' v' R.1 ∧ Below w.heap.size w w'
theorem decq_no {w w' : World} {er : Int} (hB : Below w.heap.size w w') : DecQ w ([], 0, er) (.returned (.tuple #[.slice none 0 0, .int .i64 0, .int .i64 er])) w' :=
  ⟨_, rfl, Own.nil _ _, hB⟩

set_option maxRecDepth 100000 in
set_option maxHeartbeats 8000000 in
theorem decode_any (b : List UInt8) (kb : Nat) (v : Value) (most : Int) (w : World) (hs : Src w kb v b) (hk : 0 < b.length → kb < w.heap.size) (hM : MaxL w) (hlen : b.length ≤ 140737488355328) (hmost : most ≤ 9223372036854775807) :
    Calls Tryz.prog 62 #[v, .int .i64 most] w (DecQ w (decR most.toNat b)) := by
  have HS : Hid (Src w kb v b) := hs
  obtain ⟨a, c, rfl, h1, h2, h3⟩ := hs
  obtain ⟨n, hn⟩ : ∃ n, n = b.length := ⟨_, rfl⟩
  obtain ⟨M, hMM⟩ : ∃ M, M = most.toNat := ⟨_, rfl⟩
  rw [← hn] at HS ⊢
  rw [← hMM]
  have HN : Hid (n = b.length) := hn
  have HMM : Hid (max most 0 = (M : Int)) := by rw [Hid]; omega
  have hM63 : M ≤ 9223372036854775807 := by omega
  have HK : Hid (0 < b.length → kb < w.heap.size) := hk
  have HM : Hid (MaxL w) := hM
  rw [← hn] at h1 hlen
  unfold maxLen at h2
  have HP0 : Hid (decR M b = plusD [] 0 (decL (n + 1) (M - 0) (b.drop 0))) := by
    rw [Hid, HN.out]; exact (plusD_zero _ (decL_ok _ _ _)).symm
  generalize decR M b = R at *
  clear hn hMM h3 hk hM hmost
  have hcan : ∀ (wr : World) (at_ : Nat), at_ ≤ n → Below w.heap.size w wr → ∀ a' : Option Addr, (at_ < c → a' = a.map (fun x => x.add at_)) → Src wr kb (.slice a' (n - at_) (c - at_)) (b.drop at_) := fun wr at_ h1 hB a' ha' => (HS.out.keep HK.out hB).cut (by have := HN.out; omega) ha'
  have HCAN : Hid (∀ (wr : World) (at_ : Nat), at_ ≤ n → Below w.heap.size w wr → ∀ a' : Option Addr, (at_ < c → a' = a.map (fun x => x.add at_)) → Src wr kb (.slice a' (n - at_) (c - at_)) (b.drop at_)) := hcan
  clear hcan
  go_enter Tryz.func62, Tryz.ntmps62
  go_wp2_with fail
  go_loopw [7, 8] (fun v7 va wr => ∃ (at_ f : Nat) (acc : List UInt8), at_ ≤ n ∧ n < at_ + f ∧ acc.length ≤ at_ ∧ acc.length ≤ M ∧ va = .int .i64 at_ ∧ Own w.heap.size wr v7 acc ∧ Hid (R = plusD acc at_ (decL f (M - acc.length) (b.drop at_))) ∧ Below w.heap.size w wr) (fun _ va _ => n - (intOf va).toNat)
  case atStart => exact ⟨0, n + 1, [], Nat.zero_le _, by omega, Nat.le_refl _, Nat.zero_le _, rfl, Own.nil _ _, HP0, Below.refl _ _⟩
  case round =>
    obtain ⟨at_, f, acc, hat, hf, hacc, haM, rfl, hO, hR, hB⟩ := hrel
    clear HP0
    obtain ⟨f, rfl⟩ : ∃ f', f = f' + 1 := ⟨f - 1, by omega⟩
    obtain ⟨a7, c7, rfl, hn7⟩ := hO.form
    have hmm : max most 0 - (acc.length : Int) = ((M - acc.length : Nat) : Int) := by have := HMM.out; omega
    have hkw : Hid (0 < (b.drop at_).length → kb < wr.heap.size) := fun q => Nat.lt_of_lt_of_le (HK.out (by rw [List.length_drop] at q; omega)) hB.size
    have HONE : Hid (∀ v', Src wr kb v' (b.drop at_) → Calls Tryz.prog 109 #[v', .int .i64 ((M - acc.length : Nat) : Int)] wr (OneQ wr kb (b.drop at_) (oneP (M - acc.length) (b.drop at_)))) := fun v' h => one_any _ kb v' _ wr h hkw.out (by omega) (HM.out.below hB)
    have hcell : Hid (∀ a' : Option Addr, (at_ < c → a' = a.map (fun x => x.add at_)) → Src wr kb (.slice a' (n - at_) (c - at_)) (b.drop at_)) := HCAN.out wr at_ hat hB
    rcases oneP_cases (M - acc.length) (b.drop at_) with ⟨er, hone⟩ | ⟨i, hone, hil, _⟩ | ⟨i, k, hone, hk0, hkm, hil, _⟩
    · rw [hone] at HONE
      have HE : Hid (R = ([], 0, er)) := by rw [Hid, hR.out, decL_miss hone, plusD_err]
      clear hone hR
      by_cases h0 : er = 0
      · subst h0
        go_wp2_with fail
        all_goals
          refine (HONE.out _ (by first | exact hcell.out _ (fun _ => rfl) | exact hcell.out _ (fun h => if_neg (by omega)) | exact hcell.out _ (fun h => by omega) | (have hx := hcell.out a (fun h => by omega); rw [show c - at_ = 0 by omega] at hx; exact hx))).mono ?_
          rintro e w1 ⟨B1, ad, nd, cd, rfl, _, _⟩
          have C1 := hB.trans (B1.mono hB.size)
          go_wp2
          refine bodyPost_ret (v := .tuple #[.slice none 0 0, .int .i64 0, .int .i64 0]) (by simp [results, Tryz.results62, go_sem]) rfl ?_
          rw [HE.out]
          exact decq_no C1
      · have h0' : (er != 0) = true := by simpa using h0
        go_wp2_with fail
        all_goals
          refine (HONE.out _ (by first | exact hcell.out _ (fun _ => rfl) | exact hcell.out _ (fun h => if_neg (by omega)) | exact hcell.out _ (fun h => by omega) | (have hx := hcell.out a (fun h => by omega); rw [show c - at_ = 0 by omega] at hx; exact hx))).mono ?_
          rintro e w1 ⟨B1, ad, nd, cd, rfl, _, _⟩
          have C1 := hB.trans (B1.mono hB.size)
          go_wp2
          refine bodyPost_ret (v := .tuple #[.slice none 0 0, .int .i64 0, .int .i64 er]) (by simp [results, Tryz.results62, go_sem]) rfl ?_
          rw [HE.out]
          exact decq_no C1
    · rw [hone] at HONE
      rw [List.length_drop, ← HN.out] at hil
      have HE : Hid (R = plusD acc (at_ + i + 2) ([], trailL 40 (b.drop (at_ + i + 2)))) := by
        rw [Hid, hR.out, decL_last hone (by omega), plusD_plusD _ _ _ _ _ (by omega), List.append_nil, List.drop_drop, ← Nat.add_assoc]
      have htl := trailL_le 40 (b.drop (at_ + i + 2))
      have hto := trailL_ok 40 (b.drop (at_ + i + 2))
      rw [List.length_drop, ← HN.out] at htl
      have HTR : Hid (∀ (W : World) v', Below w.heap.size w W → Src W kb v' (b.drop (at_ + i + 2)) → Calls Tryz.prog 110 #[v'] W fun e w' => e = .returned (.tuple #[.int .i64 ((trailL 40 (b.drop (at_ + i + 2))).1 : Nat), .int .i64 (trailL 40 (b.drop (at_ + i + 2))).2]) ∧ Below W.heap.size W w') := fun W v' hW h => trailer_any _ kb v' W h (fun q => Nat.lt_of_lt_of_le (HK.out (by rw [List.length_drop] at q; omega)) hW.size) (HM.out.below hW)
      generalize trailL 40 (b.drop (at_ + i + 2)) = t at *
      obtain ⟨tn, te⟩ := t
      simp only at htl hto HTR
      clear hone hR
      by_cases ht : tn = 0
      · subst ht
        have HE2 : Hid (R = ([], 0, te)) := by rw [Hid, HE.out, plusD_err]
        clear hto HE
        by_cases h0 : te = 0
        · subst h0
          go_wp2_with fail
          all_goals
            refine (HONE.out _ (by first | exact hcell.out _ (fun _ => rfl) | exact hcell.out _ (fun h => if_neg (by omega)) | exact hcell.out _ (fun h => by omega) | (have hx := hcell.out a (fun h => by omega); rw [show c - at_ = 0 by omega] at hx; exact hx))).mono ?_
            rintro e w1 ⟨B1, ad, nd, cd, rfl, _, hD⟩
            obtain rfl : nd = 0 := hD.len.1.symm
            have C1 := hB.trans (B1.mono hB.size)
            have O1 := hO.keep B1
            have hc2 : Hid (∀ a' : Option Addr, (at_ + i + 2 < c → a' = a.map (fun x => x.add (at_ + i + 2))) → Src w1 kb (.slice a' (n - (at_ + i + 2)) (c - (at_ + i + 2))) (b.drop (at_ + i + 2))) := HCAN.out w1 _ (by omega) C1
            clear hD
            go_wp2_with fail
            all_goals
              refine (HTR.out _ _ C1 (by first | exact hc2.out _ (fun _ => rfl) | exact hc2.out _ (fun h => if_neg (by omega)) | exact hc2.out _ (fun h => by omega) | (have hx := hc2.out a (fun h => by omega); rw [show c - (at_ + i + 2) = 0 by omega] at hx; exact hx))).mono ?_
              rintro e w2 ⟨rfl, B2⟩
              have C2 := C1.trans (B2.mono C1.size)
              have O2 := O1.keep B2
              go_wp2
          
              refine bodyPost_ret (v := .tuple #[.slice none 0 0, .int .i64 0, .int .i64 0]) (by simp [results, Tryz.results62, go_sem]) rfl ?_
              rw [HE2.out]
              exact decq_no C2
        · have h0' : (te != 0) = true := by simpa using h0
          go_wp2_with fail
          all_goals
            refine (HONE.out _ (by first | exact hcell.out _ (fun _ => rfl) | exact hcell.out _ (fun h => if_neg (by omega)) | exact hcell.out _ (fun h => by omega) | (have hx := hcell.out a (fun h => by omega); rw [show c - at_ = 0 by omega] at hx; exact hx))).mono ?_
            rintro e w1 ⟨B1, ad, nd, cd, rfl, _, hD⟩
            obtain rfl : nd = 0 := hD.len.1.symm
            have C1 := hB.trans (B1.mono hB.size)
            have O1 := hO.keep B1
            have hc2 : Hid (∀ a' : Option Addr, (at_ + i + 2 < c → a' = a.map (fun x => x.add (at_ + i + 2))) → Src w1 kb (.slice a' (n - (at_ + i + 2)) (c - (at_ + i + 2))) (b.drop (at_ + i + 2))) := HCAN.out w1 _ (by omega) C1
            clear hD
            go_wp2_with fail
            all_goals
              refine (HTR.out _ _ C1 (by first | exact hc2.out _ (fun _ => rfl) | exact hc2.out _ (fun h => if_neg (by omega)) | exact hc2.out _ (fun h => by omega) | (have hx := hc2.out a (fun h => by omega); rw [show c - (at_ + i + 2) = 0 by omega] at hx; exact hx))).mono ?_
              rintro e w2 ⟨rfl, B2⟩
              have C2 := C1.trans (B2.mono C1.size)
              have O2 := O1.keep B2
              go_wp2
          
              refine bodyPost_ret (v := .tuple #[.slice none 0 0, .int .i64 0, .int .i64 te]) (by simp [results, Tryz.results62, go_sem]) rfl ?_
              rw [HE2.out]
              exact decq_no C2
      · obtain rfl : te = 0 := hto ht
        have HE2 : Hid (R = (acc, at_ + i + 2 + tn, 0)) := by
          rw [Hid, HE.out]
          unfold plusD
          rw [if_neg ht, List.append_nil]
        have ht' : ((tn : Int) == 0) = false := by simp; omega
        have ht'' : ¬ ((tn : Int) = 0) := by omega
        clear hto HE
        go_wp2_with fail
        all_goals
          refine (HONE.out _ (by first | exact hcell.out _ (fun _ => rfl) | exact hcell.out _ (fun h => if_neg (by omega)) | exact hcell.out _ (fun h => by omega) | (have hx := hcell.out a (fun h => by omega); rw [show c - at_ = 0 by omega] at hx; exact hx))).mono ?_
          rintro e w1 ⟨B1, ad, nd, cd, rfl, _, hD⟩
          obtain rfl : nd = 0 := hD.len.1.symm
          have C1 := hB.trans (B1.mono hB.size)
          have O1 := hO.keep B1
          have hc2 : Hid (∀ a' : Option Addr, (at_ + i + 2 < c → a' = a.map (fun x => x.add (at_ + i + 2))) → Src w1 kb (.slice a' (n - (at_ + i + 2)) (c - (at_ + i + 2))) (b.drop (at_ + i + 2))) := HCAN.out w1 _ (by omega) C1
          clear hD
          go_wp2_with fail
          all_goals
            refine (HTR.out _ _ C1 (by first | exact hc2.out _ (fun _ => rfl) | exact hc2.out _ (fun h => if_neg (by omega)) | exact hc2.out _ (fun h => by omega) | (have hx := hc2.out a (fun h => by omega); rw [show c - (at_ + i + 2) = 0 by omega] at hx; exact hx))).mono ?_
            rintro e w2 ⟨rfl, B2⟩
            have C2 := C1.trans (B2.mono C1.size)
            have O2 := O1.keep B2
            go_wp2
        
            refine bodyPost_ret (v := .tuple #[.slice a7 acc.length c7, .int .i64 ((at_ + i + 2 + tn : Nat) : Int), .int .i64 0]) (by simp [results, Tryz.results62, go_sem]; try omega) rfl ?_
            rw [HE2.out]
            exact ⟨_, rfl, O2, C2⟩
    · rw [hone] at HONE
      rw [List.length_drop, ← HN.out] at hil
      have HDL : Hid ((((b.drop at_).drop (i + 2)).take k).length = k) := by rw [Hid, List.length_take, List.length_drop, List.length_drop]; have := HN.out; omega
      have HE : Hid (R = plusD (acc ++ ((b.drop at_).drop (i + 2)).take k) (at_ + (i + 2 + k + 2)) (decL f (M - (acc ++ ((b.drop at_).drop (i + 2)).take k).length) (b.drop (at_ + (i + 2 + k + 2))))) := by
        have hdd : (b.drop at_).drop (i + 2 + k + 2) = b.drop (at_ + (i + 2 + k + 2)) := List.drop_drop
        rw [Hid, hR.out, decL_next hone (by omega) (by omega), plusD_plusD _ _ _ _ _ (by omega), List.length_append, HDL.out, Nat.sub_sub, hdd]
      clear hone hR
      go_wp2_with fail
      all_goals
        refine (HONE.out _ (by first | exact hcell.out _ (fun _ => rfl) | exact hcell.out _ (fun h => if_neg (by omega)) | exact hcell.out _ (fun h => by omega) | (have hx := hcell.out a (fun h => by omega); rw [show c - at_ = 0 by omega] at hx; exact hx))).mono ?_
        rintro e w1 ⟨B1, ad, nd, cd, rfl, hnd, hD⟩
        simp only at hD
        obtain rfl : nd = k := by rw [← HDL.out]; exact hD.len.1.symm
        have C1 := hB.trans (B1.mono hB.size)
        have hD1 : Src w1 kb (.slice ad nd cd) (((b.drop at_).drop (i + 2)).take nd) := hD.keep (fun q => hkw.out (by rw [List.length_drop]; have := HN.out; omega)) B1
        obtain ⟨v3, w3, r3, O3, B3⟩ := own_append (hO.keep B1) hD1 hnd (by rw [HDL.out]; omega) C1.size
        have C3 := C1.trans B3
        have HO3 : Hid (Own w.heap.size w3 v3 (acc ++ ((b.drop at_).drop (i + 2)).take nd)) := O3
        have hzk : ((nd : Int) == 0) = false := by simp; omega
        clear hD hD1 O3
        go_wp2_with (at_builtin; refine wpList_append_run2 rfl _ _ 22 22 rfl _ _ _ w3 rfl rfl r3 ?_)
        go_roundw
        case rel => exact ⟨at_ + (i + 2 + nd + 2), f, acc ++ ((b.drop at_).drop (i + 2)).take nd, by omega, by omega, by rw [List.length_append, HDL.out]; omega, by rw [List.length_append, HDL.out]; omega, by go_num, HO3.out, HE, C3⟩
        case measure => simp [intOf]; omega
end Go.Proofs.YtkdnckkdofoaoaaGreatDoor

/- What is told of a beginning is told of more. -/
namespace Go.Proofs.YtkdnckkdofoaoaaGreatDoor
open Go.RowKit
set_option linter.unusedVariables false

theorem endsP_app (d more : List UInt8) (h : endsP d ≠ (false, 0)) : endsP (d ++ more) = endsP d := by
  match d with
  | [] => exact absurd rfl h
  | [x] =>
    by_cases hx : x = 13
    · subst hx; exact absurd rfl h
    · have e1 : endsP [x] = (false, 20) := by simp [endsP, hx]
      have e2 : endsP ([x] ++ more) = (false, 20) := by simp [endsP, hx]
      rw [e1, e2]
  | x :: y :: r => rfl
theorem endsP_cases (d : List UInt8) : endsP d = (false, 0) ∨ endsP d = (false, 20) ∨ endsP d = (true, 0) := by
  match d with
  | [] => exact .inl rfl
  | [x] => by_cases hx : x = 13 <;> simp [endsP, hx]
  | x :: y :: r => by_cases hx : x = 13 <;> by_cases hy : y = 10 <;> simp [endsP, hx, hy]
theorem oneP_app (m : Nat) (l more : List UInt8) (h : oneP m l ≠ (0, 0, 0, 0)) : oneP m (l ++ more) = oneP m l := by
  rcases cut_cases 256 l with ⟨i, hc, hl, _⟩ | ⟨e, hc⟩
  · have hc2 : cutAt 256 0 (l ++ more) = (some i, 0) := by rw [cutAt_app 256 more l 0 (by rw [hc]; simp), hc]
    rw [oneP_hit hc] at h ⊢
    rw [oneP_hit hc2, List.take_append_of_le_length (by omega)]
    cases hz : szO (l.take i) with
    | none => rfl
    | some k =>
      rw [hz] at h
      rw [oneK_some] at h ⊢
      rw [oneK_some]
      by_cases h1 : m < k
      · rw [if_pos h1, if_pos h1]
      · rw [if_neg h1] at h
        rw [if_neg h1, if_neg h1]
        by_cases h2 : k = 0
        · rw [if_pos h2, if_pos h2]
        · rw [if_neg h2] at h
          rw [if_neg h2, if_neg h2]
          by_cases h3 : l.length - (i + 2) < k
          · rw [if_pos h3] at h; exact absurd rfl h
          · rw [if_neg h3] at h
            rw [if_neg h3, if_neg (by rw [List.length_append]; omega), List.drop_append_of_le_length (by omega), endsP_app]
            intro he
            rw [he] at h
            exact h rfl
  · rw [oneP_miss hc] at h ⊢
    have he : e ≠ 0 := fun c => h (by rw [c])
    exact oneP_miss (by rw [cutAt_app 256 more l 0 (by rw [hc]; simpa using he), hc])
theorem plusN_ne {i : Nat} {r : Nat × Int} (h : plusN i r ≠ (0, 0)) : r ≠ (0, 0) := fun c => h (by rw [c]; rfl)
theorem trailL_app (more : List UInt8) : ∀ (r : Nat) (l : List UInt8), trailL r l ≠ (0, 0) → trailL r (l ++ more) = trailL r l := by
  intro r
  induction r with
  | zero =>
    intro l h
    rcases cut_cases 256 l with ⟨i, hc, hl, _⟩ | ⟨e, hc⟩
    · have hc2 : cutAt 256 0 (l ++ more) = (some i, 0) := by rw [cutAt_app 256 more l 0 (by rw [hc]; simp), hc]
      have ht : (l ++ more).take i = l.take i := List.take_append_of_le_length (by omega)
      by_cases hi : i = 0
      · subst hi; rw [trailL_end hc, trailL_end hc2]
      · cases hf : fldOk (l.take i)
        · rw [trailL_bad hc hi hf, trailL_bad hc2 hi (by rw [ht]; exact hf)]
        · rw [trailL_many hc hi hf, trailL_many hc2 hi (by rw [ht]; exact hf)]
    · rw [trailL_miss hc] at h ⊢
      have he : e ≠ 0 := fun c => h (by rw [c])
      exact trailL_miss (by rw [cutAt_app 256 more l 0 (by rw [hc]; simpa using he), hc])
  | succ r ih =>
    intro l h
    rcases cut_cases 256 l with ⟨i, hc, hl, _⟩ | ⟨e, hc⟩
    · have hc2 : cutAt 256 0 (l ++ more) = (some i, 0) := by rw [cutAt_app 256 more l 0 (by rw [hc]; simp), hc]
      have ht : (l ++ more).take i = l.take i := List.take_append_of_le_length (by omega)
      by_cases hi : i = 0
      · subst hi; rw [trailL_end hc, trailL_end hc2]
      · cases hf : fldOk (l.take i)
        · rw [trailL_bad hc hi hf, trailL_bad hc2 hi (by rw [ht]; exact hf)]
        · rw [trailL_next hc hi hf] at h ⊢
          rw [trailL_next hc2 hi (by rw [ht]; exact hf), List.drop_append_of_le_length (by omega), ih _ (plusN_ne h)]
    · rw [trailL_miss hc] at h ⊢
      have he : e ≠ 0 := fun c => h (by rw [c])
      exact trailL_miss (by rw [cutAt_app 256 more l 0 (by rw [hc]; simpa using he), hc])
def Done (r : List UInt8 × Nat × Int) : Prop := r.2.1 ≠ 0 ∨ r.2.2 ≠ 0
theorem done_plusD {a : List UInt8} {i : Nat} {r : List UInt8 × Nat × Int} (h : Done (plusD a i r)) : Done r := by
  unfold plusD at h
  by_cases c : r.2.1 = 0
  · rw [if_pos c] at h
    rcases h with h | h
    · exact absurd rfl h
    · exact .inr h
  · exact .inl c
theorem decL_app (more : List UInt8) : ∀ (f f' m : Nat) (l : List UInt8), f ≤ f' → Done (decL f m l) → decL f' m (l ++ more) = decL f m l := by
  intro f
  induction f with
  | zero =>
    intro f' m l _ h
    rcases h with h | h <;> exact absurd rfl h
  | succ f ih =>
    intro f' m l hf h
    obtain ⟨g, rfl⟩ : ∃ g, f' = g + 1 := ⟨f' - 1, by omega⟩
    rcases oneP_cases m l with ⟨e, ho⟩ | ⟨i, ho, hi, _⟩ | ⟨i, k, ho, hk, _, hi, _⟩
    · rw [decL_miss ho] at h ⊢
      have he : e ≠ 0 := by
        rcases h with h | h
        · exact absurd rfl h
        · exact h
      exact decL_miss (by rw [oneP_app m l more (by rw [ho]; simpa using he), ho])
    · have ho2 : oneP m (l ++ more) = (0, i + 2, 0, 0) := by rw [oneP_app m l more (by rw [ho]; simp), ho]
      rw [decL_last ho (by omega)] at h ⊢
      rw [decL_last ho2 (by omega), List.drop_append_of_le_length (by omega), trailL_app]
      intro c
      have := done_plusD h
      rw [c] at this
      rcases this with h | h <;> exact absurd rfl h
    · have ho2 : oneP m (l ++ more) = (0, i + 2 + k + 2, i + 2, k) := by rw [oneP_app m l more (by rw [ho]; simp), ho]
      rw [decL_next ho (by omega) (by omega)] at h ⊢
      rw [decL_next ho2 (by omega) (by omega), List.drop_append_of_le_length (by omega), List.take_append_of_le_length (by rw [List.length_drop]; omega), List.drop_append_of_le_length (by omega), ih g _ _ (by omega) (done_plusD h)]
theorem decR_app (m : Nat) (l more : List UInt8) (h : Done (decR m l)) : decR m (l ++ more) = decR m l := by
  unfold decR at *
  exact decL_app more _ _ m l (by rw [List.length_append]; omega) h
theorem decR_ok (m : Nat) (l : List UInt8) : okR (decR m l) := decL_ok _ _ _
end Go.Proofs.YtkdnckkdofoaoaaGreatDoor
