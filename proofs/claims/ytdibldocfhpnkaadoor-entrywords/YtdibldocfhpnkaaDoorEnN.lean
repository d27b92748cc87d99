/- The document's example of a record answers as it should. -/
import Derived.Test.YtdibldocfhpnkaaDoorEnM
namespace Go.Proofs.YtdibldocfhpnkaaDoor
open Go.RowKit
set_option linter.unusedVariables false

def exE : EntP := ⟨1, 5, 2, 7, ⟨#[71, 69, 84]⟩, ⟨#[47, 97]⟩, 200, 1, 30⟩
def exLn : List UInt8 := [49, 32, 53, 32, 50, 32, 55, 32, 71, 69, 84, 32, 47, 97, 32, 50, 48, 48, 32, 49, 32, 51, 48, 10]
theorem ex_right : rightE exE = true := by kernel_rfl
theorem ex_line : lineL exE = exLn := by kernel_rfl
theorem ex_zero : rightE zeroE = false := by kernel_rfl
theorem ex_bad : okR ⟨#[49, 32, 50, 10]⟩ = false := by kernel_rfl
theorem ex_lines : linesL exLn = [exLn] := by kernel_rfl
theorem ex_ok : okL exLn = true ∧ valL exLn = exE := by
  have h := read_back ex_right
  have e : lineB exE = ⟨exLn.toArray⟩ := by unfold lineB; rw [ex_line]
  rw [e] at h
  exact h
theorem ex_good : goodB (linesL exLn) = true := by
  rw [ex_lines]
  unfold goodB
  rw [List.all_cons, ex_ok.1]; rfl
/-- What the tables must hold. -/
structure AlE (w : World) : Prop where
  m : MaxL w
  l : LmT w
  p : PowT w
theorem AlE.below {w w' : World} (h : AlE w) (b : Below w.heap.size w w') : AlE w' := ⟨h.m.below b, h.l.below b, h.p.below b⟩
def exV : Array Value := #[.int .i64 1, .int .i64 5, .int .i64 2, .int .i64 7, .string ⟨#[71, 69, 84]⟩, .string ⟨#[47, 97]⟩, .int .i64 200, .int .i64 1, .int .i64 30]
theorem ex_same (W : World) : (binOp .eql 23 (.agg exV) (.agg exV)).run Tryd.prog W = .ok (.bool true) W := by kernel_rfl
theorem ex_write (w : World) (h : AlE w) : Calls Tryd.prog 8 #[.agg exV] w fun r w' => ∃ a c k, r = .returned (.tuple #[.slice a 24 c, .int .i64 0]) ∧ Src w' k (.slice a 24 c) exLn ∧ k < w'.heap.size ∧ Below w.heap.size w w' := by
  refine (enwrite_any exE w (by unfold maxLen; decide) (by unfold maxLen; decide) h.l h.p).mono fun r w' hq => ?_
  unfold WrR at hq
  rw [if_pos ex_right, ex_line] at hq
  obtain ⟨a, c, k, e, hS, h1, h2, B⟩ := hq
  exact ⟨a, c, k, e, hS, h2, B⟩
theorem ex_read (w : World) (h : AlE w) (a : Option Addr) (c k : Nat) (hS : Src w k (.slice a 24 c) exLn) (hk : k < w.heap.size) : Calls Tryd.prog 11 #[.slice a 24 c] w fun r w' => r = .returned (.tuple #[.agg exV, .int .i64 0]) ∧ Below w.heap.size w w' := by
  refine (enread_any exLn k a 24 c w hS (fun _ => hk) (by decide) h.m h.l h.p).mono fun r w' hq => ?_
  have e1 : valR ⟨exLn.toArray⟩ = exE := ex_ok.2
  have e2 : codR ⟨exLn.toArray⟩ = 0 := by unfold codR; rw [if_pos (show okR ⟨exLn.toArray⟩ = true from ex_ok.1)]
  rw [e1, e2] at hq
  exact hq
theorem ex_read2 (w : World) (h : AlE w) (a : Option Addr) (c k : Nat) (hS : Src w k (.slice a 4 c) [49, 32, 50, 10]) (hk : k < w.heap.size) : Calls Tryd.prog 11 #[.slice a 4 c] w fun r w' => r = .returned (.tuple #[.agg (entV zeroE), .int .i64 20]) ∧ Below w.heap.size w w' := by
  refine (enread_any [49, 32, 50, 10] k a 4 c w hS (fun _ => hk) (by decide) h.m h.l h.p).mono fun r w' hq => ?_
  have e1 : valR ⟨[49, 32, 50, 10].toArray⟩ = zeroE := by unfold valR; rw [if_neg (by rw [ex_bad]; decide)]
  have e2 : codR ⟨[49, 32, 50, 10].toArray⟩ = 20 := by unfold codR; rw [if_neg (by rw [ex_bad]; decide)]
  rw [e1, e2] at hq
  exact hq
theorem ex_all (w : World) (h : AlE w) (a : Option Addr) (c k : Nat) (hS : Src w k (.slice a 24 c) exLn) (hk : k < w.heap.size) : Calls Tryd.prog 15 #[.slice a 24 c] w fun r w' => ∃ va vc, r = .returned (.tuple #[.slice va 1 vc, .int .i64 0]) ∧ Below w.heap.size w w' := by
  refine (enall_any exLn k a 24 c w hS hk (by decide) h.m h.l h.p).mono fun r w' hq => ?_
  obtain ⟨B, ⟨_, v, rfl, O⟩ | ⟨pre, x, h1, h2, h3, _⟩⟩ := hq
  · obtain ⟨va, vc, hv⟩ := O.form
    rw [ex_lines] at hv
    exact ⟨va, vc, by rw [hv]; rfl, B⟩
  · exfalso
    rw [ex_lines] at h1
    have hl := h1.length_le
    rw [List.length_append] at hl
    have hp : pre = [] := List.eq_nil_of_length_eq_zero (by simp only [List.length_cons, List.length_nil] at hl; omega)
    subst hp
    obtain ⟨t, ht⟩ := h1
    have : x = exLn := by
      have := congrArg List.head? ht
      simpa using this
    subst this
    have g := ex_good
    rw [ex_lines] at g
    rw [List.nil_append, g] at h3
    cases h3
theorem ex_right_any (w : World) (h : AlE w) : Calls Tryd.prog 9 #[.agg exV] w fun r w' => r = .returned (.bool true) ∧ Below w.heap.size w w' := by
  have k := enright_any exE w (by unfold maxLen; decide) (by unfold maxLen; decide) h.l
  rw [ex_right] at k
  exact k
theorem ex_zero_any (w : World) (h : AlE w) : Calls Tryd.prog 9 #[.agg (entV zeroE)] w fun r w' => r = .returned (.bool false) ∧ Below w.heap.size w w' := by
  have k := enright_any zeroE w (by unfold maxLen; decide) (by unfold maxLen; decide) h.l
  rw [ex_zero] at k
  exact k
set_option maxRecDepth 100000 in
set_option maxHeartbeats 1600000 in
theorem alive13_any (w : World) (h : AlE w) : Calls Tryd.prog 7 #[] w fun r w' => r = .returned (.bool true) ∧ Below w.heap.size w w' := by
  have BA : Below w.heap.size w (w.alloc (.cells exV 23)) := (Below.refl _ _).alloc (Nat.le_refl _) _
  have NA := tblk_new w (.cells exV 23)
  have HA : Hid (∀ W, Below w.heap.size w W → AlE W) := fun W hW => h.below hW
  have hsame := ex_same
  have HW : Hid (∀ W, AlE W → Calls Tryd.prog 8 #[.agg exV] W fun r w' => ∃ a c k, r = .returned (.tuple #[.slice a 24 c, .int .i64 0]) ∧ Src w' k (.slice a 24 c) exLn ∧ k < w'.heap.size ∧ Below W.heap.size W w') := ex_write
  have HR : Hid (∀ W, AlE W → ∀ a c k, Src W k (.slice a 24 c) exLn → k < W.heap.size → Calls Tryd.prog 11 #[.slice a 24 c] W fun r w' => r = .returned (.tuple #[.agg exV, .int .i64 0]) ∧ Below W.heap.size W w') := ex_read
  have HR2 : Hid (∀ W, AlE W → ∀ a c k, Src W k (.slice a 4 c) [49, 32, 50, 10] → k < W.heap.size → Calls Tryd.prog 11 #[.slice a 4 c] W fun r w' => r = .returned (.tuple #[.agg (entV zeroE), .int .i64 20]) ∧ Below W.heap.size W w') := ex_read2
  have HAL : Hid (∀ W, AlE W → ∀ a c k, Src W k (.slice a 24 c) exLn → k < W.heap.size → Calls Tryd.prog 15 #[.slice a 24 c] W fun r w' => ∃ va vc, r = .returned (.tuple #[.slice va 1 vc, .int .i64 0]) ∧ Below W.heap.size W w') := ex_all
  have HG : Hid (∀ W, AlE W → Calls Tryd.prog 9 #[.agg exV] W fun r w' => r = .returned (.bool true) ∧ Below W.heap.size W w') := ex_right_any
  have HZ : Hid (∀ W, AlE W → Calls Tryd.prog 9 #[.agg (entV zeroE)] W fun r w' => r = .returned (.bool false) ∧ Below W.heap.size W w') := ex_zero_any
  unfold entV zeroE at HR2 HZ
  unfold exV at *
  simp only at HR2 HZ
  clear h
  go_enter Tryd.func7, Tryd.ntmps7
  go_wp2_with fail
  refine (HW.out _ (HA.out _ BA)).mono ?_
  rintro r w1 ⟨a, c, k, rfl, S1, k1, B1⟩
  have D1 := BA.trans (B1.mono BA.size)
  have N1 := tblk_below NA B1
  clear NA BA B1
  go_wp2_with fail
  refine (HR.out _ (HA.out _ D1) a c k S1 k1).mono ?_
  rintro r w2 ⟨rfl, B2⟩
  have D2 := D1.trans (B2.mono D1.size)
  have N2 := tblk_below N1 B2
  have S2 := (S1.keep (fun _ => k1) B2)
  have k2 := Nat.lt_of_lt_of_le k1 B2.size
  have B3 : Below w2.heap.size w2 (w2.alloc (.cells #[.int .i64 1, .int .i64 5, .int .i64 2, .int .i64 7, .string ⟨#[71, 69, 84]⟩, .string ⟨#[47, 97]⟩, .int .i64 200, .int .i64 1, .int .i64 30] 23)) := (Below.refl _ _).alloc (Nat.le_refl _) _
  have M3 := tblk_new w2 (.cells #[.int .i64 1, .int .i64 5, .int .i64 2, .int .i64 7, .string ⟨#[71, 69, 84]⟩, .string ⟨#[47, 97]⟩, .int .i64 200, .int .i64 1, .int .i64 30] 23)
  have B4 : Below (w2.alloc (.cells #[.int .i64 1, .int .i64 5, .int .i64 2, .int .i64 7, .string ⟨#[71, 69, 84]⟩, .string ⟨#[47, 97]⟩, .int .i64 200, .int .i64 1, .int .i64 30] 23)).heap.size (w2.alloc (.cells #[.int .i64 1, .int .i64 5, .int .i64 2, .int .i64 7, .string ⟨#[71, 69, 84]⟩, .string ⟨#[47, 97]⟩, .int .i64 200, .int .i64 1, .int .i64 30] 23)) ((w2.alloc (.cells #[.int .i64 1, .int .i64 5, .int .i64 2, .int .i64 7, .string ⟨#[71, 69, 84]⟩, .string ⟨#[47, 97]⟩, .int .i64 200, .int .i64 1, .int .i64 30] 23)).alloc (.cells #[.int .u8 49, .int .u8 32, .int .u8 50, .int .u8 10] 5 (4, 5))) := (Below.refl _ _).alloc (Nat.le_refl _) _
  have S4 := lit_src (w2.alloc (.cells #[.int .i64 1, .int .i64 5, .int .i64 2, .int .i64 7, .string ⟨#[71, 69, 84]⟩, .string ⟨#[47, 97]⟩, .int .i64 200, .int .i64 1, .int .i64 30] 23)) [49, 32, 50, 10] 4 #[.int .u8 49, .int .u8 32, .int .u8 50, .int .u8 10] (4, 5) rfl (by unfold maxLen; decide) rfl
  have s3 : (w2.alloc (.cells #[.int .i64 1, .int .i64 5, .int .i64 2, .int .i64 7, .string ⟨#[71, 69, 84]⟩, .string ⟨#[47, 97]⟩, .int .i64 200, .int .i64 1, .int .i64 30] 23)).heap.size = w2.heap.size + 1 := by simp
  rw [s3] at S4
  have M4 := tblk_below M3 B4
  have N4 := tblk_below (tblk_below N2 B3) B4
  have D4 := (D2.trans (B3.mono D2.size)).trans (B4.mono (D2.trans (B3.mono D2.size)).size)
  have S24 := (S2.keep (fun _ => k2) (B3.trans (B4.mono B3.size)))
  have hcs : (convert 25 25 (.slice (some ⟨w2.heap.size + 1, 0, none⟩) 4 4)).run Tryd.prog ((w2.alloc (.cells #[.int .i64 1, .int .i64 5, .int .i64 2, .int .i64 7, .string ⟨#[71, 69, 84]⟩, .string ⟨#[47, 97]⟩, .int .i64 200, .int .i64 1, .int .i64 30] 23)).alloc (.cells #[.int .u8 49, .int .u8 32, .int .u8 50, .int .u8 10] 5)) = .ok (.slice (some ⟨w2.heap.size + 1, 0, none⟩) 4 4) ((w2.alloc (.cells #[.int .i64 1, .int .i64 5, .int .i64 2, .int .i64 7, .string ⟨#[71, 69, 84]⟩, .string ⟨#[47, 97]⟩, .int .i64 200, .int .i64 1, .int .i64 30] 23)).alloc (.cells #[.int .u8 49, .int .u8 32, .int .u8 50, .int .u8 10] 5 (4, 5))) := by
    have q := conv_same (w2.alloc (.cells #[.int .i64 1, .int .i64 5, .int .i64 2, .int .i64 7, .string ⟨#[71, 69, 84]⟩, .string ⟨#[47, 97]⟩, .int .i64 200, .int .i64 1, .int .i64 30] 23)) #[.int .u8 49, .int .u8 32, .int .u8 50, .int .u8 10] 4 4
    rw [s3] at q
    exact q
  have k4 : w2.heap.size + 1 < ((w2.alloc (.cells #[.int .i64 1, .int .i64 5, .int .i64 2, .int .i64 7, .string ⟨#[71, 69, 84]⟩, .string ⟨#[47, 97]⟩, .int .i64 200, .int .i64 1, .int .i64 30] 23)).alloc (.cells #[.int .u8 49, .int .u8 32, .int .u8 50, .int .u8 10] 5 (4, 5))).heap.size := by simp
  have hk4 : k < ((w2.alloc (.cells #[.int .i64 1, .int .i64 5, .int .i64 2, .int .i64 7, .string ⟨#[71, 69, 84]⟩, .string ⟨#[47, 97]⟩, .int .i64 200, .int .i64 1, .int .i64 30] 23)).alloc (.cells #[.int .u8 49, .int .u8 32, .int .u8 50, .int .u8 10] 5 (4, 5))).heap.size := by simp; omega
  have HS24 : Hid (Src ((w2.alloc (.cells #[.int .i64 1, .int .i64 5, .int .i64 2, .int .i64 7, .string ⟨#[71, 69, 84]⟩, .string ⟨#[47, 97]⟩, .int .i64 200, .int .i64 1, .int .i64 30] 23)).alloc (.cells #[.int .u8 49, .int .u8 32, .int .u8 50, .int .u8 10] 5 (4, 5))) k (.slice a 24 c) exLn) := S24
  have HD4 : Hid (Below w.heap.size w ((w2.alloc (.cells #[.int .i64 1, .int .i64 5, .int .i64 2, .int .i64 7, .string ⟨#[71, 69, 84]⟩, .string ⟨#[47, 97]⟩, .int .i64 200, .int .i64 1, .int .i64 30] 23)).alloc (.cells #[.int .u8 49, .int .u8 32, .int .u8 50, .int .u8 10] 5 (4, 5)))) := D4
  have HS4 : Hid (Src ((w2.alloc (.cells #[.int .i64 1, .int .i64 5, .int .i64 2, .int .i64 7, .string ⟨#[71, 69, 84]⟩, .string ⟨#[47, 97]⟩, .int .i64 200, .int .i64 1, .int .i64 30] 23)).alloc (.cells #[.int .u8 49, .int .u8 32, .int .u8 50, .int .u8 10] 5 (4, 5))) (w2.heap.size + 1) (.slice (some ⟨w2.heap.size + 1, 0, none⟩) 4 4) [49, 32, 50, 10]) := S4
  have HM4 : Hid (((w2.alloc (.cells #[.int .i64 1, .int .i64 5, .int .i64 2, .int .i64 7, .string ⟨#[71, 69, 84]⟩, .string ⟨#[47, 97]⟩, .int .i64 200, .int .i64 1, .int .i64 30] 23)).alloc (.cells #[.int .u8 49, .int .u8 32, .int .u8 50, .int .u8 10] 5 (4, 5))).heap[w2.heap.size]? = some (.cells #[.int .i64 1, .int .i64 5, .int .i64 2, .int .i64 7, .string ⟨#[71, 69, 84]⟩, .string ⟨#[47, 97]⟩, .int .i64 200, .int .i64 1, .int .i64 30] 23)) := M4
  have HN4 : Hid (((w2.alloc (.cells #[.int .i64 1, .int .i64 5, .int .i64 2, .int .i64 7, .string ⟨#[71, 69, 84]⟩, .string ⟨#[47, 97]⟩, .int .i64 200, .int .i64 1, .int .i64 30] 23)).alloc (.cells #[.int .u8 49, .int .u8 32, .int .u8 50, .int .u8 10] 5 (4, 5))).heap[w.heap.size]? = some (.cells #[.int .i64 1, .int .i64 5, .int .i64 2, .int .i64 7, .string ⟨#[71, 69, 84]⟩, .string ⟨#[47, 97]⟩, .int .i64 200, .int .i64 1, .int .i64 30] 23)) := N4
  clear S1 S2 S24 S4 N1 N2 B2 B3 M3 B4 M4 N4 D1 D2 D4 k1 k2 s3
  go_wp2_with fail
  refine (HR2.out _ (HA.out _ HD4.out) _ _ _ HS4.out k4).mono ?_
  rintro r w5 ⟨rfl, B5⟩
  have D5 := HD4.out.trans (B5.mono HD4.out.size)
  have N5 := tblk_below HN4.out B5
  have M5 := tblk_below HM4.out B5
  have S5 := HS24.out.keep (fun _ => hk4) B5
  have k5 := Nat.lt_of_lt_of_le hk4 B5.size
  have B6 : Below w5.heap.size w5 (w5.alloc (.cells #[.int .i64 0, .int .i64 0, .int .i64 0, .int .i64 0, .string ⟨#[]⟩, .string ⟨#[]⟩, .int .i64 0, .int .i64 0, .int .i64 0] 23)) := (Below.refl _ _).alloc (Nat.le_refl _) _
  have D6 := D5.trans (B6.mono D5.size)
  have S6 := S5.keep (fun _ => k5) B6
  have k6 := Nat.lt_of_lt_of_le k5 B6.size
  have N6 := tblk_below N5 B6
  have M6 := tblk_below M5 B6
  clear HS24 HD4 HS4 HM4 HN4 B5 D5 N5 M5 S5 k5 B6 k4 hk4 hcs
  go_wp2_with fail
  generalize (w5.alloc (.cells #[.int .i64 0, .int .i64 0, .int .i64 0, .int .i64 0, .string ⟨#[]⟩, .string ⟨#[]⟩, .int .i64 0, .int .i64 0, .int .i64 0] 23)) = w6 at *
  refine (HAL.out _ (HA.out _ D6) _ _ _ S6 k6).mono ?_
  rintro r w7 ⟨va, vc, rfl, B7⟩
  have D7 := D6.trans (B7.mono D6.size)
  have N7 := tblk_below N6 B7
  have M7 := tblk_below M6 B7
  have S7 := S6.keep (fun _ => k6) B7
  have hcv : (convert 25 9 (.slice a 24 c)).run Tryd.prog w7 = .ok (.string ⟨#[49, 32, 53, 32, 50, 32, 55, 32, 71, 69, 84, 32, 47, 97, 32, 50, 48, 48, 32, 49, 32, 51, 48, 10]⟩) w7 := conv_all S7
  obtain ⟨n0, n1, n2, n3, n4, n5, n6, n7, n8⟩ := cells9 N7
  obtain ⟨m0, m1, m2, m3, m4, m5, m6, m7, m8⟩ := cells9 M7
  have HD7 : Hid (Below w.heap.size w w7) := D7
  have HN7 : Hid (w7.heap[w.heap.size]? = some (.cells #[.int .i64 1, .int .i64 5, .int .i64 2, .int .i64 7, .string ⟨#[71, 69, 84]⟩, .string ⟨#[47, 97]⟩, .int .i64 200, .int .i64 1, .int .i64 30] 23)) := N7
  clear D6 N6 M6 S6 k6 B7 D7 S7 N7 M7
  go_wp2_with fail
  refine (HG.out _ (HA.out _ HD7.out)).mono ?_
  rintro r w8 ⟨rfl, B8⟩
  have D8 := HD7.out.trans (B8.mono HD7.out.size)
  clear n0 n1 n2 n3 n4 n5 n6 n7 n8 m0 m1 m2 m3 m4 m5 m6 m7 m8 hcv
  go_wp2_with fail
  refine (HZ.out _ (HA.out _ D8)).mono ?_
  rintro r w9 ⟨rfl, B9⟩
  have D9 := D8.trans (B9.mono D8.size)
  go_wp2
  go_ret
  exact ⟨rfl, D9⟩
end Go.Proofs.YtdibldocfhpnkaaDoor
