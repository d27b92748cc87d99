/- A health of one's own beside a configuration; masks, min and max. -/
import Derived.Test.YtlaigjapnmgjeaaHlD
namespace Go.Proofs.Ytlaigjapnmgjeaa
open Go.RowKit
set_option linter.unusedVariables false

theorem max_run (x y z : Int) (h : max x y = z) (W : World) (ts : Array TypeId) (t : TypeId) : (Builtin.max_ ts t #[.int .i64 x, .int .i64 y]).run Try.prog W = .ok (.int .i64 z) W := by
  rw [run_max_int2, ← h]
  congr 2
  split <;> omega
theorem min_run (x y z : Int) (h : min x y = z) (W : World) (ts : Array TypeId) (t : TypeId) : (Builtin.min_ ts t #[.int .i64 x, .int .i64 y]).run Try.prog W = .ok (.int .i64 z) W := by
  rw [run_min_int2, ← h]
  congr 2
  split <;> omega
theorem and_mask (n : Int) (m : Nat) (hm : m < 9223372036854775808) : ∃ k : Nat, k ≤ m ∧ bits .and .i64 n (m : Int) = (k : Int) := by
  have h2 : (BitVec.ofInt 64 (m : Int)).toNat = m := by
    rw [BitVec.ofInt_natCast, BitVec.toNat_ofNat]; exact Nat.mod_eq_of_lt (by omega)
  have hk : (BitVec.ofInt 64 n &&& BitVec.ofInt 64 (m : Int)).toNat ≤ m := by
    rw [BitVec.toNat_and, h2]; exact Nat.and_le_right
  refine ⟨(BitVec.ofInt 64 n &&& BitVec.ofInt 64 (m : Int)).toNat, hk, ?_⟩
  show IntKind.i64.wrap ((BitVec.ofInt 64 n &&& BitVec.ofInt 64 (m : Int)).toNat : Int) = _
  rw [IntKind.wrap_i64]
  generalize (BitVec.ofInt 64 n &&& BitVec.ofInt 64 (m : Int)).toNat = k at *
  omega
theorem dec_add (nw : Int) (co : Nat) : decide (nw < nw + (co : Int)) = decide (0 < (co : Int)) := by
  by_cases k : 0 < (co : Int)
  · rw [decide_eq_true k]; exact decide_eq_true (by omega)
  · rw [decide_eq_false k]; exact decide_eq_false (by omega)
theorem dec_nat (co : Nat) : decide (0 < co) = decide (0 < (co : Int)) := by
  by_cases k : 0 < co
  · rw [decide_eq_true k]; exact (decide_eq_true (by omega)).symm
  · rw [decide_eq_false k]; exact (decide_eq_false (by omega)).symm
def confC (fl co : Int) : List Value := [.slice none 0 0, .slice none 0 0, .slice none 0 0, .slice none 0 0, .int .i64 0, .int .i64 0, .int .i64 fl, .int .i64 co]
/-- The state: health and a configuration. -/
structure RS (W : World) (h a b c n : Nat) (t f : KS → Int) (q : BF) (cb : Nat) (fl co : Int) (w : World) : Prop where
  hl : HL W h a b c n t f q
  cf : ∀ i v, (confC fl co)[i]? = some v → W.cell? ⟨cb, i, none⟩ = some v
  be : Below w.heap.size w W
  ba : w.heap.size ≤ a
  bb : w.heap.size ≤ b
  bc : w.heap.size ≤ c
theorem RS.bel {W W' : World} {h a b c n : Nat} {t f : KS → Int} {q : BF} {cb : Nat} {fl co : Int} {w : World} (s : RS W h a b c n t f q cb fl co w) (k : Below W.heap.size W W') : RS W' h a b c n t f q cb fl co w :=
  ⟨s.hl.keep k, fun i v hv => (k.cell (p := ⟨cb, i, none⟩) (cellT_lt (s.cf i v hv))).trans (s.cf i v hv), s.be.trans (k.mono s.be.size), s.ba, s.bb, s.bc⟩
theorem RS.frm {W W' : World} {h a b c n n' : Nat} {t f t' f' : KS → Int} {q q' : BF} {cb : Nat} {fl co : Int} {w : World} (s : RS W h a b c n t f q cb fl co w) (k : FrM a b c W W') (H : HL W' h a b c n' t' f' q') : RS W' h a b c n' t' f' q' cb fl co w :=
  ⟨H, fun i v hv => cell_frm s.hl k (s.cf i v hv), s.be.trans (k.below s.ba s.bb s.bc s.be.size), s.ba, s.bb, s.bc⟩
theorem RS.cs {W : World} {h a b c n : Nat} {t f : KS → Int} {q : BF} {cb : Nat} {fl co : Int} {w : World} (s : RS W h a b c n t f q cb fl co w) : W.cell? ⟨cb, 0, none⟩ = some (.slice none 0 0) ∧ W.cell? ⟨cb, 1, none⟩ = some (.slice none 0 0) ∧ W.cell? ⟨cb, 2, none⟩ = some (.slice none 0 0) ∧ W.cell? ⟨cb, 3, none⟩ = some (.slice none 0 0) ∧ W.cell? ⟨cb, 4, none⟩ = some (.int .i64 0) ∧ W.cell? ⟨cb, 5, none⟩ = some (.int .i64 0) ∧ W.cell? ⟨cb, 6, none⟩ = some (.int .i64 fl) ∧ W.cell? ⟨cb, 7, none⟩ = some (.int .i64 co) :=
  ⟨s.cf 0 _ rfl, s.cf 1 _ rfl, s.cf 2 _ rfl, s.cf 3 _ rfl, s.cf 4 _ rfl, s.cf 5 _ rfl, s.cf 6 _ rfl, s.cf 7 _ rfl⟩
theorem rsick_at {W : World} {h a b c n : Nat} {t f : KS → Int} {q : BF} {cb : Nat} {fl co : Int} {w : World} (s : RS W h a b c n t f q cb fl co w) (k : KS) (now : Int) (hk : k.size ≤ 281474976710656) (hnow : InR now) (r : Bool) (hr : sickB (q k) now = r) :
    Calls Try.prog 29 #[.pointer (some ⟨h, 0, none⟩), .string k, .int .i64 now] W fun e W' => e = .returned (.bool r) ∧ RS W' h a b c n t f q cb fl co w := by
  refine (hlsick_any k now h a b c n t f q W s.hl (by unfold maxLen; omega) hnow).mono ?_
  rintro e W' ⟨rfl, k⟩
  exact ⟨by rw [hr], s.bel k⟩
theorem rbadno_at {W : World} {h a b c n : Nat} {t f : KS → Int} {q : BF} {cb : Nat} {fl co : Int} {w : World} (s : RS W h a b c n t f q cb fl co w) (k : KS) (now : Int) (hk : k.size ≤ 281474976710656) (hn : n ≤ 1000000) (hf : 0 ≤ f k ∧ f k ≤ 1000000) (hlt : f k + 1 < fl) :
    Calls Try.prog 26 #[.pointer (some ⟨h, 0, none⟩), .string k, .int .i64 now, confV fl co] W fun e W' => e = .returned (.bool false) ∧ RS W' h a b c (n + 1) t (upd f k (f k + 1)) q cb fl co w := by
  refine (hlbad_no k now fl co h a b c n t f q W s.hl hk hn hf hlt).mono ?_
  rintro e W' ⟨rfl, H, F⟩
  exact ⟨rfl, s.frm F H⟩
theorem rbadyes_at {W : World} {h a b c n : Nat} {t f : KS → Int} {q : BF} {cb : Nat} {fl co : Int} {w : World} (s : RS W h a b c n t f q cb fl co w) (k : KS) (now : Int) (hk : k.size ≤ 281474976710656) (hn : n ≤ 1000000) (hf : 0 ≤ f k ∧ f k ≤ 1000000) (hlt : ¬ f k + 1 < fl) (hnow : InR now) (hco : InR co) :
    Calls Try.prog 26 #[.pointer (some ⟨h, 0, none⟩), .string k, .int .i64 now, confV fl co] W fun e W' => e = .returned (.bool true) ∧ RS W' h a b c (n + 1) t (upd f k 0) (upd q k (some (now, co))) cb fl co w := by
  refine (hlbad_yes k now fl co h a b c n t f q W s.hl hk hn hf hlt hnow hco).mono ?_
  rintro e W' ⟨rfl, H, F⟩
  exact ⟨rfl, s.frm F H⟩
theorem rgood_at {W : World} {h a b c n : Nat} {t f : KS → Int} {q : BF} {cb : Nat} {fl co : Int} {w : World} (s : RS W h a b c n t f q cb fl co w) (k : KS) (hk : k.size ≤ 281474976710656) :
    Calls Try.prog 27 #[.pointer (some ⟨h, 0, none⟩), .string k] W fun e W' => e = .returned (.tuple #[]) ∧ RS W' h a b c n t (upd f k 0) q cb fl co w := by
  refine (hlgood_any k h a b c n t f q W s.hl (by unfold maxLen; omega)).mono ?_
  rintro e W' ⟨rfl, H, F⟩
  exact ⟨rfl, s.frm F H⟩
end Go.Proofs.Ytlaigjapnmgjeaa
