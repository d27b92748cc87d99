/- PoolRows, walked. -/
import Derived.Test.YtgaapemkiognlaaHlD
namespace Go.Proofs.Ytgaapemkiognlaa
open Go.RowKit
set_option linter.unusedVariables false

theorem max_run (x y z : Int) (h : max x y = z) (W : World) (ts : Array TypeId) (t : TypeId) : (Builtin.max_ ts t #[.int .i64 x, .int .i64 y]).run Try.prog W = .ok (.int .i64 z) W := by
  rw [run_max_int2, ← h]
  congr 2
  split <;> omega
theorem min_run (x y z : Int) (h : min x y = z) (W : World) (ts : Array TypeId) (t : TypeId) : (Builtin.min_ ts t #[.int .i64 x, .int .i64 y]).run Try.prog W = .ok (.int .i64 z) W := by
  rw [run_min_int2, ← h]
  congr 2
  split <;> omega
theorem and_mask (n : Int) (m : Nat) (hm : m < 9223372036854775808) : ∃ k : Nat, k ≤ m ∧ bits .and .i64 n (m : Int) = (k : Int) := by
  have h2 : (BitVec.ofInt 64 (m : Int)).toNat = m := by
    rw [BitVec.ofInt_natCast, BitVec.toNat_ofNat]; exact Nat.mod_eq_of_lt (by omega)
  have hk : (BitVec.ofInt 64 n &&& BitVec.ofInt 64 (m : Int)).toNat ≤ m := by
    rw [BitVec.toNat_and, h2]; exact Nat.and_le_right
  refine ⟨(BitVec.ofInt 64 n &&& BitVec.ofInt 64 (m : Int)).toNat, hk, ?_⟩
  show IntKind.i64.wrap ((BitVec.ofInt 64 n &&& BitVec.ofInt 64 (m : Int)).toNat : Int) = _
  rw [IntKind.wrap_i64]
  generalize (BitVec.ofInt 64 n &&& BitVec.ofInt 64 (m : Int)).toNat = k at *
  omega
theorem dec_add (nw : Int) (co : Nat) : decide (nw < nw + (co : Int)) = decide (0 < (co : Int)) := by
  by_cases k : 0 < (co : Int)
  · rw [decide_eq_true k]; exact decide_eq_true (by omega)
  · rw [decide_eq_false k]; exact decide_eq_false (by omega)
theorem dec_nat (co : Nat) : decide (0 < co) = decide (0 < (co : Int)) := by
  by_cases k : 0 < co
  · rw [decide_eq_true k]; exact (decide_eq_true (by omega)).symm
  · rw [decide_eq_false k]; exact (decide_eq_false (by omega)).symm
def confC (fl co : Int) : List Value := [.slice none 0 0, .slice none 0 0, .slice none 0 0, .slice none 0 0, .int .i64 0, .int .i64 0, .int .i64 fl, .int .i64 co]
/-- The state: health and a configuration. -/
structure RS (W : World) (h a b c n : Nat) (t f : KS → Int) (q : BF) (cb : Nat) (fl co : Int) (w : World) : Prop where
  hl : HL W h a b c n t f q
  cf : ∀ i v, (confC fl co)[i]? = some v → W.cell? ⟨cb, i, none⟩ = some v
  be : Below w.heap.size w W
  ba : w.heap.size ≤ a
  bb : w.heap.size ≤ b
  bc : w.heap.size ≤ c
theorem RS.bel {W W' : World} {h a b c n : Nat} {t f : KS → Int} {q : BF} {cb : Nat} {fl co : Int} {w : World} (s : RS W h a b c n t f q cb fl co w) (k : Below W.heap.size W W') : RS W' h a b c n t f q cb fl co w :=
  ⟨s.hl.keep k, fun i v hv => (k.cell (p := ⟨cb, i, none⟩) (cellT_lt (s.cf i v hv))).trans (s.cf i v hv), s.be.trans (k.mono s.be.size), s.ba, s.bb, s.bc⟩
theorem RS.frm {W W' : World} {h a b c n n' : Nat} {t f t' f' : KS → Int} {q q' : BF} {cb : Nat} {fl co : Int} {w : World} (s : RS W h a b c n t f q cb fl co w) (k : FrM a b c W W') (H : HL W' h a b c n' t' f' q') : RS W' h a b c n' t' f' q' cb fl co w :=
  ⟨H, fun i v hv => cell_frm s.hl k (s.cf i v hv), s.be.trans (k.below s.ba s.bb s.bc s.be.size), s.ba, s.bb, s.bc⟩
theorem RS.cs {W : World} {h a b c n : Nat} {t f : KS → Int} {q : BF} {cb : Nat} {fl co : Int} {w : World} (s : RS W h a b c n t f q cb fl co w) : W.cell? ⟨cb, 0, none⟩ = some (.slice none 0 0) ∧ W.cell? ⟨cb, 1, none⟩ = some (.slice none 0 0) ∧ W.cell? ⟨cb, 2, none⟩ = some (.slice none 0 0) ∧ W.cell? ⟨cb, 3, none⟩ = some (.slice none 0 0) ∧ W.cell? ⟨cb, 4, none⟩ = some (.int .i64 0) ∧ W.cell? ⟨cb, 5, none⟩ = some (.int .i64 0) ∧ W.cell? ⟨cb, 6, none⟩ = some (.int .i64 fl) ∧ W.cell? ⟨cb, 7, none⟩ = some (.int .i64 co) :=
  ⟨s.cf 0 _ rfl, s.cf 1 _ rfl, s.cf 2 _ rfl, s.cf 3 _ rfl, s.cf 4 _ rfl, s.cf 5 _ rfl, s.cf 6 _ rfl, s.cf 7 _ rfl⟩
theorem rsick_at {W : World} {h a b c n : Nat} {t f : KS → Int} {q : BF} {cb : Nat} {fl co : Int} {w : World} (s : RS W h a b c n t f q cb fl co w) (k : KS) (now : Int) (hk : k.size ≤ 281474976710656) (hnow : InR now) (r : Bool) (hr : sickB (q k) now = r) :
    Calls Try.prog 33 #[.pointer (some ⟨h, 0, none⟩), .string k, .int .i64 now] W fun e W' => e = .returned (.bool r) ∧ RS W' h a b c n t f q cb fl co w := by
  refine (hlsick_any k now h a b c n t f q W s.hl (by unfold maxLen; omega) hnow).mono ?_
  rintro e W' ⟨rfl, k⟩
  exact ⟨by rw [hr], s.bel k⟩
theorem rbadno_at {W : World} {h a b c n : Nat} {t f : KS → Int} {q : BF} {cb : Nat} {fl co : Int} {w : World} (s : RS W h a b c n t f q cb fl co w) (k : KS) (now : Int) (hk : k.size ≤ 281474976710656) (hn : n ≤ 1000000) (hf : 0 ≤ f k ∧ f k ≤ 1000000) (hlt : f k + 1 < fl) :
    Calls Try.prog 30 #[.pointer (some ⟨h, 0, none⟩), .string k, .int .i64 now, confV fl co] W fun e W' => e = .returned (.bool false) ∧ RS W' h a b c (n + 1) t (upd f k (f k + 1)) q cb fl co w := by
  refine (hlbad_no k now fl co h a b c n t f q W s.hl hk hn hf hlt).mono ?_
  rintro e W' ⟨rfl, H, F⟩
  exact ⟨rfl, s.frm F H⟩
theorem rbadyes_at {W : World} {h a b c n : Nat} {t f : KS → Int} {q : BF} {cb : Nat} {fl co : Int} {w : World} (s : RS W h a b c n t f q cb fl co w) (k : KS) (now : Int) (hk : k.size ≤ 281474976710656) (hn : n ≤ 1000000) (hf : 0 ≤ f k ∧ f k ≤ 1000000) (hlt : ¬ f k + 1 < fl) (hnow : InR now) (hco : InR co) :
    Calls Try.prog 30 #[.pointer (some ⟨h, 0, none⟩), .string k, .int .i64 now, confV fl co] W fun e W' => e = .returned (.bool true) ∧ RS W' h a b c (n + 1) t (upd f k 0) (upd q k (some (now, co))) cb fl co w := by
  refine (hlbad_yes k now fl co h a b c n t f q W s.hl hk hn hf hlt hnow hco).mono ?_
  rintro e W' ⟨rfl, H, F⟩
  exact ⟨rfl, s.frm F H⟩
theorem rgood_at {W : World} {h a b c n : Nat} {t f : KS → Int} {q : BF} {cb : Nat} {fl co : Int} {w : World} (s : RS W h a b c n t f q cb fl co w) (k : KS) (hk : k.size ≤ 281474976710656) :
    Calls Try.prog 31 #[.pointer (some ⟨h, 0, none⟩), .string k] W fun e W' => e = .returned (.tuple #[]) ∧ RS W' h a b c n t (upd f k 0) q cb fl co w := by
  refine (hlgood_any k h a b c n t f q W s.hl (by unfold maxLen; omega)).mono ?_
  rintro e W' ⟨rfl, H, F⟩
  exact ⟨rfl, s.frm F H⟩
/-- Behind i - 1 fails. -/
def L3 (F : Nat) (nw co : Int) (i n : Nat) (f : KS → Int) (q : BF) : Prop := n ≤ 100 + i ∧ ((i ≤ F ∧ f kA = (i : Int) - 1 ∧ q = fun _ => none) ∨ (i = F + 1 ∧ f kA = 0 ∧ q = upd (fun _ => none) kA (some (nw, co))))
set_option maxRecDepth 100000 in
set_option maxHeartbeats 4000000 in
theorem rows_walk (x0 x1 x2 x3 : Int) (w : World) : Calls Try.prog 8 #[.int .i64 x0, .int .i64 x1, .int .i64 x2, .int .i64 x3] w fun e w' => e = .returned (.bool true) ∧ Below w.heap.size w w' := by
  have HCA := hidE (fun W => caring_any W)
  have HN := hidE (fun W => hlnew_any W)
  obtain ⟨k0, hk0, hb0⟩ := and_mask x0 15 (by decide)
  obtain ⟨gg, hk1, hb1⟩ := and_mask x1 3 (by decide)
  obtain ⟨co, hk2, hb2⟩ := and_mask x2 1023 (by decide)
  have hb0' : bits BinOp.and IntKind.i64 x0 15 = (k0 : Int) := hb0
  have hb1' : bits BinOp.and IntKind.i64 x1 3 = (gg : Int) := hb1
  have hb2' : bits BinOp.and IntKind.i64 x2 1023 = (co : Int) := hb2
  obtain ⟨F, hF⟩ : ∃ F : Nat, F = 1 + k0 := ⟨_, rfl⟩
  have hw1 : IntKind.i64.wrap (1 + (k0 : Int)) = (F : Int) := by rw [hF, IntKind.wrap_i64]; omega
  have hF1 : 1 ≤ F := by omega
  have hF2 : F ≤ 16 := by omega
  obtain ⟨m0, hm0⟩ : ∃ m0, max x3 0 = m0 := ⟨_, rfl⟩
  obtain ⟨nw, hnw⟩ : ∃ r, min m0 1099511627776 = r := ⟨_, rfl⟩
  have X0 := max_run x3 0 m0 hm0
  have X1 := min_run m0 1099511627776 nw hnw
  have hn0 : 0 ≤ nw := by omega
  have hn1 : nw ≤ 1099511627776 := by omega
  have HIN : Hid (InR nw ∧ InR (co : Int) ∧ InR (nw + (co : Int))) := by show _ ∧ _ ∧ _; unfold InR; omega
  clear hb0 hb1 hb2 hF hk0 hm0 hnw
  go_enter Try.func8, Try.ntmps8
  go_wp2_with fail
  refine (HCA.out _).mono ?_
  rintro e w1 ⟨rfl, B1⟩
  clear HCA
  have BA : Below w1.heap.size w1 (w1.alloc (.cells #[.slice none 0 0, .slice none 0 0, .slice none 0 0, .slice none 0 0, .int .i64 0, .int .i64 0, .int .i64 (F : Int), .int .i64 (co : Int)] 62)) := (Below.refl _ _).alloc (Nat.le_refl _) _
  have tb := tblk_new w1 (.cells #[.slice none 0 0, .slice none 0 0, .slice none 0 0, .slice none 0 0, .int .i64 0, .int .i64 0, .int .i64 (F : Int), .int .i64 (co : Int)] 62)
  have HB2 : Hid (Below w.heap.size w (w1.alloc (.cells #[.slice none 0 0, .slice none 0 0, .slice none 0 0, .slice none 0 0, .int .i64 0, .int .i64 0, .int .i64 (F : Int), .int .i64 (co : Int)] 62))) := B1.trans (BA.mono B1.size)
  have HTB := hidE tb
  have hsz : Hid (w1.heap.size < (w1.alloc (.cells #[.slice none 0 0, .slice none 0 0, .slice none 0 0, .slice none 0 0, .int .i64 0, .int .i64 0, .int .i64 (F : Int), .int .i64 (co : Int)] 62)).heap.size) := by show _ < _; simp
  clear BA tb B1
  go_wp2_with fail
  refine (HN.out _).mono ?_
  rintro e w3 ⟨rfl, H3, B3⟩
  generalize (w1.alloc (.cells #[.slice none 0 0, .slice none 0 0, .slice none 0 0, .slice none 0 0, .int .i64 0, .int .i64 0, .int .i64 (F : Int), .int .i64 (co : Int)] 62)) = w2 at *
  have HR0 : Hid (RS w3 (w2.heap.size + 3) w2.heap.size (w2.heap.size + 1) (w2.heap.size + 2) 0 (fun _ => 0) (fun _ => 0) (fun _ => none) w1.heap.size (F : Int) (co : Int) w) :=
    ⟨H3, fun i v hv => tblk_cell ((B3.block _ hsz.out).trans HTB.out) (by rw [← hv, confC]; simp [← Array.getElem?_toList]), HB2.out.trans (B3.mono HB2.out.size), HB2.out.size, by have := HB2.out.size; omega, by have := HB2.out.size; omega⟩
  clear H3 B3 HTB hsz HB2 HN
  generalize w2.heap.size + 3 = h at *
  generalize w2.heap.size + 1 = b at *
  generalize w2.heap.size + 2 = c at *
  generalize w2.heap.size = a at *
  generalize w1.heap.size = cb at *
  go_wp2_with fail
  go_loopw [11] (fun vk wr => ∃ (k n : Nat) (f : KS → Int), k ≤ gg ∧ vk = .int .i64 k ∧ Hid (RS wr h a b c n (fun _ => 0) f (fun _ => none) cb (F : Int) (co : Int) w) ∧ Hid (f kA = 0 ∧ n ≤ 20 * k)) (fun vk _ => gg - (intOf vk).toNat)
  case atStart => exact ⟨0, 0, _, Nat.zero_le _, rfl, HR0, rfl, Nat.le_refl _⟩
  case round =>
    clear HR0
    obtain ⟨k, n, f, hk, rfl, HR, HI⟩ := hrel
    by_cases hlt : k < gg
    · have m1 : (k : Int) < gg := by omega
      go_wp2_with fail
      go_loopw [12] (fun vi wr => ∃ (i n : Nat) (f : KS → Int), i ≤ F - 1 ∧ vi = .int .i64 i ∧ Hid (RS wr h a b c n (fun _ => 0) f (fun _ => none) cb (F : Int) (co : Int) w) ∧ Hid (f kA = (i : Int) ∧ n ≤ 20 * k + i)) (fun vi _ => F - (intOf vi).toNat)
      case atStart => exact ⟨0, n, f, Nat.zero_le _, rfl, HR, HI.out.1, HI.out.2⟩
      case round =>
        clear HR HI
        obtain ⟨i, n, f, hi, rfl, HR, HI⟩ := hrel
        have hsub : IntKind.i64.wrap ((F : Int) - 1) = (F : Int) - 1 := by rw [IntKind.wrap_i64]; omega
        by_cases hlt2 : i < F - 1
        · have m2 : decide ((i : Int) < (F : Int) - 1) = true := decide_eq_true (by omega)
          have m3 : (i : Int) < (F : Int) - 1 := by omega
          obtain ⟨q0, q1, q2, q3, q4, q5, q6, q7⟩ := HR.out.cs
          have hi1 := HI.out
          have HBD := hidE (rbadno_at HR.out kA nw (by decide) (by omega) (by rw [hi1.1]; omega) (by rw [hi1.1]; omega))
          have HI2 : Hid (upd f kA (f kA + 1) kA = ((i + 1 : Nat) : Int) ∧ n + 1 ≤ 20 * k + (i + 1)) := ⟨by rw [upd_same, hi1.1]; rfl, by omega⟩
          clear hi1
          go_wp2_with fail
          refine HBD.out.mono ?_
          rintro e w5 ⟨rfl, R5⟩
          have HR5 := hidE R5
          clear HBD R5 q0 q1 q2 q3 q4 q5 q6 q7 HR HI
          go_wp2
          go_roundw
          case rel => exact ⟨i + 1, n + 1, _, by omega, by go_num, HR5, HI2⟩
          case measure => simp [intOf]; omega
        · obtain rfl : i = F - 1 := by omega
          have m2 : decide (((F - 1 : Nat) : Int) < (F : Int) - 1) = false := decide_eq_false (by omega)
          have m3 : ¬ ((F - 1 : Nat) : Int) < (F : Int) - 1 := by omega
          have HGD := hidE (rgood_at HR.out kA (by decide))
          have HI2 : Hid (upd f kA 0 kA = 0 ∧ n ≤ 20 * (k + 1)) := ⟨upd_same _ _ _, by have := HI.out.2; omega⟩
          generalize hFF : F - 1 = FF at *
          clear hFF
          go_wp2_with fail
          refine HGD.out.mono ?_
          rintro e w5 ⟨rfl, R5⟩
          have HR5 := hidE R5
          clear HGD R5 HR HI
          go_wp2
          go_roundw
          case rel => exact ⟨k + 1, n, _, by omega, by go_num, HR5, HI2⟩
          case measure => simp [intOf]; omega
    · obtain rfl : k = gg := by omega
      go_wp2_with fail
      go_loopw [13] (fun vi wr => ∃ (i n : Nat) (f : KS → Int) (q : BF), 1 ≤ i ∧ i ≤ F + 1 ∧ vi = .int .i64 i ∧ Hid (RS wr h a b c n (fun _ => 0) f q cb (F : Int) (co : Int) w) ∧ Hid (L3 F nw (co : Int) i n f q)) (fun vi _ => F + 2 - (intOf vi).toNat)
      case atStart => exact ⟨1, n, f, _, Nat.le_refl _, by omega, rfl, HR, by have := HI.out.2; omega, .inl ⟨hF1, by rw [HI.out.1]; rfl, rfl⟩⟩
      case round =>
        clear HR HI
        obtain ⟨i, n, f, q, hi1, hi2, rfl, HR, HI⟩ := hrel
        by_cases hlt2 : i ≤ F
        · have m2 : (i : Int) ≤ (F : Int) := by omega
          obtain ⟨hn, hf, rfl⟩ : n ≤ 100 + i ∧ f kA = (i : Int) - 1 ∧ q = fun _ => none := by
            obtain ⟨hn, ⟨_, hf, hq⟩ | ⟨h2, _⟩⟩ := HI.out
            · exact ⟨hn, hf, hq⟩
            · omega
          have HS := hidE (rsick_at HR.out kA nw (by decide) HIN.out.1 false rfl)
          have hFI := hidE hf
          clear hf HI HR
          go_wp2_with fail
          refine HS.out.mono ?_
          rintro e w5 ⟨rfl, R5⟩
          have HR5 := hidE R5
          obtain ⟨q0, q1, q2, q3, q4, q5, q6, q7⟩ := R5.cs
          clear HS R5
          by_cases hl : i < F
          · have HBD := hidE (rbadno_at HR5.out kA nw (by decide) (by omega) (by rw [hFI.out]; omega) (by rw [hFI.out]; omega))
            have HI2 : Hid (L3 F nw (co : Int) (i + 1) (n + 1) (upd f kA (f kA + 1)) fun _ => none) := ⟨by omega, .inl ⟨by omega, by rw [upd_same, hFI.out]; omega, rfl⟩⟩
            have m4 : ((i : Int) == (F : Int)) = false := by simp; omega
            clear hFI
            go_wp2_with fail
            refine HBD.out.mono ?_
            rintro e w6 ⟨rfl, R6⟩
            have HR6 := hidE R6
            clear HBD R6 HR5 q0 q1 q2 q3 q4 q5 q6 q7
            go_wp2
            go_roundw
            case rel => exact ⟨i + 1, n + 1, _, _, by omega, by omega, by go_num, HR6, HI2⟩
            case measure => simp [intOf]; omega
          · obtain rfl : i = F := by omega
            have HBD := hidE (rbadyes_at HR5.out kA nw (by decide) (by omega) (by rw [hFI.out]; omega) (by rw [hFI.out]; omega) HIN.out.1 HIN.out.2.1)
            have HI2 : Hid (L3 i nw (co : Int) (i + 1) (n + 1) (upd f kA 0) (upd (fun _ => none) kA (some (nw, (co : Int))))) := ⟨by omega, .inr ⟨rfl, upd_same _ _ _, rfl⟩⟩
            clear hFI
            go_wp2_with fail
            refine HBD.out.mono ?_
            rintro e w6 ⟨rfl, R6⟩
            have HR6 := hidE R6
            clear HBD R6 HR5 q0 q1 q2 q3 q4 q5 q6 q7
            go_wp2
            go_roundw
            case rel => exact ⟨i + 1, n + 1, _, _, by omega, by omega, by go_num, HR6, HI2⟩
            case measure => simp [intOf] <;> omega
        · obtain rfl : i = F + 1 := by omega
          obtain ⟨hn, hf, rfl⟩ : n ≤ 100 + (F + 1) ∧ f kA = 0 ∧ q = upd (fun _ => none) kA (some (nw, (co : Int))) := by
            obtain ⟨hn, ⟨h2, _⟩ | ⟨_, hf, hq⟩⟩ := HI.out
            · omega
            · exact ⟨hn, hf, hq⟩
          have m2 : ¬ ((F + 1 : Nat) : Int) ≤ (F : Int) := by omega
          obtain ⟨r1, hr1⟩ : ∃ r1, r1 = decide (0 < (co : Int)) := ⟨_, rfl⟩
          have HS1 := hidE (rsick_at HR.out kA nw (by decide) HIN.out.1 r1 (by rw [upd_same, hr1]; exact dec_add nw co))
          have hr1' : decide (0 < (co : Int)) = r1 := hr1.symm
          have hr2' : decide (0 < co) = r1 := by rw [hr1]; exact dec_nat co
          have HFK := hidE hf
          have HN3 : Hid (n ≤ 1000) := by show _ ≤ _; omega
          obtain ⟨lt, hlt3⟩ : ∃ lt, lt = nw + (co : Int) := ⟨_, rfl⟩
          have f1 : IntKind.i64.wrap (nw + (co : Int)) = lt := by rw [hlt3, IntKind.wrap_i64]; omega
          have HLT := hidE hlt3
          clear hr1 hf HI hn hlt3
          generalize hF3 : F + 1 = F3 at *
          clear hF3
          go_wp2_with fail
          refine HS1.out.mono ?_
          rintro e w5 ⟨rfl, R5⟩
          have HS2 := hidE (rsick_at R5 kA lt (by decide) (by rw [HLT.out]; exact HIN.out.2.2) false (by rw [upd_same, HLT.out]; exact decide_eq_false (Int.lt_irrefl _)))
          clear HS1 R5 HR
          go_wp2_with fail
          refine HS2.out.mono ?_
          rintro e w6 ⟨rfl, R6⟩
          have HS3 := hidE (rsick_at R6 kB nw (by decide) HIN.out.1 false (by rw [upd_other _ _ (fun e => kab e.symm)]; rfl))
          clear HS2 R6
          go_wp2_with fail
          refine HS3.out.mono ?_
          rintro e w7 ⟨rfl, R7⟩
          have HR7 := hidE R7
          obtain ⟨q0, q1, q2, q3, q4, q5, q6, q7⟩ := R7.cs
          clear HS3 R7
          by_cases hone : F = 1
          · have HBD := hidE (rbadyes_at HR7.out kA lt (by decide) (by have := HN3.out; omega) (by rw [HFK.out]; omega) (by rw [HFK.out, hone]; decide) (by rw [HLT.out]; exact HIN.out.2.2) HIN.out.2.1)
            have m4 : ((F : Int) == 1) = true := by rw [hone]; rfl
            clear hone
            go_wp2_with fail
            refine HBD.out.mono ?_
            rintro e w8 ⟨rfl, R8⟩
            have HB8 := hidE R8.be
            clear HBD R8 HR7 q0 q1 q2 q3 q4 q5 q6 q7
            go_wp2
            go_ret
            exact ⟨by simp, HB8.out⟩
          · have HBD := hidE (rbadno_at HR7.out kA lt (by decide) (by have := HN3.out; omega) (by rw [HFK.out]; omega) (by rw [HFK.out]; omega))
            have m4 : ((F : Int) == 1) = false := by simp; omega
            clear hone
            go_wp2_with fail
            refine HBD.out.mono ?_
            rintro e w8 ⟨rfl, R8⟩
            have HB8 := hidE R8.be
            clear HBD R8 HR7 q0 q1 q2 q3 q4 q5 q6 q7
            go_wp2
            go_ret
            exact ⟨by simp, HB8.out⟩
end Go.Proofs.Ytgaapemkiognlaa
