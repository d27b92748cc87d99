/- Two clocks; a row of numbers that grows by rows. -/
import Derived.Test.YtofnnphpogpcdaaClR
namespace Go.Proofs.Ytofnnphpogpcdaa
open Go.ChangeShapes Go.WideShapes Go.ChangeAt Go.RowKit
set_option linter.unusedVariables false

theorem and_mask (n : Int) (m : Nat) (hm : m < 9223372036854775808) : ∃ k : Nat, k ≤ m ∧ bits .and .i64 n (m : Int) = (k : Int) := by
  have h2 : (BitVec.ofInt 64 (m : Int)).toNat = m := by
    rw [BitVec.ofInt_natCast, BitVec.toNat_ofNat]; exact Nat.mod_eq_of_lt (by omega)
  have hk : (BitVec.ofInt 64 n &&& BitVec.ofInt 64 (m : Int)).toNat ≤ m := by
    rw [BitVec.toNat_and, h2]; exact Nat.and_le_right
  refine ⟨(BitVec.ofInt 64 n &&& BitVec.ofInt 64 (m : Int)).toNat, hk, ?_⟩
  show IntKind.i64.wrap ((BitVec.ofInt 64 n &&& BitVec.ofInt 64 (m : Int)).toNat : Int) = _
  rw [IntKind.wrap_i64]
  generalize (BitVec.ofInt 64 n &&& BitVec.ofInt 64 (m : Int)).toNat = k at *
  omega
/-- A row of numbers put behind. -/
theorem ow_append0 {B : Nat} {w : World} {v : Value} {l : List Int} (h : OwR 3 1 encI B w v l) (c : Nat) (hv : v ≠ .slice none 0 0) : (Builtin.append_ #[31, 31] 31 #[v, .slice none 0 c]).run Try.prog w = .ok v w := by
  obtain ⟨i, hi, hz0, hz1, hz2⟩ := gr_info infoI
  obtain ⟨h1, ⟨h2, h3⟩ | ⟨g, cp, cur, rfl, hB, hg, hlc, hm, hs, ht⟩⟩ := h
  · exact absurd h2 hv
  · have hle : l.length + 0 ≤ cp := hlc
    simp [Builtin.append_, run_underlying Try.underlying31, sizeOf, typeInfo, hi, Builtin.lenOf, hlc, Builtin.firstCells, storeCells]
theorem ow_appends {B : Nat} {w : World} {v : Value} {l r : List Int} {a : Option Addr} {c : Nat} (h : OwR 3 1 encI B w v l) (hv : v ≠ .slice none 0 0) (hr : RdR 1 encI w a c r) (hB : B ≤ w.heap.size) (hl : l.length ≤ 1000000) (hl2 : r.length ≤ 1000000) :
    ∃ v' w', (Builtin.append_ #[31, 31] 31 #[v, .slice a r.length c]).run Try.prog w = .ok v' w' ∧ OwR 3 1 encI B w' v' (l ++ r) ∧ v' ≠ .slice none 0 0 ∧ Below B w w' ∧ (v'.ownBlock = v.ownBlock ∨ ∃ g, v'.ownBlock = some g ∧ w.heap.size ≤ g) ∧ ∀ b, b < w.heap.size → v.ownBlock ≠ some b → w'.heap[b]? = w.heap[b]? := by
  rcases Nat.eq_zero_or_pos r.length with e | e
  · have e2 : r = [] := List.length_eq_zero_iff.1 e
    subst e2
    rw [List.append_nil]
    cases a with
    | none =>
      exact ⟨v, w, ow_append0 h c hv, h, hv, Below.refl _ _, .inl rfl, fun _ _ _ => rfl⟩
    | some ad =>
      obtain ⟨i, hi, hz0, hz1, hz2⟩ := gr_info infoI
      obtain ⟨v', w', hr', q1, q2, q3, q4⟩ := run_append_own_at (P := Try.prog) w B 31 31 3 i (.int .i64 0) 1 8 Try.underlying31 hi hz0 hz1 hz2 rfl (by decide) v l.length (enR encI l) h ad 0 c [] rfl (fun j u hj => by simp at hj) (fun v hv => by cases hv) (by unfold maxLen; omega) (by omega) hB
      refine ⟨v', w', hr', by rw [List.append_nil] at q1; exact q1, fun e => hv (q3.1 e).1, (Below.refl _ _).grown q2 hB (fun q hq => (World.ownsRow.lt h q hq).1), ?_, fun b hb hn => q2.block b hb (fun e => hn e.symm)⟩
      rcases q4 with q | q
      · exact .inl q
      · exact .inr ⟨_, q, Nat.le_refl _⟩
  · obtain ⟨g, off, rfl, hg, hc⟩ := hr.2.2.2 e
    obtain ⟨i, hi, hz0, hz1, hz2⟩ := gr_info infoI
    obtain ⟨v', w', hr', q1, q2, q3, q4⟩ := run_append_own_at (P := Try.prog) w B 31 31 3 i (.int .i64 0) 1 8 Try.underlying31 hi hz0 hz1 hz2 rfl (by decide) v l.length (enR encI l) h ⟨g, off, none⟩ r.length c (enR encI r) (enR_len EI r)
      (fun j u hj => by
        have hjl := (List.getElem?_eq_some_iff.1 hj).1
        rw [enR_len EI, Nat.mul_one] at hjl
        have x := hc j r[j] (List.getElem?_eq_getElem hjl) 0 (by decide)
        have y := enR_at EI r j r[j] (List.getElem?_eq_getElem hjl) 0 (by decide)
        rw [Nat.mul_one, Nat.add_zero] at x y
        rw [gr_add, x, ← y, hj]) (enR_one EI r) (by unfold maxLen; omega) (by omega) hB
    refine ⟨v', w', hr', ?_, fun e => hv (q3.1 e).1, (Below.refl _ _).grown q2 hB (fun q hq => (World.ownsRow.lt h q hq).1), ?_, fun b hb hn => q2.block b hb (fun e => hn e.symm)⟩
    · unfold OwR
      rw [List.length_append, enR_app]; exact q1
    · rcases q4 with q | q
      · exact .inl q
      · exact .inr ⟨_, q, Nat.le_refl _⟩
/-- Two clocks of one's own; the blocks of X are others. -/
structure C2 (w : World) (X : Nat → Prop) (c1 m1 c2 m2 n : Nat) (t1 t2 : Int) (L1 L2 : List Pr) (W : World) : Prop where
  x : ∃ S1 S2, CK S1 c1 m1 n t1 L1 W ∧ CK S2 c2 m2 n t2 L2 W ∧ (∀ k, S1 k → ¬ S2 k) ∧ (∀ k, S1 k ∨ S2 k → w.heap.size ≤ k ∧ ¬ X k)
  s : ∀ k, X k → k < W.heap.size
  b : Below w.heap.size w W
theorem C2.symm {w : World} {X : Nat → Prop} {c1 m1 c2 m2 n : Nat} {t1 t2 : Int} {L1 L2 : List Pr} {W : World} (h : C2 w X c1 m1 c2 m2 n t1 t2 L1 L2 W) : C2 w X c2 m2 c1 m1 n t2 t1 L2 L1 W := by
  obtain ⟨⟨S1, S2, a, b, c, d⟩, s, e⟩ := h
  exact ⟨⟨S2, S1, b, a, fun k hk hs => c k hs hk, fun k hk => d k hk.symm⟩, s, e⟩
theorem C2.step {w : World} {X : Nat → Prop} {c1 m1 c2 m2 n n' : Nat} {t1 t2 t1' : Int} {L1 L2 L1' : List Pr} {W : World} (h : C2 w X c1 m1 c2 m2 n t1 t2 L1 L2 W) (hn : n ≤ n') {f : FuncId} {args : Array Value} {P : Ending → World → Prop}
    (k : ∀ S, CK S c1 m1 n t1 L1 W → Calls Try.prog f args W fun e W' => P e W' ∧ ∃ S', CK S' c1 m1 n' t1' L1' W' ∧ CT S S' W W') :
    Calls Try.prog f args W fun e W' => P e W' ∧ C2 w X c1 m1 c2 m2 n' t1' t2 L1' L2 W' ∧ ∀ i, X i → W'.heap[i]? = W.heap[i]? := by
  obtain ⟨⟨S1, S2, a, b, c, d⟩, s, e⟩ := h
  refine (k S1 a).mono ?_
  rintro q W' ⟨hP, S', C, T⟩
  refine ⟨hP, ⟨⟨S', S2, C, (b.mono hn).keep T.c.size fun i hi hs => T.c.block i hi (fun x => c i x hs), fun i hi hs => ?_, fun i hi => ?_⟩, fun i hi => Nat.lt_of_lt_of_le (s i hi) T.c.size, e.trans (T.c.below (fun i hi => (d i (.inl hi)).1) e.size)⟩, fun i hi => T.c.block i (s i hi) (fun x => (d i (.inl x)).2 hi)⟩
  · rcases T.s i hi with x | x
    · exact c i x hs
    · have := b.lt i hs; omega
  · rcases hi with hi | hi
    · rcases T.s i hi with x | x
      · exact d i (.inl x)
      · exact ⟨Nat.le_trans e.size x, fun y => absurd (s i y) (by omega)⟩
    · exact d i (.inr hi)
theorem C2.bel {w : World} {X : Nat → Prop} {c1 m1 c2 m2 n : Nat} {t1 t2 : Int} {L1 L2 : List Pr} {W V : World} (h : C2 w X c1 m1 c2 m2 n t1 t2 L1 L2 W) (k : Below W.heap.size W V) : C2 w X c1 m1 c2 m2 n t1 t2 L1 L2 V := by
  obtain ⟨⟨S1, S2, a, b, c, d⟩, s, e⟩ := h
  exact ⟨⟨S1, S2, a.bel k, b.bel k, c, d⟩, fun i hi => Nat.lt_of_lt_of_le (s i hi) k.size, e.trans (k.mono e.size)⟩
/-- Other blocks turn, and others are meant. -/
theorem C2.turn {w : World} {X Y : Nat → Prop} {c1 m1 c2 m2 n : Nat} {t1 t2 : Int} {L1 L2 : List Pr} {W V : World} (h : C2 w X c1 m1 c2 m2 n t1 t2 L1 L2 W) (hx : ∀ k, X k → w.heap.size ≤ k) (k : CX X W V) (hy : ∀ i, Y i → (X i ∨ W.heap.size ≤ i) ∧ i < V.heap.size) : C2 w Y c1 m1 c2 m2 n t1 t2 L1 L2 V := by
  obtain ⟨⟨S1, S2, a, b, c, d⟩, s, e⟩ := h
  refine ⟨⟨S1, S2, a.keep k.size fun i hi hs => k.block i hi (d i (.inl hs)).2, b.keep k.size fun i hi hs => k.block i hi (d i (.inr hs)).2, c, fun i hi => ⟨(d i hi).1, fun y => ?_⟩⟩, fun i hi => (hy i hi).2, e.trans (k.below hx e.size)⟩
  rcases (hy i y).1 with x | x
  · exact (d i hi).2 x
  · rcases hi with hi | hi
    · have := a.lt i hi; omega
    · have := b.lt i hi; omega
theorem C2.new (w : World) : ∀ W, Below w.heap.size w W → Calls Try.prog 7 #[] W fun e w1 => ∃ c1 m1, e = .returned (.pointer (some ⟨c1, 0, none⟩)) ∧ Hid (Calls Try.prog 7 #[] w1 fun e w2 => ∃ c2 m2, e = .returned (.pointer (some ⟨c2, 0, none⟩)) ∧ C2 w (fun _ => False) c1 m1 c2 m2 0 0 0 [] [] w2) := by
  intro W hW
  refine (clnew_any W).mono ?_
  rintro e w1 ⟨rfl, C, B⟩
  refine ⟨W.heap.size + 1, W.heap.size, rfl, (clnew_any w1).mono ?_⟩
  rintro e w2 ⟨rfl, D, B2⟩
  have sz := C.lt
  refine ⟨_, _, rfl, ⟨⟨newS W, newS w1, C.bel B2, D, fun k hk hs => ?_, fun k hk => ⟨?_, fun x => x⟩⟩, fun k hk => hk.elim, (hW.trans (B.mono hW.size)).trans (B2.mono (Nat.le_trans hW.size B.size))⟩⟩
  · have := C.lt k hk
    have := hs.1
    omega
  · rcases hk with hk | hk
    · exact Nat.le_trans hW.size hk.1
    · exact Nat.le_trans (Nat.le_trans hW.size B.size) hk.1
theorem pass_pass {a b : Int} (hab : a ≤ b) : ∀ {L : List Pr}, L.Pairwise klt → passI b L = passI a L ++ passI b (passR a L) ∧ passR b (passR a L) = passR b L
  | [], _ => ⟨rfl, rfl⟩
  | p :: t, h => by
    by_cases c : p.2 ≤ a
    · obtain ⟨e1, e2⟩ := pass_pass hab (List.pairwise_cons.1 h).2
      rw [passI_cons (show p.2 ≤ b by omega), passI_cons c, passR_cons c, passR_cons (show p.2 ≤ b by omega), e1, e2]
      exact ⟨rfl, rfl⟩
    · obtain ⟨e1, e2⟩ := pass_stop h c
      rw [e1, e2]
      exact ⟨rfl, rfl⟩
end Go.Proofs.Ytofnnphpogpcdaa
