/- Clock: SameInts; a clock of one's own beside other blocks; the example. -/
import Derived.Test.YtofnnphpogpcdaaClN
namespace Go.Proofs.Ytofnnphpogpcdaa
open Go.RowKit
set_option linter.unusedVariables false

theorem RdR.i {w : World} {g off c : Nat} {l : List Int} (h : RdR 1 encI w (some ⟨g, off, none⟩) c l) (j : Nat) (hj : j < l.length) : w.cell? ⟨g, off + j, none⟩ = some (.int .i64 (l.getD j 0)) := by
  obtain ⟨g', off', e, _, hc⟩ := h.at (j := j) (x := l[j]) (List.getElem?_eq_getElem hj)
  injection e with e
  injection e with e1 e2
  subst e1 e2
  have := hc 0 (by decide)
  rw [Nat.mul_one, Nat.add_zero] at this
  rw [this, List.getD_eq_getElem?_getD, List.getElem?_eq_getElem hj]
  rfl
theorem take_next {xs ys : List Int} {i : Nat} (h : xs.take i = ys.take i) (hx : i < xs.length) (hy : i < ys.length) (e : xs.getD i 0 = ys.getD i 0) : xs.take (i + 1) = ys.take (i + 1) := by
  rw [List.getD_eq_getElem?_getD, List.getD_eq_getElem?_getD, List.getElem?_eq_getElem hx, List.getElem?_eq_getElem hy] at e
  rw [List.take_add_one, List.take_add_one, h, List.getElem?_eq_getElem hx, List.getElem?_eq_getElem hy]
  have e' : xs[i] = ys[i] := e
  rw [e']
set_option maxRecDepth 100000 in
set_option maxHeartbeats 1000000 in
theorem sameints_any (xs ys : List Int) (a b : Option Addr) (c d : Nat) (w : World) (hx : RdR 1 encI w a c xs) (hy : RdR 1 encI w b d ys) (r : Bool) (hr : decide (xs = ys) = r) :
    Calls Try.prog 10 #[.slice a xs.length c, .slice b ys.length d] w fun e w' => e = .returned (.bool r) ∧ ∃ n, w' = w.drewN n := by
  by_cases hl : xs.length = ys.length
  · have HX : Hid (∀ k, RdR 1 encI (w.drewN k) a c xs) := fun k => hx.move fun _ _ _ _ => rfl
    have HY : Hid (∀ k, RdR 1 encI (w.drewN k) b d ys) := fun k => hy.move fun _ _ _ _ => rfl
    have hb := hx.2.1
    have hb2 := hx.2.2.1
    have HR := hidE hr
    obtain ⟨n, hn⟩ : ∃ n, n = xs.length := ⟨_, rfl⟩
    have HN : Hid (xs.length = n ∧ ys.length = n) := ⟨hn.symm, by rw [← hl]; exact hn.symm⟩
    rw [← hl, ← hn]
    have HB : Hid (n ≤ maxLen) := by show n ≤ maxLen; omega
    clear hx hy hl hn hb hb2 hr
    go_enter Try.func10, Try.ntmps10
    go_wp2_with fail
    go_loopw [5] (fun vi wr => ∃ i k : Nat, i ≤ n ∧ vi = .int .i64 i ∧ Hid (xs.take i = ys.take i) ∧ Hid (wr = w.drewN k)) (fun vi _ => n - (intOf vi).toNat)
    case atStart => exact ⟨0, 0, Nat.zero_le _, rfl, rfl, by first | exact rfl | exact True.intro⟩
    case round =>
      obtain ⟨i, k, hi, rfl, HT, HW⟩ := hrel
      by_cases hlt : i < n
      · have hx := HX.out k
        have hy := HY.out k
        rw [← HW.out] at hx hy
        obtain ⟨g1, o1, rfl, q1, q2⟩ := hx.2.2.2 (by rw [HN.out.1]; omega)
        obtain ⟨g2, o2, rfl, q3, q4⟩ := hy.2.2.2 (by rw [HN.out.2]; omega)
        have x1 := hx.i i (by rw [HN.out.1]; exact hlt)
        have y1 := hy.i i (by rw [HN.out.2]; exact hlt)
        clear q1 q2 q3 q4
        have m1 : (0 : Int) ≤ i := by omega
        have m2 : (i : Int) < n := by omega
        have hmx : n ≤ 9223372036854775807 := by have := HB.out; unfold maxLen at this; omega
        have HXX := hidE (take_next HT.out (by rw [HN.out.1]; exact hlt) (by rw [HN.out.2]; exact hlt))
        have HNE : Hid (¬ xs.getD i 0 = ys.getD i 0 → r = false) := fun q => by
          have := HR.out
          rw [← this]
          exact decide_eq_false fun e => q (by rw [e])
        by_cases e : xs.getD i 0 = ys.getD i 0
        · have HT2 := hidE (HXX.out e)
          have d0 : (xs.getD i 0 != ys.getD i 0) = false := bne_eq_false_iff_eq.2 e
          clear HNE HXX hx hy e HT
          generalize xs.getD i 0 = xi at *
          generalize ys.getD i 0 = yi at *
          go_wp2_with fail
          go_quiet (fail)
          go_wp2
          go_roundw
          case rel => exact ⟨i + 1, k + nq, by omega, by go_num, HT2, by rw [HW.out]; exact World.drewN_drewN _ _ _⟩
          case measure => simp [intOf]; omega
        · have HF := hidE (HNE.out e)
          have d0 : (xs.getD i 0 != ys.getD i 0) = true := bne_iff_ne.2 e
          clear HNE HXX hx hy e HT
          generalize xs.getD i 0 = xi at *
          generalize ys.getD i 0 = yi at *
          go_wp2_with fail
          go_quiet (fail)
          go_wp2
          go_ret
          exact ⟨by rw [HF.out] <;> rfl, k + nq, by rw [HW.out]; exact World.drewN_drewN _ _ _⟩
      · obtain rfl : i = n := by omega
        have HF : Hid (r = true) := by
          have := HT.out
          rw [List.take_of_length_le (by rw [HN.out.1]; exact Nat.le_refl _), List.take_of_length_le (by rw [HN.out.2]; exact Nat.le_refl _)] at this
          rw [Hid, ← HR.out]
          exact decide_eq_true this
        clear hlt HT
        go_wp2
        go_ret
        exact ⟨by rw [HF.out] <;> rfl, k, HW.out⟩
  · have d0 : ((xs.length : Int) != (ys.length : Int)) = true := bne_iff_ne.2 (by omega)
    have HF : Hid (r = false) := by rw [Hid, ← hr]; exact decide_eq_false fun e => hl (by rw [e])
    clear hx hy hl hr
    generalize xs.length = n at *
    generalize ys.length = m at *
    go_enter Try.func10, Try.ntmps10
    go_wp2
    go_ret
    exact ⟨by rw [HF.out] <;> rfl, 0, rfl⟩
/-- A clock of one's own; the blocks of X are others. -/
def CB (w : World) (X : Nat → Prop) (cb mk n : Nat) (now : Int) (L : List Pr) (W : World) : Prop := ∃ S, CK S cb mk n now L W ∧ (∀ k, S k → w.heap.size ≤ k ∧ ¬ X k) ∧ (∀ k, X k → k < W.heap.size) ∧ Below w.heap.size w W
theorem CB.be {w : World} {X : Nat → Prop} {cb mk n : Nat} {now : Int} {L : List Pr} {W : World} (h : CB w X cb mk n now L W) : Below w.heap.size w W := by obtain ⟨S, _, _, _, b⟩ := h; exact b
theorem CB.step {w : World} {X : Nat → Prop} {cb mk n' : Nat} {now' : Int} {L' : List Pr} {W W' : World} {S S' : Nat → Prop} (h1 : ∀ k, S k → w.heap.size ≤ k ∧ ¬ X k) (h2 : ∀ k, X k → k < W.heap.size) (h3 : Below w.heap.size w W) (C : CK S' cb mk n' now' L' W') (T : CT S S' W W') : CB w X cb mk n' now' L' W' ∧ ∀ k, X k → W'.heap[k]? = W.heap[k]? :=
  ⟨⟨S', C, fun k hk => by
    rcases T.s k hk with e | e
    · exact h1 k e
    · exact ⟨Nat.le_trans h3.size e, fun x => absurd (h2 k x) (by omega)⟩, fun k hk => Nat.lt_of_lt_of_le (h2 k hk) T.c.size, h3.trans (T.c.below (fun k hk => (h1 k hk).1) h3.size)⟩, fun k hk => T.c.block k (h2 k hk) (fun s => (h1 k s).2 hk)⟩
theorem CB.new (w W : World) (hb : Below w.heap.size w W) (X : Nat → Prop) (hX : ∀ k, X k → k < W.heap.size) : Calls Try.prog 7 #[] W fun e w' => ∃ cb mk, e = .returned (.pointer (some ⟨cb, 0, none⟩)) ∧ CB w X cb mk 0 0 [] w' ∧ Below W.heap.size W w' := by
  refine (clnew_any W).mono ?_
  rintro e w' ⟨rfl, C, B⟩
  exact ⟨_, _, rfl, ⟨newS W, C, fun k hk => ⟨Nat.le_trans hb.size hk.1, fun x => absurd (hX k x) (by have := hk.1; omega)⟩, fun k hk => Nat.lt_of_lt_of_le (hX k hk) B.size, hb.trans (B.mono hb.size)⟩, B⟩
theorem CB.bel {w : World} {X : Nat → Prop} {cb mk n : Nat} {now : Int} {L : List Pr} {W V : World} (h : CB w X cb mk n now L W) (k : Below W.heap.size W V) : CB w X cb mk n now L V := by
  obtain ⟨S, h1, h2, h3, h4⟩ := h
  exact ⟨S, h1.bel k, h2, fun i hi => Nat.lt_of_lt_of_le (h3 i hi) k.size, h4.trans (k.mono h4.size)⟩
/-- Blocks of X turn. -/
theorem CB.turn {w : World} {X : Nat → Prop} {cb mk n : Nat} {now : Int} {L : List Pr} {W V : World} (h : CB w X cb mk n now L W) (hx : ∀ k, X k → w.heap.size ≤ k) (k : CX X W V) : CB w X cb mk n now L V := by
  obtain ⟨S, h1, h2, h3, h4⟩ := h
  exact ⟨S, h1.keep k.size fun b hb hs => k.block b hb (h2 b hs).2, h2, fun i hi => Nat.lt_of_lt_of_le (h3 i hi) k.size, h4.trans (k.below hx h4.size)⟩
/-- New blocks are others. -/
theorem CB.more {w : World} {X : Nat → Prop} {cb mk n : Nat} {now : Int} {L : List Pr} {W V : World} (h : CB w X cb mk n now L W) (k : Below W.heap.size W V) : CB w (fun i => X i ∨ (W.heap.size ≤ i ∧ i < V.heap.size)) cb mk n now L V := by
  obtain ⟨S, h1, h2, h3, h4⟩ := h
  refine ⟨S, h1.bel k, fun i hi => ⟨(h2 i hi).1, fun e => ?_⟩, fun i hi => ?_, h4.trans (k.mono h4.size)⟩
  · rcases e with e | e
    · exact (h2 i hi).2 e
    · have := h1.lt i hi; omega
  · rcases hi with e | e
    · exact Nat.lt_of_lt_of_le (h3 i e) k.size
    · exact e.2
theorem CB.less {w : World} {X Y : Nat → Prop} {cb mk n : Nat} {now : Int} {L : List Pr} {W : World} (h : CB w X cb mk n now L W) (k : ∀ i, Y i → X i) : CB w Y cb mk n now L W := by
  obtain ⟨S, h1, h2, h3, h4⟩ := h
  exact ⟨S, h1, fun i hi => ⟨(h2 i hi).1, fun y => (h2 i hi).2 (k i y)⟩, fun i hi => h3 i (k i hi), h4⟩
theorem CB.set {w : World} {X : Nat → Prop} {cb mk n : Nat} {now : Int} {L : List Pr} {W : World} (h : CB w X cb mk n now L W) (hn : n ≤ 800000) (id at' a : Int) (ha : min at' 1099511627776 = a) (hid : InR id) (L' : List Pr) (hL : insL (id, a) (offL id L) = L') :
    Calls Try.prog 12 #[.pointer (some ⟨cb, 0, none⟩), .int .i64 id, .int .i64 at'] W fun e W' => e = .returned (.tuple #[]) ∧ CB w X cb mk (n + 1) now L' W' ∧ ∀ k, X k → W'.heap[k]? = W.heap[k]? := by
  subst hL
  obtain ⟨S, h1, h2, h3, h4⟩ := h
  refine (clset_any h1 hn id at' a ha hid).mono ?_
  rintro e W' ⟨rfl, S', C, T⟩
  exact ⟨rfl, CB.step h2 h3 h4 C T⟩
theorem CB.drop {w : World} {X : Nat → Prop} {cb mk n : Nat} {now : Int} {L : List Pr} {W : World} (h : CB w X cb mk n now L W) (hn : n ≤ 800000) (id : Int) (hid : InR id) (r : Bool) (hr : hasL id L = r) (L' : List Pr) (hL : offL id L = L') :
    Calls Try.prog 15 #[.pointer (some ⟨cb, 0, none⟩), .int .i64 id] W fun e W' => e = .returned (.bool r) ∧ CB w X cb mk n now L' W' ∧ ∀ k, X k → W'.heap[k]? = W.heap[k]? := by
  subst hL hr
  obtain ⟨S, h1, h2, h3, h4⟩ := h
  refine (cldrop_any h1 hn id hid).mono ?_
  rintro e W' ⟨rfl, S', C, T⟩
  exact ⟨rfl, CB.step h2 h3 h4 C T⟩
theorem CB.pass {w : World} {X : Nat → Prop} {cb mk n : Nat} {now : Int} {L : List Pr} {W : World} (h : CB w X cb mk n now L W) (hn : n ≤ 800000) (hir : ∀ p ∈ L, InR p.1) (nn now' : Int) (hn' : now + min (max nn 0) (1099511627776 - now) = now') (R : List Int) (hR : passI now' L = R) (L' : List Pr) (hL : passR now' L = L') :
    Calls Try.prog 11 #[.pointer (some ⟨cb, 0, none⟩), .int .i64 nn] W fun e W' => ∃ a c, e = .returned (.slice a R.length c) ∧ RdR 1 encI W' a c R ∧ CB w X cb mk n now' L' W' ∧ ∀ k, X k → W'.heap[k]? = W.heap[k]? := by
  subst hL hR
  obtain ⟨S, h1, h2, h3, h4⟩ := h
  refine (clpass_any h1 hn hir nn _ now' rfl hn').mono ?_
  rintro e W' ⟨v, rfl, O, S', C, T⟩
  obtain ⟨a, c, rfl, hr, _⟩ := O.rd EI
  have st := CB.step h2 h3 h4 C T
  exact ⟨a, c, rfl, hr, st.1, st.2⟩
theorem CB.next {w : World} {X : Nat → Prop} {cb mk n : Nat} {now : Int} {L : List Pr} {W : World} (h : CB w X cb mk n now L W) (t : Int) (b : Bool) (hN : nextL L = (t, b)) : Calls Try.prog 16 #[.pointer (some ⟨cb, 0, none⟩)] W fun e w' => e = .returned (.tuple #[.int .i64 t, .bool b]) ∧ W = w' := by
  obtain ⟨S, h1, _⟩ := h
  have := clnext_any h1
  rw [hN] at this
  exact this
theorem CB.time {w : World} {X : Nat → Prop} {cb mk n : Nat} {now : Int} {L : List Pr} {W : World} (h : CB w X cb mk n now L W) : Calls Try.prog 17 #[.pointer (some ⟨cb, 0, none⟩)] W fun e w' => e = .returned (.int .i64 now) ∧ W = w' := by
  obtain ⟨S, h1, _⟩ := h
  exact clnow_any h1
end Go.Proofs.Ytofnnphpogpcdaa
