/- ClockSplit: the walk. -/
import Derived.Test.YtofnnphpogpcdaaClS
namespace Go.Proofs.Ytofnnphpogpcdaa
open Go.ChangeShapes Go.WideShapes Go.ChangeAt Go.RowKit
set_option linter.unusedVariables false

theorem Nums.keep {w w' : World} {a : Option Addr} {len : Nat} (h : Nums w a len) (b : Below w.heap.size w w') : Nums w' a len := by
  refine ⟨h.1, fun hp => ?_⟩
  obtain ⟨g, off, e, hg, hc⟩ := h.2 hp
  refine ⟨g, off, e, Nat.lt_of_lt_of_le hg b.size, fun i hi => ?_⟩
  obtain ⟨z, hz⟩ := hc i hi
  exact ⟨z, (b.cell (p := ⟨g, off + i, none⟩) hg).trans hz⟩
theorem C2.next {w : World} {X : Nat → Prop} {c1 m1 c2 m2 n : Nat} {t1 t2 : Int} {L1 L2 : List Pr} {W : World} (h : C2 w X c1 m1 c2 m2 n t1 t2 L1 L2 W) (t : Int) (b : Bool) (hN : nextL L1 = (t, b)) : Calls Try.prog 16 #[.pointer (some ⟨c1, 0, none⟩)] W fun e w' => e = .returned (.tuple #[.int .i64 t, .bool b]) ∧ W = w' := by
  obtain ⟨⟨S1, S2, a, _⟩, _⟩ := h
  have := clnext_any a
  rw [hN] at this
  exact this
theorem C2.time {w : World} {X : Nat → Prop} {c1 m1 c2 m2 n : Nat} {t1 t2 : Int} {L1 L2 : List Pr} {W : World} (h : C2 w X c1 m1 c2 m2 n t1 t2 L1 L2 W) : Calls Try.prog 17 #[.pointer (some ⟨c1, 0, none⟩)] W fun e w' => e = .returned (.int .i64 t1) ∧ W = w' := by
  obtain ⟨⟨S1, S2, a, _⟩, _⟩ := h
  exact clnow_any a
theorem C2.pass {w : World} {X : Nat → Prop} {c1 m1 c2 m2 n : Nat} {t1 t2 : Int} {L1 L2 : List Pr} {W : World} (h : C2 w X c1 m1 c2 m2 n t1 t2 L1 L2 W) (hn : n ≤ 800000) (hir : ∀ p ∈ L1, InR p.1) (nn now' : Int) (hn' : t1 + min (max nn 0) (1099511627776 - t1) = now') (R : List Int) (hR : passI now' L1 = R) (L' : List Pr) (hL : passR now' L1 = L') :
    Calls Try.prog 11 #[.pointer (some ⟨c1, 0, none⟩), .int .i64 nn] W fun e W' => (∃ a c, e = .returned (.slice a R.length c) ∧ RdR 1 encI W' a c R) ∧ C2 w X c1 m1 c2 m2 n now' t2 L' L2 W' ∧ ∀ i, X i → W'.heap[i]? = W.heap[i]? := by
  subst hR hL
  refine h.step (Nat.le_refl n) (P := fun e W' => ∃ a c, e = .returned (.slice a (passI now' L1).length c) ∧ RdR 1 encI W' a c (passI now' L1)) fun S x => (clpass_any x hn hir nn _ now' rfl hn').mono ?_
  rintro e W' ⟨v, rfl, O, S', C, T⟩
  obtain ⟨a, c, rfl, hr, _⟩ := O.rd EI
  exact ⟨⟨a, c, rfl, hr⟩, S', C, T⟩
/-- The row so far, in a block of its own. -/
structure GS (w : World) (X : Nat → Prop) (v : Value) (G : List Int) (W : World) : Prop where
  o : OwR 3 1 encI w.heap.size W v G
  n : v ≠ .slice none 0 0
  x : ∀ k, v.ownBlock = some k ↔ X k
theorem GS.keep {w : World} {X : Nat → Prop} {v : Value} {G : List Int} {W W' : World} (h : GS w X v G W) (k : ∀ i, X i → W'.heap[i]? = W.heap[i]?) : GS w X v G W' := ⟨h.o.move fun g hg _ _ _ => k g ((h.x g).1 hg), h.n, h.x⟩
/-- The row with what has happened now, beside two clocks. -/
theorem GS.next {w : World} {X : Nat → Prop} {c1 m1 c2 m2 n : Nat} {t1 t2 : Int} {L1 L2 : List Pr} {v : Value} {G R : List Int} {a : Option Addr} {c : Nat} {W : World} (g : GS w X v G W) (h : C2 w X c1 m1 c2 m2 n t1 t2 L1 L2 W) (hr : RdR 1 encI W a c R) (hl : G.length ≤ 1000000) (hl2 : R.length ≤ 1000000) :
    ∃ v' w9 Y, (Builtin.append_ #[31, 31] 31 #[v, .slice a R.length c]).run Try.prog W = .ok v' w9 ∧ GS w Y v' (G ++ R) w9 ∧ C2 w Y c1 m1 c2 m2 n t1 t2 L1 L2 w9 := by
  obtain ⟨v', w9, r, O, nn, B, ow, bl⟩ := ow_appends g.o g.n hr h.b.size hl hl2
  refine ⟨v', w9, fun k => v'.ownBlock = some k, r, ⟨O, nn, fun k => Iff.rfl⟩, h.turn (fun k hk => (own_lt g.o ((g.x k).2 hk)).1) ⟨B.os, B.tape, B.output, B.size, fun k hk hn => bl k hk (fun e => hn ((g.x k).1 e))⟩ fun k hk => ⟨?_, (own_lt O hk).2⟩⟩
  rcases ow with e | ⟨q, e, e2⟩
  · exact .inl ((g.x k).1 (e.symm.trans hk))
  · rw [e] at hk; cases hk; exact .inr e2
theorem passL_len {T : Int} {L : List Pr} : (passI T L).length ≤ L.length := by have := pass_len T L; omega
theorem below_drewN {B : Nat} {w w' : World} (h : Below B w w') (n : Nat) : Below B w (w'.drewN n) := ⟨h.os, h.tape, h.output, h.size, h.block⟩
set_option maxRecDepth 100000 in
set_option maxHeartbeats 2000000 in
theorem split15_walk (a1 a2 : Option Addr) (len1 cap1 len2 cap2 : Nat) (w : World) (hO1 : Nums w a1 len1) (hO2 : Nums w a2 len2) : Calls Try.prog 6 #[.slice a1 len1 cap1, .slice a2 len2 cap2] w fun e w' => e = .returned (.bool true) ∧ Below w.heap.size w w' := by
  obtain ⟨hl1, hO1⟩ := hO1
  obtain ⟨hl2, hO2⟩ := hO2
  have HN := hidE (C2.new w w (Below.refl _ _))
  have HA := hidE (fun W => alive15_any W)
  have HO1 := hidE hO1
  have HO2 := hidE hO2
  unfold maxLen at hl1 hl2
  clear hO1 hO2
  go_enter Try.func6, Try.ntmps6
  go_wp2_with fail
  refine HN.out.mono ?_
  rintro e w1 ⟨c1, m1, rfl, H⟩
  clear HN
  go_wp2_with fail
  refine H.out.mono ?_
  rintro e w2 ⟨c2, m2, rfl, C⟩
  have HC := hidE C
  clear H C
  go_wp2_with fail
  refine (HA.out _).mono ?_
  rintro e w3 ⟨rfl, B3⟩
  have HC3 := hidE (HC.out.bel B3)
  clear HA HC B3
  rcases Nat.lt_or_ge 60 len1 with hx | hx
  · have h3 : decide ((60 : Int) < (len1 : Int)) = true := decide_eq_true (by omega)
    have HZ := hidE HC3.out.b
    clear HC3 hx
    go_wp2
    go_ret
    exact ⟨rfl, HZ.out⟩
  have h3 : decide ((60 : Int) < (len1 : Int)) = false := decide_eq_false (by omega)
  rcases Nat.lt_or_ge 30 len2 with hy | hy
  · have h4 : decide ((30 : Int) < (len2 : Int)) = true := decide_eq_true (by omega)
    have HZ := hidE HC3.out.b
    clear HC3 hx hy
    go_wp2
    go_ret
    exact ⟨rfl, HZ.out⟩
  have h4 : decide ((30 : Int) < (len2 : Int)) = false := decide_eq_false (by omega)
  rcases Nat.eq_zero_or_pos len2 with hz | hz
  · subst hz
    have HZ := hidE HC3.out.b
    clear HC3 hx hy
    go_wp2
    go_ret
    exact ⟨rfl, HZ.out⟩
  have h5 : ((len2 : Int) == 0) = false := by rw [beq_eq_false_iff_ne]; omega
  have HX : Hid (len1 ≤ 60) := hx
  have HY : Hid (len2 ≤ 30) := hy
  have HZP : Hid (0 < len2) := hz
  clear hx hy hz
  go_wp2_with fail
  clear h3 h4 h5
  go_loopw [45] (fun vi wr => ∃ (i : Nat) (L : List Pr), i ≤ len1 ∧ vi = .int .i64 i ∧ Hid (C2 w (fun _ => False) c1 m1 c2 m2 (2 * i) 0 0 L L wr) ∧ Hid (UpTo i 1099511627776 L)) (fun vi _ => len1 - (intOf vi).toNat)
  case atStart => exact ⟨0, [], Nat.zero_le _, rfl, HC3, ⟨rfl, fun p hp => by cases hp⟩⟩
  case round =>
    clear HC3
    obtain ⟨i, L, hi, rfl, HC, HU⟩ := hrel
    by_cases hlt : i < len1
    · obtain ⟨b2, o2, rfl, hb2, hc2⟩ := HO1.out (by omega)
      obtain ⟨z, hz⟩ := hc2 i hlt
      have d0 := (HC.out.b.cell (p := ⟨b2, o2 + i, none⟩) hb2).trans hz
      have q1 : (0 : Int) ≤ i := by omega
      have q2 : (i : Int) < len1 := by omega
      obtain ⟨k, hk, kz⟩ := and_mask z 511 (by decide)
      have kz' : bits .and .i64 z 511 = (k : Int) := kz
      obtain ⟨a, ha⟩ : ∃ a, min (k : Int) 1099511627776 = a := ⟨_, rfl⟩
      have HI : Hid (i ≤ 60) := (by have := HX.out; omega : i ≤ 60)
      have H := hidE (HC.out.step (Nat.le_succ (2 * i)) (P := fun e _ => e = .returned (.tuple #[])) (fun S x => clset_any x (by have := HI.out; omega) i k a ha (by have := HI.out; unfold InR; omega)))
      have HU2 := hidE (HU.out.next a (by omega))
      have HA := hidE ha
      clear hz hc2 hb2 HC HU kz hk ha
      go_wp2_with fail
      refine H.out.mono ?_
      rintro e w4 ⟨rfl, C, B⟩
      have H2 := hidE (C.symm.step (Nat.le_succ (2 * i + 1)) (P := fun e _ => e = .returned (.tuple #[])) (fun S x => clset_any x (by have := HI.out; omega) i k a HA.out (by have := HI.out; unfold InR; omega)))
      clear H C B d0
      go_wp2_with fail
      refine H2.out.mono ?_
      rintro e w5 ⟨rfl, C, B⟩
      have HC := hidE C.symm
      clear H2 C B HA kz'
      go_wp2
      go_roundw
      case rel => exact ⟨i + 1, _, by omega, by go_num, HC, HU2⟩
      case measure => simp [intOf]; omega
    · obtain rfl : i = len1 := by omega
      have HU2 : Hid (Nat.le i 60 ∧ UpTo i 1099511627776 L) := ⟨HX.out, HU.out⟩
      have HG0 : Hid (C2 w (fun k => k = wr.heap.size) c1 m1 c2 m2 (2 * i) 0 0 L L (wr.alloc (.cells #[] 3))) := HC.out.turn (fun k hk => hk.elim) (CX.bel ((Below.refl _ _).alloc (Nat.le_refl _) _)) (fun k hk => ⟨.inr (by rw [hk]; exact Nat.le_refl _), by rw [hk]; simp⟩)
      have HO0 : Hid (OwR 3 1 encI w.heap.size (wr.alloc (.cells #[] 3)) (.slice (some ⟨wr.heap.size, 0, none⟩) 0 0) []) := OwR.empty _ _ _ _ _ HC.out.b.size
      clear HC HU hlt
      go_wp2_with fail
      obtain ⟨w6, hw6⟩ : ∃ w6, w6 = wr.alloc (.cells #[] 3) := ⟨_, rfl⟩
      rw [← hw6] at HG0 HO0 ⊢
      clear hw6
      go_loopw [9, 10, 64] (fun vg vt vi wr' => ∃ (j : Nat) (T : Int) (G : List Int) (L' : List Pr) (a : Option Addr) (c : Nat) (X : Nat → Prop), j ≤ len2 ∧ vi = .int .i64 j ∧ vt = .int .i64 T ∧ vg = .slice a G.length c ∧ 0 ≤ T ∧ T ≤ 63 * (j : Int) ∧ Hid (GS w X (.slice a G.length c) G wr') ∧ Hid (C2 w X c1 m1 c2 m2 (2 * i) T 0 L' L wr') ∧ Hid ((j = 0 ∧ T = 0 ∧ G = [] ∧ L' = L) ∨ (passI T L = G ∧ passR T L = L'))) (fun _ _ vi _ => len2 - (intOf vi).toNat)
      case atStart => exact ⟨0, 0, [], L, _, _, _, Nat.zero_le _, rfl, rfl, rfl, by decide, by decide, ⟨HO0.out, (fun e => by cases e), fun k => ⟨fun e => by cases e; rfl, fun e => by rw [e]; rfl⟩⟩, HG0, .inl ⟨rfl, rfl, rfl, rfl⟩⟩
      case round =>
        clear HG0 HO0
        obtain ⟨j, T, G, L', a, c, X, hj, rfl, rfl, rfl, t0, t1, HG, HC, HI⟩ := hrel
        have HLL : Hid (G.length ≤ 60 ∧ ∀ p ∈ L', p ∈ L) := by
          have hl : L.length ≤ 60 := by have h1 : i ≤ 60 := HU2.out.1; have h2 : L.length = i := HU2.out.2.1; omega
          rcases HI.out with ⟨_, _, e3, e4⟩ | ⟨e3, e4⟩
          · rw [e3, e4]; exact ⟨Nat.zero_le _, fun p hp => hp⟩
          · rw [← e3, ← e4]
            exact ⟨Nat.le_trans passL_len hl, fun p hp => (List.mem_filter.1 hp).1⟩
        have HJ : Hid (j ≤ 30) := Nat.le_trans hj HY.out
        by_cases hlt2 : j < len2
        · obtain ⟨b2, o2, rfl, hb2, hc2⟩ := HO2.out (by omega)
          obtain ⟨z, hz⟩ := hc2 j hlt2
          have d0 := (HC.out.b.cell (p := ⟨b2, o2 + j, none⟩) hb2).trans hz
          have q1 : (0 : Int) ≤ j := by omega
          have q2 : (j : Int) < len2 := by omega
          obtain ⟨k, hk, kz⟩ := and_mask z 63 (by decide)
          have kz' : bits .and .i64 z 63 = (k : Int) := kz
          obtain ⟨T', hT'⟩ : ∃ T' : Int, T + (k : Int) = T' := ⟨_, rfl⟩
          have f1 : IntKind.i64.wrap (T + (k : Int)) = T' := by rw [IntKind.wrap_i64]; have := HJ.out; omega
          have HT : Hid (0 ≤ T' ∧ T' ≤ 63 * ((j + 1 : Nat) : Int)) := ⟨by omega, by omega⟩
          have HTT : Hid (T ≤ T') := by show T ≤ T'; omega
          have HI2 : Hid (passI T' L = G ++ passI T' L' ∧ passR T' L' = passR T' L) := by
            rcases HI.out with ⟨_, _, e3, e4⟩ | ⟨e3, e4⟩
            · rw [e3, e4]; exact ⟨rfl, rfl⟩
            · obtain ⟨⟨S1, S2, x1, x2, _⟩, _⟩ := HC.out
              obtain ⟨v, E, q, Q, hp, M, rm, rl, hS⟩ := x2.x
              have := pass_pass HTT.out rl.s
              rw [e3, e4] at this
              exact this
          have H := hidE (HC.out.pass (by have := HU2.out.1; have : i ≤ 60 := this; omega) (fun p hp => HU2.out.2.ir (by have : i ≤ 60 := HU2.out.1; omega) p (HLL.out.2 p hp)) k T' (by have := HJ.out; omega) (passI T' L') rfl (passR T' L') rfl)
          clear hz hc2 hb2 HC HI kz hk hT' t0 t1
          go_wp2_with fail
          refine H.out.mono ?_
          rintro e w7 ⟨⟨a7, c7, rfl, R7⟩, C7, K7⟩
          have hr60 : (passI T' L').length ≤ 60 := by
            have e1 := congrArg List.length HI2.out.1
            rw [List.length_append] at e1
            have e2 : (passI T' L).length ≤ L.length := passL_len
            have e3 := HU2.out.2.1
            have : i ≤ 60 := HU2.out.1
            omega
          obtain ⟨v9, w9, Y, r9, G9, C9⟩ := (HG.out.keep K7).next C7 R7 (by have := HLL.out.1; omega) (by omega)
          obtain ⟨a9, c9, hv9, _, _⟩ := G9.o.rd EI
          subst hv9
          have HG9 := hidE G9
          have HC9 := hidE C9
          clear H C7 K7 R7 G9 C9 HG d0 kz' f1 hr60
          generalize hgl : G.length = gl at *
          have HGL := hidE hgl
          clear hgl
          generalize hrl : (passI T' L').length = rl at *
          clear hrl
          go_wp2_with (at_builtin; refine wpList_append_run2 rfl _ _ 31 31 rfl _ _ _ w9 rfl rfl r9 ?_; clear r9)
          go_roundw
          case rel => exact ⟨j + 1, T', G ++ passI T' L', passR T' L', a9, c9, Y, by omega, by go_num, rfl, by first | rfl | (rw [List.length_append]) | (rw [List.length_append]; rfl), HT.out.1, HT.out.2, HG9, HC9, .inr ⟨HI2.out.1, HI2.out.2.symm⟩⟩
          case measure => simp [intOf]; omega
        · obtain rfl : j = len2 := by omega
          have hi2 : passI T L = G ∧ passR T L = L' := by
            rcases HI.out with ⟨e, _⟩ | e
            · have := HZP.out; omega
            · exact e
          have H := hidE (HC.out.symm.pass (by have : i ≤ 60 := HU2.out.1; omega) (HU2.out.2.ir (by have : i ≤ 60 := HU2.out.1; omega)) T T (by have := HJ.out; omega) G hi2.1 L' hi2.2)
          have HNX : Hid (∃ x b, nextL L' = (x, b)) := ⟨_, _, rfl⟩
          clear HC HI t0 t1 hlt2
          go_wp2_with fail
          refine H.out.mono ?_
          rintro e w7 ⟨⟨a7, c7, rfl, R7⟩, C7, K7⟩
          obtain ⟨x, b, hxb⟩ := HNX.out
          have H1 := hidE (C7.symm.next x b hxb)
          have H2 := hidE (C7.next x b hxb)
          have H3 := hidE C7.symm.time
          have H4 := hidE C7.time
          have HB := hidE C7.b
          have HG7 := HG.out.keep K7
          obtain ⟨a8, c8, e8, R8, _⟩ := HG7.o.rd EI
          injection e8 with e81 e82 e83
          subst e81 e83
          clear e82
          have H5 := hidE (sameints_any G G _ _ _ _ w7 R8 R7 true (by simp))
          clear H C7 K7 R7 HG HG7 R8 hxb HNX HU2 hi2
          go_wp2_with fail
          refine H1.out.mono ?_
          rintro e w8 ⟨rfl, rfl⟩
          clear H1
          go_wp2_with fail
          refine H2.out.mono ?_
          rintro e w8 ⟨rfl, rfl⟩
          clear H2
          go_wp2_with fail
          refine H3.out.mono ?_
          rintro e w8 ⟨rfl, rfl⟩
          clear H3
          go_wp2_with fail
          refine H4.out.mono ?_
          rintro e w8 ⟨rfl, rfl⟩
          clear H4
          go_wp2_with fail
          refine H5.out.mono ?_
          rintro e w8 ⟨rfl, k, rfl⟩
          clear H5
          go_wp2
          go_ret
          exact ⟨rfl, below_drewN HB.out k⟩
end Go.Proofs.Ytofnnphpogpcdaa
