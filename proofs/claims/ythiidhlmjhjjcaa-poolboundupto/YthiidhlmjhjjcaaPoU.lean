/- PoolBound: Take on a pool beside a map of those that are lent. -/
import Derived.Test.YthiidhlmjhjjcaaPoT
namespace Go.Proofs.Ythiidhlmjhjjcaa
open Go.RowKit Go.Shelf
set_option linter.unusedVariables false

theorem PB.bel {w W V : World} {F : List (Nat × Obj)} {pb mk mb n N c K : Nat} {most last : Int} {q : HF} {rs : List Int} {g : Int → Bool} (b : PB w F pb mk mb n N c K most last q rs g W) (k : Below W.heap.size W V) : PB w F pb mk mb n N c K most last q rs g V := by
  obtain ⟨o, s, hc⟩ := b.call
  exact hc (s.bel k)
/-- The handle H, to the aim A, has just been lent, S is taken away; H isn't marked yet. -/
structure TK (w : World) (F : List (Nat × Obj)) (pb mk mb : Nat) (b : Int) (i : Nat) (H S : Int) (A : KS) (last : Int) (W : World) : Prop where
  x : ∃ (n N c K : Nat) (q : HF) (rs : List Int) (g : Int → Bool), n ≤ i + 1 ∧ c ≤ i ∧ PB w F pb mk mb n N c K b last q rs g W ∧ LI N (K + 1) b rs ∧ g H = false ∧ g S = false ∧ (lookH (q H)).1 = A ∧ lentB q = updI g H true
  i1 : InR H
  i2 : InR S
  i3 : i ≤ 900
theorem TK.bel {w W V : World} {F : List (Nat × Obj)} {pb mk mb i : Nat} {b H S last : Int} {A : KS} (h : TK w F pb mk mb b i H S A last W) (k : Below W.heap.size W V) : TK w F pb mk mb b i H S A last V := by
  obtain ⟨⟨n, N, c, K, q, rs, g, h1, h2, h3, h4⟩, i1, i2, i3⟩ := h
  exact ⟨⟨n, N, c, K, q, rs, g, h1, h2, h3.bel k, h4⟩, i1, i2, i3⟩
theorem TK.drew {w W : World} {F : List (Nat × Obj)} {pb mk mb i : Nat} {b H S last : Int} {A : KS} (h : TK w F pb mk mb b i H S A last W) : TK w F pb mk mb b i H S A last W.drew := h.bel (Below.refl _ _).drew
theorem TK.drewH {w W : World} {F : List (Nat × Obj)} {pb mk mb i : Nat} {b H S last : Int} {A : KS} (h : Hid (TK w F pb mk mb b i H S A last W)) : Hid (TK w F pb mk mb b i H S A last W.drew) := hidE h.out.drew
theorem TK.newF {w W : World} {F : List (Nat × Obj)} {pb mk mb i : Nat} {b H S last : Int} {A : KS} (h : TK w F pb mk mb b i H S A last W) (x : Obj) : TK w ((W.heap.size, x) :: F) pb mk mb b i H S A last (W.alloc x) := by
  obtain ⟨⟨n, N, c, K, q, rs, g, h1, h2, h3, h4⟩, i1, i2, i3⟩ := h
  exact ⟨⟨n, N, c, K, q, rs, g, h1, h2, h3.newF x, h4⟩, i1, i2, i3⟩
theorem TK.fr {w W : World} {F : List (Nat × Obj)} {pb mk mb i : Nat} {b H S last : Int} {A : KS} (h : TK w F pb mk mb b i H S A last W) : ∀ p ∈ F, W.heap[p.1]? = some p.2 := fun p hp => by
  obtain ⟨⟨n, N, c, K, q, rs, g, h1, h2, h3, h4⟩, i1, i2, i3⟩ := h
  obtain ⟨o, s⟩ := h3.pi
  exact (s.fr p (List.mem_cons_of_mem _ hp)).1
theorem TK.look {w W : World} {F : List (Nat × Obj)} {pb mk mb i : Nat} {b H S last : Int} {A : KS} (h : TK w F pb mk mb b i H S A last W) : (Instr.lookup 75 (.map (some mb)) (.int .i64 H) false).run Try.prog W = .ok (.bool false) W ∧ (Instr.lookup 75 (.map (some mb)) (.int .i64 S) false).run Try.prog W = .ok (.bool false) W := by
  obtain ⟨⟨n, N, c, K, q, rs, g, h1, h2, h3, h4, g1, g2, h5⟩, i1, i2, i3⟩ := h
  have l1 := h3.km.look i1
  have l2 := h3.km.look i2
  rw [g1] at l1
  rw [g2] at l2
  exact ⟨l1, l2⟩
theorem TK.aim {w W : World} {F : List (Nat × Obj)} {pb mk mb i : Nat} {b H S last : Int} {A : KS} (h : TK w F pb mk mb b i H S A last W) : Calls Try.prog 20 #[.pointer (some ⟨pb, 0, none⟩), .int .i64 H] W fun e W' => e = .returned (.string A) ∧ TK w F pb mk mb b i H S A last W' := by
  obtain ⟨⟨n, N, c, K, q, rs, g, h1, h2, h3, h4, g1, g2, g3, h5⟩, i1, i2, i3⟩ := h
  obtain ⟨o, s, hc⟩ := h3.call
  refine (aim_pi s H i1 A g3).mono ?_
  rintro e W' ⟨rfl, C⟩
  exact ⟨rfl, ⟨n, N, c, K, q, rs, g, h1, h2, hc C, h4, g1, g2, g3, h5⟩, i1, i2, i3⟩
theorem TK.put {w W : World} {F : List (Nat × Obj)} {pb mk mb i : Nat} {b H S last : Int} {A : KS} (h : TK w F pb mk mb b i H S A last W) : ∃ W', (Instr.mapUpdate 75 (.map (some mb)) (.int .i64 H) (.bool true)).run Try.prog W = .ok () W' ∧ PT w F pb mk mb b (i + 1) last W' := by
  obtain ⟨⟨n, N, c, K, q, rs, g, h1, h2, h3, h4, g1, g2, g3, h5⟩, i1, i2, i3⟩ := h
  obtain ⟨W', r, k, gr⟩ := h3.km.put (by unfold maxLen; omega) i1
  rw [g1, if_neg (by decide), ← h5] at k
  exact ⟨W', r, PT.of (h3.turn gr k) h4 h1 (by omega)⟩
theorem PT.take {w W : World} {F : List (Nat × Obj)} {pb mk mb i : Nat} {b last : Int} (h : PT w F pb mk mb b i last W) (hi : i ≤ 900) (aim : KS) (ha : aim.size ≤ 281474976710656) {P : Ending → World → Prop}
    (k0 : ∀ W' K, PT w F pb mk mb b (i + 1) last W' → (∀ V, Below W'.heap.size W' V → ∀ ty, (Builtin.len_ #[75] ty #[.map (some mb)]).run Try.prog V = .ok (.int .i64 (K : Nat)) V) → b ≤ (K : Int) → P (.returned (.tuple #[.agg #[.int .i64 0, .int .i64 0, .bool false], .int .i64 6])) W')
    (k1 : ∀ W' x A, (ByteArray.toList A == ByteArray.toList aim) = true → max last x = last → TK w F pb mk mb b i x 0 A last W' → P (.returned (.tuple #[.agg #[.int .i64 x, .int .i64 0, .bool false], .int .i64 0])) W')
    (k2 : ∀ W' S H, H = last + 1 → 0 ≤ last → last ≤ 900 → TK w F pb mk mb b i H S aim H W' → P (.returned (.tuple #[.agg #[.int .i64 H, .int .i64 S, .bool true], .int .i64 0])) W') :
    Calls Try.prog 10 #[.pointer (some ⟨pb, 0, none⟩), .string aim] W P := by
  obtain ⟨n, N, c, K, q, rs, h1, h2, h3, h4⟩ := h
  obtain ⟨o, s, hc⟩ := h3.call
  have k := s.qi
  have l0 := k.l0
  have ln := k.ln
  have g0 : lentB q 0 = false := lentB_none k.none0
  have gn : lentB q (last + 1) = false := lentB_none k.next
  refine take_pi s aim ha (by omega) ?_ ?_ ?_ ?_
  · intro p0 x t W' e0 e1 e2 C
    have hx : x ∈ rs := by
      have : x ∈ rs.reverse := by rw [e0]; simp
      exact List.mem_reverse.1 this
    obtain ⟨a, hq⟩ := (k.r x).1 hx
    have hb := k.b x _ hq
    refine k1 W' x (lookH (q x)).1 ?_ (by omega) ⟨⟨_, N, c, K, _, _, lentB q, ?_, ?_, hc C, h4.old k.nd hx, lentB_st hq false rfl, g0, ?_, lentB_upd q x _ true rfl⟩, ?_, ?_, hi⟩
    · unfold neA at e2
      simpa using e2
    · omega
    · omega
    · rw [updI_same]; rfl
    · unfold InR; omega
    · unfold InR; omega
  · intro W' e1 e2 C
    refine k2 W' 0 _ rfl l0 (by omega) ⟨⟨_, N + 1, c, K, _, _, lentB q, ?_, ?_, hc C, h4.dial e2, gn, g0, ?_, lentB_upd q (last + 1) _ true rfl⟩, ?_, ?_, hi⟩
    · omega
    · omega
    · rw [updI_same]; rfl
    · unfold InR; omega
    · unfold InR; omega
  · intro W' e1 e2 e3 C
    subst e3
    have B := hc C
    have f := h4.full e2
    exact k0 W' K (PT.of B h4 (by omega) (by omega)) (fun V hV ty => (B.bel hV).km.len ty) (by omega)
  · intro x r W' e1 e2 e3 C
    have hx : x ∈ rs := by rw [e3]; simp
    obtain ⟨a, hq⟩ := (k.r x).1 hx
    have hb := k.b x _ hq
    have hs : (q x).isSome = true := by rw [hq]; rfl
    have n1 := k.some1 hs
    have gx : lentB q x = false := lentB_st hq false rfl
    have L := (h4.shut3 k.nd hx).dial (by have := h4.m; omega)
    rw [Nat.sub_add_cancel n1] at L
    have el : lentB (updI (updI q x none) (last + 1) (some (aim, 1))) = updI (lentB q) (last + 1) true := by
      rw [lentB_upd _ (last + 1) _ true rfl, lentB_upd q x none false rfl, updI_self _ _ _ gx]
    refine k2 W' x _ rfl l0 (by omega) ⟨⟨_, N, c, K, _, _, lentB q, ?_, ?_, hc C, L, gn, gx, ?_, el⟩, ?_, ?_, hi⟩
    · omega
    · omega
    · rw [updI_same]; rfl
    · unfold InR; omega
    · unfold InR; omega
end Go.Proofs.Ythiidhlmjhjjcaa
