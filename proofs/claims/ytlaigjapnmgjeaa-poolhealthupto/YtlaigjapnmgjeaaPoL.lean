/- Pool: the calls on a pool of one's own. -/
import Derived.Test.YtlaigjapnmgjeaaPoK
namespace Go.Proofs.Ytlaigjapnmgjeaa
open Go.RowKit Go.Shelf
set_option linter.unusedVariables false

theorem PI.bel {w W V : World} {F : List (Nat × Obj)} {pb mk n N : Nat} {most last : Int} {q : HF} {rs : List Int} (s : PI w F pb mk n N most last q rs W) (k : Below W.heap.size W V) : PI w F pb mk n N most last q rs V := by
  obtain ⟨v, H, hv⟩ := s.pl
  exact s.step hv (H.keep k) ((PX.refl _ _ _ _).bel k) s.qi
theorem PI.new1 {w W : World} {F : List (Nat × Obj)} {pb mk n N : Nat} {most last : Int} {q : HF} {rs : List Int} (s : PI w F pb mk n N most last q rs W) (o : Obj) : PI w F pb mk n N most last q rs (W.alloc o) := s.bel ((Below.refl _ _).alloc (Nat.le_refl _) _)
theorem first_uniq {P : Int → Prop} : ∀ {a a' : List Int} {x x' : Int} {s s' : List Int}, a ++ x :: s = a' ++ x' :: s' → (∀ y ∈ a, P y) → (∀ y ∈ a', P y) → ¬ P x → ¬ P x' → x = x'
  | [], [], x, x', s, s', e, _, _, _, _ => by injection e
  | [], b :: a', x, x', s, s', e, _, h2, h3, _ => by
    injection e with e1 _
    subst e1
    exact absurd (h2 x (by simp)) h3
  | b :: a, [], x, x', s, s', e, h1, _, _, h4 => by
    injection e with e1 _
    subst e1
    exact absurd (h1 b (by simp)) h4
  | b :: a, b' :: a', x, x', s, s', e, h1, h2, h3, h4 => by
    injection e with _ e
    exact first_uniq e (fun y hy => h1 y (List.mem_cons_of_mem _ hy)) (fun y hy => h2 y (List.mem_cons_of_mem _ hy)) h3 h4
theorem take_pi {w W : World} {F : List (Nat × Obj)} {pb mk n N : Nat} {most last : Int} {q : HF} {rs : List Int} (s : PI w F pb mk n N most last q rs W) (aim : KS) (ha : aim.size ≤ 281474976710656) (hn : n ≤ 900) {P : Ending → World → Prop}
    (k1 : ∀ p0 x t W', rs.reverse = p0 ++ x :: t → (∀ y ∈ p0, neA q aim y) → ¬ neA q aim x → PI w F pb mk (n + 1) N most last (updI q x (some ((lookH (q x)).1, 2))) (rs.filter (butH x)) W' → P (.returned (.tuple #[.agg #[.int .i64 x, .int .i64 0, .bool false], .int .i64 0])) W')
    (k2 : ∀ W', (∀ y ∈ rs, neA q aim y) → (N : Int) < most → PI w F pb mk (n + 1) (N + 1) most (last + 1) (updI q (last + 1) (some (aim, 1))) rs W' → P (.returned (.tuple #[.agg #[.int .i64 (last + 1), .int .i64 0, .bool true], .int .i64 0])) W')
    (k3 : ∀ W', (∀ y ∈ rs, neA q aim y) → ¬ (N : Int) < most → rs = [] → PI w F pb mk (n + 1) N most last q rs W' → P (.returned (.tuple #[.agg #[.int .i64 0, .int .i64 0, .bool false], .int .i64 6])) W')
    (k4 : ∀ x r W', (∀ y ∈ rs, neA q aim y) → ¬ (N : Int) < most → rs = x :: r → PI w F pb mk (n + 1) N most (last + 1) (updI (updI q x none) (last + 1) (some (aim, 1))) (rs.filter (butH x)) W' → P (.returned (.tuple #[.agg #[.int .i64 (last + 1), .int .i64 x, .bool true], .int .i64 0])) W') :
    Calls Try.prog 9 #[.pointer (some ⟨pb, 0, none⟩), .string aim] W P := by
  obtain ⟨v, H, hv⟩ := s.pl
  have k := s.qi
  have h0 := k.l0
  have h1 := k.ln
  have h2 := k.rl
  refine (pltake_any aim pb mk n N most last q rs v W H ha (by omega) (by omega) (k.inr hn) k.none0 k.st k.next ⟨by omega, by omega⟩ k.one).mono ?_
  rintro e W' (⟨p0, x, t, v', e0, e1, e2, rfl, H', X⟩ | ⟨e1, e2, rfl, H', X⟩ | ⟨e1, e2, e3, rfl, H', X⟩ | ⟨e1, e2, x, r, v', e3, rfl, H', X⟩)
  · have hx : x ∈ rs := by
      have : x ∈ rs.reverse := by rw [e0]; simp
      exact List.mem_reverse.1 this
    obtain ⟨t', ht⟩ := (k.r x).1 hx
    exact k1 p0 x t W' e0 e1 e2 (s.step hv H' X ((k.set (h := x) (by rw [ht]; rfl) _ 2 (.inr rfl)).mono (Nat.le_succ _)))
  · exact k2 W' e1 e2 (s.step hv H' X (k.dial aim))
  · exact k3 W' e1 e2 e3 (s.step hv H' X (k.mono (Nat.le_succ _)))
  · obtain ⟨t', ht⟩ := (k.r x).1 (by rw [e3]; simp)
    have hs : (q x).isSome = true := by rw [ht]; rfl
    have h3 := k.some1 hs
    have kd := (k.drop hs).dial aim
    rw [Nat.sub_add_cancel h3] at kd
    exact k4 x r W' e1 e2 e3 (s.step hv H' X kd)
theorem take_old {w W : World} {F : List (Nat × Obj)} {pb mk n N : Nat} {most last : Int} {q : HF} {rs : List Int} (s : PI w F pb mk n N most last q rs W) (aim : KS) (ha : aim.size ≤ 281474976710656) (hn : n ≤ 900) (p0 : List Int) (x : Int) (t : List Int) (e0 : rs.reverse = p0 ++ x :: t) (e1 : ∀ y ∈ p0, neA q aim y) (e2 : ¬ neA q aim x) :
    Calls Try.prog 9 #[.pointer (some ⟨pb, 0, none⟩), .string aim] W fun e W' => e = .returned (.tuple #[.agg #[.int .i64 x, .int .i64 0, .bool false], .int .i64 0]) ∧ PI w F pb mk (n + 1) N most last (updI q x (some ((lookH (q x)).1, 2))) (rs.filter (butH x)) W' := by
  have hx : x ∈ rs := by
    have : x ∈ rs.reverse := by rw [e0]; simp
    exact List.mem_reverse.1 this
  refine take_pi s aim ha hn ?_ (fun W' h _ _ => absurd (h x hx) e2) (fun W' h _ _ _ => absurd (h x hx) e2) (fun a r W' h _ _ _ => absurd (h x hx) e2)
  intro p0' x' t' W' f0 f1 f2 z
  obtain rfl : x = x' := first_uniq (e0.symm.trans f0) e1 f1 e2 f2
  exact ⟨rfl, z⟩
theorem no_first {q : HF} {aim : KS} {rs p0 t : List Int} {x : Int} (h : ∀ y ∈ rs, neA q aim y) (e : rs.reverse = p0 ++ x :: t) : neA q aim x := h x (List.mem_reverse.1 (by rw [e]; simp))
theorem take_new {w W : World} {F : List (Nat × Obj)} {pb mk n N : Nat} {most last : Int} {q : HF} {rs : List Int} (s : PI w F pb mk n N most last q rs W) (aim : KS) (ha : aim.size ≤ 281474976710656) (hn : n ≤ 900) (h1 : ∀ y ∈ rs, neA q aim y) (h2 : (N : Int) < most) (l' : Int) (hl : l' = last + 1) :
    Calls Try.prog 9 #[.pointer (some ⟨pb, 0, none⟩), .string aim] W fun e W' => e = .returned (.tuple #[.agg #[.int .i64 l', .int .i64 0, .bool true], .int .i64 0]) ∧ PI w F pb mk (n + 1) (N + 1) most l' (updI q l' (some (aim, 1))) rs W' := by
  subst hl
  exact take_pi s aim ha hn (fun p0 x t W' e _ f _ => absurd (no_first h1 e) f) (fun W' _ _ z => ⟨rfl, z⟩) (fun W' _ g _ _ => absurd h2 g) (fun _ _ W' _ g _ _ => absurd h2 g)
theorem take_full {w W : World} {F : List (Nat × Obj)} {pb mk n N : Nat} {most last : Int} {q : HF} (s : PI w F pb mk n N most last q [] W) (aim : KS) (ha : aim.size ≤ 281474976710656) (hn : n ≤ 900) (h2 : ¬ (N : Int) < most) :
    Calls Try.prog 9 #[.pointer (some ⟨pb, 0, none⟩), .string aim] W fun e W' => e = .returned (.tuple #[.agg #[.int .i64 0, .int .i64 0, .bool false], .int .i64 6]) ∧ PI w F pb mk (n + 1) N most last q [] W' :=
  take_pi s aim ha hn (fun p0 x t W' e _ f _ => absurd (no_first (rs := []) (fun y hy => by simp at hy) e) f) (fun W' _ g _ => absurd g h2) (fun W' _ _ _ z => ⟨rfl, z⟩) (fun x r W' _ _ e _ => by cases e)
theorem take_out {w W : World} {F : List (Nat × Obj)} {pb mk n N : Nat} {most last : Int} {q : HF} {x : Int} {r : List Int} (s : PI w F pb mk n N most last q (x :: r) W) (aim : KS) (ha : aim.size ≤ 281474976710656) (hn : n ≤ 900) (h1 : ∀ y ∈ x :: r, neA q aim y) (h2 : ¬ (N : Int) < most) (l' : Int) (hl : l' = last + 1) :
    Calls Try.prog 9 #[.pointer (some ⟨pb, 0, none⟩), .string aim] W fun e W' => e = .returned (.tuple #[.agg #[.int .i64 l', .int .i64 x, .bool true], .int .i64 0]) ∧ PI w F pb mk (n + 1) N most l' (updI (updI q x none) l' (some (aim, 1))) ((x :: r).filter (butH x)) W' := by
  subst hl
  refine take_pi s aim ha hn (fun p0 x t W' e _ f _ => absurd (no_first h1 e) f) (fun W' _ g _ => absurd g h2) (fun W' _ _ e _ => by cases e) (fun x' r' W' _ _ e z => ?_)
  cases e
  exact ⟨rfl, z⟩
theorem joined_yes {w W : World} {F : List (Nat × Obj)} {pb mk n N : Nat} {most last : Int} {q : HF} {rs : List Int} (s : PI w F pb mk n N most last q rs W) (h : Int) (hh : InR h) (hn : n ≤ 900) (a : KS) (hq : q h = some (a, 1)) :
    Calls Try.prog 11 #[.pointer (some ⟨pb, 0, none⟩), .int .i64 h] W fun e W' => e = .returned (.bool true) ∧ PI w F pb mk (n + 1) N most last (updI q h (some (a, 2))) rs W' := by
  obtain ⟨v, H, hv⟩ := s.pl
  refine (pljoined_any h pb mk n N most last q rs v W H hh (by omega)).mono ?_
  rintro e W' (⟨x1, e1, rfl, H', X⟩ | ⟨e1, _⟩)
  · rw [hq] at e1
    cases e1
    exact ⟨rfl, s.step hv H' X ((s.qi.set' hq (by show (1 : Int) ≠ 3; decide) a 2 (.inr rfl)).mono (Nat.le_succ _))⟩
  · rw [hq] at e1
    exact absurd rfl e1
theorem joined_no {w W : World} {F : List (Nat × Obj)} {pb mk n N : Nat} {most last : Int} {q : HF} {rs : List Int} (s : PI w F pb mk n N most last q rs W) (h : Int) (hh : InR h) (hn : n ≤ 900) (hq : (lookH (q h)).2 ≠ 1) :
    Calls Try.prog 11 #[.pointer (some ⟨pb, 0, none⟩), .int .i64 h] W fun e W' => e = .returned (.bool false) ∧ PI w F pb mk (n + 1) N most last q rs W' := by
  obtain ⟨v, H, hv⟩ := s.pl
  refine (pljoined_any h pb mk n N most last q rs v W H hh (by omega)).mono ?_
  rintro e W' (⟨x1, e1, rfl, H', X⟩ | ⟨e1, rfl, H', X⟩)
  · rw [e1] at hq
    exact absurd rfl hq
  · exact ⟨rfl, s.step hv H' X (s.qi.mono (Nat.le_succ _))⟩
theorem rest_yes {w W : World} {F : List (Nat × Obj)} {pb mk n N : Nat} {most last : Int} {q : HF} {rs : List Int} (s : PI w F pb mk n N most last q rs W) (h : Int) (hh : InR h) (hn : n ≤ 900) (a : KS) (hq : q h = some (a, 2)) :
    Calls Try.prog 13 #[.pointer (some ⟨pb, 0, none⟩), .int .i64 h] W fun e W' => e = .returned (.bool true) ∧ PI w F pb mk (n + 1) N most last (updI q h (some (a, 3))) (rs ++ [h]) W' := by
  obtain ⟨v, H, hv⟩ := s.pl
  have := s.qi.rl
  refine (plrest_any h pb mk n N most last q rs v W H hh (by omega) (by omega)).mono ?_
  rintro e W' (⟨x1, v', e1, rfl, H', X⟩ | ⟨e1, _⟩)
  · rw [hq] at e1
    cases e1
    exact ⟨rfl, s.step hv H' X (s.qi.rest hq (by show (2 : Int) ≠ 3; decide) a)⟩
  · rw [hq] at e1
    exact absurd rfl e1
theorem rest_no {w W : World} {F : List (Nat × Obj)} {pb mk n N : Nat} {most last : Int} {q : HF} {rs : List Int} (s : PI w F pb mk n N most last q rs W) (h : Int) (hh : InR h) (hn : n ≤ 900) (hq : (lookH (q h)).2 ≠ 2) :
    Calls Try.prog 13 #[.pointer (some ⟨pb, 0, none⟩), .int .i64 h] W fun e W' => e = .returned (.bool false) ∧ PI w F pb mk (n + 1) N most last q rs W' := by
  obtain ⟨v, H, hv⟩ := s.pl
  have := s.qi.rl
  refine (plrest_any h pb mk n N most last q rs v W H hh (by omega) (by omega)).mono ?_
  rintro e W' (⟨x1, v', e1, rfl, H', X⟩ | ⟨e1, rfl, H', X⟩)
  · rw [e1] at hq
    exact absurd rfl hq
  · exact ⟨rfl, s.step hv H' X (s.qi.mono (Nat.le_succ _))⟩
theorem shut_yes {w W : World} {F : List (Nat × Obj)} {pb mk n N : Nat} {most last : Int} {q : HF} {rs : List Int} (s : PI w F pb mk n N most last q rs W) (h : Int) (hh : InR h) (hn : n ≤ 900) (hq : (q h).isSome = true) :
    Calls Try.prog 15 #[.pointer (some ⟨pb, 0, none⟩), .int .i64 h] W fun e W' => e = .returned (.bool true) ∧ PI w F pb mk n (N - 1) most last (updI q h none) (rs.filter (butH h)) W' := by
  obtain ⟨v, H, hv⟩ := s.pl
  have := s.qi.rl
  refine (plshut_any h pb mk n N most last q rs v W H hh s.qi.st (by omega)).mono ?_
  rintro e W' (⟨e1, rfl, v', H', X⟩ | ⟨e1, rfl, rfl⟩)
  · exact ⟨rfl, s.step hv H' X (s.qi.drop hq)⟩
  · rw [e1] at hq
    cases hq
theorem shut_no {w W : World} {F : List (Nat × Obj)} {pb mk n N : Nat} {most last : Int} {q : HF} {rs : List Int} (s : PI w F pb mk n N most last q rs W) (h : Int) (hh : InR h) (hn : n ≤ 900) (hq : q h = none) :
    Calls Try.prog 15 #[.pointer (some ⟨pb, 0, none⟩), .int .i64 h] W fun e W' => e = .returned (.bool false) ∧ W = W' := by
  obtain ⟨v, H, hv⟩ := s.pl
  have := s.qi.rl
  refine (plshut_any h pb mk n N most last q rs v W H hh s.qi.st (by omega)).mono ?_
  rintro e W' (⟨e1, rfl, v', H', X⟩ | ⟨e1, rfl, rfl⟩)
  · rw [hq] at e1
    cases e1
  · exact ⟨rfl, rfl⟩
theorem len_pi {w W : World} {F : List (Nat × Obj)} {pb mk n N : Nat} {most last : Int} {q : HF} {rs : List Int} (s : PI w F pb mk n N most last q rs W) : Calls Try.prog 16 #[.pointer (some ⟨pb, 0, none⟩)] W fun e W' => e = .returned (.int .i64 N) ∧ W = W' := by
  obtain ⟨v, H, hv⟩ := s.pl
  exact pllen_any pb mk n N most last q rs v W H
theorem state_pi {w W : World} {F : List (Nat × Obj)} {pb mk n N : Nat} {most last : Int} {q : HF} {rs : List Int} (s : PI w F pb mk n N most last q rs W) (h : Int) (hh : InR h) (st : Int) (hs : (lookH (q h)).2 = st) : Calls Try.prog 17 #[.pointer (some ⟨pb, 0, none⟩), .int .i64 h] W fun e W' => e = .returned (.int .i64 st) ∧ W = W' := by
  obtain ⟨v, H, hv⟩ := s.pl
  subst hs
  exact plstate_any h pb mk n N most last q rs v W H hh
theorem aim_pi {w W : World} {F : List (Nat × Obj)} {pb mk n N : Nat} {most last : Int} {q : HF} {rs : List Int} (s : PI w F pb mk n N most last q rs W) (h : Int) (hh : InR h) (a : KS) (hs : (lookH (q h)).1 = a) : Calls Try.prog 19 #[.pointer (some ⟨pb, 0, none⟩), .int .i64 h] W fun e W' => e = .returned (.string a) ∧ PI w F pb mk n N most last q rs W' := by
  obtain ⟨v, H, hv⟩ := s.pl
  subst hs
  refine (plaim_any h pb mk n N most last q rs v W H hh).mono ?_
  rintro e W' ⟨rfl, k⟩
  exact ⟨rfl, s.step hv (H.keep k) ((PX.refl _ _ _ _).bel k) s.qi⟩
theorem new_pi (m most : Int) (w : World) (hm : min (max m 0) 64 = most) : Calls Try.prog 5 #[.int .i64 m] w fun e w' => e = .returned (.pointer (some ⟨w.heap.size + 1, 0, none⟩)) ∧ PI w [] (w.heap.size + 1) w.heap.size 0 0 most 0 (fun _ => none) [] w' := by
  subst hm
  refine (plnew_any m w).mono ?_
  rintro e w' ⟨rfl, H, B⟩
  exact ⟨rfl, ⟨_, H, fun g hg => (by cases hg), fun p hp => (by cases hp)⟩, fun p hp => (by cases hp), QI.new, B, by omega, Nat.le_refl _⟩
end Go.Proofs.Ytlaigjapnmgjeaa
