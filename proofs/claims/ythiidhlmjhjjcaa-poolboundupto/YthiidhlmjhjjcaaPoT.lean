/- PoolBound: the calls on a pool beside a map of those that are lent. -/
import Derived.Test.YthiidhlmjhjjcaaPoR
import Derived.Test.YthiidhlmjhjjcaaPoS
namespace Go.Proofs.Ythiidhlmjhjjcaa
open Go.RowKit Go.Shelf
set_option linter.unusedVariables false

theorem KM.pos {w : World} {m n N : Nat} {q : Int → Bool} (h : KM w m n N q) {s : Int} (e : q s = true) : 1 ≤ N := by
  obtain ⟨D, h1, h3, h2⟩ := h
  have k := Maps.size_del (k := .int .i64 s) (h1.tidy KIt)
  rw [(h2 s).1, h3, e, if_pos rfl] at k
  omega
/-- A pool of at most b handles behind i calls; in the block mb just those that are lent are marked; the blocks of F are others. -/
def PT (w : World) (F : List (Nat × Obj)) (pb mk mb : Nat) (b : Int) (i : Nat) (last : Int) (W : World) : Prop :=
  ∃ (n N c K : Nat) (q : HF) (rs : List Int), n ≤ i ∧ c ≤ i ∧ PB w F pb mk mb n N c K b last q rs (lentB q) W ∧ LI N K b rs
theorem PT.of {w W : World} {F : List (Nat × Obj)} {pb mk mb n N c K i : Nat} {b last : Int} {q : HF} {rs : List Int} (B : PB w F pb mk mb n N c K b last q rs (lentB q) W) (L : LI N K b rs) (h1 : n ≤ i) (h2 : c ≤ i) : PT w F pb mk mb b i last W := ⟨n, N, c, K, q, rs, h1, h2, B, L⟩
theorem PT.tail {w W : World} {F : List (Nat × Obj)} {pb mk mb i : Nat} {b last : Int} (h : PT w F pb mk mb b i last W) : ∃ N K : Nat, (Calls Try.prog 17 #[.pointer (some ⟨pb, 0, none⟩)] W fun e W' => e = .returned (.int .i64 N) ∧ W = W') ∧ (∀ ty, (Builtin.len_ #[75] ty #[.map (some mb)]).run Try.prog W = .ok (.int .i64 K) W) ∧ (N : Int) ≤ b ∧ K ≤ N := by
  obtain ⟨n, N, c, K, q, rs, h1, h2, h3, h4⟩ := h
  obtain ⟨o, s, _⟩ := h3.call
  exact ⟨N, K, len_pi s, fun ty => h3.km.len ty, h4.m, h4.le⟩
theorem PT.less {w W : World} {F F' : List (Nat × Obj)} {pb mk mb i : Nat} {b last : Int} (h : PT w F pb mk mb b i last W) (hF : ∀ p ∈ F', p ∈ F) : PT w F' pb mk mb b i last W := by
  obtain ⟨n, N, c, K, q, rs, h1, h2, h3, h4⟩ := h
  exact ⟨n, N, c, K, q, rs, h1, h2, h3.less hF, h4⟩
theorem PT.newF {w W : World} {F : List (Nat × Obj)} {pb mk mb i : Nat} {b last : Int} (h : PT w F pb mk mb b i last W) (x : Obj) : PT w ((W.heap.size, x) :: F) pb mk mb b i last (W.alloc x) := by
  obtain ⟨n, N, c, K, q, rs, h1, h2, h3, h4⟩ := h
  exact ⟨n, N, c, K, q, rs, h1, h2, h3.newF x, h4⟩
theorem PT.mono {w W : World} {F : List (Nat × Obj)} {pb mk mb i j : Nat} {b last : Int} (h : PT w F pb mk mb b i last W) (hj : i ≤ j) : PT w F pb mk mb b j last W := by
  obtain ⟨n, N, c, K, q, rs, h1, h2, h3⟩ := h
  exact ⟨n, N, c, K, q, rs, by omega, by omega, h3⟩
theorem PT.be {w W : World} {F : List (Nat × Obj)} {pb mk mb i : Nat} {b last : Int} (h : PT w F pb mk mb b i last W) : Below w.heap.size w W := by
  obtain ⟨n, N, c, K, q, rs, h1, h2, h3, h4⟩ := h
  obtain ⟨o, s⟩ := h3.pi
  exact s.be
theorem PT.fr {w W : World} {F : List (Nat × Obj)} {pb mk mb i : Nat} {b last : Int} (h : PT w F pb mk mb b i last W) : ∀ p ∈ F, W.heap[p.1]? = some p.2 := fun p hp => by
  obtain ⟨n, N, c, K, q, rs, h1, h2, h3, h4⟩ := h
  obtain ⟨o, s⟩ := h3.pi
  exact (s.fr p (List.mem_cons_of_mem _ hp)).1
theorem lentB_st {q : HF} {h : Int} {a : KS} {t : Int} (e : q h = some (a, t)) (b : Bool) (hb : (t == 1 || t == 2) = b) : lentB q h = b := by rw [lentB_some e, hb]
theorem look_cases {n N : Nat} {last : Int} {q : HF} {rs : List Int} (k : QI n N last q rs) (h : Int) : q h = none ∨ ∃ a, q h = some (a, 1) ∨ q h = some (a, 2) ∨ q h = some (a, 3) := by
  cases e : q h with
  | none => exact .inl rfl
  | some x =>
    obtain ⟨a, t⟩ := x
    have := (k.b h _ e).2.2
    have ht : t = 1 ∨ t = 2 ∨ t = 3 := this
    rcases ht with rfl | rfl | rfl
    · exact .inr ⟨a, .inl rfl⟩
    · exact .inr ⟨a, .inr (.inl rfl)⟩
    · exact .inr ⟨a, .inr (.inr rfl)⟩
theorem PT.joined {w W : World} {F : List (Nat × Obj)} {pb mk mb i : Nat} {b last : Int} (h : PT w F pb mk mb b i last W) (hi : i ≤ 900) (x : Int) (hx : InR x) :
    Calls Try.prog 12 #[.pointer (some ⟨pb, 0, none⟩), .int .i64 x] W fun e W' => (∃ r, e = .returned (.bool r)) ∧ PT w F pb mk mb b (i + 1) last W' := by
  obtain ⟨n, N, c, K, q, rs, h1, h2, h3, h4⟩ := h
  obtain ⟨o, s, hc⟩ := h3.call
  by_cases hq : (lookH (q x)).2 = 1
  · obtain ⟨a, ha⟩ : ∃ a, q x = some (a, 1) := by
      rcases look_cases s.qi x with e | ⟨a, e | e | e⟩
      · rw [e] at hq; exact absurd hq (by decide)
      · exact ⟨a, e⟩
      · rw [e] at hq; exact absurd hq (by show ¬ ((2 : Int) = 1); decide)
      · rw [e] at hq; exact absurd hq (by show ¬ ((3 : Int) = 1); decide)
    refine (joined_yes s x hx (by omega) a ha).mono ?_
    rintro e W' ⟨rfl, C⟩
    have B := hc C
    have eq : lentB (updI q x (some (a, 2))) = lentB q := by
      rw [lentB_upd q x _ true rfl]
      exact updI_self _ _ _ (lentB_st ha true rfl)
    rw [← eq] at B
    exact ⟨⟨_, rfl⟩, PT.of B h4 (by omega) (by omega)⟩
  · refine (joined_no s x hx (by omega) hq).mono ?_
    rintro e W' ⟨rfl, C⟩
    exact ⟨⟨_, rfl⟩, PT.of (hc C) h4 (by omega) (by omega)⟩
theorem PT.rest {w W : World} {F : List (Nat × Obj)} {pb mk mb i : Nat} {b last : Int} (h : PT w F pb mk mb b i last W) (hi : i ≤ 900) (x : Int) (hx : InR x) :
    Calls Try.prog 14 #[.pointer (some ⟨pb, 0, none⟩), .int .i64 x] W fun e W' => (∃ r : Bool, e = .returned (.bool r) ∧ if r then ((Instr.lookup 75 (.map (some mb)) (.int .i64 x) false).run Try.prog W' = .ok (.bool true) W' ∧ (∀ p ∈ F, W'.heap[p.1]? = some p.2) ∧ ∃ W2, (∀ ty, (Builtin.delete_ #[75, 3] ty #[.map (some mb), .int .i64 x]).run Try.prog W' = .ok (.tuple #[]) W2) ∧ PT w F pb mk mb b (i + 1) last W2) else PT w F pb mk mb b (i + 1) last W') := by
  obtain ⟨n, N, c, K, q, rs, h1, h2, h3, h4⟩ := h
  obtain ⟨o, s, hc⟩ := h3.call
  by_cases hq : (lookH (q x)).2 = 2
  · obtain ⟨a, ha⟩ : ∃ a, q x = some (a, 2) := by
      rcases look_cases s.qi x with e | ⟨a, e | e | e⟩
      · rw [e] at hq; exact absurd hq (by decide)
      · rw [e] at hq; exact absurd hq (by show ¬ ((1 : Int) = 2); decide)
      · exact ⟨a, e⟩
      · rw [e] at hq; exact absurd hq (by show ¬ ((3 : Int) = 2); decide)
    refine (rest_yes s x hx (by omega) a ha).mono ?_
    rintro e W' ⟨rfl, C⟩
    have B := hc C
    have hl : lentB q x = true := lentB_st ha true rfl
    have lk := B.km.look hx
    rw [hl] at lk
    obtain ⟨W2, r2, k2, g2⟩ := B.km.del hx
    rw [if_pos hl, ← lentB_upd q x (some (a, 3)) false rfl] at k2
    refine ⟨true, rfl, ?_⟩
    rw [if_pos rfl]
    refine ⟨lk, fun p hp => (C.fr p (List.mem_cons_of_mem _ hp)).1, W2, r2, PT.of (B.turn g2 k2) (h4.rest (B.km.pos hl)) (by omega) (by omega)⟩
  · refine (rest_no s x hx (by omega) hq).mono ?_
    rintro e W' ⟨rfl, C⟩
    refine ⟨false, rfl, ?_⟩
    rw [if_neg (by decide)]
    exact PT.of (hc C) h4 (by omega) (by omega)
theorem PT.shut {w W : World} {F : List (Nat × Obj)} {pb mk mb i : Nat} {b last : Int} (h : PT w F pb mk mb b i last W) (hi : i ≤ 900) (x : Int) (hx : InR x) :
    Calls Try.prog 16 #[.pointer (some ⟨pb, 0, none⟩), .int .i64 x] W fun e W' => (∃ r : Bool, e = .returned (.bool r)) ∧ (∀ p ∈ F, W'.heap[p.1]? = some p.2) ∧ ∃ W2, (∀ ty, (Builtin.delete_ #[75, 3] ty #[.map (some mb), .int .i64 x]).run Try.prog W' = .ok (.tuple #[]) W2) ∧ PT w F pb mk mb b (i + 1) last W2 := by
  obtain ⟨n, N, c, K, q, rs, h1, h2, h3, h4⟩ := h
  obtain ⟨o, s, hc⟩ := h3.call
  cases hq : q x with
  | none =>
    refine (shut_no s x hx (by omega) hq).mono ?_
    rintro e W' ⟨rfl, rfl⟩
    have C := s
    have B := h3
    have hl : lentB q x = false := lentB_none hq
    obtain ⟨W2, r2, k2, g2⟩ := B.km.del hx
    rw [hl, if_neg (by decide), updI_self _ _ _ hl] at k2
    refine ⟨⟨_, rfl⟩, fun p hp => (C.fr p (List.mem_cons_of_mem _ hp)).1, W2, r2, PT.of (B.turn g2 k2) h4 (by omega) (by omega)⟩
  | some y =>
    have hs : (q x).isSome = true := by rw [hq]; rfl
    refine (shut_yes s x hx (by omega) hs).mono ?_
    rintro e W' ⟨rfl, C⟩
    have B := hc C
    obtain ⟨W2, r2, k2, g2⟩ := B.km.del hx
    rw [← lentB_upd q x none false rfl] at k2
    cases hl : lentB q x with
    | true =>
      rw [hl, if_pos rfl] at k2
      refine ⟨⟨_, rfl⟩, fun p hp => (C.fr p (List.mem_cons_of_mem _ hp)).1, W2, r2, PT.of (B.turn g2 k2) (h4.shut12 (lent_idle s.qi hl) (B.km.pos hl)) (by omega) (by omega)⟩
    | false =>
      rw [hl, if_neg (by decide)] at k2
      refine ⟨⟨_, rfl⟩, fun p hp => (C.fr p (List.mem_cons_of_mem _ hp)).1, W2, r2, PT.of (B.turn g2 k2) (h4.shut3 s.qi.nd (idle_lent s.qi hs hl)) (by omega) (by omega)⟩
end Go.Proofs.Ythiidhlmjhjjcaa
