/- PoolPlays: the calls, first on the document's pool, then on the pool. -/
import Derived.Test.YtlaigjapnmgjeaaQi
namespace Go.Proofs.Ytlaigjapnmgjeaa
open Go.RowKit Go.Shelf
set_option linter.unusedVariables false

/-- The pool and the document's tell the same. -/
structure PD (w : World) (F : List (Nat × Obj)) (pb mk mb n : Nat) (most last : Int) (q : HF) (rs : List Int) (R : Int) (a : Option Addr) (c : Nat) (L : List Hn) (W : World) : Prop where
  pm : PM w F pb mk mb n L.length most last q rs most last R a c L W
  k : RQH q L
  s : SO rs L R
  r : 0 ≤ R ∧ R ≤ n
  n : L.length ≤ n
theorem PD.bel {w V : World} {F : List (Nat × Obj)} {pb mk mb n : Nat} {most last : Int} {q : HF} {rs : List Int} {R : Int} {a : Option Addr} {c : Nat} {L : List Hn} {W : World} (h : PD w F pb mk mb n most last q rs R a c L W) (b : Below W.heap.size W V) : PD w F pb mk mb n most last q rs R a c L V := ⟨h.pm.bel b, h.k, h.s, h.r, h.n⟩
theorem PD.less {w : World} {F F' : List (Nat × Obj)} {pb mk mb n : Nat} {most last : Int} {q : HF} {rs : List Int} {R : Int} {a : Option Addr} {c : Nat} {L : List Hn} {W : World} (h : PD w F pb mk mb n most last q rs R a c L W) (k : ∀ p ∈ F', p ∈ F) : PD w F' pb mk mb n most last q rs R a c L W := ⟨h.pm.less k, h.k, h.s, h.r, h.n⟩
/-- What the pool's call then does. -/
def Then17 (w : World) (F : List (Nat × Obj)) (pb mk mb n : Nat) (most last' : Int) (R' : Int) (a' : Option Addr) (c' : Nat) (L' : List Hn) (f : FuncId) (args : Array Value) (ans : Value) (V : World) : Prop :=
  ∀ V2 G', Below V.heap.size V V2 → (∀ p ∈ G', V.heap.size ≤ p.1 ∧ V2.heap[p.1]? = some p.2) → Calls Try.prog f args ((((V2.setCell ⟨mb, 0, none⟩ (.int .i64 most)).setCell ⟨mb, 1, none⟩ (.int .i64 last')).setCell ⟨mb, 2, none⟩ (.int .i64 R')).setCell ⟨mb, 3, none⟩ (.slice a' L'.length c')) fun e V3 => e = .returned ans ∧ ∃ q' rs', PD w (G' ++ F) pb mk mb (n + 1) most last' q' rs' R' a' c' L' V3
theorem look17 {q : HF} {L : List Hn} (K : RQH q L) {h : Int} {st : Int} (hs : (lookH (q h)).2 = st) (h0 : st ≠ 0) : ∃ x ∈ L, x.h = h ∧ x.st = st ∧ q h = some (x.a, st) := by
  cases e : q h with
  | none => rw [e] at hs; exact absurd hs.symm h0
  | some y =>
    obtain ⟨x, hx, e2⟩ := K.b h y e
    have hxm := K.a x hx
    rw [e2] at hxm
    have : x.st = st := by rw [← hs, hxm]; rfl
    exact ⟨x, hx, e2, this, by rw [← e, hxm, this]⟩
theorem hasH_of {x : Hn} {L : List Hn} (h : x ∈ L) : hasH x.h L = true := hasH_iff.2 ⟨x, h, rfl⟩
theorem PD.joined {w : World} {F : List (Nat × Obj)} {pb mk mb n : Nat} {most last : Int} {q : HF} {rs : List Int} {R : Int} {a : Option Addr} {c : Nat} {L : List Hn} {W : World} (h : PD w F pb mk mb n most last q rs R a c L W) (hn : n ≤ 900) (x : Int) (hx : InR x) :
    Calls Try.prog 10 #[.agg #[.int .i64 most, .int .i64 last, .int .i64 R, .slice a L.length c], .int .i64 x] W fun e V => ∃ a' c' L' b, e = .returned (.tuple #[.agg #[.int .i64 most, .int .i64 last, .int .i64 R, .slice a' L'.length c'], .bool b]) ∧ Below W.heap.size W V ∧ Then17 w F pb mk mb n most last R a' c' L' 11 #[.pointer (some ⟨pb, 0, none⟩), .int .i64 x] (.bool b) V := by
  have hl : L.length ≤ 1000000 := by have := h.n; omega
  have hr := h.r
  have hln := h.n
  by_cases hq : (lookH (q x)).2 = 1
  · obtain ⟨y, hy, e1, e2, e3⟩ := look17 h.k hq (by decide)
    refine (rjoined_yes q L h.k a c most last R x y.a W h.pm.rd hl e3).mono ?_
    rintro e V ⟨a', c', si, rfl, _, O, B⟩
    refine ⟨a', c', _, true, rfl, B, fun V2 G' b2 hG => ?_⟩
    refine ((h.pm.put B O b2 hG most last R).op fun F' s => joined_yes s x hx hn y.a e3).mono ?_
    rintro e V3 ⟨rfl, M⟩
    have hh : hasH x L = true := hasH_iff.2 ⟨y, hy, e1⟩
    have hlen : (withL ⟨x, 2, si, y.a⟩ L).length = L.length := by rw [with_len]; exact if_pos hh
    refine ⟨rfl, _, rs, ⟨?_, h.k.with ⟨x, 2, si, y.a⟩, ?_, ⟨hr.1, by omega⟩, by rw [hlen]; omega⟩⟩
    · have M2 := M
      rw [← hlen] at M2
      exact M2
    · have := h.s.with (x := ⟨x, 2, si, y.a⟩) (by show (2 : Int) ≠ 3; decide)
      rwa [filt_notin (fun m => by
        obtain ⟨s', e⟩ := (h.pm.qi.r x).1 m
        rw [e3] at e
        injection e with e
        injection e with _ e
        omega)] at this
  · refine (rjoined_no q L h.k a c most last R x W h.pm.rd hl hq).mono ?_
    rintro e V ⟨rfl, B⟩
    refine ⟨a, c, L, false, rfl, B, fun V2 G' b2 hG => ?_⟩
    refine ((h.pm.same (B.trans (b2.mono B.size)) (fun p hp => ⟨Nat.le_trans B.size (hG p hp).1, (hG p hp).2⟩) most last R).op fun F' s => joined_no s x hx hn hq).mono ?_
    rintro e V3 ⟨rfl, M⟩
    exact ⟨rfl, q, rs, ⟨M, h.k, h.s, ⟨hr.1, by omega⟩, by omega⟩⟩
theorem PD.rest {w : World} {F : List (Nat × Obj)} {pb mk mb n : Nat} {most last : Int} {q : HF} {rs : List Int} {R : Int} {a : Option Addr} {c : Nat} {L : List Hn} {W : World} (h : PD w F pb mk mb n most last q rs R a c L W) (hn : n ≤ 900) (x : Int) (hx : InR x) :
    Calls Try.prog 12 #[.agg #[.int .i64 most, .int .i64 last, .int .i64 R, .slice a L.length c], .int .i64 x] W fun e V => ∃ a' c' L' b R', e = .returned (.tuple #[.agg #[.int .i64 most, .int .i64 last, .int .i64 R', .slice a' L'.length c'], .bool b]) ∧ Below W.heap.size W V ∧ Then17 w F pb mk mb n most last R' a' c' L' 13 #[.pointer (some ⟨pb, 0, none⟩), .int .i64 x] (.bool b) V := by
  have hl : L.length ≤ 1000000 := by have := h.n; omega
  have hr := h.r
  have hln := h.n
  by_cases hq : (lookH (q x)).2 = 2
  · obtain ⟨y, hy, e1, e2, e3⟩ := look17 h.k hq (by decide)
    refine (rrest_yes q L h.k a c most last R x y.a W h.pm.rd hl e3 (R + 1) rfl (by omega) (by omega)).mono ?_
    rintro e V ⟨a', c', rfl, O, B⟩
    refine ⟨a', c', _, true, R + 1, rfl, B, fun V2 G' b2 hG => ?_⟩
    refine ((h.pm.put B O b2 hG most last (R + 1)).op fun F' s => rest_yes s x hx hn y.a e3).mono ?_
    rintro e V3 ⟨rfl, M⟩
    have hh : hasH x L = true := hasH_iff.2 ⟨y, hy, e1⟩
    have hlen : (withL ⟨x, 3, R + 1, y.a⟩ L).length = L.length := by rw [with_len]; exact if_pos hh
    refine ⟨rfl, _, rs ++ [x], ⟨?_, h.k.with ⟨x, 3, R + 1, y.a⟩, ?_, ⟨by omega, by omega⟩, by rw [hlen]; omega⟩⟩
    · have M2 := M
      rw [← hlen] at M2
      exact M2
    · exact h.s.rest y.a (fun m => by
        obtain ⟨s', e⟩ := (h.pm.qi.r x).1 m
        rw [e3] at e
        injection e with e
        injection e with _ e
        omega)
  · refine (rrest_no q L h.k a c most last R x W h.pm.rd hl hq).mono ?_
    rintro e V ⟨rfl, B⟩
    refine ⟨a, c, L, false, R, rfl, B, fun V2 G' b2 hG => ?_⟩
    refine ((h.pm.same (B.trans (b2.mono B.size)) (fun p hp => ⟨Nat.le_trans B.size (hG p hp).1, (hG p hp).2⟩) most last R).op fun F' s => rest_no s x hx hn hq).mono ?_
    rintro e V3 ⟨rfl, M⟩
    exact ⟨rfl, q, rs, ⟨M, h.k, h.s, ⟨hr.1, by omega⟩, by omega⟩⟩
theorem PD.shut {w : World} {F : List (Nat × Obj)} {pb mk mb n : Nat} {most last : Int} {q : HF} {rs : List Int} {R : Int} {a : Option Addr} {c : Nat} {L : List Hn} {W : World} (h : PD w F pb mk mb n most last q rs R a c L W) (hn : n ≤ 900) (x : Int) (hx : InR x) :
    Calls Try.prog 14 #[.agg #[.int .i64 most, .int .i64 last, .int .i64 R, .slice a L.length c], .int .i64 x] W fun e V => ∃ a' c' L' b, e = .returned (.tuple #[.agg #[.int .i64 most, .int .i64 last, .int .i64 R, .slice a' L'.length c'], .bool b]) ∧ Below W.heap.size W V ∧ Then17 w F pb mk mb n most last R a' c' L' 15 #[.pointer (some ⟨pb, 0, none⟩), .int .i64 x] (.bool b) V := by
  have hl : L.length ≤ 1000000 := by have := h.n; omega
  have hr := h.r
  have hln := h.n
  refine (rshut_any L a c most last R x W h.pm.rd hl).mono ?_
  rintro e V ⟨a', c', rfl, O, B⟩
  refine ⟨a', c', _, _, rfl, B, fun V2 G' b2 hG => ?_⟩
  cases hq : q x with
  | some y =>
    have hs : (q x).isSome = true := by rw [hq]; rfl
    have hh : hasH x L = true := by rw [h.k.has]; exact hs
    have hlen := offH_yes h.k.nd hh
    have hb : decide ((offH x L).length < L.length) = true := decide_eq_true (by omega)
    rw [hb]
    refine ((h.pm.put B O b2 hG most last R).op fun F' s => shut_yes s x hx hn hs).mono ?_
    rintro e V3 ⟨rfl, M⟩
    rw [show L.length - 1 = (offH x L).length by omega] at M
    obtain ⟨G, s, g1, g2⟩ := M.pi
    refine ⟨rfl, _, _, ⟨⟨⟨G, ?_, g1, g2⟩, M.rd, M.lo, M.ne⟩, h.k.off x, h.s.off x, ⟨hr.1, by omega⟩, by omega⟩⟩
    obtain ⟨v, H, hv⟩ := s.pl
    exact ⟨⟨v, ⟨H.bk, by obtain ⟨D, h1, h2⟩ := H.hm; exact ⟨D, h1.mono (Nat.le_succ _), h2⟩, H.ro, H.qs⟩, hv⟩, s.fr, s.qi.mono (Nat.le_succ _), s.be, s.hp, s.hm⟩
  | none =>
    have hh : hasH x L = false := by rw [h.k.has, hq]; rfl
    have hL : offH x L = L := offH_no hh
    rw [hL] at O ⊢
    have hb : decide (L.length < L.length) = false := decide_eq_false (by omega)
    rw [hb]
    refine ((h.pm.put B O b2 hG most last R).op (n' := n) (N' := L.length) (last' := last) (q' := q) (rs' := rs) fun F' s => (shut_no s x hx hn hq).mono fun e W' ⟨e1, e2⟩ => ⟨e1, e2 ▸ s⟩).mono ?_
    rintro e V3 ⟨rfl, M⟩
    obtain ⟨G, s, g1, g2⟩ := M.pi
    refine ⟨rfl, q, rs, ⟨⟨⟨G, ?_, g1, g2⟩, M.rd, M.lo, M.ne⟩, h.k, h.s, ⟨hr.1, by omega⟩, by omega⟩⟩
    obtain ⟨v, H, hv⟩ := s.pl
    exact ⟨⟨v, ⟨H.bk, by obtain ⟨D, h1, h2⟩ := H.hm; exact ⟨D, h1.mono (Nat.le_succ _), h2⟩, H.ro, H.qs⟩, hv⟩, s.fr, s.qi.mono (Nat.le_succ _), s.be, s.hp, s.hm⟩
end Go.Proofs.Ytlaigjapnmgjeaa
