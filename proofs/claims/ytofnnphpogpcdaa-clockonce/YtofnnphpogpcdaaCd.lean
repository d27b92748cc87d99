/- ClockOnce: a clock beside a map of its moments. -/
import Derived.Test.YtofnnphpogpcdaaCc
namespace Go.Proofs.Ytofnnphpogpcdaa
open Go.ChangeShapes Go.WideShapes Go.ChangeAt Go.RowKit
set_option linter.unusedVariables false

/-- The clock has L to come, the map tells Lm; the blocks of X are others. -/
structure OS (w : World) (X : Nat → Prop) (cb mk mb n : Nat) (now : Int) (L Lm : List Pr) (W : World) : Prop where
  c : CB w X cb mk n now L W
  xm : X mb
  xw : ∀ k, X k → w.heap.size ≤ k
  t : ∃ q nm, nm ≤ n + 1 ∧ TM W mb nm Lm.length q ∧ RQL q Lm
theorem OS.start {w W : World} {cb mk : Nat} (C : CB w (fun _ => False) cb mk 0 0 [] W) : OS w (fun k => k = W.heap.size) cb mk W.heap.size 0 0 [] [] (W.alloc (.map #[] 0)) := by
  have sz := C.be.size
  refine ⟨(C.more ((Below.refl _ _).alloc (Nat.le_refl _) (.map #[] 0))).less fun i hi => .inr ⟨by omega, by simp; omega⟩, rfl, fun k hk => by omega, fun _ => none, 0, Nat.zero_le _, TM.new W, RQL.nil⟩
theorem OS.be {w : World} {X : Nat → Prop} {cb mk mb n : Nat} {now : Int} {L Lm : List Pr} {W : World} (h : OS w X cb mk mb n now L Lm W) : Below w.heap.size w W := h.c.be
theorem OS.bel {w : World} {X : Nat → Prop} {cb mk mb n : Nat} {now : Int} {L Lm : List Pr} {W V : World} (h : OS w X cb mk mb n now L Lm W) (k : Below W.heap.size W V) : OS w X cb mk mb n now L Lm V := by
  obtain ⟨c, xm, xw, q, nm, h1, h2, h3⟩ := h
  exact ⟨c.bel k, xm, xw, q, nm, h1, h2.move (k.block mb h2.lt), h3⟩
theorem OS.op {w : World} {X : Nat → Prop} {cb mk mb n n' : Nat} {now now' : Int} {L L' Lm : List Pr} {W : World} (h : OS w X cb mk mb n now L Lm W) (hn : n ≤ n') {f : FuncId} {args : Array Value} {P : Ending → World → Prop}
    (k : Calls Try.prog f args W fun e W' => P e W' ∧ CB w X cb mk n' now' L' W' ∧ ∀ k, X k → W'.heap[k]? = W.heap[k]?) : Calls Try.prog f args W fun e W' => P e W' ∧ OS w X cb mk mb n' now' L' Lm W' ∧ ∀ k, X k → W'.heap[k]? = W.heap[k]? := by
  obtain ⟨c, xm, xw, q, nm, h1, h2, h3⟩ := h
  refine k.mono ?_
  rintro e W' ⟨p, C, K⟩
  exact ⟨p, ⟨C, xm, xw, q, nm, by omega, h2.move (K mb xm), h3⟩, K⟩
theorem OS.turn {w : World} {X : Nat → Prop} {cb mk mb n : Nat} {now : Int} {L Lm Lm' : List Pr} {W W' : World} (h : OS w X cb mk mb n now L Lm W) (g : W.grownBy W' (some mb)) (t : ∃ q nm, nm ≤ n + 1 ∧ TM W' mb nm Lm'.length q ∧ RQL q Lm') : OS w X cb mk mb n now L Lm' W' :=
  ⟨h.c.turn h.xw ⟨g.os, g.tape, g.output, g.size, fun k hk hn => g.block k hk (fun e => hn (by cases e; exact h.xm))⟩, h.xm, h.xw, t⟩
theorem OS.put {w : World} {X : Nat → Prop} {cb mk mb n : Nat} {now : Int} {L : List Pr} {W : World} (h : OS w X cb mk mb n now L L W) (hn : n ≤ 1000) (hq : ∃ q, TM W mb n L.length q ∧ RQL q L) (s t : Int) (hs : InR s) (ht : InR t) (hno : ∀ p ∈ L, p.1 ≠ s) : ∃ W', (Instr.mapUpdate 47 (.map (some mb)) (.int .i64 s) (.int .i64 t)).run Try.prog W = .ok () W' ∧ (Instr.lookup 47 (.map (some mb)) (.int .i64 s) false).run Try.prog W' = .ok (.int .i64 t) W' ∧ OS w X cb mk mb n now L (insL (s, t) L) W' ∧ W.grownBy W' (some mb) ∧ ∃ q, TM W' mb (n + 1) (insL (s, t) L).length q ∧ RQL q (insL (s, t) L) := by
  obtain ⟨q, h2, h3⟩ := hq
  have hnone : (q s).isSome = false := by
    rw [h3.has s]
    cases hh : hasL s L with
    | false => rfl
    | true =>
      obtain ⟨p, hp, e⟩ := hasL_iff.1 hh
      exact absurd e (hno p hp)
  obtain ⟨W', r, T, g⟩ := h2.put (by unfold maxLen; omega) hs ht
  rw [hnone, if_neg (by decide)] at T
  have lk := (T.look hs).1
  rw [updI_same] at lk
  have e : L.length + 1 = (insL (s, t) L).length := (ins_len _ _).symm
  rw [e] at T
  exact ⟨W', r, lk, h.turn g ⟨_, n + 1, Nat.le_refl _, T, h3.put hno⟩, g, _, T, h3.put hno⟩
theorem OS.look {w : World} {X : Nat → Prop} {cb mk mb n : Nat} {now : Int} {L Lm : List Pr} {W : World} (h : OS w X cb mk mb n now L Lm W) (s : Int) (hs : InR s) : ∃ t, (Instr.lookup 47 (.map (some mb)) (.int .i64 s) true).run Try.prog W = .ok (.tuple #[.int .i64 t, .bool (hasL s Lm)]) W ∧ ∀ u, (s, u) ∈ Lm → t = u := by
  obtain ⟨c, xm, xw, q, nm, h1, h2, h3⟩ := h
  have lk := (h2.look hs).2
  rw [h3.has s] at lk
  refine ⟨_, lk, fun u hu => ?_⟩
  rw [(h3.2 s u).2 hu]; rfl
theorem OS.del {w : World} {X : Nat → Prop} {cb mk mb n : Nat} {now : Int} {L Lm : List Pr} {W : World} (h : OS w X cb mk mb n now L Lm W) (s : Int) (hs : InR s) : ∃ W', (∀ ty, (Builtin.delete_ #[47, 3] ty #[.map (some mb), .int .i64 s]).run Try.prog W = .ok (.tuple #[]) W') ∧ OS w X cb mk mb n now L (offL s Lm) W' ∧ W.grownBy W' (some mb) := by
  obtain ⟨q, nm, h1, h2, h3⟩ := h.t
  obtain ⟨W', r, T, g⟩ := h2.del hs
  have e : (if (q s).isSome then Lm.length - 1 else Lm.length) = (offL s Lm).length := by
    rw [h3.has s]
    cases hh : hasL s Lm with
    | true => rw [if_pos rfl, off_len1 h3.1 hh]
    | false => rw [if_neg (by decide), off_len0 hh]
  rw [e] at T
  exact ⟨W', r, h.turn g ⟨_, nm, h1, T, h3.off s⟩, g⟩
theorem OS.len {w : World} {X : Nat → Prop} {cb mk mb n : Nat} {now : Int} {L Lm : List Pr} {W : World} (h : OS w X cb mk mb n now L Lm W) (ty : TypeId) : (Builtin.len_ #[47] ty #[.map (some mb)]).run Try.prog W = .ok (.int .i64 Lm.length) W := by
  obtain ⟨q, nm, h1, h2, h3⟩ := h.t
  exact h2.len ty
theorem OS.srt {w : World} {X : Nat → Prop} {cb mk mb n : Nat} {now : Int} {L Lm : List Pr} {W : World} (h : OS w X cb mk mb n now L Lm W) : L.Pairwise klt ∧ (L.map Prod.fst).Nodup := by
  obtain ⟨⟨S, C, _⟩, _⟩ := h
  obtain ⟨v, E, q, Q, hp, M, rm, rl, hS⟩ := C.x
  exact ⟨rl.s, rl.d⟩
/-- Another row among the others. -/
theorem OS.row {w : World} {X : Nat → Prop} {cb mk mb n : Nat} {now : Int} {L Lm : List Pr} {W V : World} (h : OS w X cb mk mb n now L Lm W) (b : Below W.heap.size W V) {B : Nat} {v : Value} {l : List Int} (O : OwR 3 1 encI B V v l) (hB : W.heap.size ≤ B) : OS w (fun k => X k ∨ v.ownBlock = some k) cb mk mb n now L Lm V := by
  have h2 := h.bel b
  obtain ⟨c, xm, xw, t⟩ := h
  refine ⟨(c.more b).less fun i hi => ?_, .inl xm, fun k hk => ?_, h2.t⟩
  · rcases hi with e | e
    · exact .inl e
    · obtain ⟨o1, cur, o2⟩ := owr_blkI O e
      exact .inr ⟨Nat.le_trans hB o1, (Array.getElem?_eq_some_iff.1 o2).1⟩
  · rcases hk with e | e
    · exact xw k e
    · obtain ⟨o1, cur, o2⟩ := owr_blkI O e
      have := c.be.size
      omega
/-- A row of numbers stays while the map turns. -/
theorem rd_map {W W' : World} {mb nm N : Nat} {q : QF} {a : Option Addr} {c : Nat} {l : List Int} (h : RdR 1 encI W a c l) (t : TM W mb nm N q) (g : W.grownBy W' (some mb)) : RdR 1 encI W' a c l := by
  by_cases hp : 0 < l.length
  · refine h.move fun b off e hb => g.block b hb (fun e2 => ?_)
    obtain ⟨b', off', e', hb', hc⟩ := h.2.2.2 hp
    rw [e] at e'
    injection e' with e'
    injection e' with e1 e3
    subst e1 e3
    cases e2
    obtain ⟨es, cl, hm⟩ := t.blk
    have := hc 0 l[0] (List.getElem?_eq_getElem hp) 0 (by decide)
    simp [World.cell?, hm, encI] at this
  · exact ⟨h.1, h.2.1, h.2.2.1, fun x => absurd x hp⟩
end Go.Proofs.Ytofnnphpogpcdaa
