/- The document's clock: Pass. -/
import Derived.Test.YtofnnphpogpcdaaClV
namespace Go.Proofs.Ytofnnphpogpcdaa
open Go.ChangeShapes Go.WideShapes Go.ChangeAt Go.RowKit
set_option linter.unusedVariables false

def btwN (n lo hi : Int) : Int := if n < lo then lo else if hi < n then hi else n
set_option maxHeartbeats 400000 in
theorem btw_any (n lo hi : Int) (w : World) : Calls Try.prog 18 #[.int .i64 n, .int .i64 lo, .int .i64 hi] w fun e w' => e = .returned (.int .i64 (btwN n lo hi)) ∧ w' = w := by
  unfold btwN
  by_cases h1 : n < lo
  · rw [if_pos h1]
    go_enter Try.func18, Try.ntmps18
    go_wp2
    go_ret
    exact ⟨rfl, rfl⟩
  · rw [if_neg h1]
    by_cases h2 : hi < n
    · rw [if_pos h2]
      go_enter Try.func18, Try.ntmps18
      go_wp2
      go_ret
      exact ⟨rfl, rfl⟩
    · rw [if_neg h2]
      go_enter Try.func18, Try.ntmps18
      go_wp2
      go_ret
      exact ⟨rfl, rfl⟩
theorem passI_snoc_le {t : Int} {l : List Pr} {p : Pr} (h : p.2 ≤ t) : passI t (l ++ [p]) = passI t l ++ [p.1] ∧ passR t (l ++ [p]) = passR t l := by
  unfold passI passR
  rw [List.filter_append, List.filter_append, List.filter_cons, if_pos (by simpa using h), List.map_append, List.filter_cons, if_neg (by simpa using h)]
  simp
theorem passI_snoc_gt {t : Int} {l : List Pr} {p : Pr} (h : ¬ p.2 ≤ t) : passI t (l ++ [p]) = passI t l ∧ passR t (l ++ [p]) = passR t l ++ [p] := by
  unfold passI passR
  rw [List.filter_append, List.filter_append, List.filter_cons, if_neg (by simpa using h), List.map_append, List.filter_cons, if_pos (by simpa using h)]
  simp
theorem owr_blk {α : Type} {T : TypeId} {k : Nat} {enc : α → Array Value} {B : Nat} {w : World} {v : Value} {l : List α} (h : OwR T k enc B w v l) {g : Nat} (hg : v.ownBlock = some g) : B ≤ g ∧ ∃ cur, w.heap[g]? = some (.cells cur T) := by
  obtain ⟨_, ⟨h2, _⟩ | ⟨g', c, cur, hv, hB, hg', _⟩⟩ := h
  · rw [h2] at hg; cases hg
  · rw [hv] at hg
    obtain rfl : g' = g := by simpa [Value.ownBlock] using hg
    exact ⟨hB, cur, hg'⟩
/-- The state of Pass. -/
structure QS (w : World) (S : Nat) (now : Int) (v : Value) (wr : World) (vo vr : Value) (O : List Int) (R : List Pr) : Prop where
  x : DB wr w.heap.size now v
  y : DB wr (w.heap.size + 1) 0 (.slice none 0 0)
  o : OwR 3 1 encI S wr vo O
  r : OwR 45 2 encD S wr vr R
  b : Below w.heap.size w wr
  s : w.heap.size + 2 ≤ S
  t : S ≤ wr.heap.size
theorem QS.drewN {w : World} {S : Nat} {now : Int} {v : Value} {wr : World} {vo vr : Value} {O : List Int} {R : List Pr} (h : QS w S now v wr vo vr O R) (n : Nat) : QS w S now v (wr.drewN n) vo vr O R :=
  ⟨h.x, h.y, h.o.move fun _ _ _ _ _ => rfl, h.r.move fun _ _ _ _ _ => rfl, ⟨h.b.os, h.b.tape, h.b.output, h.b.size, h.b.block⟩, h.s, h.t⟩
theorem QS.one {w : World} {S : Nat} {now : Int} {v : Value} {wr : World} {vo vr : Value} {O : List Int} {R : List Pr} (h : QS w S now v wr vo vr O R) (i : Int) (hl : O.length ≤ 1000000) :
    ∃ v' w', (Builtin.append_ #[31, 31] 31 #[vo, .slice (some ⟨wr.heap.size, 0, none⟩) 1 1]).run Try.prog (wr.alloc (.cells #[.int .i64 i] 3)) = .ok v' w' ∧ QS w S now v w' v' vr (O ++ [i]) R ∧ Below S wr w' := by
  obtain ⟨v', w', r, O', B, ow, bl⟩ := owr_append EI Try.underlying31 infoI rfl (by decide) h.o h.t i (by omega)
  refine ⟨v', w', r, ⟨h.x.keep B (by have := h.s; omega), h.y.keep B (by have := h.s; omega), O', h.r.move fun g hg hB hlt ⟨cur, hc⟩ => bl g hlt (fun e => ?_), h.b.trans (B.mono (by have := h.s; omega)), h.s, Nat.le_trans h.t B.size⟩, B⟩
  obtain ⟨_, cur2, hc2⟩ := owr_blk h.o e
  exact absurd (not_pm hc hc2) (by decide)
theorem QS.two {w : World} {S : Nat} {now : Int} {v : Value} {wr : World} {vo vr : Value} {O : List Int} {R : List Pr} (h : QS w S now v wr vo vr O R) (p : Pr) (hl : R.length ≤ 1000000) :
    ∃ v' w', (Builtin.append_ #[26, 26] 26 #[vr, .slice (some ⟨wr.heap.size, 0, none⟩) 1 1]).run Try.prog (wr.alloc (.cells #[.int .i64 p.1, .int .i64 p.2] 45)) = .ok v' w' ∧ QS w S now v w' vo v' O (R ++ [p]) ∧ Below S wr w' := by
  obtain ⟨v', w', r, O', B, ow, bl⟩ := owr_append ED Try.underlying26 infoD rfl (by decide) h.r h.t p (by omega)
  refine ⟨v', w', r, ⟨h.x.keep B (by have := h.s; omega), h.y.keep B (by have := h.s; omega), h.o.move fun g hg hB hlt ⟨cur, hc⟩ => bl g hlt (fun e => ?_), O', h.b.trans (B.mono (by have := h.s; omega)), h.s, Nat.le_trans h.t B.size⟩, B⟩
  obtain ⟨_, cur2, hc2⟩ := owr_blk h.r e
  exact absurd (not_pm hc hc2) (by decide)
theorem QS.fin {w : World} {S : Nat} {now : Int} {v : Value} {wr : World} {vo vr : Value} {O : List Int} {R : List Pr} (h : QS w S now v wr vo vr O R) :
    OwR 3 1 encI w.heap.size (((wr.setCell ⟨w.heap.size, 1, none⟩ vr).setCell ⟨w.heap.size + 1, 0, none⟩ (.int .i64 now)).setCell ⟨w.heap.size + 1, 1, none⟩ vr) vo O ∧ OwR 45 2 encD w.heap.size (((wr.setCell ⟨w.heap.size, 1, none⟩ vr).setCell ⟨w.heap.size + 1, 0, none⟩ (.int .i64 now)).setCell ⟨w.heap.size + 1, 1, none⟩ vr) vr R ∧ Below w.heap.size w (((wr.setCell ⟨w.heap.size, 1, none⟩ vr).setCell ⟨w.heap.size + 1, 0, none⟩ (.int .i64 now)).setCell ⟨w.heap.size + 1, 1, none⟩ vr) := by
  have s := h.s
  have owi : ∀ {W : World} {b o : Nat} {x : Value}, OwR 3 1 encI S W vo O → b < S → OwR 3 1 encI S (W.setCell ⟨b, o, none⟩ x) vo O := fun hh hb => hh.move fun g _ hB _ _ => blk_oth (by omega)
  exact ⟨(owi (owi (owi h.o (by omega)) (by omega)) (by omega)).mono (by omega), (owd_set (owd_set (owd_set h.r (by omega)) (by omega)) (by omega)).mono (by omega), ((h.b.setCell (p := ⟨w.heap.size, 1, none⟩) (Nat.le_refl _) _).setCell (p := ⟨w.heap.size + 1, 0, none⟩) (Nat.le_succ _) _).setCell (p := ⟨w.heap.size + 1, 1, none⟩) (Nat.le_succ _) _⟩
end Go.Proofs.Ytofnnphpogpcdaa
