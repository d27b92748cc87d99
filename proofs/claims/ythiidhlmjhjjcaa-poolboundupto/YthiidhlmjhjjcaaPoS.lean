/- A pool of one's own, and a map of marks beside it. -/
import Derived.Test.YthiidhlmjhjjcaaPoL
import Derived.Test.YthiidhlmjhjjcaaPoQ
namespace Go.Proofs.Ythiidhlmjhjjcaa
open Go.RowKit
set_option linter.unusedVariables false

/-- A pool and, in the block mb, a map of marks; the blocks of F are others. -/
structure PB (w : World) (F : List (Nat × Obj)) (pb mk mb n N c K : Nat) (most last : Int) (q : HF) (rs : List Int) (g : Int → Bool) (W : World) : Prop where
  pi : ∃ o, PI w ((mb, o) :: F) pb mk n N most last q rs W
  km : KM W mb c K g
  lo : w.heap.size ≤ mb
  ne : ∀ p ∈ F, p.1 ≠ mb
/-- A call of the pool keeps the map. -/
theorem KM.call {w W W' : World} {F : List (Nat × Obj)} {pb mk mb n N n' N' c K : Nat} {o : Obj} {most last last' : Int} {q q' : HF} {rs rs' : List Int} {g : Int → Bool} (k : KM W mb c K g) (s : PI w ((mb, o) :: F) pb mk n N most last q rs W) (s' : PI w ((mb, o) :: F) pb mk n' N' most last' q' rs' W') : KM W' mb c K g :=
  k.move ((s'.fr _ (List.mem_cons_self ..)).1.trans (s.fr _ (List.mem_cons_self ..)).1.symm)
theorem PB.call {w W : World} {F : List (Nat × Obj)} {pb mk mb n N c K : Nat} {most last : Int} {q : HF} {rs : List Int} {g : Int → Bool} (b : PB w F pb mk mb n N c K most last q rs g W) : ∃ o, PI w ((mb, o) :: F) pb mk n N most last q rs W ∧ ∀ {n' N' : Nat} {last' : Int} {q' : HF} {rs' : List Int} {W' : World}, PI w ((mb, o) :: F) pb mk n' N' most last' q' rs' W' → PB w F pb mk mb n' N' c K most last' q' rs' g W' := by
  obtain ⟨o, s⟩ := b.pi
  exact ⟨o, s, fun s' => ⟨⟨o, s'⟩, b.km.call s s', b.lo, b.ne⟩⟩
/-- The map is turned. -/
theorem PB.turn {w W W' : World} {F : List (Nat × Obj)} {pb mk mb n N c K c' K' : Nat} {most last : Int} {q : HF} {rs : List Int} {g g' : Int → Bool} (b : PB w F pb mk mb n N c K most last q rs g W) (e : W.grownBy W' (some mb)) (k : KM W' mb c' K' g') : PB w F pb mk mb n N c' K' most last q rs g' W' := by
  obtain ⟨o, s⟩ := b.pi
  obtain ⟨v, H, hv1, hv2⟩ := s.pl
  obtain ⟨f1, f2, f3⟩ := s.fr _ (List.mem_cons_self ..)
  have keep : ∀ j, j < W.heap.size → j ≠ mb → W'.heap[j]? = W.heap[j]? := fun j hj hne => e.block j hj (by intro h; cases h; exact hne rfl)
  have f4 : v.ownBlock ≠ some mb := hv2 _ (List.mem_cons_self ..)
  have H' : PL W' pb mk n N most last q rs v := ⟨(keep pb H.lt (fun h => f2 h.symm)).trans H.bk, H.hm.move (keep mk H.hm.lt (fun h => f3 h.symm)), H.ro.move fun j hj => keep j (H.ro.lt j hj) (fun h => f4 (by rw [hj, h])), H.qs⟩
  have hl := k.lt
  obtain ⟨o', ho'⟩ : ∃ o', W'.heap[mb]? = some o' := ⟨_, Array.getElem?_eq_getElem hl⟩
  refine ⟨⟨o', ⟨⟨v, H', hv1, fun p hp => ?_⟩, fun p hp => ?_, s.qi, s.be.grown e s.be.size (fun j hj => by cases hj; exact b.lo), s.hp, s.hm⟩⟩, k, b.lo, b.ne⟩
  · rcases List.mem_cons.1 hp with rfl | hp
    · exact f4
    · exact hv2 p (List.mem_cons_of_mem _ hp)
  · rcases List.mem_cons.1 hp with rfl | hp
    · exact ⟨ho', f2, f3⟩
    · obtain ⟨p1, p2⟩ := s.fr p (List.mem_cons_of_mem _ hp)
      exact ⟨(keep p.1 (Array.getElem?_eq_some_iff.1 p1).1 (b.ne p hp)).trans p1, p2⟩
/-- A new block beside both, which is kept. -/
theorem PB.newF {w W : World} {F : List (Nat × Obj)} {pb mk mb n N c K : Nat} {most last : Int} {q : HF} {rs : List Int} {g : Int → Bool} (b : PB w F pb mk mb n N c K most last q rs g W) (x : Obj) : PB w ((W.heap.size, x) :: F) pb mk mb n N c K most last q rs g (W.alloc x) := by
  obtain ⟨o, s⟩ := b.pi
  have hl := b.km.lt
  have s' := s.newF x
  have km' : KM (W.alloc x) mb c K g := b.km.call s (s.new1 x)
  obtain ⟨v, H, hv1, hv2⟩ := s'.pl
  have sw : ∀ p : Nat × Obj, p ∈ (mb, o) :: (W.heap.size, x) :: F → p ∈ (W.heap.size, x) :: (mb, o) :: F := fun p hp => by
    simp only [List.mem_cons] at hp ⊢
    rcases hp with h | h | h
    · exact .inr (.inl h)
    · exact .inl h
    · exact .inr (.inr h)
  refine ⟨⟨o, ⟨v, H, hv1, fun p hp => hv2 p (sw p hp)⟩, fun p hp => s'.fr p (sw p hp), s'.qi, s'.be, s'.hp, s'.hm⟩, km', b.lo, fun p hp => ?_⟩
  rcases List.mem_cons.1 hp with rfl | hp
  · show W.heap.size ≠ mb
    omega
  · exact b.ne p hp
/-- Blocks that needn't be kept any more. -/
theorem PB.less {w W : World} {F F' : List (Nat × Obj)} {pb mk mb n N c K : Nat} {most last : Int} {q : HF} {rs : List Int} {g : Int → Bool} (b : PB w F pb mk mb n N c K most last q rs g W) (h : ∀ p ∈ F', p ∈ F) : PB w F' pb mk mb n N c K most last q rs g W := by
  obtain ⟨o, s⟩ := b.pi
  obtain ⟨v, H, hv1, hv2⟩ := s.pl
  have sw : ∀ p : Nat × Obj, p ∈ (mb, o) :: F' → p ∈ (mb, o) :: F := fun p hp => by
    rcases List.mem_cons.1 hp with e | e
    · exact e ▸ List.mem_cons_self ..
    · exact List.mem_cons_of_mem _ (h p e)
  exact ⟨⟨o, ⟨v, H, hv1, fun p hp => hv2 p (sw p hp)⟩, fun p hp => s.fr p (sw p hp), s.qi, s.be, s.hp, s.hm⟩, b.km, b.lo, fun p hp => b.ne p (h p hp)⟩
end Go.Proofs.Ythiidhlmjhjjcaa
