/- PoolPlays: the pool beside the document's: what is kept. -/
import Derived.Test.YtlaigjapnmgjeaaQh
import Derived.Test.YtlaigjapnmgjeaaPoW
namespace Go.Proofs.Ytlaigjapnmgjeaa
open Go.RowKit Go.Shelf
set_option linter.unusedVariables false

theorem PI.sub {w W : World} {F F' : List (Nat × Obj)} {pb mk n N : Nat} {most last : Int} {q : HF} {rs : List Int} (s : PI w F pb mk n N most last q rs W) (h : ∀ p ∈ F', p ∈ F) : PI w F' pb mk n N most last q rs W := by
  obtain ⟨v, H, hv1, hv2⟩ := s.pl
  exact ⟨⟨v, H, hv1, fun p hp => hv2 p (h p hp)⟩, fun p hp => s.fr p (h p hp), s.qi, s.be, s.hp, s.hm⟩
/-- New blocks, which are kept from now on. -/
theorem PI.grow {w W V : World} {F G : List (Nat × Obj)} {pb mk n N : Nat} {most last : Int} {q : HF} {rs : List Int} (s : PI w F pb mk n N most last q rs W) (b : Below W.heap.size W V) (hG : ∀ p ∈ G, W.heap.size ≤ p.1 ∧ V.heap[p.1]? = some p.2) : PI w (G ++ F) pb mk n N most last q rs V := by
  obtain ⟨v, H, hv⟩ := s.pl
  have h1 := H.lt
  have h2 := H.hm.lt
  have s' := s.bel b
  refine ⟨⟨v, H.keep b, hv.1, fun p hp e => ?_⟩, fun p hp => ?_, s.qi, s'.be, s.hp, s.hm⟩
  · rcases List.mem_append.1 hp with hp | hp
    · have := H.ro.lt _ e
      have := (hG p hp).1
      omega
    · exact hv.2 p hp e
  · rcases List.mem_append.1 hp with hp | hp
    · have := hG p hp
      exact ⟨this.2, by omega, by omega⟩
    · exact s'.fr p hp
/-- The block mb is written. -/
theorem PI.put {w W W' : World} {F : List (Nat × Obj)} {pb mk mb n N : Nat} {o o' : Obj} {most last : Int} {q : HF} {rs : List Int} (s : PI w ((mb, o) :: F) pb mk n N most last q rs W) (keep : ∀ j, j ≠ mb → W'.heap[j]? = W.heap[j]?) (be : Below w.heap.size w W') (hmb : W'.heap[mb]? = some o') (ne : ∀ p ∈ F, p.1 ≠ mb) : PI w ((mb, o') :: F) pb mk n N most last q rs W' := by
  obtain ⟨v, H, hv1, hv2⟩ := s.pl
  obtain ⟨f1, f2, f3⟩ := s.fr _ (List.mem_cons_self ..)
  have f4 : v.ownBlock ≠ some mb := hv2 _ (List.mem_cons_self ..)
  have H' : PL W' pb mk n N most last q rs v := ⟨(keep pb (fun h => f2 h.symm)).trans H.bk, H.hm.move (keep mk (fun h => f3 h.symm)), H.ro.move fun j hj => keep j (fun h => f4 (by rw [hj, h])), H.qs⟩
  refine ⟨⟨v, H', hv1, fun p hp => ?_⟩, fun p hp => ?_, s.qi, be, s.hp, s.hm⟩
  · rcases List.mem_cons.1 hp with rfl | hp
    · exact f4
    · exact hv2 p (List.mem_cons_of_mem _ hp)
  · rcases List.mem_cons.1 hp with rfl | hp
    · exact ⟨hmb, f2, f3⟩
    · obtain ⟨p1, p2⟩ := s.fr p (List.mem_cons_of_mem _ hp)
      exact ⟨(keep p.1 (ne p hp)).trans p1, p2⟩
/-- A pool, and beside it, in the block mb, the document's; the blocks of F are others. -/
structure PM (w : World) (F : List (Nat × Obj)) (pb mk mb n N : Nat) (most last : Int) (q : HF) (rs : List Int) (m l r : Int) (a : Option Addr) (c : Nat) (L : List Hn) (W : World) : Prop where
  pi : ∃ G, PI w ((mb, .cells #[.int .i64 m, .int .i64 l, .int .i64 r, .slice a L.length c] 28) :: (G ++ F)) pb mk n N most last q rs W ∧ (∀ g off, a = some ⟨g, off, none⟩ → ∃ o, (g, o) ∈ G) ∧ ∀ p ∈ G, p.1 ≠ mb
  rd : RdR 4 encH W a c L
  lo : w.heap.size ≤ mb
  ne : ∀ p ∈ F, p.1 ≠ mb
theorem PM.bk {w : World} {F : List (Nat × Obj)} {pb mk mb n N : Nat} {most last : Int} {q : HF} {rs : List Int} {m l r : Int} {a : Option Addr} {c : Nat} {L : List Hn} {W : World} (h : PM w F pb mk mb n N most last q rs m l r a c L W) : PBk W mb m l r (.slice a L.length c) := by
  obtain ⟨G, s, _⟩ := h.pi
  exact (s.fr _ (List.mem_cons_self ..)).1
theorem PM.fr {w : World} {F : List (Nat × Obj)} {pb mk mb n N : Nat} {most last : Int} {q : HF} {rs : List Int} {m l r : Int} {a : Option Addr} {c : Nat} {L : List Hn} {W : World} (h : PM w F pb mk mb n N most last q rs m l r a c L W) : ∀ p ∈ F, W.heap[p.1]? = some p.2 := fun p hp => by
  obtain ⟨G, s, _⟩ := h.pi
  exact (s.fr p (List.mem_cons_of_mem _ (List.mem_append_right _ hp))).1
theorem PM.be {w : World} {F : List (Nat × Obj)} {pb mk mb n N : Nat} {most last : Int} {q : HF} {rs : List Int} {m l r : Int} {a : Option Addr} {c : Nat} {L : List Hn} {W : World} (h : PM w F pb mk mb n N most last q rs m l r a c L W) : Below w.heap.size w W := by
  obtain ⟨G, s, _⟩ := h.pi
  exact s.be
theorem PM.qi {w : World} {F : List (Nat × Obj)} {pb mk mb n N : Nat} {most last : Int} {q : HF} {rs : List Int} {m l r : Int} {a : Option Addr} {c : Nat} {L : List Hn} {W : World} (h : PM w F pb mk mb n N most last q rs m l r a c L W) : QI n N last q rs := by
  obtain ⟨G, s, _⟩ := h.pi
  exact s.qi
theorem PM.less {w : World} {F F' : List (Nat × Obj)} {pb mk mb n N : Nat} {most last : Int} {q : HF} {rs : List Int} {m l r : Int} {a : Option Addr} {c : Nat} {L : List Hn} {W : World} (h : PM w F pb mk mb n N most last q rs m l r a c L W) (k : ∀ p ∈ F', p ∈ F) : PM w F' pb mk mb n N most last q rs m l r a c L W := by
  obtain ⟨G, s, g1, g2⟩ := h.pi
  refine ⟨⟨G, s.sub fun p hp => ?_, g1, g2⟩, h.rd, h.lo, fun p hp => h.ne p (k p hp)⟩
  rcases List.mem_cons.1 hp with e | e
  · exact List.mem_cons.2 (.inl e)
  · rcases List.mem_append.1 e with e | e
    · exact List.mem_cons_of_mem _ (List.mem_append_left _ e)
    · exact List.mem_cons_of_mem _ (List.mem_append_right _ (k p e))
theorem PM.grow {w V : World} {F G' : List (Nat × Obj)} {pb mk mb n N : Nat} {most last : Int} {q : HF} {rs : List Int} {m l r : Int} {a : Option Addr} {c : Nat} {L : List Hn} {W : World} (h : PM w F pb mk mb n N most last q rs m l r a c L W) (b : Below W.heap.size W V) (hG : ∀ p ∈ G', W.heap.size ≤ p.1 ∧ V.heap[p.1]? = some p.2) : PM w (G' ++ F) pb mk mb n N most last q rs m l r a c L V := by
  obtain ⟨G, s, g1, g2⟩ := h.pi
  have hlt : mb < W.heap.size := h.bk.lt
  refine ⟨⟨G, (s.grow b hG).sub fun p hp => ?_, g1, g2⟩, h.rd.keep b, h.lo, fun p hp => ?_⟩
  · simp only [List.mem_cons, List.mem_append] at hp ⊢
    rcases hp with e | e | e | e
    · exact .inr (.inl e)
    · exact .inr (.inr (.inl e))
    · exact .inl e
    · exact .inr (.inr (.inr e))
  · rcases List.mem_append.1 hp with e | e
    · have := (hG p e).1
      omega
    · exact h.ne p e
theorem PM.bel {w V : World} {F : List (Nat × Obj)} {pb mk mb n N : Nat} {most last : Int} {q : HF} {rs : List Int} {m l r : Int} {a : Option Addr} {c : Nat} {L : List Hn} {W : World} (h : PM w F pb mk mb n N most last q rs m l r a c L W) (b : Below W.heap.size W V) : PM w F pb mk mb n N most last q rs m l r a c L V := h.grow (G' := []) b (fun p hp => by cases hp)
/-- A call of the pool keeps the document's. -/
theorem PM.op {w : World} {F : List (Nat × Obj)} {pb mk mb n N n' N' : Nat} {most last last' : Int} {q q' : HF} {rs rs' : List Int} {m l r : Int} {a : Option Addr} {c : Nat} {L : List Hn} {W : World} (h : PM w F pb mk mb n N most last q rs m l r a c L W) {f : FuncId} {args : Array Value} {P : Ending → World → Prop}
    (k : ∀ F', PI w F' pb mk n N most last q rs W → Calls Try.prog f args W fun e W' => P e W' ∧ PI w F' pb mk n' N' most last' q' rs' W') : Calls Try.prog f args W fun e W' => P e W' ∧ PM w F pb mk mb n' N' most last' q' rs' m l r a c L W' := by
  obtain ⟨G, s, g1, g2⟩ := h.pi
  refine (k _ s).mono ?_
  rintro e W' ⟨p, s'⟩
  refine ⟨p, ⟨G, s', g1, g2⟩, h.rd.move fun g off e hg => ?_, h.lo, h.ne⟩
  obtain ⟨o, ho⟩ := g1 g off e
  have hm := List.mem_cons_of_mem (mb, Obj.cells #[.int .i64 m, .int .i64 l, .int .i64 r, .slice a L.length c] 28) (List.mem_append_left F ho)
  exact (s'.fr _ hm).1.trans (s.fr _ hm).1.symm
/-- The document's is written anew: its row lies in a new block. -/
theorem PM.put {w V V2 : World} {F G' : List (Nat × Obj)} {pb mk mb n N : Nat} {most last : Int} {q : HF} {rs : List Int} {m l r : Int} {a : Option Addr} {c : Nat} {L : List Hn} {W : World} (h : PM w F pb mk mb n N most last q rs m l r a c L W) (b : Below W.heap.size W V) {a' : Option Addr} {c' : Nat} {L' : List Hn} (O : OwR 81 4 encH W.heap.size V (.slice a' L'.length c') L') (b2 : Below V.heap.size V V2) (hG : ∀ p ∈ G', V.heap.size ≤ p.1 ∧ V2.heap[p.1]? = some p.2) (m' l' r' : Int) :
    PM w (G' ++ F) pb mk mb n N most last q rs m' l' r' a' c' L' ((((V2.setCell ⟨mb, 0, none⟩ (.int .i64 m')).setCell ⟨mb, 1, none⟩ (.int .i64 l')).setCell ⟨mb, 2, none⟩ (.int .i64 r')).setCell ⟨mb, 3, none⟩ (.slice a' L'.length c')) := by
  have hlt : mb < W.heap.size := h.bk.lt
  have B2 : Below W.heap.size W V2 := b.trans (b2.mono b.size)
  have M2 := h.grow (G' := G') B2 (fun p hp => ⟨Nat.le_trans b.size (hG p hp).1, (hG p hp).2⟩)
  obtain ⟨a3, c3, e3, R3, own⟩ := (O.grow b2).rd EH
  injection e3 with e31 e32 e33
  subst e31 e33
  have bk2 := M2.bk
  unfold PBk at bk2
  obtain ⟨G, s, g1, g2⟩ := M2.pi
  obtain ⟨G3, hG3, h3, h4⟩ : ∃ G3 : List (Nat × Obj), (∀ p ∈ G3, W.heap.size ≤ p.1 ∧ V2.heap[p.1]? = some p.2) ∧ (∀ g off, a' = some ⟨g, off, none⟩ → ∃ o, (g, o) ∈ G3) ∧ ∀ p ∈ G3, p.1 ≠ mb := by
    rcases Classical.em (∃ g off, a' = some ⟨g, off, none⟩) with ⟨g, off, e⟩ | hno
    · obtain ⟨o1, o2, _⟩ := own g off e
      obtain ⟨o, ho⟩ : ∃ o, V2.heap[g]? = some o := ⟨_, Array.getElem?_eq_getElem o2⟩
      refine ⟨[(g, o)], fun p hp => ?_, fun g' off' e' => ?_, fun p hp => ?_⟩
      · rw [List.mem_singleton.1 hp]; exact ⟨o1, ho⟩
      · rw [e] at e'; cases e'; exact ⟨o, List.mem_singleton.2 rfl⟩
      · rw [List.mem_singleton.1 hp]; show g ≠ mb; omega
    · exact ⟨[], fun p hp => (by cases hp), fun g off e => absurd ⟨g, off, e⟩ hno, fun p hp => (by cases hp)⟩
  obtain ⟨G0, s0, _⟩ := h.pi
  have sg := (s0.grow (G := G3 ++ G') B2 (fun p hp => by
    rcases List.mem_append.1 hp with e | e
    · exact hG3 p e
    · exact ⟨Nat.le_trans b.size (hG p e).1, (hG p e).2⟩))
  have s2 : PI w ((mb, .cells #[.int .i64 m, .int .i64 l, .int .i64 r, .slice a L.length c] 28) :: (G3 ++ (G' ++ F))) pb mk n N most last q rs V2 := sg.sub fun p hp => by
    simp only [List.mem_cons, List.mem_append] at hp ⊢
    rcases hp with e | e | e | e
    · exact .inr (.inl e)
    · exact .inl (.inl e)
    · exact .inl (.inr e)
    · exact .inr (.inr (.inr e))
  refine ⟨⟨G3, s2.put (fun j hj => off_four hj) (below_four s2.be h.lo) (put_four bk2) (fun p hp => ?_), h3, h4⟩, ?_, h.lo, M2.ne⟩
  · rcases List.mem_append.1 hp with e | e
    · exact h4 p e
    · exact M2.ne p e
  · refine R3.move fun g off e hg => off_four ?_
    have := (own g off e).1
    omega
/-- The document's is written anew, its row is as it was. -/
theorem PM.same {w V2 : World} {F G' : List (Nat × Obj)} {pb mk mb n N : Nat} {most last : Int} {q : HF} {rs : List Int} {m l r : Int} {a : Option Addr} {c : Nat} {L : List Hn} {W : World} (h : PM w F pb mk mb n N most last q rs m l r a c L W) (b2 : Below W.heap.size W V2) (hG : ∀ p ∈ G', W.heap.size ≤ p.1 ∧ V2.heap[p.1]? = some p.2) (m' l' r' : Int) :
    PM w (G' ++ F) pb mk mb n N most last q rs m' l' r' a c L ((((V2.setCell ⟨mb, 0, none⟩ (.int .i64 m')).setCell ⟨mb, 1, none⟩ (.int .i64 l')).setCell ⟨mb, 2, none⟩ (.int .i64 r')).setCell ⟨mb, 3, none⟩ (.slice a L.length c)) := by
  have M2 := h.grow (G' := G') b2 hG
  have bk2 := M2.bk
  unfold PBk at bk2
  obtain ⟨G, s, g1, g2⟩ := M2.pi
  refine ⟨⟨G, s.put (fun j hj => off_four hj) (below_four s.be h.lo) (put_four bk2) (fun p hp => ?_), g1, g2⟩, ?_, h.lo, M2.ne⟩
  · rcases List.mem_append.1 hp with e | e
    · exact g2 p e
    · exact M2.ne p e
  · refine M2.rd.move fun g off e hg => off_four ?_
    obtain ⟨o, ho⟩ := g1 g off e
    exact g2 _ ho
end Go.Proofs.Ytlaigjapnmgjeaa
