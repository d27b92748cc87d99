/- What a round's grants leave of what is wanted (plain): for RobinBounds. -/
import Derived.Test.YtnfpbkllpkbdiaaRbS
namespace Go.Proofs.Ytnfpbkllpkbdiaa
open Go.RowKit
set_option linter.unusedVariables false

/-- What each connection wants, behind a grant; behind several. -/
def ap1 (U : Int → Int) (g : Fl) : Int → Int := fun c => if c = g.1 then U c - g.2 else U c
def apG (U : Int → Int) : List Fl → Int → Int
  | [] => U
  | g :: t => apG (ap1 U g) t
theorem apG_app (U : Int → Int) : ∀ (a b : List Fl), apG U (a ++ b) = apG (apG U a) b
  | [], b => rfl
  | g :: a, b => apG_app (ap1 U g) a b
def sumG (l : List Fl) : Int := (l.map fun f => f.2).sum
theorem sumG_app (a b : List Fl) : sumG (a ++ b) = sumG a + sumG b := by unfold sumG; rw [List.map_append, List.sum_append]
theorem sumG_cons (g : Fl) (b : List Fl) : sumG (g :: b) = g.2 + sumG b := by unfold sumG; rw [List.map_cons, List.sum_cons]
/-- Each grant is of 1 to 64 bytes, and no more than is wanted then. -/
def Fair (U : Int → Int) : List Fl → Prop
  | [] => True
  | g :: t => 1 ≤ g.2 ∧ g.2 ≤ 64 ∧ g.2 ≤ U g.1 ∧ Fair (ap1 U g) t
/-- The queue holds those that want something, each once, with what it wants. -/
structure QU (C : List Int) (U : Int → Int) (qu : List Fl) : Prop where
  w : ∀ f ∈ qu, U f.1 = f.2 ∧ f.1 ∈ C
  d : qu.Pairwise (fun a b => a.1 ≠ b.1)
  a : ∀ c ∈ C, 0 < U c → ∃ f ∈ qu, f.1 = c
  n : ∀ c ∈ C, 0 ≤ U c
theorem qu_step {C : List Int} {U : Int → Int} {f : Fl} {t : List Fl} (h : QU C U (f :: t)) (hf : 0 < f.2) : QU C (ap1 U (f.1, min f.2 64)) (nxt f t) := by
  obtain ⟨d1, d2⟩ := List.pairwise_cons.1 h.d
  obtain ⟨hu, hc⟩ := h.w f (List.mem_cons_self ..)
  have ht : ∀ x ∈ t, ap1 U (f.1, min f.2 64) x.1 = x.2 ∧ x.1 ∈ C := fun x hx => by
    have := h.w x (List.mem_cons_of_mem _ hx)
    unfold ap1
    rw [if_neg (fun e => d1 x hx e.symm)]
    exact this
  have hm : ap1 U (f.1, min f.2 64) f.1 = f.2 - min f.2 64 := by unfold ap1; rw [if_pos rfl, hu]
  refine ⟨fun x hx => ?_, ?_, fun c hcC hp => ?_, fun c hcC => ?_⟩
  · unfold nxt at hx
    split at hx
    · rcases List.mem_append.1 hx with q | q
      · exact ht x q
      · have e : x = (f.1, f.2 - min f.2 64) := by simpa using q
        rw [e]; exact ⟨hm, hc⟩
    · exact ht x hx
  · unfold nxt
    split
    · rw [List.pairwise_append]
      refine ⟨d2, List.pairwise_singleton _ _, fun a ha b hb => ?_⟩
      have e : b = (f.1, f.2 - min f.2 64) := by simpa using hb
      rw [e]
      exact fun e2 => d1 a ha e2.symm
    · exact d2
  · by_cases e : c = f.1
    · rw [e, hm] at hp
      unfold nxt
      rw [if_pos (by omega)]
      exact ⟨(f.1, f.2 - min f.2 64), List.mem_append.2 (.inr (List.mem_singleton.2 rfl)), e.symm⟩
    · have hp' : 0 < U c := by unfold ap1 at hp; rwa [if_neg e] at hp
      obtain ⟨x, hx, ex⟩ := h.a c hcC hp'
      rcases List.mem_cons.1 hx with q | q
      · rw [q] at ex; exact absurd ex.symm e
      · refine ⟨x, ?_, ex⟩
        unfold nxt
        split
        · exact List.mem_append.2 (.inl q)
        · exact q
  · by_cases e : c = f.1
    · rw [e, hm]; omega
    · unfold ap1; rw [if_neg e]; exact h.n c hcC
/-- A round's grants: fair; either all is granted and no credit is left, or something is wanted still, and all credit but what is left was granted. -/
theorem loopQ_fair {C : List Int} : ∀ (n : Nat) (U : Int → Int) (qu : List Fl) (cr la : Int) (gs : List Fl), qsum qu ≤ n → Ask qu → QU C U qu → 0 ≤ cr →
    ∃ G, (loopQ qu cr la gs).2.2 = gs ++ G ∧ Fair U G ∧ sumG G ≤ cr ∧ (∀ c ∈ C, 0 ≤ apG U G c) ∧ (((loopQ qu cr la gs).1 = 0 ∧ ∀ c ∈ C, apG U G c = 0) ∨ ((∃ c ∈ C, 0 < apG U G c) ∧ sumG G = cr - (loopQ qu cr la gs).1))
  | n, U, [], cr, la, gs, _, _, hq, h => by
    rw [loopQ_nil]
    refine ⟨[], by rw [List.append_nil], trivial, h, hq.n, .inl ⟨rfl, fun c hc => ?_⟩⟩
    rcases Int.lt_or_le 0 (U c) with k | k
    · obtain ⟨f, hf, _⟩ := hq.a c hc k
      cases hf
    · have := hq.n c hc
      show U c = 0
      omega
  | n, U, f :: t, cr, la, gs, hn, ha, hq, h => by
    have hf := ha f (List.mem_cons_self ..)
    obtain ⟨hu, hc⟩ := hq.w f (List.mem_cons_self ..)
    by_cases c : cr < min f.2 64
    · rw [loopQ_stop hf.1 c]
      refine ⟨[], by rw [List.append_nil], trivial, h, hq.n, .inr ⟨⟨f.1, hc, ?_⟩, ?_⟩⟩
      · show 0 < U f.1
        rw [hu]; exact hf.1
      · show (0 : Int) = cr - cr
        omega
    · rw [loopQ_go hf.1 c]
      have hl := nxt_less f t (by omega)
      cases n with
      | zero => omega
      | succ n =>
        obtain ⟨G, g1, g2, g3, g4, g5⟩ := loopQ_fair (C := C) n (ap1 U (f.1, min f.2 64)) (nxt f t) (cr - min f.2 64) f.1 (gs ++ [(f.1, min f.2 64)]) (by omega) ha.nxt (qu_step hq hf.1) (by omega)
        refine ⟨(f.1, min f.2 64) :: G, by rw [g1, List.append_assoc]; rfl, ⟨by show 1 ≤ min f.2 64; omega, by show min f.2 64 ≤ 64; omega, by show min f.2 64 ≤ U f.1; rw [hu]; omega, g2⟩, ?_, g4, ?_⟩
        · rw [sumG_cons]
          show min f.2 64 + sumG G ≤ cr
          omega
        · rcases g5 with q | ⟨q1, q2⟩
          · exact .inl q
          · refine .inr ⟨q1, ?_⟩
            rw [sumG_cons, q2]
            show min f.2 64 + (cr - min f.2 64 - _) = cr - _
            omega
/-- The flows of connections of which no two are the same, as they wait. -/
theorem wait_qu {la : Int} {C : List Int} {U : Int → Int} {W : List Fl} (h : WaitP la (C.map fun c => (c, U c)) W) (hd : C.Nodup) (hr : ∀ c ∈ C, InR c) (hU : ∀ c ∈ C, 0 ≤ U c) : QU C U W := by
  have hdist : (C.map fun c => ((c, U c) : Fl)).Pairwise (fun a b => a.1 ≠ b.1) := by
    rw [List.pairwise_map]
    exact hd
  obtain ⟨s1, s2⟩ := wait_spec h (fun f hf => by
    obtain ⟨c, hc, rfl⟩ := List.mem_map.1 hf
    exact hr c hc)
  have hm : ∀ f, f ∈ W ↔ 0 < f.2 ∧ f ∈ C.map fun c => ((c, U c) : Fl) := fun f => by rw [s2 f, head_distinct hdist f]
  refine ⟨fun f hf => ?_, ?_, fun c hc hp => ?_, hU⟩
  · obtain ⟨c, hc, rfl⟩ := List.mem_map.1 ((hm f).1 hf).2
    exact ⟨rfl, hc⟩
  · refine s1.imp ?_
    intro a b hab e
    unfold Klt at hab
    rw [e] at hab
    omega
  · exact ⟨(c, U c), (hm _).2 ⟨hp, List.mem_map.2 ⟨c, hc, rfl⟩⟩, rfl⟩
end Go.Proofs.Ytnfpbkllpkbdiaa
