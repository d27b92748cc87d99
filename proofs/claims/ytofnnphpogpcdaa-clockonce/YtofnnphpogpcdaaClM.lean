/- Clock's Pass. -/
import Derived.Test.YtofnnphpogpcdaaClL
import Derived.Test.YtofnnphpogpcdaaGrA
namespace Go.Proofs.Ytofnnphpogpcdaa
open Go.RowKit
set_option linter.unusedVariables false

def passI (now : Int) (L : List Pr) : List Int := (L.filter fun p => decide (p.2 ≤ now)).map Prod.fst
def passR (now : Int) (L : List Pr) : List Pr := L.filter fun p => !decide (p.2 ≤ now)
theorem passI_cons {now : Int} {p : Pr} {t : List Pr} (h : p.2 ≤ now) : passI now (p :: t) = p.1 :: passI now t := by unfold passI; rw [List.filter_cons, if_pos (by simpa using h)]; rfl
theorem passR_cons {now : Int} {p : Pr} {t : List Pr} (h : p.2 ≤ now) : passR now (p :: t) = passR now t := by unfold passR; rw [List.filter_cons, if_neg (by simpa using h)]
theorem pass_stop {now : Int} {p : Pr} {t : List Pr} (hs : (p :: t).Pairwise klt) (h : ¬ p.2 ≤ now) : passI now (p :: t) = [] ∧ passR now (p :: t) = p :: t := by
  have all : ∀ q ∈ p :: t, ¬ q.2 ≤ now := fun q hq => by
    rcases List.mem_cons.1 hq with e | e
    · rw [e]; exact h
    · have := (List.pairwise_cons.1 hs).1 q e
      unfold klt at this; omega
  refine ⟨?_, List.filter_eq_self.2 fun q hq => by simpa using all q hq⟩
  unfold passI
  rw [List.filter_eq_nil_iff.2 fun q hq => by simpa using all q hq]; rfl
/-- Where the queue lies, and that the first is the least. -/
theorem CK.zero {S : Nat → Prop} {cb mk n : Nat} {now : Int} {W : World} (h : CK S cb mk n now [] W) : ∃ a c, W.cell? ⟨cb, 2, none⟩ = some (.slice a 0 c) := by
  obtain ⟨v, E, q, Q, hp, M, rm, rl, hS⟩ := h.x
  have h0 : E.length = 0 := rl.len.symm
  rcases Q.rq with ⟨hv, e⟩ | ⟨g, c, cur, hv, _⟩
  · exact ⟨none, 0, by rw [Q.c2, hv]⟩
  · exact ⟨_, c, by rw [Q.c2, hv, h0]⟩
theorem CK.cons {S : Nat → Prop} {cb mk n : Nat} {now : Int} {p : Pr} {t : List Pr} {W : World} (h : CK S cb mk n now (p :: t) W) (hn : n ≤ 800000) (hid : InR p.1) : ∃ (g m c b : Nat), 0 < m ∧ W.cell? ⟨cb, 2, none⟩ = some (.slice (some ⟨g, 0, none⟩) m c) ∧ W.cell? ⟨g, 0, none⟩ = some (.pointer (some ⟨b, 0, none⟩)) ∧ W.cell? ⟨b, 1, none⟩ = some (.int .i64 p.2) ∧
    ∀ k, Calls Try.prog 19 #[.iface 61 (.pointer (some ⟨cb, 2, none⟩))] (W.drewN k) fun e w2 => e = .returned (.iface 59 (.pointer (some ⟨b, 0, none⟩))) ∧ w2.cell? ⟨cb, 1, none⟩ = some (.map (some mk)) ∧ w2.cell? ⟨b, 0, none⟩ = some (.int .i64 p.1) ∧ ∃ W', (∀ ty, (Builtin.delete_ #[51, 3] ty #[.map (some mk), .int .i64 p.1]).run Try.prog w2.drew = .ok (.tuple #[]) W') ∧ W'.cell? ⟨b, 0, none⟩ = some (.int .i64 p.1) ∧ ∃ S', CK S' cb mk n now t W' ∧ CT S S' W W' ∧ (∀ k, S' k → S k ∨ W.heap.size ≤ k) := by
  obtain ⟨⟨v, E, q, Q, hp, M, rm, rl, hS⟩, hm, n0, n1, ln, lt⟩ := h
  have h0 : 0 < E.length := by rw [← rl.len]; exact Nat.succ_pos _
  obtain ⟨g, c, cur, rfl, hg, h1, h2, h3, h4, d1, d2⟩ := Q.row h0
  obtain ⟨t', et⟩ := rl.head hp h0
  injection et with e1 e2
  subst e2
  have i1 : (atM E 0).i = p.1 := by rw [e1]; rfl
  have i2 : (atM E 0).t = p.2 := by rw [e1]; rfl
  refine ⟨g, E.length, c, (atM E 0).b, h0, Q.c2, tblk_cell hg (h4 0 h0), by rw [← i2]; exact tblk_cell (Q.mo 0 h0) rfl, fun k => ?_⟩
  refine (ckpop_any cb mk now _ E (W.drewN k) (OwnC cb (.slice (some ⟨g, 0, none⟩) E.length c) E) (Q.drewN k) hp h0 (by have := rl.len; omega) (fun k hk => hk)).mono ?_
  rintro e w2 ⟨rfl, D, P, H, C0⟩
  have X : CX (OwnC cb (.slice (some ⟨g, 0, none⟩) E.length c) E) W w2 := ((CX.refl _ _).drewN k).trans H.c
  obtain ⟨v', D', Q', _⟩ := H.x
  have M2 : PM w2 mk n q := M.move (X.block mk M.lt (fun e => Q.nmk M e rfl))
  have M3 : PM w2.drew mk n q := M2
  rw [i1] at C0
  obtain ⟨W', r, M', gg⟩ := M3.del (s := p.1) hid
  have bl : (atM E 0).b < w2.heap.size := by
    unfold World.cell? at C0
    rcases Nat.lt_or_ge (atM E 0).b w2.heap.size with q | q
    · exact q
    · simp [Array.getElem?_eq_none q] at C0
  have bm : (atM E 0).b ≠ mk := Q.nmk M (.inr (.inr ⟨_, atM_mem h0, rfl⟩))
  have C1 : W'.cell? ⟨(atM E 0).b, 0, none⟩ = some (.int .i64 p.1) := by
    rw [World.cell?_of_block (w := w2) (a := ⟨(atM E 0).b, 0, none⟩) (gg.block _ bl (fun e => bm (by cases e; rfl)))]
    exact C0
  have rl2 := (rl.take P).1
  have rm2 := rm.off rl P
  have et2 : offL (atM E 0).i (p :: t) = t := by
    rw [i1]; exact off_head rl.d
  rw [et2] at rl2
  rw [i1] at rm2
  have g2 : w2.grownBy W' (some mk) := ⟨gg.os, gg.tape, gg.output, gg.size, gg.block⟩
  refine ⟨rfl, Q'.c1, C0, W', r, C1, grS S W W', ck_fin2 H (fun k hk => .inl (hS k hk)) (Nat.le_refl _) g2 M' ⟨n, q, M2⟩ rm2 rl2 hm n0 n1 (by simp at ln; omega) lt, ⟨(X.mono hS).then (T := fun k => k = mk) ⟨g2.os, g2.tape, g2.output, g2.size, fun k hk hn => g2.block k hk (fun e => hn (by cases e; rfl))⟩ fun k hk => .inl (by rw [hk]; exact hm), fun k hk => grS_ct hk⟩, fun k hk => grS_ct hk⟩
def encI (x : Int) : Array Value := #[.int .i64 x]
theorem EI : EncR Int 1 encI := ⟨fun _ => rfl, fun x v hv => by simp [encI] at hv; subst hv; rfl, by decide⟩
theorem infoI : (Try.prog.info? 3).map (fun i => (i.zero, i.size, i.bytes)) = some (some (.int .i64 0), 1, 8) := by kernel_rfl
end Go.Proofs.Ytofnnphpogpcdaa
