/- ClockOnce: the passes, and a last one of 255. -/
import Derived.Test.YtofnnphpogpcdaaCd
namespace Go.Proofs.Ytofnnphpogpcdaa
open Go.ChangeShapes Go.WideShapes Go.ChangeAt Go.RowKit
set_option linter.unusedVariables false

theorem os_rowsnd {w W : World} {X : Nat → Prop} {cb mk mb n : Nat} {L : List Pr} (h : OS w X cb mk mb n 0 L L W) {a3 : Option Addr} {cap3 len3 : Nat} {zs : List Int} (hr : ∀ W, Below w.heap.size w W → RdR 1 encI W a3 cap3 zs) (hl : zs.length = len3) (hy : len3 ≤ 50) :
    ∃ v w1, (Builtin.append_ #[31, 31] 31 #[.slice (some ⟨W.heap.size, 0, none⟩) 0 0, .slice a3 len3 cap3]).run Try.prog (W.alloc (.cells #[] 3)) = .ok v w1 ∧ ∃ a c w2, (Builtin.append_ #[31, 31] 31 #[v, .slice (some ⟨w1.heap.size, 0, none⟩) 1 1]).run Try.prog (w1.alloc (.cells #[.int .i64 255] 3)) = .ok (.slice a (len3 + 1) c) w2 ∧ OwR 3 1 encI w.heap.size w2 (.slice a (len3 + 1) c) (zs ++ [255]) ∧ OS w (fun k => X k ∨ Value.ownBlock (.slice a (len3 + 1) c) = some k) cb mk mb n 0 L L w2 := by
  subst hl
  have sz := h.be.size
  have BA : Below W.heap.size W (W.alloc (.cells #[] 3)) := (Below.refl _ _).alloc (Nat.le_refl _) _
  have O0 : OwR 3 1 encI W.heap.size (W.alloc (.cells #[] 3)) (.slice (some ⟨W.heap.size, 0, none⟩) 0 0) [] := OwR.empty _ _ _ _ _ (Nat.le_refl _)
  have hz : RdR 1 encI (W.alloc (.cells #[] 3)) a3 cap3 zs := hr _ (h.be.trans (BA.mono sz))
  obtain ⟨v, w1, r1, O1, n1, B1, _⟩ := ow_appends O0 (fun e => by cases e) hz BA.size (by simp) (by omega)
  rw [List.nil_append] at O1
  obtain ⟨V, w2, r2, O2, B2, _⟩ := owr_append EI Try.underlying31 infoI rfl (by decide) O1 (Nat.le_trans BA.size B1.size) 255 (by omega)
  obtain ⟨a, c, rfl, _, _⟩ := O2.rd EI
  have hlen : (zs ++ [255]).length = zs.length + 1 := by rw [List.length_append]; rfl
  rw [hlen] at r2 O2
  have B : Below W.heap.size W w2 := (BA.trans B1).trans B2
  exact ⟨v, w1, r1, a, c, w2, r2, O2.mono sz, h.row B O2 (Nat.le_refl _)⟩
theorem OS.pass {w : World} {X : Nat → Prop} {cb mk mb n : Nat} {now : Int} {L Lm : List Pr} {W : World} (h : OS w X cb mk mb n now L Lm W) (hn : n ≤ 800000) (hir : ∀ p ∈ L, InR p.1) (nn now' : Int) (hn' : now + min (max nn 0) (1099511627776 - now) = now') (R : List Int) (hR : passI now' L = R) (r : Nat) (hr : R.length = r) (L' : List Pr) (hL : passR now' L = L') :
    Calls Try.prog 11 #[.pointer (some ⟨cb, 0, none⟩), .int .i64 nn] W fun e W' => (∃ a c, e = .returned (.slice a r c) ∧ RdR 1 encI W' a c R) ∧ OS w X cb mk mb n now' L' Lm W' ∧ ∀ k, X k → W'.heap[k]? = W.heap[k]? := by
  subst hr
  refine h.op (Nat.le_refl n) ((h.c.pass hn hir nn now' hn' R hR L' hL).mono ?_)
  rintro e W' ⟨a, c, rfl, q, C, K⟩
  exact ⟨⟨a, c, rfl, q⟩, C, K⟩
theorem ow_map {B : Nat} {w W' : World} {mb nm N : Nat} {q : QF} {v : Value} {l : List Int} (h : OwR 3 1 encI B w v l) (t : TM w mb nm N q) (g : w.grownBy W' (some mb)) : OwR 3 1 encI B W' v l := by
  refine h.move fun b hb _ hlt hc => g.block b hlt (fun e2 => ?_)
  cases e2
  obtain ⟨es, cl, hm⟩ := t.blk
  obtain ⟨cur, hc⟩ := hc
  rw [hm] at hc
  cases hc
theorem pass_at {T : Int} {L : List Pr} {R : List Int} {n : Nat} (hs : L.Pairwise klt) (hR : passI T L = R) (hn : R.length = n) : passR T L = L.drop n ∧ ∀ q, q < n → ∃ p, L[q]? = some p ∧ R[q]? = some p.1 ∧ p.2 ≤ T := by
  obtain ⟨e1, e2, e3⟩ := pass_pre (T := T) hs
  rw [hR, hn] at e1 e2 e3
  refine ⟨e2, fun q hq => ?_⟩
  have hl := congrArg List.length e1
  rw [hn, List.length_map, List.length_take] at hl
  have hq2 : q < L.length := by omega
  refine ⟨L[q], List.getElem?_eq_getElem hq2, ?_, e3 _ ?_⟩
  · have : R[q]? = ((L.take n).map Prod.fst)[q]? := by rw [← e1]
    rw [this, List.getElem?_map, List.getElem?_take_of_lt hq, List.getElem?_eq_getElem hq2]; rfl
  · exact List.mem_of_getElem? (i := q) (by rw [List.getElem?_take_of_lt hq, List.getElem?_eq_getElem hq2])
theorem os_cell {W : World} {a5 : Option Addr} {n3 c5 B len3 : Nat} {zs : List Int} (h : OwR 3 1 encI B W (.slice a5 n3 c5) (zs ++ [255])) (hl : zs.length = len3) (hn : n3 = len3 + 1) {k : Nat} (hk : k < n3) : ∃ (g5 o5 : Nat) (z : Int) (m : Nat), a5 = some ⟨g5, o5, none⟩ ∧ W.cell? ⟨g5, o5 + k, none⟩ = some (.int .i64 z) ∧ m ≤ 255 ∧ bits .and .i64 z 255 = (m : Int) ∧ (k = len3 → m = 255) := by
  subst hl hn
  obtain ⟨ad, cc, e5, R5, _⟩ := h.rd EI
  injection e5 with e51 e52 e53
  subst e51
  have hlen : (zs ++ [255]).length = zs.length + 1 := by rw [List.length_append]; rfl
  obtain ⟨z, hz⟩ : ∃ z, (zs ++ [255])[k]? = some z := ⟨_, List.getElem?_eq_getElem (by rw [hlen]; exact hk)⟩
  obtain ⟨g5, o5, e6, hg5, hc5⟩ := R5.at hz
  have d1 := hc5 0 (by decide)
  rw [Nat.mul_one, Nat.add_zero] at d1
  obtain ⟨m, hm, kz⟩ := and_mask z 255 (by decide)
  refine ⟨g5, o5, z, m, e6, d1, hm, kz, fun e => ?_⟩
  subst e
  rw [List.getElem?_append_right (Nat.le_refl _), Nat.sub_self] at hz
  have hz2 : z = 255 := by simpa using hz.symm
  subst hz2
  have h255 : bits .and .i64 255 255 = 255 := by decide
  have : (255 : Int) = (m : Int) := h255.symm.trans kz
  omega
theorem os_entry {D : DataW Nat} {q : QF} {L : List Pr} (hD : ∀ h : Int, Maps.has D (.int .i64 h) = (q h).isSome ∧ ∀ x, q h = some x → ∀ zd, D.atKey (.int .i64 h) zd = .lit (.int .i64 x)) (hR : RQL q L) {x c : Int} (hat : ∀ zd, D.atKey (.int .i64 x) zd = .lit (.int .i64 c)) : (x, c) ∈ L := by
  have h1 := Maps.has_true_of_atKey hat
  rw [(hD x).1] at h1
  obtain ⟨t, ht⟩ := Option.isSome_iff_exists.1 h1
  have h2 := ((hD x).2 t ht .nil).symm.trans (hat .nil)
  have e := litI_inj h2
  subst e
  exact (hR.2 x _).1 ht
theorem passR_gt {T : Int} {L : List Pr} {p : Pr} (h : p ∈ passR T L) : T < p.2 := by
  have := (List.mem_filter.1 h).2
  simp at this
  exact this
end Go.Proofs.Ytofnnphpogpcdaa
