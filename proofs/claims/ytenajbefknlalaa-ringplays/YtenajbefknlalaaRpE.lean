/- The reference's rings: Take. -/
import Derived.Test.YtenajbefknlalaaRpD
namespace Go.Proofs.Ytenajbefknlalaa
open Go.RowKit
set_option linter.unusedVariables false

theorem btw_clp (n : Int) (l : Nat) : btw n 0 (l : Int) = (clp n l : Int) := by unfold btw clp; split <;> (try split) <;> (try split) <;> omega

set_option maxRecDepth 100000 in
set_option maxHeartbeats 4000000 in
theorem r3take_any (F : Nat → Prop) (w : World) (v : Value) (Ls : List (List UInt8)) (k : Nat) (L : List UInt8) (n h q m : Int) (hM : Mat F w v Ls) (hF : ∀ i, F i → i < w.heap.size) (hk : Ls[k]? = some L) (hn : Ls.length ≤ 1000)
    (h0 : 0 ≤ h) (h1 : h ≤ m) (h2 : m ≤ 1099511627776) (hlh : (L.length : Int) ≤ h) :
    Calls Try.prog 10 #[.agg #[.int .i64 h, .int .i64 q, .int .i64 m, v], .int .i64 k, .int .i64 n] w fun e w' => ∃ v' oa oc ko, e = .returned (.tuple #[.agg #[.int .i64 (h - clp n L.length), .int .i64 q, .int .i64 m, v'], .slice oa (clp n L.length) oc]) ∧
      F ko ∧ Src w' ko (.slice oa (clp n L.length) oc) (L.take (clp n L.length)) ∧ Mat (fun i => F i ∨ (w.heap.size ≤ i ∧ i < w'.heap.size)) w' v' (Ls.set k (L.drop (clp n L.length))) ∧ Below w.heap.size w w' := by
  obtain ⟨hkl, rfl⟩ := List.getElem?_eq_some_iff.1 hk
  have HM : Hid (Mat F w v Ls) := hM
  obtain ⟨g, c, kL, sa, sc, rfl, hg, hcell, hkL, hL, hLn⟩ := hM.at k hkl
  have hN := clp_le n Ls[k].length
  have HBT := fun W : World => between_any n 0 (Ls[k].length : Int) W
  rw [btw_clp] at HBT
  have e1 : gvL h (clp n Ls[k].length : Int) = clp n Ls[k].length := by unfold gvL; split <;> (try split) <;> omega
  have HT := fun W : World => rgive_any m h q (clp n Ls[k].length : Int) W h0 h1 h2 (by rw [e1]; omega) (by rw [e1]; omega)
  rw [e1] at HT
  clear e1
  generalize clp n Ls[k].length = N at *
  have hLl := hL.len
  have HW : Hid (∀ (W0 W : World) (vx : Value), Below w.heap.size w W0 → Below W0.heap.size W0 W → Src W kL vx (Ls[k].drop N) → Nn vx → Calls Try.prog 20 #[.slice (some ⟨g, 0, none⟩) Ls.length c, .int .i64 k, vx] W fun e w' => ∃ va vn vc, e = .returned (.slice va vn vc) ∧ Mat (fun i => F i ∨ (W0.heap.size ≤ i ∧ i < w'.heap.size)) w' (.slice va vn vc) (Ls.set k (Ls[k].drop N)) ∧ Below W0.heap.size W0 w') := by
    intro W0 W vx b0 b1 hx hxn
    have b2 : Below w.heap.size w W := b0.trans (b1.mono b0.size)
    refine (with_any F W _ vx Ls k kL _ (HM.out.frame (fun i hi => b2.block i (hF i hi)) (fun i hi => hi)) (fun i hi => Nat.lt_of_lt_of_le (hF i hi) b2.size) hkl hx hxn hkL hn).mono ?_
    rintro e w' ⟨v', rfl, M, B⟩
    have hs := b1.size
    have hs' := B.size
    have M2 : Mat (fun i => F i ∨ (W0.heap.size ≤ i ∧ i < w'.heap.size)) w' v' (Ls.set k (Ls[k].drop N)) := M.more hs (Nat.le_refl _)
    obtain ⟨g', c', Vs', e', r⟩ := M2
    subst e'
    exact ⟨_, _, _, rfl, ⟨g', c', Vs', rfl, r⟩, b1.trans (B.mono b1.size)⟩
  have HSX : Hid (∀ W, Below w.heap.size w W → ∀ a', (N < sc → a' = sa.map (fun x => x.add N)) → Src W kL (.slice a' (Ls[k].length - N) (sc - N)) (Ls[k].drop N)) := fun W hW a' ha' => (hL.frame (hW.block kL (hF kL hkL))).cut hN ha'
  have HST : Hid (∀ W, Below w.heap.size w W → Src W kL (.slice sa N sc) (Ls[k].take N)) := fun W hW => (hL.frame (hW.block kL (hF kL hkL))).take hN
  have hgl := hF g hg
  have HFB : Hid (∀ i, F i → i < w.heap.size) := hF
  generalize hT : Ls[k].drop N = T at *
  generalize hT : Ls[k].take N = T2 at *
  have hhN : (0 : Int) ≤ h - N := by omega
  have hhN2 : h - (N : Int) ≤ 1099511627776 := by omega
  have hsc := hLl.2.2
  unfold maxLen at hsc
  have hNs : N ≤ sc := by omega
  clear hM HM hL hF hT hn hlh
  have hkl2 : (k : Int) < (Ls.length : Int) := by omega
  clear hLl
  go_enter Try.func10, Try.ntmps10
  go_wp2_with fail
  refine (HBT _).mono ?_
  rintro e w0 ⟨rfl, rfl⟩
  go_wp2_with fail
  refine (HT _).mono ?_
  rintro e w1 ⟨rfl, B1⟩
  have hs : w.heap.size + 2 ≤ w1.heap.size := by have := B1.size; simpa using this
  have N0 : w1.heap[w.heap.size]? = some (.cells #[.int .i64 h, .int .i64 q, .int .i64 m, .slice (some ⟨g, 0, none⟩) Ls.length c] 33) := (B1.block _ (by simp; omega)).trans ((Below.heap_alloc _ _ _ (by simp)).trans (new_at _ _))
  have N1 : w1.heap[w.heap.size + 1]? = some (.cells #[.int .i64 0, .int .i64 0, .int .i64 0, .slice none 0 0] 33) := by
    refine (B1.block _ (by simp)).trans ?_
    have k := new_at (w.alloc (.cells #[.int .i64 h, .int .i64 q, .int .i64 m, .slice (some ⟨g, 0, none⟩) Ls.length c] 33)) (.cells #[.int .i64 0, .int .i64 0, .int .i64 0, .slice none 0 0] 33)
    rw [show (w.alloc (.cells #[.int .i64 h, .int .i64 q, .int .i64 m, .slice (some ⟨g, 0, none⟩) Ls.length c] 33)).heap.size = w.heap.size + 1 by simp] at k
    exact k
  have D1 : Below w.heap.size w w1 := (((Below.refl _ _).alloc (Nat.le_refl _) _).alloc (by simp) _).trans (B1.mono (by simp; omega))
  have E2 : Below w1.heap.size w1 (w1.alloc (.cells #[.int .i64 (h - N), .int .i64 q, .int .i64 m] 30)) := (Below.refl _ _).alloc (Nat.le_refl _) _
  have N2 := new_at w1 (.cells #[.int .i64 (h - N), .int .i64 q, .int .i64 m] 30)
  have hcell1 := (D1.cell (p := ⟨g, k, none⟩) hgl).trans hcell
  have D2 : Below w.heap.size w (w1.alloc (.cells #[.int .i64 (h - N), .int .i64 q, .int .i64 m] 30)) := D1.trans (E2.mono D1.size)
  have hs2 : (w1.alloc (.cells #[.int .i64 (h - N), .int .i64 q, .int .i64 m] 30)).heap.size = w1.heap.size + 1 := by simp
  have KEEP : ∀ W, Below (w1.alloc (.cells #[.int .i64 (h - N), .int .i64 q, .int .i64 m] 30)).heap.size (w1.alloc (.cells #[.int .i64 (h - N), .int .i64 q, .int .i64 m] 30)) W →
      W.cell? ⟨w1.heap.size, 0, none⟩ = some (.int .i64 (h - N)) ∧ W.cell? ⟨w1.heap.size, 1, none⟩ = some (.int .i64 q) ∧ W.cell? ⟨w1.heap.size, 2, none⟩ = some (.int .i64 m) ∧ W.cell? ⟨w.heap.size, 3, none⟩ = some (.slice (some ⟨g, 0, none⟩) Ls.length c) ∧ W.cell? ⟨g, k, none⟩ = some (.slice sa Ls[k].length sc) ∧
      W.heap[w.heap.size + 1]? = some (.cells #[.int .i64 0, .int .i64 0, .int .i64 0, .slice none 0 0] 33) := by
    intro W hW
    have k2 := (hW.block w1.heap.size (by omega)).trans N2
    have k0 := (hW.block w.heap.size (by omega)).trans ((E2.block _ (by omega)).trans N0)
    have kg := (hW.cell (p := ⟨g, k, none⟩) (by show g < _; omega)).trans ((E2.cell (p := ⟨g, k, none⟩) (by show g < _; omega)).trans hcell1)
    exact ⟨ring_cell k2 rfl, ring_cell k2 rfl, ring_cell k2 rfl, ring_cell k0 rfl, kg, (hW.block _ (by omega)).trans ((E2.block _ (by omega)).trans N1)⟩
  have HW2 : Hid (∀ W vx, Below (w1.alloc (.cells #[.int .i64 (h - N), .int .i64 q, .int .i64 m] 30)).heap.size (w1.alloc (.cells #[.int .i64 (h - N), .int .i64 q, .int .i64 m] 30)) W → Src W kL vx T → Nn vx → Calls Try.prog 20 #[.slice (some ⟨g, 0, none⟩) Ls.length c, .int .i64 k, vx] W fun e w' => ∃ va vn vc, e = .returned (.slice va vn vc) ∧ Hid (Mat (fun i => F i ∨ (w1.heap.size ≤ i ∧ i < w'.heap.size)) w' (.slice va vn vc) (Ls.set k T)) ∧ Below (w1.alloc (.cells #[.int .i64 (h - N), .int .i64 q, .int .i64 m] 30)).heap.size (w1.alloc (.cells #[.int .i64 (h - N), .int .i64 q, .int .i64 m] 30)) w' ∧
      w'.cell? ⟨w1.heap.size, 0, none⟩ = some (.int .i64 (h - N)) ∧ w'.cell? ⟨w1.heap.size, 1, none⟩ = some (.int .i64 q) ∧ w'.cell? ⟨w1.heap.size, 2, none⟩ = some (.int .i64 m) ∧ w'.cell? ⟨w.heap.size, 3, none⟩ = some (.slice (some ⟨g, 0, none⟩) Ls.length c) ∧ w'.cell? ⟨g, k, none⟩ = some (.slice sa Ls[k].length sc) ∧
      w'.cell? ⟨w.heap.size + 1, 0, none⟩ = some (.int .i64 0) ∧ w'.cell? ⟨w.heap.size + 1, 1, none⟩ = some (.int .i64 0) ∧ w'.cell? ⟨w.heap.size + 1, 2, none⟩ = some (.int .i64 0) ∧ w'.cell? ⟨w.heap.size + 1, 3, none⟩ = some (.slice none 0 0) ∧ w'.frozen? ⟨w.heap.size + 1, 0, none⟩ = false ∧ w'.frozen? ⟨w.heap.size + 1, 1, none⟩ = false ∧ w'.frozen? ⟨w.heap.size + 1, 2, none⟩ = false ∧ w'.frozen? ⟨w.heap.size + 1, 3, none⟩ = false) := by
    intro W vx hW hx hxn
    refine (HW.out _ W vx D2 hW hx hxn).mono ?_
    rintro e w' ⟨va, vn, vc, rfl, r1, r3⟩
    obtain ⟨s0, s1, s2, s3, s4, s5⟩ := KEEP w' r3
    refine ⟨va, vn, vc, rfl, r1.more (by omega) (Nat.le_refl _), r3, s0, s1, s2, s3, s4, ring_cell s5 rfl, ring_cell s5 rfl, ring_cell s5 rfl, ring_cell s5 rfl, ring_z s5, ring_z s5, ring_z s5, ring_z s5⟩
  have HSX2 : Hid (∀ W, Below (w1.alloc (.cells #[.int .i64 (h - N), .int .i64 q, .int .i64 m] 30)).heap.size (w1.alloc (.cells #[.int .i64 (h - N), .int .i64 q, .int .i64 m] 30)) W → ∀ a', (N < sc → a' = sa.map (fun x => x.add N)) → Src W kL (.slice a' (Ls[k].length - N) (sc - N)) T) := fun W hW => HSX.out W (D2.trans (hW.mono D2.size))
  have I0 := Below.refl (w1.alloc (.cells #[.int .i64 (h - N), .int .i64 q, .int .i64 m] 30)).heap.size (w1.alloc (.cells #[.int .i64 (h - N), .int .i64 q, .int .i64 m] 30))
  obtain ⟨i0, i1, i2, i3, i4, i5⟩ := KEEP _ I0
  have FIN : Hid (∀ (W w4 : World) (va : Option Addr) (vn vc : Nat), Hid (Mat (fun i => F i ∨ (w1.heap.size ≤ i ∧ i < W.heap.size)) W (.slice va vn vc) (Ls.set k T)) → Below (w1.alloc (.cells #[.int .i64 (h - N), .int .i64 q, .int .i64 m] 30)).heap.size (w1.alloc (.cells #[.int .i64 (h - N), .int .i64 q, .int .i64 m] 30)) W → Kp (fun i => i = w.heap.size + 1) W w4 → Src w4 kL (.slice sa N sc) T2 ∧ Mat (fun i => F i ∨ (w.heap.size ≤ i ∧ i < w4.heap.size)) w4 (.slice va vn vc) (Ls.set k T) ∧ Below w.heap.size w w4) := by
    intro W w4 va vn vc hMM hI2 K
    have ks := K.size
    have hsz := hI2.size
    have D3 : Below w.heap.size w W := D2.trans (hI2.mono D2.size)
    have D4 : Below w.heap.size w w4 := D3.trans (kp_below K (by omega) D3.size)
    refine ⟨HST.out _ D4, hMM.out.frame (fun i hi => K.block i ?_ ?_) (fun i hi => ?_), D4⟩
    · rcases hi with hi | hi
      · have := HFB.out i hi; omega
      · exact hi.2
    · intro c
      rcases hi with hi | hi
      · have := HFB.out i hi; omega
      · omega
    · rcases hi with hi | hi
      · exact .inl hi
      · exact .inr ⟨by omega, by omega⟩
  clear B1 HT HW KEEP N0 N1 N2 hcell hcell1 i5 E2 HSX HST HBT
  have n1 : ¬ w1.heap.size = w.heap.size + 1 := by omega
  have n2 : ¬ w.heap.size + 1 = w1.heap.size := by omega
  have n3 : ¬ g = w.heap.size + 1 := by omega
  have n4 : ¬ w.heap.size + 1 = g := by omega
  by_cases hcc : sc = N
  · subst hcc
    have HSX3 : Hid (∀ W, Below (w1.alloc (.cells #[.int .i64 (h - sc), .int .i64 q, .int .i64 m] 30)).heap.size (w1.alloc (.cells #[.int .i64 (h - sc), .int .i64 q, .int .i64 m] 30)) W → Src W kL (.slice sa (Ls[k].length - sc) 0) T) := fun W hW => by
      have := HSX2.out W hW sa (fun h => absurd h (Nat.lt_irrefl _))
      rwa [Nat.sub_self] at this
    clear HSX2
    go_wp2_with fail
    go_region_held3 (fun W => W.cell? ⟨w1.heap.size, 0, none⟩ = some (.int .i64 (h - sc)) ∧ W.cell? ⟨w1.heap.size, 1, none⟩ = some (.int .i64 q) ∧ W.cell? ⟨w1.heap.size, 2, none⟩ = some (.int .i64 m) ∧ W.cell? ⟨w.heap.size, 3, none⟩ = some (.slice (some ⟨g, 0, none⟩) Ls.length c) ∧ W.cell? ⟨g, k, none⟩ = some (.slice sa Ls[k].length sc)) (go_keep) (first | (go_at_call 20; refine (HW2.out _ _ (by first | assumption | exact Below.drew I0 | exact Below.drew (by assumption)) (HSX3.out _ (by first | assumption | exact Below.drew I0 | exact Below.drew (by assumption))) (fun n c e => by obtain ⟨_, _, z⟩ := slice_inj e; exact z.symm)).mono ?_; rintro e w' ⟨va, vn, vc, rfl, hMM, hI2, hS0, hS1, hS2, hS3, hS4, d0, d1, d2, d3, z0, z1, z2, z3⟩))
    have r0 := ((set4_kp w' (w.heap.size + 1) (.int .i64 (h - sc)) (.int .i64 q) (.int .i64 m) (.slice va vn vc)))
    have F0 := FIN.out _ _ _ _ _ hMM hI2 r0
    clear FIN hMM
    go_wp2
    exact bodyPost_ret (v := .tuple #[.agg #[.int .i64 (h - sc), .int .i64 q, .int .i64 m, .slice va vn vc], .slice sa sc sc]) (by simp [results, Try.results10, go_sem, *]) rfl ⟨_, _, _, kL, rfl, hkL, F0.1, F0.2.1, F0.2.2⟩
  · obtain ⟨ad, rfl⟩ : ∃ ad, sa = some ad := by
      cases sa with
      | none => exact absurd (hLn rfl) (by omega)
      | some ad => exact ⟨ad, rfl⟩
    go_wp2_with fail
    go_region_held3 (fun W => W.cell? ⟨w1.heap.size, 0, none⟩ = some (.int .i64 (h - N)) ∧ W.cell? ⟨w1.heap.size, 1, none⟩ = some (.int .i64 q) ∧ W.cell? ⟨w1.heap.size, 2, none⟩ = some (.int .i64 m) ∧ W.cell? ⟨w.heap.size, 3, none⟩ = some (.slice (some ⟨g, 0, none⟩) Ls.length c) ∧ W.cell? ⟨g, k, none⟩ = some (.slice (some ad) Ls[k].length sc)) (go_keep) (first | (go_at_call 20; refine (HW2.out _ _ (by first | assumption | exact Below.drew I0 | exact Below.drew (by assumption)) (HSX2.out _ (by first | assumption | exact Below.drew I0 | exact Below.drew (by assumption)) _ (fun _ => rfl)) (fun n c e => by cases e)).mono ?_; rintro e w' ⟨va, vn, vc, rfl, hMM, hI2, hS0, hS1, hS2, hS3, hS4, d0, d1, d2, d3, z0, z1, z2, z3⟩))
    have r0 := ((set4_kp w' (w.heap.size + 1) (.int .i64 (h - N)) (.int .i64 q) (.int .i64 m) (.slice va vn vc)))
    have F0 := FIN.out _ _ _ _ _ hMM hI2 r0
    clear FIN hMM
    go_wp2
    exact bodyPost_ret (v := .tuple #[.agg #[.int .i64 (h - N), .int .i64 q, .int .i64 m, .slice va vn vc], .slice (some ad) N sc]) (by simp [results, Try.results10, go_sem, *]) rfl ⟨_, _, _, kL, rfl, hkL, F0.1, F0.2.1, F0.2.2⟩
end Go.Proofs.Ytenajbefknlalaa
