/- The reference's rings: Put, where the bytes are taken. -/
import Derived.Test.YtenajbefknlalaaRpC
namespace Go.Proofs.Ytenajbefknlalaa
open Go.RowKit
set_option linter.unusedVariables false

set_option maxRecDepth 100000 in
set_option maxHeartbeats 4000000 in
theorem r3put_yes (F : Nat → Prop) (w : World) (v vb : Value) (Ls : List (List UInt8)) (k kb : Nat) (L b : List UInt8) (h q m : Int) (hM : Mat F w v Ls) (hF : ∀ i, F i → i < w.heap.size) (hb : Src w kb vb b) (hkb : F kb) (hk : Ls[k]? = some L) (hn : Ls.length ≤ 1000)
    (h0 : 0 ≤ h) (h1 : h ≤ m) (h2 : m ≤ 1099511627776) (hok : (b.length : Int) ≤ m - h) (hlen : L.length + b.length ≤ 140737488355328) :
    Calls Try.prog 8 #[.agg #[.int .i64 h, .int .i64 q, .int .i64 m, v], .int .i64 k, vb] w fun e w' => ∃ v', e = .returned (.tuple #[.agg #[.int .i64 (h + b.length), .int .i64 (rpk m h q b.length), .int .i64 m, v'], .bool true]) ∧
      Mat (fun i => F i ∨ (w.heap.size ≤ i ∧ i < w'.heap.size)) w' v' (Ls.set k (L ++ b)) ∧ Below w.heap.size w w' := by
  obtain ⟨hkl, rfl⟩ := List.getElem?_eq_some_iff.1 hk
  have HM : Hid (Mat F w v Ls) := hM
  have HS : Hid (Src w kb vb b) := hb
  obtain ⟨ba, bc, rfl, hbq⟩ := hb
  clear hbq
  obtain ⟨g, c, kL, sa, sc, rfl, hg, hcell, hkL, hL, hLn⟩ := hM.at k hkl
  clear hLn
  have HT := fun W : World => rtake_any m h q (b.length : Int) W h0 h1 h2
  rw [(tk_yes (m := m) (h := h) (n := (b.length : Int)) (by omega) hok).1, (tk_yes (m := m) (h := h) (n := (b.length : Int)) (by omega) hok).2] at HT
  have HC : Hid (∀ (W0 W : World), Below w.heap.size w W0 → Below W0.heap.size W0 W → Calls Try.prog 21 #[.slice sa Ls[k].length sc, .slice ba b.length bc] W fun e w' => ∃ kj ja jn jc, e = .returned (.slice ja jn jc) ∧ Nn (.slice ja jn jc) ∧ Src w' kj (.slice ja jn jc) (Ls[k] ++ b) ∧ (F kj ∨ (W0.heap.size ≤ kj ∧ kj < w'.heap.size)) ∧ Below W0.heap.size W0 w') := by
    intro W0 W b0 b1
    have b2 : Below w.heap.size w W := b0.trans (b1.mono b0.size)
    refine (join_any Ls[k] b kL kb _ _ W (hL.frame (b2.block kL (hF kL hkL))) (fun _ => Nat.lt_of_lt_of_le (hF kL hkL) b2.size) (HS.out.frame (b2.block kb (hF kb hkb))) (fun _ => Nat.lt_of_lt_of_le (hF kb hkb) b2.size) hlen).mono ?_
    rintro e w' ⟨v', rfl, O, B⟩
    obtain ⟨a', c', rfl, hno⟩ := O.form
    have hnn : Nn (.slice a' (Ls[k] ++ b).length c') := fun n c e => by
      obtain ⟨z1, z2, z3⟩ := slice_inj e
      rw [← z3]; exact hno z1
    obtain ⟨kj, q1, q2⟩ := O.src
    have b3 := b1.trans (B.mono b1.size)
    have hs := b1.size
    have hs' := B.size
    rcases Nat.eq_zero_or_pos (Ls[k] ++ b).length with z | z
    · obtain ⟨x, y, e, r1, r2, r3⟩ := q1
      exact ⟨kL, a', _, c', rfl, hnn, ⟨x, y, e, r1, r2, fun r => by omega⟩, .inl hkL, b3⟩
    · exact ⟨kj, a', _, c', rfl, hnn, q1, .inr ⟨by have := (q2 z).1; omega, (q2 z).2⟩, b3⟩
  have HW : Hid (∀ (W0 W : World) (kj : Nat) (vx : Value), Below w.heap.size w W0 → Below W0.heap.size W0 W → Src W kj vx (Ls[k] ++ b) → Nn vx → (F kj ∨ (W0.heap.size ≤ kj ∧ kj < W.heap.size)) → Calls Try.prog 20 #[.slice (some ⟨g, 0, none⟩) Ls.length c, .int .i64 k, vx] W fun e w' => ∃ va vn vc, e = .returned (.slice va vn vc) ∧ Mat (fun i => F i ∨ (W0.heap.size ≤ i ∧ i < w'.heap.size)) w' (.slice va vn vc) (Ls.set k (Ls[k] ++ b)) ∧ Below W0.heap.size W0 w') := by
    intro W0 W kj vx b0 b1 hx hxn hkj
    have b2 : Below w.heap.size w W := b0.trans (b1.mono b0.size)
    refine (with_any (fun i => F i ∨ (W0.heap.size ≤ i ∧ i < W.heap.size)) W _ vx Ls k kj _ (HM.out.frame (fun i hi => b2.block i (hF i hi)) (fun i hi => .inl hi)) (fun i hi => ?_) hkl hx hxn hkj hn).mono ?_
    · rcases hi with hi | hi
      · exact Nat.lt_of_lt_of_le (hF i hi) b2.size
      · exact hi.2
    · rintro e w' ⟨v', rfl, M, B⟩
      have hs := b1.size
      have hs' := B.size
      have M2 : Mat (fun i => F i ∨ (W0.heap.size ≤ i ∧ i < w'.heap.size)) w' v' (Ls.set k (Ls[k] ++ b)) := M.frame (fun _ _ => rfl) (fun i hi => by
        rcases hi with (hi | hi) | hi
        · exact .inl hi
        · exact .inr ⟨hi.1, by omega⟩
        · exact .inr ⟨by omega, hi.2⟩)
      obtain ⟨g', c', Vs', e', r⟩ := M2
      subst e'
      exact ⟨_, _, _, rfl, ⟨g', c', Vs', rfl, r⟩, b1.trans (B.mono b1.size)⟩
  have hgl := hF g hg
  have HFB : Hid (∀ i, F i → i < w.heap.size) := hF
  generalize rpk m h q (b.length : Int) = q' at *
  generalize hT : Ls[k] ++ b = T at *
  have hokl : h + (b.length : Int) ≤ 1099511627776 := by omega
  clear hM HS HM hL hlen hok hF hT hkL hn
  have hkl2 : (k : Int) < (Ls.length : Int) := by omega
  have hkl3 : Ls.length ≤ 1000 ∨ True := .inr trivial
  go_enter Try.func8, Try.ntmps8
  go_wp2_with fail
  refine (HT _).mono ?_
  rintro e w1 ⟨rfl, B1⟩
  have hs : w.heap.size + 2 ≤ w1.heap.size := by have := B1.size; simpa using this
  have N0 : w1.heap[w.heap.size]? = some (.cells #[.int .i64 h, .int .i64 q, .int .i64 m, .slice (some ⟨g, 0, none⟩) Ls.length c] 33) := (B1.block _ (by simp; omega)).trans ((Below.heap_alloc _ _ _ (by simp)).trans (new_at _ _))
  have N1 : w1.heap[w.heap.size + 1]? = some (.cells #[.int .i64 0, .int .i64 0, .int .i64 0, .slice none 0 0] 33) := by
    refine (B1.block _ (by simp)).trans ?_
    have k := new_at (w.alloc (.cells #[.int .i64 h, .int .i64 q, .int .i64 m, .slice (some ⟨g, 0, none⟩) Ls.length c] 33)) (.cells #[.int .i64 0, .int .i64 0, .int .i64 0, .slice none 0 0] 33)
    rw [show (w.alloc (.cells #[.int .i64 h, .int .i64 q, .int .i64 m, .slice (some ⟨g, 0, none⟩) Ls.length c] 33)).heap.size = w.heap.size + 1 by simp] at k
    exact k
  have D1 : Below w.heap.size w w1 := (((Below.refl _ _).alloc (Nat.le_refl _) _).alloc (by simp) _).trans (B1.mono (by simp; omega))
  have E2 : Below w1.heap.size w1 (w1.alloc (.cells #[.int .i64 (h + b.length), .int .i64 q', .int .i64 m] 30)) := (Below.refl _ _).alloc (Nat.le_refl _) _
  have N2 := new_at w1 (.cells #[.int .i64 (h + b.length), .int .i64 q', .int .i64 m] 30)
  have hcell1 := (D1.cell (p := ⟨g, k, none⟩) hgl).trans hcell
  have D2 : Below w.heap.size w (w1.alloc (.cells #[.int .i64 (h + b.length), .int .i64 q', .int .i64 m] 30)) := D1.trans (E2.mono D1.size)
  have hs2 : (w1.alloc (.cells #[.int .i64 (h + b.length), .int .i64 q', .int .i64 m] 30)).heap.size = w1.heap.size + 1 := by simp
  have KEEP : ∀ W, Below (w1.alloc (.cells #[.int .i64 (h + b.length), .int .i64 q', .int .i64 m] 30)).heap.size (w1.alloc (.cells #[.int .i64 (h + b.length), .int .i64 q', .int .i64 m] 30)) W →
      W.cell? ⟨w1.heap.size, 0, none⟩ = some (.int .i64 (h + b.length)) ∧ W.cell? ⟨w1.heap.size, 1, none⟩ = some (.int .i64 q') ∧ W.cell? ⟨w1.heap.size, 2, none⟩ = some (.int .i64 m) ∧ W.cell? ⟨w.heap.size, 3, none⟩ = some (.slice (some ⟨g, 0, none⟩) Ls.length c) ∧ W.cell? ⟨g, k, none⟩ = some (.slice sa Ls[k].length sc) ∧
      W.heap[w.heap.size + 1]? = some (.cells #[.int .i64 0, .int .i64 0, .int .i64 0, .slice none 0 0] 33) := by
    intro W hW
    have k2 := (hW.block w1.heap.size (by omega)).trans N2
    have k0 := (hW.block w.heap.size (by omega)).trans ((E2.block _ (by omega)).trans N0)
    have kg := (hW.cell (p := ⟨g, k, none⟩) (by show g < _; omega)).trans ((E2.cell (p := ⟨g, k, none⟩) (by show g < _; omega)).trans hcell1)
    exact ⟨ring_cell k2 rfl, ring_cell k2 rfl, ring_cell k2 rfl, ring_cell k0 rfl, kg, (hW.block _ (by omega)).trans ((E2.block _ (by omega)).trans N1)⟩
  have HJ2 : Hid (∀ W, Below (w1.alloc (.cells #[.int .i64 (h + b.length), .int .i64 q', .int .i64 m] 30)).heap.size (w1.alloc (.cells #[.int .i64 (h + b.length), .int .i64 q', .int .i64 m] 30)) W → Calls Try.prog 21 #[.slice sa Ls[k].length sc, .slice ba b.length bc] W fun e w' => ∃ kj ja jn jc, e = .returned (.slice ja jn jc) ∧ Hid (Nn (.slice ja jn jc)) ∧ Hid (Src w' kj (.slice ja jn jc) T) ∧ Hid (F kj ∨ ((w1.alloc (.cells #[.int .i64 (h + b.length), .int .i64 q', .int .i64 m] 30)).heap.size ≤ kj ∧ kj < w'.heap.size)) ∧ Below (w1.alloc (.cells #[.int .i64 (h + b.length), .int .i64 q', .int .i64 m] 30)).heap.size (w1.alloc (.cells #[.int .i64 (h + b.length), .int .i64 q', .int .i64 m] 30)) w' ∧
      w'.cell? ⟨w1.heap.size, 0, none⟩ = some (.int .i64 (h + b.length)) ∧ w'.cell? ⟨w1.heap.size, 1, none⟩ = some (.int .i64 q') ∧ w'.cell? ⟨w1.heap.size, 2, none⟩ = some (.int .i64 m) ∧ w'.cell? ⟨w.heap.size, 3, none⟩ = some (.slice (some ⟨g, 0, none⟩) Ls.length c) ∧ w'.cell? ⟨g, k, none⟩ = some (.slice sa Ls[k].length sc)) := by
    intro W hW
    refine (HC.out _ W D2 hW).mono ?_
    rintro e w' ⟨kj, ja, jn, jc, rfl, rn, r1, r2, r3⟩
    obtain ⟨s0, s1, s2, s3, s4, s5⟩ := KEEP w' r3
    exact ⟨kj, ja, jn, jc, rfl, rn, r1, r2, r3, s0, s1, s2, s3, s4⟩
  have HW2 : Hid (∀ W kj vx, Below (w1.alloc (.cells #[.int .i64 (h + b.length), .int .i64 q', .int .i64 m] 30)).heap.size (w1.alloc (.cells #[.int .i64 (h + b.length), .int .i64 q', .int .i64 m] 30)) W → Hid (Src W kj vx T) → Hid (Nn vx) → Hid (F kj ∨ ((w1.alloc (.cells #[.int .i64 (h + b.length), .int .i64 q', .int .i64 m] 30)).heap.size ≤ kj ∧ kj < W.heap.size)) → Calls Try.prog 20 #[.slice (some ⟨g, 0, none⟩) Ls.length c, .int .i64 k, vx] W fun e w' => ∃ va vn vc, e = .returned (.slice va vn vc) ∧ Hid (Mat (fun i => F i ∨ (w1.heap.size ≤ i ∧ i < w'.heap.size)) w' (.slice va vn vc) (Ls.set k T)) ∧ Below (w1.alloc (.cells #[.int .i64 (h + b.length), .int .i64 q', .int .i64 m] 30)).heap.size (w1.alloc (.cells #[.int .i64 (h + b.length), .int .i64 q', .int .i64 m] 30)) w' ∧
      w'.cell? ⟨w1.heap.size, 0, none⟩ = some (.int .i64 (h + b.length)) ∧ w'.cell? ⟨w1.heap.size, 1, none⟩ = some (.int .i64 q') ∧ w'.cell? ⟨w1.heap.size, 2, none⟩ = some (.int .i64 m) ∧ w'.cell? ⟨w.heap.size, 3, none⟩ = some (.slice (some ⟨g, 0, none⟩) Ls.length c) ∧ w'.cell? ⟨g, k, none⟩ = some (.slice sa Ls[k].length sc) ∧
      w'.cell? ⟨w.heap.size + 1, 0, none⟩ = some (.int .i64 0) ∧ w'.cell? ⟨w.heap.size + 1, 1, none⟩ = some (.int .i64 0) ∧ w'.cell? ⟨w.heap.size + 1, 2, none⟩ = some (.int .i64 0) ∧ w'.cell? ⟨w.heap.size + 1, 3, none⟩ = some (.slice none 0 0) ∧ w'.frozen? ⟨w.heap.size + 1, 0, none⟩ = false ∧ w'.frozen? ⟨w.heap.size + 1, 1, none⟩ = false ∧ w'.frozen? ⟨w.heap.size + 1, 2, none⟩ = false ∧ w'.frozen? ⟨w.heap.size + 1, 3, none⟩ = false) := by
    intro W kj vx hW hx hxn hkj
    refine (HW.out _ W kj vx D2 hW hx hxn hkj).mono ?_
    rintro e w' ⟨va, vn, vc, rfl, r1, r3⟩
    obtain ⟨s0, s1, s2, s3, s4, s5⟩ := KEEP w' r3
    refine ⟨va, vn, vc, rfl, r1.more (by omega) (Nat.le_refl _), r3, s0, s1, s2, s3, s4, ring_cell s5 rfl, ring_cell s5 rfl, ring_cell s5 rfl, ring_cell s5 rfl, ring_z s5, ring_z s5, ring_z s5, ring_z s5⟩
  have I0 := Below.refl (w1.alloc (.cells #[.int .i64 (h + b.length), .int .i64 q', .int .i64 m] 30)).heap.size (w1.alloc (.cells #[.int .i64 (h + b.length), .int .i64 q', .int .i64 m] 30))
  obtain ⟨i0, i1, i2, i3, i4, i5⟩ := KEEP _ I0
  clear B1 HT HC HW KEEP N0 N1 N2 hcell hcell1 i5 E2
  have n1 : ¬ w1.heap.size = w.heap.size + 1 := by omega
  have n2 : ¬ w.heap.size + 1 = w1.heap.size := by omega
  have n3 : ¬ g = w.heap.size + 1 := by omega
  have n4 : ¬ w.heap.size + 1 = g := by omega
  go_wp2_with fail
  go_region_held3 (fun W => W.cell? ⟨w1.heap.size, 0, none⟩ = some (.int .i64 (h + b.length)) ∧ W.cell? ⟨w1.heap.size, 1, none⟩ = some (.int .i64 q') ∧ W.cell? ⟨w1.heap.size, 2, none⟩ = some (.int .i64 m) ∧ W.cell? ⟨w.heap.size, 3, none⟩ = some (.slice (some ⟨g, 0, none⟩) Ls.length c) ∧ W.cell? ⟨g, k, none⟩ = some (.slice sa Ls[k].length sc)) (go_keep) (first | (go_at_call 21; refine (HJ2.out _ (by first | assumption | exact Below.drew I0 | exact Below.drew (by assumption))).mono ?_; rintro e w' ⟨kj, ja, jn, jc, rfl, hJn, hJ1, hJ2, hI, hS0, hS1, hS2, hS3, hS4⟩) | (go_at_call 20; refine (HW2.out _ kj _ hI hJ1 hJn hJ2).mono ?_; rintro e w' ⟨va, vn, vc, rfl, hMM, hI2, hS0, hS1, hS2, hS3, hS4, d0, d1, d2, d3, z0, z1, z2, z3⟩))
  have HF : Hid (∀ w4, Kp (fun i => i = w.heap.size + 1) w' w4 → Mat (fun i => F i ∨ (w.heap.size ≤ i ∧ i < w4.heap.size)) w4 (.slice va vn vc) (Ls.set k T) ∧ Below w.heap.size w w4) := by
    intro w4 K
    have ks := K.size
    have hsz := hI2.size
    refine ⟨hMM.out.frame (fun i hi => K.block i ?_ ?_) (fun i hi => ?_), ?_⟩
    · rcases hi with hi | hi
      · have := HFB.out i hi; omega
      · exact hi.2
    · intro c
      rcases hi with hi | hi
      · have := HFB.out i hi; omega
      · omega
    · rcases hi with hi | hi
      · exact .inl hi
      · exact .inr ⟨by omega, by omega⟩
    · have D3 : Below w.heap.size w w' := D2.trans (hI2.mono D2.size)
      exact D3.trans (kp_below K (by omega) D3.size)
  have r0 := ((set4_kp w' (w.heap.size + 1) (.int .i64 (h + b.length)) (.int .i64 q') (.int .i64 m) (.slice va vn vc)))
  go_wp2
  refine bodyPost_ret (v := .tuple #[.agg #[.int .i64 (h + b.length), .int .i64 q', .int .i64 m, .slice va vn vc], .bool true]) (by simp [results, Try.results8, go_sem, *]) rfl ⟨_, rfl, (HF.out _ ?_).1, (HF.out _ ?_).2⟩
  · exact r0
  · exact r0
end Go.Proofs.Ytenajbefknlalaa
