/- The reference's rings: New. -/
import Derived.Test.YtenajbefknlalaaRpA
namespace Go.Proofs.Ytenajbefknlalaa
open Go.RowKit
set_option linter.unusedVariables false

theorem rblk_set {w : World} {b : Nat} {x0 x1 x2 x3 : Value} {t : TypeId} (h : w.heap[b]? = some (.cells #[x0, x1, x2, x3] t)) (y0 y1 y2 y3 : Value) :
    ((((w.setCell ⟨b, 0, none⟩ y0).setCell ⟨b, 1, none⟩ y1).setCell ⟨b, 2, none⟩ y2).setCell ⟨b, 3, none⟩ y3).heap[b]? = some (.cells #[y0, y1, y2, y3] t) := by
  rw [ring_set (ring_set (ring_set (ring_set h)))]; rfl
theorem set4_kp (w : World) (b : Nat) (y0 y1 y2 y3 : Value) : Kp (fun k => k = b) w ((((w.setCell ⟨b, 0, none⟩ y0).setCell ⟨b, 1, none⟩ y1).setCell ⟨b, 2, none⟩ y2).setCell ⟨b, 3, none⟩ y3) :=
  (((Kp.set (T := fun k => k = b) w b 0 _ rfl).then (Kp.set _ b 1 _ rfl)).then (Kp.set _ b 2 _ rfl)).then (Kp.set _ b 3 _ rfl)
theorem kp_below {b B : Nat} {u v : World} (h : Kp (fun k => k = b) u v) (hb : B ≤ b) (hB : B ≤ u.heap.size) : Below B u v := h.below hB (fun k hk c => by subst c; omega)
theorem OwnV.frame {B : Nat} {w w' : World} {v : Value} {xs : List Value} (h : OwnV B w v xs) (b : ∀ k, B ≤ k → k < w.heap.size → w'.heap[k]? = w.heap[k]?) : OwnV B w' v xs := by
  obtain ⟨h1, h2⟩ := h
  refine ⟨h1, ?_⟩
  rcases h2 with h2 | ⟨g, cap, cur, hv, hg, hh, r⟩
  · exact .inl h2
  · exact .inr ⟨g, cap, cur, hv, hg, (b g hg (heap_lt hh)).trans hh, r⟩
def Emp (B : Nat) (w : World) (Vs : List Value) : Prop := ∀ x ∈ Vs, ∃ g, x = .slice (some ⟨g, 0, none⟩) 0 0 ∧ B ≤ g ∧ g < w.heap.size

set_option maxRecDepth 100000 in
set_option maxHeartbeats 4000000 in
theorem r3new_any (a : Int) (w : World) :
    Calls Try.prog 7 #[.int .i64 a, .int .i64 3] w fun e w' => ∃ v', e = .returned (.agg #[.int .i64 0, .int .i64 0, .int .i64 (mst a), v']) ∧ Mat (fun i => w.heap.size ≤ i ∧ i < w'.heap.size) w' v' [[], [], []] ∧ Below w.heap.size w w' := by
  generalize hma : mst a = ma
  have HMA : Hid (mst a = ma) := hma
  clear hma
  go_enter Try.func7, Try.ntmps7
  go_wp2_with fail
  refine (rnew_any a _).mono ?_
  rw [HMA.out]
  rintro e w1 ⟨rfl, B1⟩
  have N0 : w1.heap[w.heap.size]? = some (.cells #[.int .i64 0, .int .i64 0, .int .i64 0, .slice none 0 0] 33) := (B1.block _ (by simp)).trans (new_at _ _)
  have D1 : Below w.heap.size w w1 := (((Below.refl _ _).alloc (Nat.le_refl _) _)).trans (B1.mono (by simp))
  have hs1 : w.heap.size < w1.heap.size := heap_lt N0
  clear B1
  have N1 := new_at w1 (.cells #[.int .i64 0, .int .i64 0, .int .i64 ma, .slice none 0 0] 33)
  have B2 : Below w1.heap.size w1 (w1.alloc (.cells #[.int .i64 0, .int .i64 0, .int .i64 ma, .slice none 0 0] 33)) := (Below.refl _ _).alloc (Nat.le_refl _) _
  have N0' := (B2.block _ hs1).trans N0
  have D2 := D1.trans (B2.mono (Nat.le_of_lt hs1))
  clear D1 N0
  go_wp2_with fail
  generalize w1.heap.size = b5 at *
  go_loopw [6] (fun vi wr => ∃ (i : Nat) (v : Value) (Vs : List Value), i ≤ 3 ∧ vi = .int .i64 i ∧ wr.heap[b5]? = some (.cells #[.int .i64 0, .int .i64 0, .int .i64 ma, v] 33) ∧ wr.heap[w.heap.size]? = some (.cells #[.int .i64 0, .int .i64 0, .int .i64 0, .slice none 0 0] 33) ∧ Hid (OwnV (b5 + 1) wr v Vs) ∧ Vs.length = i ∧ Hid (Emp w.heap.size wr Vs) ∧ Below w.heap.size w wr) (fun vi _ => 3 - (intOf vi).toNat)
  case atStart => exact ⟨0, _, [], by omega, rfl, N1, N0', OwnV.nil _ _, rfl, (fun x hx => by cases hx), D2⟩
  case round =>
    obtain ⟨i, v, Vs, hi, rfl, H5, H0, hO, hVl, hE, hB⟩ := hrel
    clear N1 N0' D2 B2
    have hb5 := heap_lt H5
    have c0 : wr.cell? ⟨b5, 0, none⟩ = some (.int .i64 0) := ring_cell H5 rfl
    have c1 : wr.cell? ⟨b5, 1, none⟩ = some (.int .i64 0) := ring_cell H5 rfl
    have c2 : wr.cell? ⟨b5, 2, none⟩ = some (.int .i64 ma) := ring_cell H5 rfl
    have c3 : wr.cell? ⟨b5, 3, none⟩ = some v := ring_cell H5 rfl
    obtain ⟨oa, oc, rfl⟩ := hO.out.shape
    have HVL : Hid (Vs.length = i) := hVl
    rw [hVl] at c3 hO H5
    clear hVl
    by_cases hlt : i < 3
    · have E1 : Below wr.heap.size wr (wr.alloc (.cells #[] 5)) := (Below.refl _ _).alloc (Nat.le_refl _) _
      have E2 : Below wr.heap.size wr ((wr.alloc (.cells #[] 5)).alloc (.cells #[.slice (some ⟨wr.heap.size, 0, none⟩) 0 0] 35)) := E1.alloc (by simp) _
      have cg : ((wr.alloc (.cells #[] 5)).alloc (.cells #[.slice (some ⟨wr.heap.size, 0, none⟩) 0 0] 35)).cell? ⟨(wr.alloc (.cells #[] 5)).heap.size, 0, none⟩ = some (.slice (some ⟨wr.heap.size, 0, none⟩) 0 0) := ring_cell (new_at _ _) rfl
      have hsz : (wr.alloc (.cells #[] 5)).heap.size = wr.heap.size + 1 := by simp
      rw [hsz] at cg
      obtain ⟨v3, w3, r3, O3, B3⟩ := ownV_one (hO.out.keep E2) rfl cg (by rw [HVL.out]; omega) (by have := E2.size; omega)
      have hvl : (Vs ++ [Value.slice (some ⟨wr.heap.size, 0, none⟩) 0 0]).length = i + 1 := by rw [List.length_append, HVL.out]; rfl
      obtain ⟨a3, k3, hv3⟩ := O3.shape
      rw [hvl] at hv3
      subst hv3
      have H53 := (B3.block b5 (by omega)).trans ((E2.block b5 hb5).trans H5)
      have H03 := (B3.block w.heap.size (by omega)).trans ((E2.block w.heap.size (by omega)).trans H0)
      have hz3 : w3.frozen? ⟨b5, 3, none⟩ = false := ring_z H53
      have hc3 : w3.cell? ⟨b5, 3, none⟩ = some (.slice oa i oc) := ring_cell H53 rfl
      have hsz3 := B3.size
      have hsz2 : ((wr.alloc (.cells #[] 5)).alloc (.cells #[.slice (some ⟨wr.heap.size, 0, none⟩) 0 0] 35)).heap.size = wr.heap.size + 2 := by simp
      have HF : Hid (∀ w4, w4 = w3.setCell ⟨b5, 3, none⟩ (.slice a3 (i + 1) k3) → w4.heap[b5]? = some (.cells #[.int .i64 0, .int .i64 0, .int .i64 ma, .slice a3 (i + 1) k3] 33) ∧ w4.heap[w.heap.size]? = some (.cells #[.int .i64 0, .int .i64 0, .int .i64 0, .slice none 0 0] 33) ∧ OwnV (b5 + 1) w4 (.slice a3 (i + 1) k3) (Vs ++ [.slice (some ⟨wr.heap.size, 0, none⟩) 0 0]) ∧ Emp w.heap.size w4 (Vs ++ [.slice (some ⟨wr.heap.size, 0, none⟩) 0 0]) ∧ Below w.heap.size w w4) := by
        rintro w4 rfl
        have K := But.set b5 3 w3 (.slice a3 (i + 1) k3)
        refine ⟨by rw [ring_set H53]; rfl, (K.block _ (by omega)).trans H03, O3.frame (fun k h1 h2 => K.block k (by omega)), fun x hx => ?_, ?_⟩
        · have hs := K.size
          rcases List.mem_append.1 hx with hx | hx
          · obtain ⟨g, e, q1, q2⟩ := hE.out x hx
            exact ⟨g, e, q1, by omega⟩
          · rw [List.mem_singleton.1 hx]
            exact ⟨wr.heap.size, rfl, hB.size, by omega⟩
        · exact ((hB.trans (E2.mono hB.size)).trans (B3.mono (by omega))).trans (K.below (by omega))
      have hb5' : b5 < (wr.alloc (.cells #[] 5)).heap.size := by omega
      clear O3 B3 hO hE H5 H0 H53 H03 cg E1 E2
      go_wp2_with (at_builtin; refine wpList_append_run2 rfl _ _ 31 31 rfl _ _ _ w3 rfl rfl r3 ?_)
      go_roundw
      case rel => exact ⟨i + 1, _, _, by omega, by go_num, (HF.out _ rfl).1, (HF.out _ rfl).2.1, (HF.out _ rfl).2.2.1, hvl, (HF.out _ rfl).2.2.2.1, (HF.out _ rfl).2.2.2.2⟩
      case measure => simp [intOf]; omega
    · obtain rfl : i = 3 := by omega
      have z0 : wr.frozen? ⟨w.heap.size, 0, none⟩ = false := ring_z H0
      have z1 : wr.frozen? ⟨w.heap.size, 1, none⟩ = false := ring_z H0
      have z2 : wr.frozen? ⟨w.heap.size, 2, none⟩ = false := ring_z H0
      have z3 : wr.frozen? ⟨w.heap.size, 3, none⟩ = false := ring_z H0
      have d0 : wr.cell? ⟨w.heap.size, 0, none⟩ = some (.int .i64 0) := ring_cell H0 rfl
      have d1 : wr.cell? ⟨w.heap.size, 1, none⟩ = some (.int .i64 0) := ring_cell H0 rfl
      have d2 : wr.cell? ⟨w.heap.size, 2, none⟩ = some (.int .i64 0) := ring_cell H0 rfl
      have d3 : wr.cell? ⟨w.heap.size, 3, none⟩ = some (.slice none 0 0) := ring_cell H0 rfl
      have HF : Hid (∀ w4, w4 = ((((wr.setCell ⟨w.heap.size, 0, none⟩ (.int .i64 0)).setCell ⟨w.heap.size, 1, none⟩ (.int .i64 0)).setCell ⟨w.heap.size, 2, none⟩ (.int .i64 ma)).setCell ⟨w.heap.size, 3, none⟩ (.slice oa 3 oc)) → Mat (fun i => w.heap.size ≤ i ∧ i < w4.heap.size) w4 (.slice oa 3 oc) [[], [], []] ∧ Below w.heap.size w w4) := by
        rintro w4 rfl
        have K := set4_kp wr w.heap.size (.int .i64 0) (.int .i64 0) (.int .i64 ma) (.slice oa 3 oc)
        obtain ⟨g', c', e, q1, q2, q3, q4, q5⟩ := hO.out.form (by rw [HVL.out]; omega)
        obtain ⟨rfl, _, rfl⟩ := slice_inj e
        have ks := K.size
        rw [HVL.out] at q3
        refine ⟨⟨g', _, Vs, rfl, ⟨by omega, by omega⟩, q3, q4, HVL.out, fun j hj => ?_, fun j sv L hs hL => ?_⟩, hB.trans (kp_below K (Nat.le_refl _) hB.size)⟩
        · rw [← q5 j hj]
          simp only [World.cell?]
          rw [K.block g' q2 (by omega)]
        · obtain ⟨g, rfl, g1, g2⟩ := hE.out sv (List.mem_of_getElem? hs)
          have hL0 : L = [] := by
            match j, hL with
            | 0, hL => simpa using hL.symm
            | 1, hL => simpa using hL.symm
            | 2, hL => simpa using hL.symm
          subst hL0
          exact ⟨g, ⟨g1, by omega⟩, ⟨_, 0, rfl, Nat.le_refl _, Nat.zero_le _, fun h => absurd h (by decide)⟩, fun n c e => by cases e⟩
      clear H0 H5 hO hE
      go_wp2
      refine bodyPost_ret (v := .agg #[.int .i64 0, .int .i64 0, .int .i64 ma, .slice oa 3 oc]) (by simp [results, Try.results7, go_sem, *]) rfl ⟨_, rfl, (HF.out _ rfl).1, (HF.out _ rfl).2⟩
end Go.Proofs.Ytenajbefknlalaa
