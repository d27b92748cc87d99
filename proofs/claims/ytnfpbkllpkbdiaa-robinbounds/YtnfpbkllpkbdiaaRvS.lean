/- Rows of pairs of any type; flows made small. -/
import Derived.Test.YtnfpbkllpkbdiaaRbS
namespace Go.Proofs.Ytnfpbkllpkbdiaa
open Go.RowKit
set_option linter.unusedVariables false

/-- Pairs in a row of one's own, of the type T. -/
def OwP (T : TypeId) (B : Nat) (w : World) (v : Value) (l : List Fl) : Prop := w.ownsRow B T 2 v l.length (rowW l)
theorem OwP.empty (T : TypeId) (B : Nat) (w : World) (hB : B ≤ w.heap.size) : OwP T B (w.alloc (.cells #[] T)) (.slice (some ⟨w.heap.size, 0, none⟩) 0 0) [] :=
  ⟨rfl, .inr ⟨w.heap.size, 0, #[], rfl, hB, tblk_new _ _, Nat.le_refl _, by decide, rfl, rfl⟩⟩
theorem OwP.grow {T : TypeId} {B : Nat} {w w' : World} {v : Value} {l : List Fl} (h : OwP T B w v l) (b : Below w.heap.size w w') : OwP T B w' v l := by
  obtain ⟨h1, h2⟩ := h
  refine ⟨h1, ?_⟩
  rcases h2 with h2 | ⟨g, c, cur, hv, hB, hg, r⟩
  · exact .inl h2
  · exact .inr ⟨g, c, cur, hv, hB, (b.block g (Array.getElem?_eq_some_iff.1 hg).1).trans hg, r⟩
theorem OwP.fls {T : TypeId} {B : Nat} {w : World} {v : Value} {l : List Fl} (h : OwP T B w v l) : ∃ a c, v = .slice a l.length c ∧ Fls w a c l := by
  obtain ⟨h1, ⟨h2, h3⟩ | ⟨g, c, cur, hv, hB, hg, hlc, hm, hs, ht⟩⟩ := h
  · exact ⟨none, 0, by rw [h2, h3], fun _ => rfl, by omega, Nat.zero_le _, fun q => by omega⟩
  · refine ⟨_, c, hv, (fun e => by cases e), hlc, hm, fun hl => ⟨g, 0, rfl, (Array.getElem?_eq_some_iff.1 hg).1, fun j hj => ?_⟩⟩
    have r := rowW_at l j hj
    have e : ∀ i, i < l.length * 2 → cur[i]? = (rowW l)[i]? := fun i hi => by
      rw [← ht, List.getElem?_take_of_lt hi, Array.getElem?_toList]
    rw [Nat.zero_add]
    exact ⟨tblk_cell hg (by rw [e _ (by omega)]; exact r.1), tblk_cell hg (by rw [e _ (by omega)]; exact r.2)⟩
theorem owp_append {T S : TypeId} (hu : Try.prog.underlying S = some (.slice T)) (hin : (Try.prog.info? T).map (fun i => (i.zero, i.size, i.bytes)) = some (some (.agg #[.int .i64 0, .int .i64 0]), 2, 16)) {B : Nat} {w : World} {v : Value} {l : List Fl} (h : OwP T B w v l) (hB : B ≤ w.heap.size) (x y : Int) (hl : l.length ≤ 2199023255552) :
    ∃ v' w', (Builtin.append_ #[S, S] S #[v, .slice (some ⟨w.heap.size, 0, none⟩) 1 1]).run Try.prog (w.alloc (.cells #[.int .i64 x, .int .i64 y] T)) = .ok v' w' ∧ OwP T B w' v' (l ++ [(x, y)]) ∧ Below B w w' ∧ (v'.ownBlock = v.ownBlock ∨ ∃ g, v'.ownBlock = some g ∧ w.heap.size ≤ g) ∧ ∀ k, k < w.heap.size → v.ownBlock ≠ some k → w'.heap[k]? = w.heap[k]? := by
  obtain ⟨i, hi, hz0, hz1, hz2⟩ := info_parts hin
  have BA : Below w.heap.size w (w.alloc (.cells #[.int .i64 x, .int .i64 y] T)) := (Below.refl _ _).alloc (Nat.le_refl _) _
  have hA := h.grow BA
  obtain ⟨v', w', hr, q1, q2, q3, q4⟩ := run_append_own_at (P := Try.prog) _ B S S T i (.agg #[.int .i64 0, .int .i64 0]) 2 16 hu hi hz0 hz1 hz2 rfl (by decide) v l.length (rowW l) hA ⟨w.heap.size, 0, none⟩ 1 1 (rowW [(x, y)]) rfl (new_two w x y T) (rowW_one _) (by unfold maxLen; omega) (by omega) (Nat.le_trans hB BA.size)
  refine ⟨v', w', hr, ?_, (BA.mono hB).trans ((Below.refl _ _).grown q2 (Nat.le_trans hB BA.size) (fun q hq => (World.ownsRow.lt hA q hq).1)), ?_, fun k hk hn => (q2.block k (by have := BA.size; omega) (fun e => hn e.symm)).trans (BA.block k hk)⟩
  · unfold OwP
    rw [List.length_append, rowW_app]; exact q1
  · rcases q4 with q | q
    · exact .inl q
    · exact .inr ⟨_, q, BA.size⟩
/-- The first 20, each wanting at most so much. -/
def smlL (m : Int) (fs : List Fl) (k : Nat) : List Fl := (fs.take (min k 20)).map fun f => (f.1, min f.2 m)
theorem smlL_len (m : Int) (fs : List Fl) (k : Nat) : (smlL m fs k).length ≤ 20 := by unfold smlL; rw [List.length_map, List.length_take]; omega
theorem smlL_snoc (m : Int) (fs : List Fl) (k : Nat) (hk : k < fs.length) (h20 : k < 20) : smlL m fs (k + 1) = smlL m fs k ++ [((fs.getD k (0, 0)).1, min (fs.getD k (0, 0)).2 m)] := by
  unfold smlL
  rw [show min (k + 1) 20 = k + 1 by omega, show min k 20 = k by omega, take_snoc fs k hk, List.map_append]
  rfl
theorem smlL_same (m : Int) (fs : List Fl) (k : Nat) (h20 : ¬ k < 20) : smlL m fs (k + 1) = smlL m fs k := by
  unfold smlL
  rw [show min (k + 1) 20 = 20 by omega, show min k 20 = 20 by omega]
set_option maxRecDepth 100000 in
set_option maxHeartbeats 2000000 in
theorem small_any (m : Int) (fs : List Fl) (a : Option Addr) (c : Nat) (w : World) (hf : Fls w a c fs) :
    Calls Try.prog 6 #[.slice a fs.length c, .int .i64 m] w fun e w' => ∃ v, e = .returned v ∧ OwP 31 w.heap.size w' v (smlL m fs fs.length) ∧ Below w.heap.size w w' := by
  have HF : Hid (∀ W, Below w.heap.size w W → Fls W a c fs) := fun W b => hf.keep b
  have hmx : fs.length ≤ 9223372036854775807 := by have h1 := hf.2.1; have h2 := hf.2.2.1; unfold maxLen at h2; omega
  obtain ⟨n, hn⟩ : ∃ n, n = fs.length := ⟨_, rfl⟩
  have HNN : Hid (fs.length = n) := hn.symm
  rw [← hn] at hmx ⊢
  have O0 : Hid (OwP 31 w.heap.size (w.alloc (.cells #[] 31)) (.slice (some ⟨w.heap.size, 0, none⟩) 0 0) (smlL m fs 0)) := OwP.empty _ _ _ (Nat.le_refl _)
  clear hn hf
  go_enter Try.func6, Try.ntmps6
  go_wp2_with fail
  go_loopw [5, 11] (fun v5 vi wr => ∃ (k : Nat) (a5 : Option Addr) (c5 : Nat), k ≤ n ∧ vi = .int .i64 k ∧ v5 = .slice a5 (smlL m fs k).length c5 ∧ Hid (OwP 31 w.heap.size wr (.slice a5 (smlL m fs k).length c5) (smlL m fs k)) ∧ Hid (Below w.heap.size w wr)) (fun _ vi _ => n - (intOf vi).toNat)
  case atStart => exact ⟨0, _, _, Nat.zero_le _, rfl, rfl, O0, (Below.refl _ _).alloc (Nat.le_refl _) _⟩
  case round =>
    clear O0
    obtain ⟨k, a5, c5, hk, rfl, rfl, HO, HB⟩ := hrel
    by_cases hlt : k < n
    · have hfw := HF.out wr HB.out
      obtain ⟨g, off, rfl, hg, hc⟩ := hfw.2.2.2 (by rw [HNN.out]; omega)
      have c0 := (hc k (by rw [HNN.out]; exact hlt)).1
      have c1 := (hc k (by rw [HNN.out]; exact hlt)).2
      have m1 : (0 : Int) ≤ k := by omega
      have m2 : (k : Int) < n := by omega
      by_cases h20 : k < 20
      · obtain ⟨p, hp⟩ : ∃ p, min (fs.getD k (0, 0)).2 m = p := ⟨_, rfl⟩
        have BA : Below wr.heap.size wr (wr.alloc (.cells #[.int .i64 (fs.getD k (0, 0)).1, .int .i64 p] 31)) := (Below.refl _ _).alloc (Nat.le_refl _) _
        obtain ⟨v7, w7, r7, O7, B7, _⟩ := owp_append Try.underlying22 infoW (HO.out.grow BA) (Nat.le_trans HB.out.size BA.size) (fs.getD k (0, 0)).1 p (by have := smlL_len m fs k; omega)
        rw [← hp, ← smlL_snoc m fs k (by rw [HNN.out]; exact hlt) h20] at O7
        obtain ⟨a7, c7, rfl, _⟩ := O7.fls
        have HO7 : Hid (OwP 31 w.heap.size w7 (.slice a7 (smlL m fs (k + 1)).length c7) (smlL m fs (k + 1))) := O7
        have HB7 : Hid (Below w.heap.size w w7) := (HB.out.trans (BA.mono HB.out.size)).trans B7
        rw [show (wr.alloc (.cells #[.int .i64 (fs.getD k (0, 0)).1, .int .i64 p] 31)).heap.size = wr.heap.size + 1 by simp] at r7
        have XM := min_run (fs.getD k (0, 0)).2 m p hp
        have d20 : decide (k < 20) = true := decide_eq_true h20
        clear O7 B7 BA hfw hc HB HO hp
        generalize (smlL m fs k).length = m6 at *
        generalize (fs.getD k (0, 0)).1 = x at *
        generalize (fs.getD k (0, 0)).2 = y at *
        go_wp2_with (at_builtin; refine wpList_append_run2 rfl _ _ 22 22 rfl _ _ _ w7 rfl rfl r7 ?_)
        go_roundw
        case rel => exact ⟨k + 1, _, _, by omega, by go_num, rfl, HO7, HB7⟩
        case measure => simp [intOf]; omega
      · have BA : Below wr.heap.size wr (wr.alloc (.cells #[.int .i64 (fs.getD k (0, 0)).1, .int .i64 (fs.getD k (0, 0)).2] 31)) := (Below.refl _ _).alloc (Nat.le_refl _) _
        have HO7 := hidE (HO.out.grow BA)
        have HB7 := hidE (HB.out.trans (BA.mono HB.out.size))
        have d20 : decide (k < 20) = false := decide_eq_false h20
        rw [← smlL_same m fs k h20] at HO7 ⊢
        clear BA hfw hc HB HO
        generalize (fs.getD k (0, 0)).1 = x at *
        generalize (fs.getD k (0, 0)).2 = y at *
        go_wp2
        go_roundw
        case rel => exact ⟨k + 1, _, _, by omega, by go_num, rfl, HO7, HB7⟩
        case measure => simp [intOf]; omega
    · obtain rfl : k = n := by omega
      go_wp2
      go_ret
      exact ⟨_, rfl, HO.out, HB.out⟩
end Go.Proofs.Ytnfpbkllpkbdiaa
