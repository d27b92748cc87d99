/- Peek. -/
import Derived.Test.YtenajbefknlalaaRgC
namespace Go.Proofs.Ytenajbefknlalaa
open Go.RowKit
set_option linter.unusedVariables false

/-- How many are meant. -/
def clp (n : Int) (len : Nat) : Nat := if n < 0 then 0 else if (len : Int) < n then len else n.toNat
theorem clp_le (n : Int) (len : Nat) : clp n len ≤ len := by unfold clp; split; omega; split <;> omega

theorem clp_min (n : Int) (len : Nat) : min (max n 0) (len : Int) = (clp n len : Int) := by unfold clp; split; omega; split <;> omega
/-- What is left to be read: the segments from here on, and where in the first of them it begins. -/
def Left (w : World) (l junk : List UInt8) (j : Nat) (vf vs : Value) : Prop := ∃ (cur : List Seg) (pd : List UInt8), vf = .int .i64 pd.length ∧ pd.length < 64 ∧ vs = pt (hd cur none) ∧ Chain w cur none ∧ flat cur = pd ++ (l.drop j ++ junk)
theorem Left.first {w : World} {l junk : List UInt8} {j : Nat} {vf vs : Value} (h : Left w l junk j vf vs) (hj : j < l.length) :
    ∃ (s : Nat) (pd b' : List UInt8) (nx : Option Nat) (cur : List Seg), vf = .int .i64 pd.length ∧ vs = .pointer (some ⟨s, 0, none⟩) ∧ pd.length < 64 ∧ IsS w s (pd ++ b') nx ∧ nx = hd cur none ∧ Chain w cur none ∧ b' ++ flat cur = l.drop j ++ junk := by
  obtain ⟨cur, pd, rfl, hp, rfl, hc, hf⟩ := h
  cases cur with
  | nil =>
    have := congrArg List.length hf
    simp [flat] at this
    omega
  | cons x cur =>
    obtain ⟨s, b⟩ := x
    rw [flat_cons] at hf
    have h64 : b.length = 64 := hc.1.1
    rcases List.append_eq_append_iff.1 hf with ⟨t, e1, e2⟩ | ⟨t, e1, e2⟩
    · have := congrArg List.length e1
      simp only [List.length_append] at this
      have h64' : b.length = 64 := h64
      omega
    · have e1' : b = pd ++ t := e1
      exact ⟨s, pd, t, hd cur none, cur, rfl, rfl, hp, e1' ▸ hc.1, rfl, hc.2, e2.symm⟩

set_option maxRecDepth 100000 in
set_option maxHeartbeats 4000000 in
theorem peek_any (r mb : Nat) (S : Nat → Prop) (l : List UInt8) (n : Int) (w : World) (hR : Rg w r mb S l) (hll : l.length ≤ 1099511627776) :
    Calls Try.prog 13 #[.pointer (some ⟨r, 0, none⟩), .int .i64 n] w fun e w' => e = .returned (.slice (some ⟨w.heap.size, 0, none⟩) (clp n l.length) (clp n l.length)) ∧
      w'.heap[w.heap.size]? = some (.cells (rowB (l.take (clp n l.length))).toArray 5) ∧ Below w.heap.size w w' := by
  obtain ⟨segs, pad, junk, hX, hS, hF⟩ := hR
  have c1 : w.cell? ⟨r, 1, none⟩ = some (pt (hd segs none)) := ring_cell hX.blk rfl
  have c3 : w.cell? ⟨r, 3, none⟩ = some (.int .i64 pad.length) := ring_cell hX.blk rfl
  have c4 : w.cell? ⟨r, 4, none⟩ = some (.int .i64 l.length) := ring_cell hX.blk rfl
  have hrl := heap_lt hX.blk
  have hmin := clp_min n l.length
  have hNl := clp_le n l.length
  have HL : Hid (Left w l junk 0 (.int .i64 pad.length) (pt (hd segs none))) := ⟨segs, pad, rfl, by rcases hS with ⟨_, rfl, _, _⟩ | ⟨_, h1, _⟩; exact (by decide); exact h1, rfl, hX.chain, by rw [hX.fl, List.append_assoc]; rfl⟩
  clear hX hS hF
  generalize clp n l.length = N at *
  have hmk := make_bytes w N (by omega)
  generalize pt (hd segs none) = vs0 at *
  have h0 := new_at w (.cells (rowB (List.replicate N 0)).toArray 5)
  have hB0 : Below w.heap.size w (w.alloc (.cells (rowB (List.replicate N 0)).toArray 5)) := (Below.refl _ _).alloc (Nat.le_refl _) _
  go_enter Try.func13, Try.ntmps13
  go_wp2_with fail
  clear hmk
  go_loopw [6, 7, 8] (fun vf vs vr wr => ∃ (j : Nat) (a : Option Addr), j ≤ N ∧ vr = .slice a (N - j) (N - j) ∧ (j < N → a = some ⟨w.heap.size, j, none⟩) ∧ (j < N → Hid (Left w l junk j vf vs)) ∧ wr.heap[w.heap.size]? = some (.cells (rowB (l.take j ++ List.replicate (N - j) 0)).toArray 5) ∧ Below w.heap.size w wr) (fun vf vs vr _ => lenOf vr)
  case atStart => exact ⟨0, some ⟨w.heap.size, 0, none⟩, Nat.zero_le _, rfl, fun _ => rfl, fun _ => HL, h0, hB0⟩
  case round =>
    obtain ⟨j, a, hj, rfl, ha, hleft, hrow, hB⟩ := hrel
    clear h0 hB0 HL c1 c3 c4
    by_cases hz : j < N
    · obtain rfl := ha hz
      obtain ⟨s, pd, b', nx, cur, rfl, rfl, hp, hIs, hnx, hch, hfl⟩ := (hleft hz).out.first (by omega)
      have hp0 : (0 : Int) < ((N - j : Nat) : Int) := by omega
      have hsl := fun w => slice_seg s pd.length w hp
      have hsw := heap_lt hIs.2
      have hIs2 : IsS wr s (pd ++ b') nx := ⟨hIs.1, (hB.block s hsw).trans hIs.2⟩
      have hb64 : pd.length + b'.length = 64 := by have := hIs.1; rwa [List.length_append] at this
      obtain ⟨k, hk⟩ : ∃ k, k = Nat.min (64 - pd.length) (N - j) := ⟨_, rfl⟩
      have hk1 : k ≤ 64 - pd.length := by rw [hk]; exact Nat.min_le_left _ _
      have hk2 : k ≤ N - j := by rw [hk]; exact Nat.min_le_right _ _
      have hk3 : 0 < k := by rw [hk]; exact Nat.lt_min.2 ⟨by omega, by omega⟩
      obtain ⟨w3, hcopy, hs3, B3⟩ := copy_to wr w.heap.size j (N - j) (N - j) ⟨s, pd.length, none⟩ (64 - pd.length) (64 - pd.length) (rowB (l.take j ++ List.replicate (N - j) 0)) 5 hrow (rowB (b'.take k)) k (by rw [rowB_length, List.length_take]; omega) hk
        (fun i v hi => by
          unfold rowB at hi
          rw [List.getElem?_map] at hi
          obtain ⟨x, hx, rfl⟩ := Option.map_eq_some_iff.1 hi
          have hik : i < k := by
            have := (List.getElem?_eq_some_iff.1 hx).1
            rw [List.length_take] at this; omega
          rw [List.getElem?_take_of_lt hik, List.getElem?_eq_getElem (by omega)] at hx
          rw [addr_add, hIs2.byte (pd.length + i) (by rw [List.length_append]; omega), List.getElem_append_right (by omega), ← Option.some.inj hx]
          simp) (by rw [rowB_length]; simp; omega) (bvs_one _) infoB
      have hne : s ≠ w.heap.size := by omega
      have c64 : w3.cell? ⟨s, 64, none⟩ = some (pt nx) := by
        have hIs3 : IsS w3 s (pd ++ b') nx := ⟨hIs2.1, (B3.block s hne).trans hIs2.2⟩
        exact hIs3.next
      have HK : Hid (k = Nat.min (64 - pd.length) (N - j)) := hk
      have hbt : b'.take k = (l.drop j).take k := by
        have e := congrArg (List.take k) hfl
        rwa [List.take_append_of_le_length (by omega), List.take_append_of_le_length (by rw [List.length_drop]; omega)] at e
      have HROW : Hid (w3.heap[w.heap.size]? = some (.cells (rowB (l.take (j + k) ++ List.replicate (N - (j + k)) 0)).toArray 5)) := by
        rw [Hid, hs3, rowB_take, rowB_drop, ← rowB_app, ← rowB_app]
        have e1 : (l.take j ++ List.replicate (N - j) (0 : UInt8)).take j = l.take j := by
          rw [List.take_append_of_le_length (by rw [List.length_take]; omega), List.take_take, Nat.min_self]
        have e2 : (l.take j ++ List.replicate (N - j) (0 : UInt8)).drop (j + k) = List.replicate (N - (j + k)) 0 := by
          have hlt : (l.take j).length = j := by rw [List.length_take]; omega
          rw [List.drop_append, hlt, List.drop_eq_nil_of_le (by rw [hlt]; omega), List.nil_append, Nat.add_sub_cancel_left, List.drop_replicate, Nat.sub_sub]
        rw [e1, e2, hbt, List.take_add, List.append_assoc]
      have HLEFT : Hid (j + k < N → Hid (Left w l junk (j + k) (.int .i64 0) (pt nx))) := by
        intro hjk
        have hkb : k = b'.length := by
          have h1 : k = Nat.min (64 - pd.length) (N - j) := hk
          have h2 : Nat.min (64 - pd.length) (N - j) = 64 - pd.length ∨ Nat.min (64 - pd.length) (N - j) = N - j := by
            rcases Nat.le_total (64 - pd.length) (N - j) with c | c
            · exact .inl (Nat.min_eq_left c)
            · exact .inr (Nat.min_eq_right c)
          omega
        refine ⟨cur, [], rfl, by decide, by rw [hnx], hch, ?_⟩
        have e := congrArg (List.drop k) hfl
        rw [hkb, List.drop_left, ← hkb, List.drop_append_of_le_length (by rw [List.length_drop]; omega), List.drop_drop] at e
        rw [List.nil_append, e]
      have HB3 : Hid (Below w.heap.size w w3) := hB.trans (B3.below (Nat.le_refl _))
      clear hs3 B3 hIs2 hIs hrow hleft hB hfl hk hch hnx hbt
      generalize pt nx = vnx at *
      go_wp2
      go_roundw
      case rel => exact ⟨j + k, _, by omega, by rw [Nat.sub_sub], fun h => if_neg (by omega), HLEFT.out, HROW.out, HB3.out⟩
      case measure => simp only [lenOf]; omega
    · have hjN : j = N := by omega
      subst hjN
      rw [Nat.sub_self] at *
      go_wp2
      go_ret
      exact ⟨rfl, by rw [List.replicate_zero, List.append_nil] at hrow; exact hrow, hB⟩

theorem len_any (r mb : Nat) (S : Nat → Prop) (l : List UInt8) (w : World) (hR : Rg w r mb S l) :
    Calls Try.prog 17 #[.pointer (some ⟨r, 0, none⟩)] w fun e w' => e = .returned (.int .i64 l.length) ∧ w' = w := by
  have c4 : w.cell? ⟨r, 4, none⟩ = some (.int .i64 l.length) := by obtain ⟨_, _, _, hX, _, _⟩ := hR; exact ring_cell hX.blk rfl
  clear hR
  go_enter Try.func17, Try.ntmps17
  go_wp2
  go_ret
  exact ⟨rfl, rfl⟩
set_option maxHeartbeats 1000000 in
theorem drop_any (r mb : Nat) (S : Nat → Prop) (l : List UInt8) (m h p : Int) (w : World) (hR : Rg w r mb S l) (hM : IsM w mb m h p) (h0 : 0 ≤ h) (h1 : h ≤ m) (h2 : m ≤ 1099511627776) (hlh : (l.length : Int) ≤ h) :
    Calls Try.prog 14 #[.pointer (some ⟨r, 0, none⟩)] w fun e w' => e = .returned (.int .i64 l.length) ∧ Rg w' r mb S [] ∧ IsM w' mb m (h - l.length) (gvP h p l.length) ∧ Kp (fun i => S i ∨ i = mb) w w' := by
  have hmS := hR.nomb
  have HH := give_any mb m h p l.length w hM h0 h1 h2
  have e1 : gvL h l.length = l.length := by unfold gvL; split <;> (try split) <;> omega
  rw [e1] at HH
  obtain ⟨segs, pad, junk, hX, hS, hF⟩ := hR
  have c0 : w.cell? ⟨r, 0, none⟩ = some (.pointer (some ⟨mb, 0, none⟩)) := ring_cell hX.blk rfl
  have c4 : w.cell? ⟨r, 4, none⟩ = some (.int .i64 l.length) := ring_cell hX.blk rfl
  have HG : Hid (Calls Try.prog 27 #[.pointer (some ⟨mb, 0, none⟩), .int .i64 (l.length : Int)] w fun e w' => e = .returned (.int .i64 l.length) ∧ IsM w' mb m (h - l.length) (gvP h p l.length) ∧ But mb w w') := HH
  clear HH e1
  go_enter Try.func14, Try.ntmps14
  go_wp2_with fail
  refine HG.out.mono ?_
  rintro e w1 ⟨rfl, M1, B1⟩
  have hb1 : w1.heap[r]? = _ := (B1.block r (fun e => hmS (e ▸ hF.r))).trans hX.blk
  have d0 : w1.cell? ⟨r, 0, none⟩ = some (.pointer (some ⟨mb, 0, none⟩)) := ring_cell hb1 rfl
  have d1 : w1.cell? ⟨r, 1, none⟩ = some (pt (hd segs none)) := ring_cell hb1 rfl
  have d2 : w1.cell? ⟨r, 2, none⟩ = some (pt (lastB segs)) := ring_cell hb1 rfl
  have d3 : w1.cell? ⟨r, 3, none⟩ = some (.int .i64 pad.length) := ring_cell hb1 rfl
  have d4 : w1.cell? ⟨r, 4, none⟩ = some (.int .i64 l.length) := ring_cell hb1 rfl
  have z0 : w1.frozen? ⟨r, 0, none⟩ = false := ring_z hb1
  have z1 : w1.frozen? ⟨r, 1, none⟩ = false := ring_z hb1
  have z2 : w1.frozen? ⟨r, 2, none⟩ = false := ring_z hb1
  have z3 : w1.frozen? ⟨r, 3, none⟩ = false := ring_z hb1
  have z4 : w1.frozen? ⟨r, 4, none⟩ = false := ring_z hb1
  have hrm : mb ≠ r := fun e => hmS (e ▸ hF.r)
  have HF := hF.lt
  have hr1 := hF.r
  have HW : Hid (∀ w2, w2 = ((((w1.setCell ⟨r, 0, none⟩ (.pointer (some ⟨mb, 0, none⟩))).setCell ⟨r, 1, none⟩ (.pointer none)).setCell ⟨r, 2, none⟩ (.pointer none)).setCell ⟨r, 3, none⟩ (.int .i64 0)).setCell ⟨r, 4, none⟩ (.int .i64 0) →
      Rg w2 r mb S [] ∧ IsM w2 mb m (h - l.length) (gvP h p l.length) ∧ Kp (fun i => S i ∨ i = mb) w w2) := by
    rintro w2 rfl
    have hsz : (((((w1.setCell ⟨r, 0, none⟩ (.pointer (some ⟨mb, 0, none⟩))).setCell ⟨r, 1, none⟩ (.pointer none)).setCell ⟨r, 2, none⟩ (.pointer none)).setCell ⟨r, 3, none⟩ (.int .i64 0)).setCell ⟨r, 4, none⟩ (.int .i64 0)).heap.size = w1.heap.size := by simp [World.setCell]
    refine ⟨⟨[], [], [], ⟨?_, trivial, List.nodup_nil, by simp, rfl⟩, .inl ⟨rfl, rfl, rfl, rfl⟩, hr1, (fun x hx => by cases hx), fun k hk => by rw [hsz, B1.size]; exact HF k hk, hmS⟩, ?_, ?_⟩
    · rw [ring_set (ring_set (ring_set (ring_set (ring_set hb1))))]; rfl
    · exact (But.set r 4 _ _).isM hrm ((But.set r 3 _ _).isM hrm ((But.set r 2 _ _).isM hrm ((But.set r 1 _ _).isM hrm ((But.set r 0 _ _).isM hrm M1))))
    · exact ((((((Kp.ofBut B1 (.inr rfl)).then (Kp.set _ r 0 _ (.inl hr1))).then (Kp.set _ r 1 _ (.inl hr1))).then (Kp.set _ r 2 _ (.inl hr1))).then (Kp.set _ r 3 _ (.inl hr1))).then (Kp.set _ r 4 _ (.inl hr1)))
  clear c0 c4 HG hX hS hF hb1 hM M1 B1
  generalize pt (hd segs none) = x1 at *
  generalize pt (lastB segs) = x2 at *
  go_wp2
  go_ret
  exact ⟨rfl, HW.out _ rfl⟩
end Go.Proofs.Ytenajbefknlalaa
