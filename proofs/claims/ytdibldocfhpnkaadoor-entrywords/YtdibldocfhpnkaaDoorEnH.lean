/- parse: the record, right or not, of a line's words. -/
import Derived.Test.YtdibldocfhpnkaaDoorEnG
import Derived.Deep.RegionHeld3
namespace Go.Proofs.YtdibldocfhpnkaaDoor
open Go.RowKit
set_option linter.unusedVariables false

/-- What parse answers. -/
def parE (s : ByteArray) : Bool := decide ((p10 s).length = 9) && okW (p10 s)
def parV (s : ByteArray) : EntP := if parE s = true then entW (p10 s) else zeroE
theorem entV_zero : entV zeroE = #[.int .i64 0, .int .i64 0, .int .i64 0, .int .i64 0, .string ⟨#[]⟩, .string ⟨#[]⟩, .int .i64 0, .int .i64 0, .int .i64 0] := rfl
theorem Kp.set1 (w : World) (b o : Nat) (v : Value) : Kp (fun k => k = b) w (w.setCell ⟨b, o, none⟩ v) :=
  ⟨rfl, rfl, rfl, by simp [World.setCell], fun k _ hk => Below.heap_setCell _ _ _ _ hk⟩
theorem set9_blk {w : World} {b : Nat} {z0 z1 z2 z3 z4 z5 z6 z7 z8 : Value} {t : TypeId} (h : w.heap[b]? = some (.cells #[z0, z1, z2, z3, z4, z5, z6, z7, z8] t)) (y0 y1 y2 y3 y4 y5 y6 y7 y8 : Value) :
    ((((((((((w.setCell ⟨b, 0, none⟩ y0).setCell ⟨b, 1, none⟩ y1).setCell ⟨b, 2, none⟩ y2).setCell ⟨b, 3, none⟩ y3).setCell ⟨b, 4, none⟩ y4).setCell ⟨b, 5, none⟩ y5).setCell ⟨b, 6, none⟩ y6).setCell ⟨b, 7, none⟩ y7).setCell ⟨b, 8, none⟩ y8)).heap[b]? = some (.cells #[y0, y1, y2, y3, y4, y5, y6, y7, y8] t) := by
  have h0 : ((w.setCell ⟨b, 0, none⟩ y0)).heap[b]? = some (.cells #[y0, z1, z2, z3, z4, z5, z6, z7, z8] t) := ring_set h
  have h1 : (((w.setCell ⟨b, 0, none⟩ y0).setCell ⟨b, 1, none⟩ y1)).heap[b]? = some (.cells #[y0, y1, z2, z3, z4, z5, z6, z7, z8] t) := ring_set h0
  have h2 : ((((w.setCell ⟨b, 0, none⟩ y0).setCell ⟨b, 1, none⟩ y1).setCell ⟨b, 2, none⟩ y2)).heap[b]? = some (.cells #[y0, y1, y2, z3, z4, z5, z6, z7, z8] t) := ring_set h1
  have h3 : (((((w.setCell ⟨b, 0, none⟩ y0).setCell ⟨b, 1, none⟩ y1).setCell ⟨b, 2, none⟩ y2).setCell ⟨b, 3, none⟩ y3)).heap[b]? = some (.cells #[y0, y1, y2, y3, z4, z5, z6, z7, z8] t) := ring_set h2
  have h4 : ((((((w.setCell ⟨b, 0, none⟩ y0).setCell ⟨b, 1, none⟩ y1).setCell ⟨b, 2, none⟩ y2).setCell ⟨b, 3, none⟩ y3).setCell ⟨b, 4, none⟩ y4)).heap[b]? = some (.cells #[y0, y1, y2, y3, y4, z5, z6, z7, z8] t) := ring_set h3
  have h5 : (((((((w.setCell ⟨b, 0, none⟩ y0).setCell ⟨b, 1, none⟩ y1).setCell ⟨b, 2, none⟩ y2).setCell ⟨b, 3, none⟩ y3).setCell ⟨b, 4, none⟩ y4).setCell ⟨b, 5, none⟩ y5)).heap[b]? = some (.cells #[y0, y1, y2, y3, y4, y5, z6, z7, z8] t) := ring_set h4
  have h6 : ((((((((w.setCell ⟨b, 0, none⟩ y0).setCell ⟨b, 1, none⟩ y1).setCell ⟨b, 2, none⟩ y2).setCell ⟨b, 3, none⟩ y3).setCell ⟨b, 4, none⟩ y4).setCell ⟨b, 5, none⟩ y5).setCell ⟨b, 6, none⟩ y6)).heap[b]? = some (.cells #[y0, y1, y2, y3, y4, y5, y6, z7, z8] t) := ring_set h5
  have h7 : (((((((((w.setCell ⟨b, 0, none⟩ y0).setCell ⟨b, 1, none⟩ y1).setCell ⟨b, 2, none⟩ y2).setCell ⟨b, 3, none⟩ y3).setCell ⟨b, 4, none⟩ y4).setCell ⟨b, 5, none⟩ y5).setCell ⟨b, 6, none⟩ y6).setCell ⟨b, 7, none⟩ y7)).heap[b]? = some (.cells #[y0, y1, y2, y3, y4, y5, y6, y7, z8] t) := ring_set h6
  have h8 : ((((((((((w.setCell ⟨b, 0, none⟩ y0).setCell ⟨b, 1, none⟩ y1).setCell ⟨b, 2, none⟩ y2).setCell ⟨b, 3, none⟩ y3).setCell ⟨b, 4, none⟩ y4).setCell ⟨b, 5, none⟩ y5).setCell ⟨b, 6, none⟩ y6).setCell ⟨b, 7, none⟩ y7).setCell ⟨b, 8, none⟩ y8)).heap[b]? = some (.cells #[y0, y1, y2, y3, y4, y5, y6, y7, y8] t) := ring_set h7
  exact h8
theorem set9_below {B b : Nat} {w W : World} (h : Below B w W) (hb : B ≤ b) (y0 y1 y2 y3 y4 y5 y6 y7 y8 : Value) : Below B w ((((((((((W.setCell ⟨b, 0, none⟩ y0).setCell ⟨b, 1, none⟩ y1).setCell ⟨b, 2, none⟩ y2).setCell ⟨b, 3, none⟩ y3).setCell ⟨b, 4, none⟩ y4).setCell ⟨b, 5, none⟩ y5).setCell ⟨b, 6, none⟩ y6).setCell ⟨b, 7, none⟩ y7).setCell ⟨b, 8, none⟩ y8)) :=
  (((((((((h.setCell (p := ⟨b, 0, none⟩) hb y0).setCell (p := ⟨b, 1, none⟩) hb y1).setCell (p := ⟨b, 2, none⟩) hb y2).setCell (p := ⟨b, 3, none⟩) hb y3).setCell (p := ⟨b, 4, none⟩) hb y4).setCell (p := ⟨b, 5, none⟩) hb y5).setCell (p := ⟨b, 6, none⟩) hb y6).setCell (p := ⟨b, 7, none⟩) hb y7).setCell (p := ⟨b, 8, none⟩) hb y8)
theorem cells9 {w : World} {b : Nat} {z0 z1 z2 z3 z4 z5 z6 z7 z8 : Value} {t : TypeId} (h : w.heap[b]? = some (.cells #[z0, z1, z2, z3, z4, z5, z6, z7, z8] t)) : w.cell? ⟨b, 0, none⟩ = some z0 ∧ w.cell? ⟨b, 1, none⟩ = some z1 ∧ w.cell? ⟨b, 2, none⟩ = some z2 ∧ w.cell? ⟨b, 3, none⟩ = some z3 ∧ w.cell? ⟨b, 4, none⟩ = some z4 ∧ w.cell? ⟨b, 5, none⟩ = some z5 ∧ w.cell? ⟨b, 6, none⟩ = some z6 ∧ w.cell? ⟨b, 7, none⟩ = some z7 ∧ w.cell? ⟨b, 8, none⟩ = some z8 :=
  ⟨ring_cell h rfl, ring_cell h rfl, ring_cell h rfl, ring_cell h rfl, ring_cell h rfl, ring_cell h rfl, ring_cell h rfl, ring_cell h rfl, ring_cell h rfl⟩
theorem cells7 {w : World} {b : Nat} {z0 z1 z2 z3 z4 z5 z6 : Value} {t : TypeId} (h : w.heap[b]? = some (.cells #[z0, z1, z2, z3, z4, z5, z6] t)) : w.cell? ⟨b, 0, none⟩ = some z0 ∧ w.cell? ⟨b, 1, none⟩ = some z1 ∧ w.cell? ⟨b, 2, none⟩ = some z2 ∧ w.cell? ⟨b, 3, none⟩ = some z3 ∧ w.cell? ⟨b, 4, none⟩ = some z4 ∧ w.cell? ⟨b, 5, none⟩ = some z5 ∧ w.cell? ⟨b, 6, none⟩ = some z6 :=
  ⟨ring_cell h rfl, ring_cell h rfl, ring_cell h rfl, ring_cell h rfl, ring_cell h rfl, ring_cell h rfl, ring_cell h rfl⟩
theorem nbC_at {D : List ByteArray} (hD : D.length = 7) {i : Nat} (hi : i < 7) : ∃ y, (nbC D i)[i]? = some y := by
  refine ⟨(nbC D i)[i]'?_, Array.getElem?_eq_getElem _⟩
  unfold nbC
  simp
  omega
/-- How far the words' numbers are read. -/
structure PI13 (D : List ByteArray) (w3 : World) (nb i : Nat) (wr : World) : Prop where
  blk : wr.heap[nb]? = some (.cells (nbC D i) 48)
  all : (D.take i).all (numB 10 18) = true
  kp : Kp (fun k => k = nb) w3 wr
theorem PI13.next {D : List ByteArray} {w3 wr : World} {nb i : Nat} (h : PI13 D w3 nb i wr) (hD : D.length = 7) (hi : i < 7) (hb : numB 10 18 (D[i]'(by omega)) = true) : PI13 D w3 nb (i + 1) (wr.setCell ⟨nb, i, none⟩ (.int .i64 (numI 10 18 (D[i]'(by omega))))) := by
  refine ⟨?_, ?_, h.kp.then (Kp.set1 _ nb i _)⟩
  · rw [ring_set h.blk, nbC_set hD hi]
  · rw [List.take_succ_eq_append_getElem (by omega), List.all_append, h.all, List.all_cons, hb]; rfl
set_option maxRecDepth 100000 in
set_option maxHeartbeats 1600000 in
theorem enparse_any (s : ByteArray) (w : World) (hs : s.size < 4294967281) (hM : MaxL w) : Calls Tryd.prog 26 #[.string s] w fun r w' => r = .returned (.tuple #[.agg (entV (parV s)), .bool (parE s)]) ∧ Below w.heap.size w w' := by
  have BA : Below w.heap.size w (w.alloc (.cells #[.int .i64 0, .int .i64 0, .int .i64 0, .int .i64 0, .string ⟨#[]⟩, .string ⟨#[]⟩, .int .i64 0, .int .i64 0, .int .i64 0] 23)) := (Below.refl _ _).alloc (Nat.le_refl _) _
  have NA := tblk_new w (.cells #[.int .i64 0, .int .i64 0, .int .i64 0, .int .i64 0, .string ⟨#[]⟩, .string ⟨#[]⟩, .int .i64 0, .int .i64 0, .int .i64 0] 23)
  have sA : (w.alloc (.cells #[.int .i64 0, .int .i64 0, .int .i64 0, .int .i64 0, .string ⟨#[]⟩, .string ⟨#[]⟩, .int .i64 0, .int .i64 0, .int .i64 0] 23)).heap.size = w.heap.size + 1 := by simp
  have HS : Hid (Calls Tryd.prog 40 #[.string s, .string ⟨#[32]⟩, .int .i64 10] (w.alloc (.cells #[.int .i64 0, .int .i64 0, .int .i64 0, .int .i64 0, .string ⟨#[]⟩, .string ⟨#[]⟩, .int .i64 0, .int .i64 0, .int .i64 0] 23)) fun e w' => e = .returned (.slice (some ⟨w.heap.size + 1, 0, none⟩) (p10 s).length (min 10 (s.size + 1))) ∧ Below (w.heap.size + 1) (w.alloc (.cells #[.int .i64 0, .int .i64 0, .int .i64 0, .int .i64 0, .string ⟨#[]⟩, .string ⟨#[]⟩, .int .i64 0, .int .i64 0, .int .i64 0] 23)) w' ∧ w.heap.size + 1 < w'.heap.size ∧ (∀ i x, (p10 s)[i]? = some x → w'.cell? ⟨w.heap.size + 1, i, none⟩ = some (.string x))) := by
    have := p10_any s (w.alloc (.cells #[.int .i64 0, .int .i64 0, .int .i64 0, .int .i64 0, .string ⟨#[]⟩, .string ⟨#[]⟩, .int .i64 0, .int .i64 0, .int .i64 0] 23)) hs (hM.below BA)
    rw [sA] at this
    exact this
  have hlen := p10_len s
  have hsz := p10_size s
  unfold parV
  by_cases h9 : (p10 s).length = 9
  · obtain ⟨C, hC⟩ : ∃ C, C = min 10 (s.size + 1) := ⟨_, rfl⟩
    have hC9 : 9 ≤ C := by omega
    have hC10 : C ≤ 10 := by omega
    rw [← hC] at HS
    have hPE : parE s = okW (p10 s) := by unfold parE; rw [decide_eq_true h9, Bool.true_and]
    rw [hPE]
    have hZ : ∀ x ∈ p10 s, x.size ≤ 4294967281 := fun x hx => by have := hsz x hx; omega
    clear hPE hC hlen hsz hM hs
    generalize p10 s = ws at *
    obtain ⟨p0, p1, p2, p3, p4, p5, p6, p7, p8, rfl⟩ := nine h9
    have HOK : Hid (okW [p0, p1, p2, p3, p4, p5, p6, p7, p8] = [p0, p1, p2, p3, p6, p7, p8].all (numB 10 18)) := rfl
    have HEN : Hid (entV (entW [p0, p1, p2, p3, p4, p5, p6, p7, p8]) = #[.int .i64 (numI 10 18 p0), .int .i64 (numI 10 18 p1), .int .i64 (numI 10 18 p2), .int .i64 (numI 10 18 p3), .string p4, .string p5, .int .i64 (numI 10 18 p6), .int .i64 (numI 10 18 p7), .int .i64 (numI 10 18 p8)]) := rfl
    have HDZ : Hid (∀ x ∈ [p0, p1, p2, p3, p6, p7, p8], x.size ≤ maxLen) := fun x hx => by
      have := hZ x (by simp only [List.mem_cons, List.not_mem_nil, or_false] at hx ⊢; rcases hx with h | h | h | h | h | h | h <;> simp [h])
      unfold maxLen; omega
    generalize okW [p0, p1, p2, p3, p4, p5, p6, p7, p8] = ok at *
    generalize entW [p0, p1, p2, p3, p4, p5, p6, p7, p8] = en at *
    have HE1 : Hid (ok = false → entV (if ok = true then en else zeroE) = #[.int .i64 0, .int .i64 0, .int .i64 0, .int .i64 0, .string ⟨#[]⟩, .string ⟨#[]⟩, .int .i64 0, .int .i64 0, .int .i64 0]) := fun h => by rw [h]; rfl
    have HE2 : Hid (ok = true → entV (if ok = true then en else zeroE) = #[.int .i64 (numI 10 18 p0), .int .i64 (numI 10 18 p1), .int .i64 (numI 10 18 p2), .int .i64 (numI 10 18 p3), .string p4, .string p5, .int .i64 (numI 10 18 p6), .int .i64 (numI 10 18 p7), .int .i64 (numI 10 18 p8)]) := fun h => by rw [h, if_pos rfl]; exact HEN.out
    generalize (if ok = true then en else zeroE) = EN at *
    generalize entV EN = EA at *
    clear HEN
    clear h9 hZ
    have hl9 : ([p0, p1, p2, p3, p4, p5, p6, p7, p8] : List ByteArray).length = 9 := rfl
    rw [hl9] at HS
    clear hl9
    go_enter Tryd.func26, Tryd.ntmps26
    go_wp2_with fail
    refine HS.out.mono ?_
    rintro r w1 ⟨rfl, B1, L1, hc⟩
    have N1 : w1.heap[w.heap.size]? = some (.cells #[.int .i64 0, .int .i64 0, .int .i64 0, .int .i64 0, .string ⟨#[]⟩, .string ⟨#[]⟩, .int .i64 0, .int .i64 0, .int .i64 0] 23) := (B1.block _ (by omega)).trans NA
    have D1 := BA.trans (B1.mono (by omega))
    have x0 := hc 0 p0 rfl
    have x1 := hc 1 p1 rfl
    have x2 := hc 2 p2 rfl
    have x3 := hc 3 p3 rfl
    have x4 := hc 4 p4 rfl
    have x5 := hc 5 p5 rfl
    have x6 := hc 6 p6 rfl
    have x7 := hc 7 p7 rfl
    have x8 := hc 8 p8 rfl
    have T1 : Txs w1.heap.size w1 (.slice (some ⟨w.heap.size + 1, 0, none⟩) 4 C) [p0, p1, p2, p3] := ⟨_, C, rfl, (fun e => by cases e), by show 4 ≤ C; omega, by unfold maxLen; omega, fun _ => ⟨w.heap.size + 1, 0, rfl, L1, fun j hj => by
      have hj4 : j < 4 := hj
      have : j = 0 ∨ j = 1 ∨ j = 2 ∨ j = 3 := by omega
      rcases this with rfl | rfl | rfl | rfl <;> assumption⟩⟩
    have T2 : Txs w1.heap.size w1 (.slice (some ⟨w.heap.size + 1, 6, none⟩) 3 (C - 6)) [p6, p7, p8] := ⟨_, C - 6, rfl, (fun e => by cases e), by show 3 ≤ C - 6; omega, by unfold maxLen; omega, fun _ => ⟨w.heap.size + 1, 6, rfl, L1, fun j hj => by
      have hj4 : j < 3 := hj
      have : j = 0 ∨ j = 1 ∨ j = 2 := by omega
      rcases this with rfl | rfl | rfl <;> assumption⟩⟩
    clear hc B1 BA NA sA HS
    have B2 : Below w1.heap.size w1 (w1.alloc (.cells #[.int .i64 0, .int .i64 0, .int .i64 0, .int .i64 0, .int .i64 0, .int .i64 0, .int .i64 0] 48)) := (Below.refl _ _).alloc (Nat.le_refl _) _
    have N2 := tblk_new w1 (.cells #[.int .i64 0, .int .i64 0, .int .i64 0, .int .i64 0, .int .i64 0, .int .i64 0, .int .i64 0] 48)
    have s2 : (w1.alloc (.cells #[.int .i64 0, .int .i64 0, .int .i64 0, .int .i64 0, .int .i64 0, .int .i64 0, .int .i64 0] 48)).heap.size = w1.heap.size + 1 := by simp
    have HCC : Hid (∀ W, W = ((w1.alloc (.cells #[.int .i64 0, .int .i64 0, .int .i64 0, .int .i64 0, .int .i64 0, .int .i64 0, .int .i64 0] 48)).drew.alloc (.cells #[.slice (some ⟨w.heap.size + 1, 0, none⟩) 4 C, .slice (some ⟨w.heap.size + 1, 6, none⟩) 3 (C - 6)] 55)) → Calls Tryd.prog 41 #[.slice (some ⟨w1.heap.size + 1, 0, none⟩) 2 2] W fun e w' => ∃ b c, e = .returned (.slice (some ⟨b, 0, none⟩) 7 c) ∧ OwnT (w1.heap.size + 2) w' (.slice (some ⟨b, 0, none⟩) 7 c) [p0, p1, p2, p3, p6, p7, p8] ∧ Below (w1.heap.size + 1) (w1.alloc (.cells #[.int .i64 0, .int .i64 0, .int .i64 0, .int .i64 0, .int .i64 0, .int .i64 0, .int .i64 0] 48)) w') := by
      rintro W rfl
      have B3 : Below (w1.heap.size + 1) (w1.alloc (.cells #[.int .i64 0, .int .i64 0, .int .i64 0, .int .i64 0, .int .i64 0, .int .i64 0, .int .i64 0] 48)) ((w1.alloc (.cells #[.int .i64 0, .int .i64 0, .int .i64 0, .int .i64 0, .int .i64 0, .int .i64 0, .int .i64 0] 48)).drew.alloc (.cells #[.slice (some ⟨w.heap.size + 1, 0, none⟩) 4 C, .slice (some ⟨w.heap.size + 1, 6, none⟩) 3 (C - 6)] 55)) := (Below.refl _ _).drew.alloc (Nat.le_of_eq s2.symm) _
      have N3 := tblk_new (w1.alloc (.cells #[.int .i64 0, .int .i64 0, .int .i64 0, .int .i64 0, .int .i64 0, .int .i64 0, .int .i64 0] 48)).drew (.cells #[.slice (some ⟨w.heap.size + 1, 0, none⟩) 4 C, .slice (some ⟨w.heap.size + 1, 6, none⟩) 3 (C - 6)] 55)
      have s3 : (w1.alloc (.cells #[.int .i64 0, .int .i64 0, .int .i64 0, .int .i64 0, .int .i64 0, .int .i64 0, .int .i64 0] 48)).drew.heap.size = w1.heap.size + 1 := s2
      rw [s3] at N3
      have s4 : ((w1.alloc (.cells #[.int .i64 0, .int .i64 0, .int .i64 0, .int .i64 0, .int .i64 0, .int .i64 0, .int .i64 0] 48)).drew.alloc (.cells #[.slice (some ⟨w.heap.size + 1, 0, none⟩) 4 C, .slice (some ⟨w.heap.size + 1, 6, none⟩) 3 (C - 6)] 55)).heap.size = w1.heap.size + 2 := by simp
      have Bw : Below w1.heap.size w1 ((w1.alloc (.cells #[.int .i64 0, .int .i64 0, .int .i64 0, .int .i64 0, .int .i64 0, .int .i64 0, .int .i64 0] 48)).drew.alloc (.cells #[.slice (some ⟨w.heap.size + 1, 0, none⟩) 4 C, .slice (some ⟨w.heap.size + 1, 6, none⟩) 3 (C - 6)] 55)) := B2.trans (B3.mono (by omega))
      have k := concat_any [p0, p1, p2, p3] [p6, p7, p8] (w1.heap.size + 1) _ _ C (C - 6) _ rfl rfl (by omega) (tblk_cell N3 rfl) (tblk_cell N3 rfl) ((T1.keep Bw).mono (by omega)) ((T2.keep Bw).mono (by omega))
      refine k.mono ?_
      rintro e w' ⟨b, c, rfl, O, B⟩
      rw [s4] at O B
      exact ⟨b, c, rfl, O, B3.trans (B.mono (by omega))⟩
    have hC6 : ¬ C = 6 := by omega
    have i4 : (4 : Int) ≤ (C : Int) := by omega
    have i6 : (6 : Int) ≤ 9 := by omega
    clear T1 T2
    go_wp2_with fail
    go_region_held3 (fun _ => True) (go_keep) (first | (go_at_call 41; refine (HCC.out _ rfl).mono ?_; rintro e w3 ⟨gb, cb, rfl, O3, B3⟩))
    have hD7 : ([p0, p1, p2, p3, p6, p7, p8] : List ByteArray).length = 7 := rfl
    have N3 : w3.heap[w.heap.size]? = some (.cells #[.int .i64 0, .int .i64 0, .int .i64 0, .int .i64 0, .string ⟨#[]⟩, .string ⟨#[]⟩, .int .i64 0, .int .i64 0, .int .i64 0] 23) := (B3.block _ (by omega)).trans ((B2.block _ (by omega)).trans N1)
    have NB3 : w3.heap[w1.heap.size]? = some (.cells #[.int .i64 0, .int .i64 0, .int .i64 0, .int .i64 0, .int .i64 0, .int .i64 0, .int .i64 0] 48) := (B3.block _ (by omega)).trans N2
    have y4 : w3.cell? ⟨w.heap.size + 1, 4, none⟩ = some (.string p4) := (B3.cell (p := ⟨w.heap.size + 1, 4, none⟩) (by show _ + 1 < _; omega)).trans ((B2.cell (p := ⟨w.heap.size + 1, 4, none⟩) L1).trans x4)
    have y5 : w3.cell? ⟨w.heap.size + 1, 5, none⟩ = some (.string p5) := (B3.cell (p := ⟨w.heap.size + 1, 5, none⟩) (by show _ + 1 < _; omega)).trans ((B2.cell (p := ⟨w.heap.size + 1, 5, none⟩) L1).trans x5)
    have D3 : Below w.heap.size w w3 := (D1.trans (B2.mono D1.size)).trans (B3.mono (by have := D1.size; omega))
    have hs3 := B3.size
    rw [s2] at hs3
    obtain ⟨a5, c5, e5, _, r2, r3, r4⟩ := O3.txs
    have e5' : Value.slice (some ⟨gb, 0, none⟩) 7 cb = .slice a5 7 c5 := e5
    obtain ⟨rfl, _, rfl⟩ := slice_inj e5'
    obtain ⟨gw, ow, hgo, hgw, hcw⟩ := r4 (by show 0 < 7; omega)
    have hgo' := Option.some.inj hgo
    obtain rfl : gb = gw := congrArg Addr.block hgo'
    obtain rfl : 0 = ow := congrArg Addr.off hgo'
    simp only [Nat.zero_add] at hcw
    have HCW : Hid (∀ (j : Nat) (hj : j < [p0, p1, p2, p3, p6, p7, p8].length), w3.cell? ⟨gb, j, none⟩ = some (.string [p0, p1, p2, p3, p6, p7, p8][j])) := hcw
    have hgne : gb ≠ w1.heap.size := by
      obtain ⟨_, ⟨h, _⟩ | ⟨g6, _, _, hv, hg6, _⟩⟩ := O3
      · cases h
      · have := Option.some.inj (slice_inj hv).1
        have : gb = g6 := congrArg Addr.block this
        omega
    have P0 : PI13 [p0, p1, p2, p3, p6, p7, p8] w3 w1.heap.size 0 w3 := ⟨NB3, rfl, Kp.refl _ _⟩
    have HFIN : Hid (ok = [p0, p1, p2, p3, p6, p7, p8].all (numB 10 18)) := HOK.out
    have HEW : Hid (nbC [p0, p1, p2, p3, p6, p7, p8] 7 = #[.int .i64 (numI 10 18 p0), .int .i64 (numI 10 18 p1), .int .i64 (numI 10 18 p2), .int .i64 (numI 10 18 p3), .int .i64 (numI 10 18 p6), .int .i64 (numI 10 18 p7), .int .i64 (numI 10 18 p8)]) := rfl
    clear B3 B2 N1 N2 O3 hcw r4 r2 r3 e5 e5' hgo hgo' x0 x1 x2 x3 x4 x5 x6 x7 x8 HCC NB3 D1 hC6 i4 i6 HOK s2
    generalize hDD : [p0, p1, p2, p3, p6, p7, p8] = D at *
    have HDD : Hid ([p0, p1, p2, p3, p6, p7, p8] = D) := hDD
    clear hDD
    go_wp2_with fail
    go_loopw [22] (fun vi wr => ∃ i : Nat, i ≤ 7 ∧ vi = .int .i64 i ∧ Hid (PI13 D w3 w1.heap.size i wr)) (fun vi _ => 7 - (intOf vi).toNat)
    case atStart => exact ⟨0, Nat.zero_le _, rfl, P0⟩
    case round =>
      obtain ⟨i, hi, rfl, hP⟩ := hrel
      clear P0
      have hKP := hP.out.kp
      have D4 : Below w.heap.size w wr := D3.trans (hKP.below (by omega) (fun k hk c => by omega))
      have N4 : wr.heap[w.heap.size]? = some (.cells #[.int .i64 0, .int .i64 0, .int .i64 0, .int .i64 0, .string ⟨#[]⟩, .string ⟨#[]⟩, .int .i64 0, .int .i64 0, .int .i64 0] 23) := (hKP.block _ (by omega) (by omega)).trans N3
      by_cases hlt : i < 7
      · have hiD : i < D.length := by omega
        have q1 : wr.cell? ⟨gb, i, none⟩ = some (.string D[i]) := by
          have := HCW.out i hiD
          rw [← this]; simp [World.cell?, hKP.block gb hgw hgne]
        obtain ⟨y, hy⟩ := nbC_at hD7 hlt
        have q2 : wr.cell? ⟨w1.heap.size, i, none⟩ = some y := ring_cell hP.out.blk hy
        have q3 : wr.frozen? ⟨w1.heap.size, i, none⟩ = false := ring_z hP.out.blk
        have HDX : Hid (Calls Tryd.prog 42 #[.string D[i]] wr fun e w' => e = .returned (.tuple #[.int .i64 (numI 10 18 D[i]), .bool (numB 10 18 D[i])]) ∧ wr = w') := (decimal_any D[i] wr (HDZ.out _ (List.getElem_mem hiD))).mono fun e w' h => ⟨h.1, h.2.symm⟩
        have HNX : Hid (numB 10 18 D[i] = true → PI13 D w3 w1.heap.size (i + 1) (wr.setCell ⟨w1.heap.size, i, none⟩ (.int .i64 (numI 10 18 D[i])))) := fun h => hP.out.next hD7 hlt h
        have HNO : Hid (numB 10 18 D[i] = false → ok = false) := fun h => by
          rw [HFIN.out, List.all_eq_false]
          exact ⟨_, List.getElem_mem hiD, by rw [h]; decide⟩
        have N5 : (wr.setCell ⟨w1.heap.size, i, none⟩ (.int .i64 (numI 10 18 D[i]))).heap[w.heap.size]? = some (.cells #[.int .i64 0, .int .i64 0, .int .i64 0, .int .i64 0, .string ⟨#[]⟩, .string ⟨#[]⟩, .int .i64 0, .int .i64 0, .int .i64 0] 23) := (Below.heap_setCell _ _ _ _ (by show w.heap.size ≠ w1.heap.size; omega)).trans N4
        have D5 : Below w.heap.size w (wr.setCell ⟨w1.heap.size, i, none⟩ (.int .i64 (numI 10 18 D[i]))) := D4.setCell (p := ⟨w1.heap.size, i, none⟩) (by show w.heap.size ≤ w1.heap.size; omega) _
        have ii : (i : Int) < 7 := by omega
        clear hy
        generalize D[i] = x at *
        clear hiD
        generalize numI 10 18 x = z at *
        cases hb : numB 10 18 x
        · have hok : ok = false := HNO.out hb
          rw [hb] at HDX
          have HAN : Hid (Ending.returned (.tuple #[.agg #[.int .i64 0, .int .i64 0, .int .i64 0, .int .i64 0, .string ⟨#[]⟩, .string ⟨#[]⟩, .int .i64 0, .int .i64 0, .int .i64 0], .bool false]) = Ending.returned (.tuple #[.agg EA, .bool ok])) := by rw [Hid, HE1.out hok, hok]
          clear HNX HNO hb hP D4 N4 hok HE1 HE2
          obtain ⟨f0, f1, f2, f3, f4, f5, f6, f7, f8⟩ := cells9 N5
          have g0 : (wr.setCell ⟨w1.heap.size, i, none⟩ (.int .i64 z)).frozen? ⟨w.heap.size, 0, none⟩ = false := ring_z N5
          have g1 : (wr.setCell ⟨w1.heap.size, i, none⟩ (.int .i64 z)).frozen? ⟨w.heap.size, 1, none⟩ = false := ring_z N5
          have g2 : (wr.setCell ⟨w1.heap.size, i, none⟩ (.int .i64 z)).frozen? ⟨w.heap.size, 2, none⟩ = false := ring_z N5
          have g3 : (wr.setCell ⟨w1.heap.size, i, none⟩ (.int .i64 z)).frozen? ⟨w.heap.size, 3, none⟩ = false := ring_z N5
          have g4 : (wr.setCell ⟨w1.heap.size, i, none⟩ (.int .i64 z)).frozen? ⟨w.heap.size, 4, none⟩ = false := ring_z N5
          have g5 : (wr.setCell ⟨w1.heap.size, i, none⟩ (.int .i64 z)).frozen? ⟨w.heap.size, 5, none⟩ = false := ring_z N5
          have g6 : (wr.setCell ⟨w1.heap.size, i, none⟩ (.int .i64 z)).frozen? ⟨w.heap.size, 6, none⟩ = false := ring_z N5
          have g7 : (wr.setCell ⟨w1.heap.size, i, none⟩ (.int .i64 z)).frozen? ⟨w.heap.size, 7, none⟩ = false := ring_z N5
          have g8 : (wr.setCell ⟨w1.heap.size, i, none⟩ (.int .i64 z)).frozen? ⟨w.heap.size, 8, none⟩ = false := ring_z N5
          go_wp2_with fail
          refine HDX.out.mono ?_
          rintro e w' ⟨rfl, rfl⟩
          go_wp2
          have HFB : Hid (((((((((((wr.setCell ⟨w1.heap.size, i, none⟩ (.int .i64 z)).setCell ⟨w.heap.size, 0, none⟩ (.int .i64 0)).setCell ⟨w.heap.size, 1, none⟩ (.int .i64 0)).setCell ⟨w.heap.size, 2, none⟩ (.int .i64 0)).setCell ⟨w.heap.size, 3, none⟩ (.int .i64 0)).setCell ⟨w.heap.size, 4, none⟩ (.string ⟨#[]⟩)).setCell ⟨w.heap.size, 5, none⟩ (.string ⟨#[]⟩)).setCell ⟨w.heap.size, 6, none⟩ (.int .i64 0)).setCell ⟨w.heap.size, 7, none⟩ (.int .i64 0)).setCell ⟨w.heap.size, 8, none⟩ (.int .i64 0)).heap[w.heap.size]? = some (.cells #[.int .i64 0, .int .i64 0, .int .i64 0, .int .i64 0, .string ⟨#[]⟩, .string ⟨#[]⟩, .int .i64 0, .int .i64 0, .int .i64 0] 23)) := set9_blk N5 (.int .i64 0) (.int .i64 0) (.int .i64 0) (.int .i64 0) (.string ⟨#[]⟩) (.string ⟨#[]⟩) (.int .i64 0) (.int .i64 0) (.int .i64 0)
          have HFD : Hid (Below w.heap.size w ((((((((((wr.setCell ⟨w1.heap.size, i, none⟩ (.int .i64 z)).setCell ⟨w.heap.size, 0, none⟩ (.int .i64 0)).setCell ⟨w.heap.size, 1, none⟩ (.int .i64 0)).setCell ⟨w.heap.size, 2, none⟩ (.int .i64 0)).setCell ⟨w.heap.size, 3, none⟩ (.int .i64 0)).setCell ⟨w.heap.size, 4, none⟩ (.string ⟨#[]⟩)).setCell ⟨w.heap.size, 5, none⟩ (.string ⟨#[]⟩)).setCell ⟨w.heap.size, 6, none⟩ (.int .i64 0)).setCell ⟨w.heap.size, 7, none⟩ (.int .i64 0)).setCell ⟨w.heap.size, 8, none⟩ (.int .i64 0))) := set9_below D5 (Nat.le_refl _) (.int .i64 0) (.int .i64 0) (.int .i64 0) (.int .i64 0) (.string ⟨#[]⟩) (.string ⟨#[]⟩) (.int .i64 0) (.int .i64 0) (.int .i64 0)
          generalize ((((((((((wr.setCell ⟨w1.heap.size, i, none⟩ (.int .i64 z)).setCell ⟨w.heap.size, 0, none⟩ (.int .i64 0)).setCell ⟨w.heap.size, 1, none⟩ (.int .i64 0)).setCell ⟨w.heap.size, 2, none⟩ (.int .i64 0)).setCell ⟨w.heap.size, 3, none⟩ (.int .i64 0)).setCell ⟨w.heap.size, 4, none⟩ (.string ⟨#[]⟩)).setCell ⟨w.heap.size, 5, none⟩ (.string ⟨#[]⟩)).setCell ⟨w.heap.size, 6, none⟩ (.int .i64 0)).setCell ⟨w.heap.size, 7, none⟩ (.int .i64 0)).setCell ⟨w.heap.size, 8, none⟩ (.int .i64 0)) = WF at *
          obtain ⟨h0, h1, h2, h3, h4, h5, h6, h7, h8⟩ := cells9 HFB.out
          refine bodyPost_ret (v := .tuple #[.agg #[.int .i64 0, .int .i64 0, .int .i64 0, .int .i64 0, .string ⟨#[]⟩, .string ⟨#[]⟩, .int .i64 0, .int .i64 0, .int .i64 0], .bool false]) (by simp [results, Tryd.results26, go_sem, h0, h1, h2, h3, h4, h5, h6, h7, h8]) rfl ⟨HAN.out, HFD.out⟩
        · have hN := HNX.out hb
          have HN : Hid (PI13 D w3 w1.heap.size (i + 1) (wr.setCell ⟨w1.heap.size, i, none⟩ (.int .i64 z))) := hN
          rw [hb] at HDX
          clear HNX HNO hb hN hP D4 N4 N5 D5
          go_wp2_with fail
          refine HDX.out.mono ?_
          rintro e w' ⟨rfl, rfl⟩
          go_wp2
          go_roundw
          case rel => exact ⟨i + 1, by omega, by go_num, HN.out⟩
          case measure => simp [intOf]; omega
      · have hi7 : i = 7 := by omega
        subst hi7
        have hall := hP.out.all
        rw [List.take_of_length_le (by omega)] at hall
        have hok : ok = true := HFIN.out.trans hall
        have HAN : Hid (Ending.returned (.tuple #[.agg #[.int .i64 (numI 10 18 p0), .int .i64 (numI 10 18 p1), .int .i64 (numI 10 18 p2), .int .i64 (numI 10 18 p3), .string p4, .string p5, .int .i64 (numI 10 18 p6), .int .i64 (numI 10 18 p7), .int .i64 (numI 10 18 p8)], .bool true]) = Ending.returned (.tuple #[.agg EA, .bool ok])) := by rw [Hid, HE2.out hok, hok]
        clear hok HE1 HE2
        have hblk := hP.out.blk
        rw [HEW.out] at hblk
        have u4 : wr.cell? ⟨w.heap.size + 1, 4, none⟩ = some (.string p4) := by rw [← y4]; simp [World.cell?, hKP.block (w.heap.size + 1) (by omega) (by omega)]
        have u5 : wr.cell? ⟨w.heap.size + 1, 5, none⟩ = some (.string p5) := by rw [← y5]; simp [World.cell?, hKP.block (w.heap.size + 1) (by omega) (by omega)]
        have hne1 : w1.heap.size ≠ w.heap.size := by omega
        have hne2 : w.heap.size ≠ w1.heap.size := by omega
        clear hall HFIN HEW HCW HDZ HDD y4 y5 N3 D3 hP hlt hi hKP hgne hgw hD7
        generalize numI 10 18 p0 = z0 at *
        generalize numI 10 18 p1 = z1 at *
        generalize numI 10 18 p2 = z2 at *
        generalize numI 10 18 p3 = z3 at *
        generalize numI 10 18 p6 = z4 at *
        generalize numI 10 18 p7 = z5 at *
        generalize numI 10 18 p8 = z6 at *
        obtain ⟨n0, n1, n2, n3, n4, n5, n6⟩ := cells7 hblk
        have hbl := (Array.getElem?_eq_some_iff.1 hblk).1
        have HRC : Hid (∀ W, W = wr.drew → Calls Tryd.prog 43 #[.agg #[.int .i64 z0, .int .i64 z1, .int .i64 z2, .int .i64 z3, .int .i64 z4, .int .i64 z5, .int .i64 z6], .string p4, .string p5] W fun e w' => e = .returned (.agg #[.int .i64 z0, .int .i64 z1, .int .i64 z2, .int .i64 z3, .string p4, .string p5, .int .i64 z4, .int .i64 z5, .int .i64 z6]) ∧ (w'.cell? ⟨w.heap.size, 0, none⟩ = some (.int .i64 0) ∧ w'.cell? ⟨w.heap.size, 1, none⟩ = some (.int .i64 0) ∧ w'.cell? ⟨w.heap.size, 2, none⟩ = some (.int .i64 0) ∧ w'.cell? ⟨w.heap.size, 3, none⟩ = some (.int .i64 0) ∧ w'.cell? ⟨w.heap.size, 4, none⟩ = some (.string ⟨#[]⟩) ∧ w'.cell? ⟨w.heap.size, 5, none⟩ = some (.string ⟨#[]⟩) ∧ w'.cell? ⟨w.heap.size, 6, none⟩ = some (.int .i64 0) ∧ w'.cell? ⟨w.heap.size, 7, none⟩ = some (.int .i64 0) ∧ w'.cell? ⟨w.heap.size, 8, none⟩ = some (.int .i64 0) ∧ w'.frozen? ⟨w.heap.size, 0, none⟩ = false ∧ w'.frozen? ⟨w.heap.size, 1, none⟩ = false ∧ w'.frozen? ⟨w.heap.size, 2, none⟩ = false ∧ w'.frozen? ⟨w.heap.size, 3, none⟩ = false ∧ w'.frozen? ⟨w.heap.size, 4, none⟩ = false ∧ w'.frozen? ⟨w.heap.size, 5, none⟩ = false ∧ w'.frozen? ⟨w.heap.size, 6, none⟩ = false ∧ w'.frozen? ⟨w.heap.size, 7, none⟩ = false ∧ w'.frozen? ⟨w.heap.size, 8, none⟩ = false) ∧ Hid (w'.heap[w.heap.size]? = some (.cells #[.int .i64 0, .int .i64 0, .int .i64 0, .int .i64 0, .string ⟨#[]⟩, .string ⟨#[]⟩, .int .i64 0, .int .i64 0, .int .i64 0] 23)) ∧ Hid (Below w.heap.size w w') ∧ (w'.cell? ⟨w1.heap.size, 0, none⟩ = some (.int .i64 z0) ∧ w'.cell? ⟨w1.heap.size, 1, none⟩ = some (.int .i64 z1) ∧ w'.cell? ⟨w1.heap.size, 2, none⟩ = some (.int .i64 z2) ∧ w'.cell? ⟨w1.heap.size, 3, none⟩ = some (.int .i64 z3) ∧ w'.cell? ⟨w1.heap.size, 4, none⟩ = some (.int .i64 z4) ∧ w'.cell? ⟨w1.heap.size, 5, none⟩ = some (.int .i64 z5) ∧ w'.cell? ⟨w1.heap.size, 6, none⟩ = some (.int .i64 z6) ∧ w'.cell? ⟨w.heap.size + 1, 4, none⟩ = some (.string p4) ∧ w'.cell? ⟨w.heap.size + 1, 5, none⟩ = some (.string p5))) := by
          rintro W rfl
          refine (record_any z0 z1 z2 z3 z4 z5 z6 p4 p5 _).mono ?_
          rintro e w' ⟨rfl, B⟩
          have B' : Below wr.heap.size wr w' := (Below.refl wr.heap.size wr).drew.trans B
          have N6 := (B'.block _ (by omega)).trans N4
          obtain ⟨f0, f1, f2, f3, f4, f5, f6, f7, f8⟩ := cells9 N6
          exact ⟨rfl, ⟨f0, f1, f2, f3, f4, f5, f6, f7, f8, ring_z N6, ring_z N6, ring_z N6, ring_z N6, ring_z N6, ring_z N6, ring_z N6, ring_z N6, ring_z N6⟩, N6, D4.trans (B'.mono D4.size), (B'.cell (p := ⟨w1.heap.size, 0, none⟩) hbl).trans n0, (B'.cell (p := ⟨w1.heap.size, 1, none⟩) hbl).trans n1, (B'.cell (p := ⟨w1.heap.size, 2, none⟩) hbl).trans n2, (B'.cell (p := ⟨w1.heap.size, 3, none⟩) hbl).trans n3, (B'.cell (p := ⟨w1.heap.size, 4, none⟩) hbl).trans n4, (B'.cell (p := ⟨w1.heap.size, 5, none⟩) hbl).trans n5, (B'.cell (p := ⟨w1.heap.size, 6, none⟩) hbl).trans n6, (B'.cell (p := ⟨w.heap.size + 1, 4, none⟩) (by show _ + 1 < _; omega)).trans u4, (B'.cell (p := ⟨w.heap.size + 1, 5, none⟩) (by show _ + 1 < _; omega)).trans u5⟩
        clear hblk N4 D4 hbl
        go_wp2_with fail
        go_region_held3 (fun W => W.cell? ⟨w1.heap.size, 0, none⟩ = some (.int .i64 z0) ∧ W.cell? ⟨w1.heap.size, 1, none⟩ = some (.int .i64 z1) ∧ W.cell? ⟨w1.heap.size, 2, none⟩ = some (.int .i64 z2) ∧ W.cell? ⟨w1.heap.size, 3, none⟩ = some (.int .i64 z3) ∧ W.cell? ⟨w1.heap.size, 4, none⟩ = some (.int .i64 z4) ∧ W.cell? ⟨w1.heap.size, 5, none⟩ = some (.int .i64 z5) ∧ W.cell? ⟨w1.heap.size, 6, none⟩ = some (.int .i64 z6) ∧ W.cell? ⟨w.heap.size + 1, 4, none⟩ = some (.string p4) ∧ W.cell? ⟨w.heap.size + 1, 5, none⟩ = some (.string p5)) (go_keep) (first | (go_at_call 43; refine (HRC.out _ rfl).mono ?_; rintro e w5 ⟨rfl, ⟨f0, f1, f2, f3, f4, f5, f6, f7, f8, g0, g1, g2, g3, g4, g5, g6, g7, g8⟩, N6, D6, hS⟩))
        go_wp2
        have HFB : Hid ((((((((((w5.setCell ⟨w.heap.size, 0, none⟩ (.int .i64 z0)).setCell ⟨w.heap.size, 1, none⟩ (.int .i64 z1)).setCell ⟨w.heap.size, 2, none⟩ (.int .i64 z2)).setCell ⟨w.heap.size, 3, none⟩ (.int .i64 z3)).setCell ⟨w.heap.size, 4, none⟩ (.string p4)).setCell ⟨w.heap.size, 5, none⟩ (.string p5)).setCell ⟨w.heap.size, 6, none⟩ (.int .i64 z4)).setCell ⟨w.heap.size, 7, none⟩ (.int .i64 z5)).setCell ⟨w.heap.size, 8, none⟩ (.int .i64 z6)).heap[w.heap.size]? = some (.cells #[.int .i64 z0, .int .i64 z1, .int .i64 z2, .int .i64 z3, .string p4, .string p5, .int .i64 z4, .int .i64 z5, .int .i64 z6] 23)) := set9_blk N6.out (.int .i64 z0) (.int .i64 z1) (.int .i64 z2) (.int .i64 z3) (.string p4) (.string p5) (.int .i64 z4) (.int .i64 z5) (.int .i64 z6)
        have HFD : Hid (Below w.heap.size w (((((((((w5.setCell ⟨w.heap.size, 0, none⟩ (.int .i64 z0)).setCell ⟨w.heap.size, 1, none⟩ (.int .i64 z1)).setCell ⟨w.heap.size, 2, none⟩ (.int .i64 z2)).setCell ⟨w.heap.size, 3, none⟩ (.int .i64 z3)).setCell ⟨w.heap.size, 4, none⟩ (.string p4)).setCell ⟨w.heap.size, 5, none⟩ (.string p5)).setCell ⟨w.heap.size, 6, none⟩ (.int .i64 z4)).setCell ⟨w.heap.size, 7, none⟩ (.int .i64 z5)).setCell ⟨w.heap.size, 8, none⟩ (.int .i64 z6))) := set9_below D6.out (Nat.le_refl _) (.int .i64 z0) (.int .i64 z1) (.int .i64 z2) (.int .i64 z3) (.string p4) (.string p5) (.int .i64 z4) (.int .i64 z5) (.int .i64 z6)
        generalize (((((((((w5.setCell ⟨w.heap.size, 0, none⟩ (.int .i64 z0)).setCell ⟨w.heap.size, 1, none⟩ (.int .i64 z1)).setCell ⟨w.heap.size, 2, none⟩ (.int .i64 z2)).setCell ⟨w.heap.size, 3, none⟩ (.int .i64 z3)).setCell ⟨w.heap.size, 4, none⟩ (.string p4)).setCell ⟨w.heap.size, 5, none⟩ (.string p5)).setCell ⟨w.heap.size, 6, none⟩ (.int .i64 z4)).setCell ⟨w.heap.size, 7, none⟩ (.int .i64 z5)).setCell ⟨w.heap.size, 8, none⟩ (.int .i64 z6)) = WF at *
        obtain ⟨h0, h1, h2, h3, h4, h5, h6, h7, h8⟩ := cells9 HFB.out
        refine bodyPost_ret (v := .tuple #[.agg #[.int .i64 z0, .int .i64 z1, .int .i64 z2, .int .i64 z3, .string p4, .string p5, .int .i64 z4, .int .i64 z5, .int .i64 z6], .bool true]) (by simp [results, Tryd.results26, go_sem, h0, h1, h2, h3, h4, h5, h6, h7, h8]) rfl ⟨HAN.out, HFD.out⟩
  · have hPE : parE s = false := by unfold parE; rw [decide_eq_false h9, Bool.false_and]
    rw [hPE]
    simp only [Bool.false_eq_true, if_false]
    rw [entV_zero]
    generalize p10 s = ws at *
    generalize min 10 (s.size + 1) = C at *
    have hn9 : ¬ (ws.length : Int) = 9 := by omega
    have hn9' : ((ws.length : Int) == 9) = false := by simpa using hn9
    clear h9 hPE hsz hM hs hlen
    go_enter Tryd.func26, Tryd.ntmps26
    go_wp2_with fail
    refine HS.out.mono ?_
    rintro r w1 ⟨rfl, B1, L1, hc⟩
    have N1 : w1.heap[w.heap.size]? = some (.cells #[.int .i64 0, .int .i64 0, .int .i64 0, .int .i64 0, .string ⟨#[]⟩, .string ⟨#[]⟩, .int .i64 0, .int .i64 0, .int .i64 0] 23) := (B1.block _ (by omega)).trans NA
    have D1 := BA.trans (B1.mono (by omega))
    clear hc NA HS
    obtain ⟨f0, f1, f2, f3, f4, f5, f6, f7, f8⟩ := cells9 N1
    have g0 : w1.frozen? ⟨w.heap.size, 0, none⟩ = false := ring_z N1
    have g1 : w1.frozen? ⟨w.heap.size, 1, none⟩ = false := ring_z N1
    have g2 : w1.frozen? ⟨w.heap.size, 2, none⟩ = false := ring_z N1
    have g3 : w1.frozen? ⟨w.heap.size, 3, none⟩ = false := ring_z N1
    have g4 : w1.frozen? ⟨w.heap.size, 4, none⟩ = false := ring_z N1
    have g5 : w1.frozen? ⟨w.heap.size, 5, none⟩ = false := ring_z N1
    have g6 : w1.frozen? ⟨w.heap.size, 6, none⟩ = false := ring_z N1
    have g7 : w1.frozen? ⟨w.heap.size, 7, none⟩ = false := ring_z N1
    have g8 : w1.frozen? ⟨w.heap.size, 8, none⟩ = false := ring_z N1
    go_wp2
    have HFB : Hid ((((((((((w1.setCell ⟨w.heap.size, 0, none⟩ (.int .i64 0)).setCell ⟨w.heap.size, 1, none⟩ (.int .i64 0)).setCell ⟨w.heap.size, 2, none⟩ (.int .i64 0)).setCell ⟨w.heap.size, 3, none⟩ (.int .i64 0)).setCell ⟨w.heap.size, 4, none⟩ (.string ⟨#[]⟩)).setCell ⟨w.heap.size, 5, none⟩ (.string ⟨#[]⟩)).setCell ⟨w.heap.size, 6, none⟩ (.int .i64 0)).setCell ⟨w.heap.size, 7, none⟩ (.int .i64 0)).setCell ⟨w.heap.size, 8, none⟩ (.int .i64 0)).heap[w.heap.size]? = some (.cells #[.int .i64 0, .int .i64 0, .int .i64 0, .int .i64 0, .string ⟨#[]⟩, .string ⟨#[]⟩, .int .i64 0, .int .i64 0, .int .i64 0] 23)) := set9_blk N1 (.int .i64 0) (.int .i64 0) (.int .i64 0) (.int .i64 0) (.string ⟨#[]⟩) (.string ⟨#[]⟩) (.int .i64 0) (.int .i64 0) (.int .i64 0)
    have HFD : Hid (Below w.heap.size w (((((((((w1.setCell ⟨w.heap.size, 0, none⟩ (.int .i64 0)).setCell ⟨w.heap.size, 1, none⟩ (.int .i64 0)).setCell ⟨w.heap.size, 2, none⟩ (.int .i64 0)).setCell ⟨w.heap.size, 3, none⟩ (.int .i64 0)).setCell ⟨w.heap.size, 4, none⟩ (.string ⟨#[]⟩)).setCell ⟨w.heap.size, 5, none⟩ (.string ⟨#[]⟩)).setCell ⟨w.heap.size, 6, none⟩ (.int .i64 0)).setCell ⟨w.heap.size, 7, none⟩ (.int .i64 0)).setCell ⟨w.heap.size, 8, none⟩ (.int .i64 0))) := set9_below D1 (Nat.le_refl _) (.int .i64 0) (.int .i64 0) (.int .i64 0) (.int .i64 0) (.string ⟨#[]⟩) (.string ⟨#[]⟩) (.int .i64 0) (.int .i64 0) (.int .i64 0)
    generalize (((((((((w1.setCell ⟨w.heap.size, 0, none⟩ (.int .i64 0)).setCell ⟨w.heap.size, 1, none⟩ (.int .i64 0)).setCell ⟨w.heap.size, 2, none⟩ (.int .i64 0)).setCell ⟨w.heap.size, 3, none⟩ (.int .i64 0)).setCell ⟨w.heap.size, 4, none⟩ (.string ⟨#[]⟩)).setCell ⟨w.heap.size, 5, none⟩ (.string ⟨#[]⟩)).setCell ⟨w.heap.size, 6, none⟩ (.int .i64 0)).setCell ⟨w.heap.size, 7, none⟩ (.int .i64 0)).setCell ⟨w.heap.size, 8, none⟩ (.int .i64 0)) = WF at *
    obtain ⟨h0, h1, h2, h3, h4, h5, h6, h7, h8⟩ := cells9 HFB.out
    refine bodyPost_ret (v := .tuple #[.agg #[.int .i64 0, .int .i64 0, .int .i64 0, .int .i64 0, .string ⟨#[]⟩, .string ⟨#[]⟩, .int .i64 0, .int .i64 0, .int .i64 0], .bool false]) (by simp [results, Tryd.results26, go_sem, h0, h1, h2, h3, h4, h5, h6, h7, h8]) rfl ⟨rfl, HFD.out⟩
end Go.Proofs.YtdibldocfhpnkaaDoor
