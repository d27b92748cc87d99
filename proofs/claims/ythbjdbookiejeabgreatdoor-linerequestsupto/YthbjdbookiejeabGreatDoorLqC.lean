/- The reference's Request. -/
import Derived.Test.YthbjdbookiejeabGreatDoorLqB
import Derived.Test.YthbjdbookiejeabGreatDoorSgnD
import Derived.Deep.RegionHeld3
namespace Go.Proofs.YthbjdbookiejeabGreatDoor
open Go.RowKit
set_option linter.unusedVariables false

theorem parts_sizes (s : ByteArray) : ∀ p ∈ partsB s, p.size ≤ s.size := by
  intro p hp
  unfold partsB at hp
  obtain ⟨l, hl, rfl⟩ := List.mem_map.1 hp
  have k : ∀ (x : List UInt8), ∀ l ∈ pl x, l.length ≤ x.length := by
    intro x
    induction x with
    | nil => intro l hl; rw [List.mem_singleton.1 hl]; exact Nat.le_refl _
    | cons b x ih =>
      intro l hl
      obtain ⟨a, t, h⟩ := pl_ne x
      unfold pl at hl
      rw [h] at hl ih
      by_cases hb : b = 32
      · rw [if_pos hb] at hl
        rcases List.mem_cons.1 hl with rfl | hl
        · exact Nat.zero_le _
        · have := ih l hl
          simp only [List.length_cons]
          omega
      · rw [if_neg hb] at hl
        rcases List.mem_cons.1 hl with rfl | hl
        · have := ih a (List.mem_cons_self ..)
          simp only [List.length_cons]
          omega
        · have := ih l (List.mem_cons_of_mem _ hl)
          simp only [List.length_cons]
          omega
  exact k s.data.toList l hl
theorem tgt_pos {p : ByteArray} (h : tgtP p = true) : 0 < p.size := by
  unfold tgtP at h
  rw [Bool.and_eq_true] at h
  exact of_decide_eq_true h.2
theorem eqS_lit (p : ByteArray) (l : List UInt8) : eqS p ⟨l.toArray⟩ = (p.toList == l) := by
  show (p.toList == (⟨l.toArray⟩ : ByteArray).toList) = _
  rw [lit_list l]
theorem bne_of {a b : List UInt8} {x : Bool} (h : (a == b) = x) : (a != b) = !x := by unfold bne; rw [h]

set_option maxRecDepth 100000 in
set_option maxHeartbeats 8000000 in
theorem rreq_three (p0 p1 p2 s : ByteArray) (w : World) (hs : s.size ≤ 4294967281) (hp : partsB s = [p0, p1, p2]) :
    Calls Tryz.prog 25 #[.string s] w fun e w' => e = .returned (.tuple #[rqV (rqR p0 p1 p2), .int .i64 (rqR p0 p1 p2).code]) ∧ Below w.heap.size w w' := by
  have q0 : p0.size ≤ s.size := parts_sizes s p0 (by rw [hp]; simp)
  have q1 : p1.size ≤ s.size := parts_sizes s p1 (by rw [hp]; simp)
  have q2 : p2.size ≤ s.size := parts_sizes s p2 (by rw [hp]; simp)
  have C0 : Below w.heap.size w (w.alloc (.cells #[.string ⟨#[]⟩, .string ⟨#[]⟩, .int .i64 0, .slice none 0 0, .slice none 0 0] 26)) := (Below.refl _ _).alloc (Nat.le_refl _) _
  have hg0 := tblk_new w (.cells #[.string ⟨#[]⟩, .string ⟨#[]⟩, .int .i64 0, .slice none 0 0, .slice none 0 0] 26)
  have H1 : Hid (Calls Tryz.prog 58 #[.string s] (w.alloc (.cells #[.string ⟨#[]⟩, .string ⟨#[]⟩, .int .i64 0, .slice none 0 0, .slice none 0 0] 26)) fun e w' => ∃ b c, e = .returned (.slice (some ⟨b, 0, none⟩) 3 c) ∧ RQ w b p0 p1 p2 w') := by
    refine (rparts_any s _ hs).mono ?_
    rintro e w' ⟨g, c, he, hO, B⟩
    rw [hp] at he hO
    have hb : (w.alloc (.cells #[.string ⟨#[]⟩, .string ⟨#[]⟩, .int .i64 0, .slice none 0 0, .slice none 0 0] 26)).heap.size ≤ g := by
      rcases hO.2 with ⟨_, hz⟩ | ⟨g', c', cur, hv, hB, _⟩
      · cases hz
      · cases hv
        exact hB
    have c0 := World.ownsRow.cellAt hO 0 (by simp)
    have c1 := World.ownsRow.cellAt hO 1 (by simp)
    have c2 := World.ownsRow.cellAt hO 2 (by simp)
    exact ⟨g, c, he, C0.trans (B.mono C0.size), tblk_below hg0 B, lcell_lt c0, ne_of_le hb, c0, c1, c2⟩
  have HK : Hid (∀ W, Calls Tryz.prog 59 #[.string p0] W fun e w' => e = .returned (.bool (allB tokP p0.data.toList && decide (0 < p0.size))) ∧ w' = W) := fun W => rToken_any p0 W (by unfold maxLen; omega)
  have HG : Hid (∀ W, Calls Tryz.prog 60 #[.string p1] W fun e w' => e = .returned (.bool (tgtP p1)) ∧ w' = W) := fun W => rtarget_any p1 W (by unfold maxLen; omega)
  have HV : Hid (∀ W, Calls Tryz.prog 61 #[.string p2] W fun e w' => e = .returned (.tuple #[.int .i64 (rverL p2.data.toList).1, .int .i64 (rverL p2.data.toList).2.1, .bool (rverL p2.data.toList).2.2]) ∧ Below W.heap.size W w') := fun W => rversion_any p2 W (by unfold maxLen; omega)
  have hps := tgt_pos (p := p1)
  unfold rqR
  generalize (allB tokP p0.data.toList && decide (0 < p0.size)) = tk at *
  generalize tgtP p1 = tg at *
  generalize rverL p2.data.toList = V at *
  obtain ⟨M, mi, ok⟩ := V
  simp only at HV ⊢
  clear q0 q1 q2 hs hp C0 hg0
  cases tk
  · rw [if_pos rfl]
    go_enter Tryz.func25, Tryz.ntmps25
    go_wp2_with fail
    refine H1.out.mono ?_
    rintro e w1 ⟨b, c, rfl, I0⟩
    have s0 := I0.c0
    have s1 := I0.c1
    have s2 := I0.c2
    clear H1
    go_wp2_with fail
    refine (HK.out _).mono ?_
    rintro e w2 ⟨rfl, rfl⟩
    have HW := five_cells I0.own (.string ⟨#[]⟩) (.string ⟨#[]⟩) (.int .i64 0) (.slice none 0 0) (.slice none 0 0)
    have HB := five_below (.string ⟨#[]⟩) (.string ⟨#[]⟩) (.int .i64 0) (.slice none 0 0) (.slice none 0 0) I0.below (Nat.le_refl _)
    have a0 := tblk_cell (i := 0) I0.own rfl
    have z0 := lblk_z (i := 0) I0.own
    have a1 := tblk_cell (i := 1) I0.own rfl
    have z1 := lblk_z (i := 1) I0.own
    have a2 := tblk_cell (i := 2) I0.own rfl
    have z2 := lblk_z (i := 2) I0.own
    have a3 := tblk_cell (i := 3) I0.own rfl
    have z3 := lblk_z (i := 3) I0.own
    have a4 := tblk_cell (i := 4) I0.own rfl
    have z4 := lblk_z (i := 4) I0.own
    have r0 := tblk_cell (i := 0) HW rfl
    have r1 := tblk_cell (i := 1) HW rfl
    have r2 := tblk_cell (i := 2) HW rfl
    have r3 := tblk_cell (i := 3) HW rfl
    have r4 := tblk_cell (i := 4) HW rfl
    unfold five at r0 r1 r2 r3 r4 HB
    have HB' : Hid _ := HB
    clear HB HW
    go_wp2
    refine bodyPost_ret (v := .tuple #[.agg #[.string ⟨#[]⟩, .string ⟨#[]⟩, .int .i64 0, .slice none 0 0, .slice none 0 0], .int .i64 400]) (by simp [results, Tryz.results25, go_sem, r0, r1, r2, r3, r4]) rfl ⟨rfl, HB'.out⟩
  · rw [if_neg (by decide)]
    by_cases h20 : 20 < p0.size
    · rw [if_pos h20]
      have h20B : decide ((20 : Int) < (p0.size : Int)) = true := decide_eq_true (by omega)
      clear h20
      go_enter Tryz.func25, Tryz.ntmps25
      go_wp2_with fail
      refine H1.out.mono ?_
      rintro e w1 ⟨b, c, rfl, I0⟩
      have s0 := I0.c0
      have s1 := I0.c1
      have s2 := I0.c2
      clear H1
      go_wp2_with fail
      refine (HK.out _).mono ?_
      rintro e w2 ⟨rfl, rfl⟩
      have HW := five_cells I0.own (.string ⟨#[]⟩) (.string ⟨#[]⟩) (.int .i64 0) (.slice none 0 0) (.slice none 0 0)
      have HB := five_below (.string ⟨#[]⟩) (.string ⟨#[]⟩) (.int .i64 0) (.slice none 0 0) (.slice none 0 0) I0.below (Nat.le_refl _)
      have a0 := tblk_cell (i := 0) I0.own rfl
      have z0 := lblk_z (i := 0) I0.own
      have a1 := tblk_cell (i := 1) I0.own rfl
      have z1 := lblk_z (i := 1) I0.own
      have a2 := tblk_cell (i := 2) I0.own rfl
      have z2 := lblk_z (i := 2) I0.own
      have a3 := tblk_cell (i := 3) I0.own rfl
      have z3 := lblk_z (i := 3) I0.own
      have a4 := tblk_cell (i := 4) I0.own rfl
      have z4 := lblk_z (i := 4) I0.own
      have r0 := tblk_cell (i := 0) HW rfl
      have r1 := tblk_cell (i := 1) HW rfl
      have r2 := tblk_cell (i := 2) HW rfl
      have r3 := tblk_cell (i := 3) HW rfl
      have r4 := tblk_cell (i := 4) HW rfl
      unfold five at r0 r1 r2 r3 r4 HB
      have HB' : Hid _ := HB
      clear HB HW
      go_wp2
      refine bodyPost_ret (v := .tuple #[.agg #[.string ⟨#[]⟩, .string ⟨#[]⟩, .int .i64 0, .slice none 0 0, .slice none 0 0], .int .i64 400]) (by simp [results, Tryz.results25, go_sem, r0, r1, r2, r3, r4]) rfl ⟨rfl, HB'.out⟩
    · rw [if_neg h20]
      have h20B : decide ((20 : Int) < (p0.size : Int)) = false := decide_eq_false (by omega)
      clear h20
      cases tg
      · rw [if_pos rfl]
        go_enter Tryz.func25, Tryz.ntmps25
        go_wp2_with fail
        refine H1.out.mono ?_
        rintro e w1 ⟨b, c, rfl, I0⟩
        have s0 := I0.c0
        have s1 := I0.c1
        have s2 := I0.c2
        clear H1
        go_wp2_with fail
        refine (HK.out _).mono ?_
        rintro e w2 ⟨rfl, rfl⟩
        go_wp2_with fail
        refine (HG.out _).mono ?_
        rintro e w3 ⟨rfl, rfl⟩
        have HW := five_cells I0.own (.string ⟨#[]⟩) (.string ⟨#[]⟩) (.int .i64 0) (.slice none 0 0) (.slice none 0 0)
        have HB := five_below (.string ⟨#[]⟩) (.string ⟨#[]⟩) (.int .i64 0) (.slice none 0 0) (.slice none 0 0) I0.below (Nat.le_refl _)
        have a0 := tblk_cell (i := 0) I0.own rfl
        have z0 := lblk_z (i := 0) I0.own
        have a1 := tblk_cell (i := 1) I0.own rfl
        have z1 := lblk_z (i := 1) I0.own
        have a2 := tblk_cell (i := 2) I0.own rfl
        have z2 := lblk_z (i := 2) I0.own
        have a3 := tblk_cell (i := 3) I0.own rfl
        have z3 := lblk_z (i := 3) I0.own
        have a4 := tblk_cell (i := 4) I0.own rfl
        have z4 := lblk_z (i := 4) I0.own
        have r0 := tblk_cell (i := 0) HW rfl
        have r1 := tblk_cell (i := 1) HW rfl
        have r2 := tblk_cell (i := 2) HW rfl
        have r3 := tblk_cell (i := 3) HW rfl
        have r4 := tblk_cell (i := 4) HW rfl
        unfold five at r0 r1 r2 r3 r4 HB
        have HB' : Hid _ := HB
        clear HB HW
        go_wp2
        refine bodyPost_ret (v := .tuple #[.agg #[.string ⟨#[]⟩, .string ⟨#[]⟩, .int .i64 0, .slice none 0 0, .slice none 0 0], .int .i64 400]) (by simp [results, Tryz.results25, go_sem, r0, r1, r2, r3, r4]) rfl ⟨rfl, HB'.out⟩
      · rw [if_neg (by decide)]
        have hpos := hps rfl
        have hpos' : (0 : Int) < (p1.size : Int) := by omega
        clear hps
        rw [head_eq hpos, eqS_lit p1 [42], eqS_lit p0 [79, 80, 84, 73, 79, 78, 83]]
        cases h47 : ((p1[0].toNat : Int) == 47)
        · have n47 : ((p1[0].toNat : Int) != 47) = true := by unfold bne; rw [h47]; rfl
          cases hst : (p1.toList == [42])
          · rw [if_pos ⟨rfl, Or.inl rfl⟩]
            have nst := bne_of hst
            go_enter Tryz.func25, Tryz.ntmps25
            go_wp2_with fail
            refine H1.out.mono ?_
            rintro e w1 ⟨b, c, rfl, I0⟩
            have s0 := I0.c0
            have s1 := I0.c1
            have s2 := I0.c2
            clear H1
            go_wp2_with fail
            refine (HK.out _).mono ?_
            rintro e w2 ⟨rfl, rfl⟩
            go_wp2_with fail
            refine (HG.out _).mono ?_
            rintro e w3 ⟨rfl, rfl⟩
            have HW := five_cells I0.own (.string ⟨#[]⟩) (.string ⟨#[]⟩) (.int .i64 0) (.slice none 0 0) (.slice none 0 0)
            have HB := five_below (.string ⟨#[]⟩) (.string ⟨#[]⟩) (.int .i64 0) (.slice none 0 0) (.slice none 0 0) I0.below (Nat.le_refl _)
            have a0 := tblk_cell (i := 0) I0.own rfl
            have z0 := lblk_z (i := 0) I0.own
            have a1 := tblk_cell (i := 1) I0.own rfl
            have z1 := lblk_z (i := 1) I0.own
            have a2 := tblk_cell (i := 2) I0.own rfl
            have z2 := lblk_z (i := 2) I0.own
            have a3 := tblk_cell (i := 3) I0.own rfl
            have z3 := lblk_z (i := 3) I0.own
            have a4 := tblk_cell (i := 4) I0.own rfl
            have z4 := lblk_z (i := 4) I0.own
            have r0 := tblk_cell (i := 0) HW rfl
            have r1 := tblk_cell (i := 1) HW rfl
            have r2 := tblk_cell (i := 2) HW rfl
            have r3 := tblk_cell (i := 3) HW rfl
            have r4 := tblk_cell (i := 4) HW rfl
            unfold five at r0 r1 r2 r3 r4 HB
            have HB' : Hid _ := HB
            clear HB HW
            go_wp2
            refine bodyPost_ret (v := .tuple #[.agg #[.string ⟨#[]⟩, .string ⟨#[]⟩, .int .i64 0, .slice none 0 0, .slice none 0 0], .int .i64 400]) (by simp [results, Tryz.results25, go_sem, r0, r1, r2, r3, r4]) rfl ⟨rfl, HB'.out⟩
          · have nst := bne_of hst
            cases hop : (p0.toList == [79, 80, 84, 73, 79, 78, 83])
            · rw [if_pos ⟨rfl, Or.inr rfl⟩]
              have nop := bne_of hop
              go_enter Tryz.func25, Tryz.ntmps25
              go_wp2_with fail
              refine H1.out.mono ?_
              rintro e w1 ⟨b, c, rfl, I0⟩
              have s0 := I0.c0
              have s1 := I0.c1
              have s2 := I0.c2
              clear H1
              go_wp2_with fail
              refine (HK.out _).mono ?_
              rintro e w2 ⟨rfl, rfl⟩
              go_wp2_with fail
              refine (HG.out _).mono ?_
              rintro e w3 ⟨rfl, rfl⟩
              have HW := five_cells I0.own (.string ⟨#[]⟩) (.string ⟨#[]⟩) (.int .i64 0) (.slice none 0 0) (.slice none 0 0)
              have HB := five_below (.string ⟨#[]⟩) (.string ⟨#[]⟩) (.int .i64 0) (.slice none 0 0) (.slice none 0 0) I0.below (Nat.le_refl _)
              have a0 := tblk_cell (i := 0) I0.own rfl
              have z0 := lblk_z (i := 0) I0.own
              have a1 := tblk_cell (i := 1) I0.own rfl
              have z1 := lblk_z (i := 1) I0.own
              have a2 := tblk_cell (i := 2) I0.own rfl
              have z2 := lblk_z (i := 2) I0.own
              have a3 := tblk_cell (i := 3) I0.own rfl
              have z3 := lblk_z (i := 3) I0.own
              have a4 := tblk_cell (i := 4) I0.own rfl
              have z4 := lblk_z (i := 4) I0.own
              have r0 := tblk_cell (i := 0) HW rfl
              have r1 := tblk_cell (i := 1) HW rfl
              have r2 := tblk_cell (i := 2) HW rfl
              have r3 := tblk_cell (i := 3) HW rfl
              have r4 := tblk_cell (i := 4) HW rfl
              unfold five at r0 r1 r2 r3 r4 HB
              have HB' : Hid _ := HB
              clear HB HW
              go_wp2
              refine bodyPost_ret (v := .tuple #[.agg #[.string ⟨#[]⟩, .string ⟨#[]⟩, .int .i64 0, .slice none 0 0, .slice none 0 0], .int .i64 400]) (by simp [results, Tryz.results25, go_sem, r0, r1, r2, r3, r4]) rfl ⟨rfl, HB'.out⟩
            · rw [if_neg (by rintro ⟨_, k | k⟩ <;> cases k)]
              have nop := bne_of hop
              by_cases h512 : 512 < p1.size
              · rw [if_pos h512]
                have hlB : decide ((512 : Int) < (p1.size : Int)) = true := decide_eq_true (by omega)
                clear h512
                go_enter Tryz.func25, Tryz.ntmps25
                go_wp2_with fail
                refine H1.out.mono ?_
                rintro e w1 ⟨b, c, rfl, I0⟩
                have s0 := I0.c0
                have s1 := I0.c1
                have s2 := I0.c2
                clear H1
                go_wp2_with fail
                refine (HK.out _).mono ?_
                rintro e w2 ⟨rfl, rfl⟩
                go_wp2_with fail
                refine (HG.out _).mono ?_
                rintro e w3 ⟨rfl, rfl⟩
                have HW := five_cells I0.own (.string ⟨#[]⟩) (.string ⟨#[]⟩) (.int .i64 0) (.slice none 0 0) (.slice none 0 0)
                have HB := five_below (.string ⟨#[]⟩) (.string ⟨#[]⟩) (.int .i64 0) (.slice none 0 0) (.slice none 0 0) I0.below (Nat.le_refl _)
                have a0 := tblk_cell (i := 0) I0.own rfl
                have z0 := lblk_z (i := 0) I0.own
                have a1 := tblk_cell (i := 1) I0.own rfl
                have z1 := lblk_z (i := 1) I0.own
                have a2 := tblk_cell (i := 2) I0.own rfl
                have z2 := lblk_z (i := 2) I0.own
                have a3 := tblk_cell (i := 3) I0.own rfl
                have z3 := lblk_z (i := 3) I0.own
                have a4 := tblk_cell (i := 4) I0.own rfl
                have z4 := lblk_z (i := 4) I0.own
                have r0 := tblk_cell (i := 0) HW rfl
                have r1 := tblk_cell (i := 1) HW rfl
                have r2 := tblk_cell (i := 2) HW rfl
                have r3 := tblk_cell (i := 3) HW rfl
                have r4 := tblk_cell (i := 4) HW rfl
                unfold five at r0 r1 r2 r3 r4 HB
                have HB' : Hid _ := HB
                clear HB HW
                go_wp2
                refine bodyPost_ret (v := .tuple #[.agg #[.string ⟨#[]⟩, .string ⟨#[]⟩, .int .i64 0, .slice none 0 0, .slice none 0 0], .int .i64 414]) (by simp [results, Tryz.results25, go_sem, r0, r1, r2, r3, r4]) rfl ⟨rfl, HB'.out⟩
              · rw [if_neg h512]
                have hlB : decide ((512 : Int) < (p1.size : Int)) = false := decide_eq_false (by omega)
                clear h512
                cases ok
                · rw [if_pos rfl]
                  go_enter Tryz.func25, Tryz.ntmps25
                  go_wp2_with fail
                  refine H1.out.mono ?_
                  rintro e w1 ⟨b, c, rfl, I0⟩
                  have s0 := I0.c0
                  have s1 := I0.c1
                  have s2 := I0.c2
                  clear H1
                  go_wp2_with fail
                  refine (HK.out _).mono ?_
                  rintro e w2 ⟨rfl, rfl⟩
                  go_wp2_with fail
                  refine (HG.out _).mono ?_
                  rintro e w3 ⟨rfl, rfl⟩
                  go_wp2_with fail
                  refine (HV.out _).mono ?_
                  rintro e w4 ⟨rfl, B4⟩
                  have I1 := I0.next B4
                  have t0 := I1.c0
                  have t1 := I1.c1
                  clear B4
                  have HW := five_cells I1.own (.string ⟨#[]⟩) (.string ⟨#[]⟩) (.int .i64 0) (.slice none 0 0) (.slice none 0 0)
                  have HB := five_below (.string ⟨#[]⟩) (.string ⟨#[]⟩) (.int .i64 0) (.slice none 0 0) (.slice none 0 0) I1.below (Nat.le_refl _)
                  have a0 := tblk_cell (i := 0) I1.own rfl
                  have z0 := lblk_z (i := 0) I1.own
                  have a1 := tblk_cell (i := 1) I1.own rfl
                  have z1 := lblk_z (i := 1) I1.own
                  have a2 := tblk_cell (i := 2) I1.own rfl
                  have z2 := lblk_z (i := 2) I1.own
                  have a3 := tblk_cell (i := 3) I1.own rfl
                  have z3 := lblk_z (i := 3) I1.own
                  have a4 := tblk_cell (i := 4) I1.own rfl
                  have z4 := lblk_z (i := 4) I1.own
                  have r0 := tblk_cell (i := 0) HW rfl
                  have r1 := tblk_cell (i := 1) HW rfl
                  have r2 := tblk_cell (i := 2) HW rfl
                  have r3 := tblk_cell (i := 3) HW rfl
                  have r4 := tblk_cell (i := 4) HW rfl
                  unfold five at r0 r1 r2 r3 r4 HB
                  have HB' : Hid _ := HB
                  clear HB HW
                  go_wp2
                  refine bodyPost_ret (v := .tuple #[.agg #[.string ⟨#[]⟩, .string ⟨#[]⟩, .int .i64 0, .slice none 0 0, .slice none 0 0], .int .i64 400]) (by simp [results, Tryz.results25, go_sem, r0, r1, r2, r3, r4]) rfl ⟨rfl, HB'.out⟩
                · rw [if_neg (by decide)]
                  by_cases hM : M = 1
                  · rw [if_neg (fun k => k hM)]
                    subst hM
                    by_cases hm : 1 < mi
                    · rw [if_pos hm]
                      have hmB : decide ((1 : Int) < mi) = true := decide_eq_true hm
                      clear hm
                      go_enter Tryz.func25, Tryz.ntmps25
                      go_wp2_with fail
                      refine H1.out.mono ?_
                      rintro e w1 ⟨b, c, rfl, I0⟩
                      have s0 := I0.c0
                      have s1 := I0.c1
                      have s2 := I0.c2
                      clear H1
                      go_wp2_with fail
                      refine (HK.out _).mono ?_
                      rintro e w2 ⟨rfl, rfl⟩
                      go_wp2_with fail
                      refine (HG.out _).mono ?_
                      rintro e w3 ⟨rfl, rfl⟩
                      go_wp2_with fail
                      refine (HV.out _).mono ?_
                      rintro e w4 ⟨rfl, B4⟩
                      have I1 := I0.next B4
                      have t0 := I1.c0
                      have t1 := I1.c1
                      clear B4
                      have HW := five_cells I1.own (.string ⟨#[]⟩) (.string ⟨#[]⟩) (.int .i64 0) (.slice none 0 0) (.slice none 0 0)
                      have HB := five_below (.string ⟨#[]⟩) (.string ⟨#[]⟩) (.int .i64 0) (.slice none 0 0) (.slice none 0 0) I1.below (Nat.le_refl _)
                      have a0 := tblk_cell (i := 0) I1.own rfl
                      have z0 := lblk_z (i := 0) I1.own
                      have a1 := tblk_cell (i := 1) I1.own rfl
                      have z1 := lblk_z (i := 1) I1.own
                      have a2 := tblk_cell (i := 2) I1.own rfl
                      have z2 := lblk_z (i := 2) I1.own
                      have a3 := tblk_cell (i := 3) I1.own rfl
                      have z3 := lblk_z (i := 3) I1.own
                      have a4 := tblk_cell (i := 4) I1.own rfl
                      have z4 := lblk_z (i := 4) I1.own
                      have r0 := tblk_cell (i := 0) HW rfl
                      have r1 := tblk_cell (i := 1) HW rfl
                      have r2 := tblk_cell (i := 2) HW rfl
                      have r3 := tblk_cell (i := 3) HW rfl
                      have r4 := tblk_cell (i := 4) HW rfl
                      unfold five at r0 r1 r2 r3 r4 HB
                      have HB' : Hid _ := HB
                      clear HB HW
                      go_wp2
                      refine bodyPost_ret (v := .tuple #[.agg #[.string ⟨#[]⟩, .string ⟨#[]⟩, .int .i64 0, .slice none 0 0, .slice none 0 0], .int .i64 505]) (by simp [results, Tryz.results25, go_sem, r0, r1, r2, r3, r4]) rfl ⟨rfl, HB'.out⟩
                    · rw [if_neg hm]
                      have hmB : decide ((1 : Int) < mi) = false := decide_eq_false hm
                      clear hm
                      go_enter Tryz.func25, Tryz.ntmps25
                      go_wp2_with fail
                      refine H1.out.mono ?_
                      rintro e w1 ⟨b, c, rfl, I0⟩
                      have s0 := I0.c0
                      have s1 := I0.c1
                      have s2 := I0.c2
                      clear H1
                      go_wp2_with fail
                      refine (HK.out _).mono ?_
                      rintro e w2 ⟨rfl, rfl⟩
                      go_wp2_with fail
                      refine (HG.out _).mono ?_
                      rintro e w3 ⟨rfl, rfl⟩
                      go_wp2_with fail
                      refine (HV.out _).mono ?_
                      rintro e w4 ⟨rfl, B4⟩
                      have I1 := I0.next B4
                      have t0 := I1.c0
                      have t1 := I1.c1
                      clear B4
                      have nb := I0.ne
                      have nb' : ¬ w.heap.size = b := fun e => nb e.symm
                      have d0 := tblk_cell (i := 0) I1.own rfl
                      have y0 := lblk_z (i := 0) I1.own
                      have d1 := tblk_cell (i := 1) I1.own rfl
                      have y1 := lblk_z (i := 1) I1.own
                      have d2 := tblk_cell (i := 2) I1.own rfl
                      have y2 := lblk_z (i := 2) I1.own
                      have d3 := tblk_cell (i := 3) I1.own rfl
                      have y3 := lblk_z (i := 3) I1.own
                      have d4 := tblk_cell (i := 4) I1.own rfl
                      have y4 := lblk_z (i := 4) I1.own
                      go_wp2_with fail
                      go_region_held3 (fun W => W.cell? ⟨b, 0, none⟩ = some (.string p0) ∧ W.cell? ⟨b, 1, none⟩ = some (.string p1)) (go_keep) (fail)
                      have HW := five_cells I1.own (.string p0) (.string p1) (.int .i64 mi) (.slice none 0 0) (.slice none 0 0)
                      have HB := five_below (.string p0) (.string p1) (.int .i64 mi) (.slice none 0 0) (.slice none 0 0) I1.below (Nat.le_refl _)
                      have r0 := tblk_cell (i := 0) HW rfl
                      have r1 := tblk_cell (i := 1) HW rfl
                      have r2 := tblk_cell (i := 2) HW rfl
                      have r3 := tblk_cell (i := 3) HW rfl
                      have r4 := tblk_cell (i := 4) HW rfl
                      unfold five at r0 r1 r2 r3 r4 HB
                      have HB' : Hid _ := HB
                      clear HB HW
                      go_wp2
                      refine bodyPost_ret (v := .tuple #[.agg #[.string p0, .string p1, .int .i64 mi, .slice none 0 0, .slice none 0 0], .int .i64 0]) (by simp [results, Tryz.results25, go_sem, r0, r1, r2, r3, r4]) rfl ⟨rfl, HB'.out.drew⟩
                  · rw [if_pos hM]
                    have hMB : (M != 1) = true := by simpa using hM
                    clear hM
                    go_enter Tryz.func25, Tryz.ntmps25
                    go_wp2_with fail
                    refine H1.out.mono ?_
                    rintro e w1 ⟨b, c, rfl, I0⟩
                    have s0 := I0.c0
                    have s1 := I0.c1
                    have s2 := I0.c2
                    clear H1
                    go_wp2_with fail
                    refine (HK.out _).mono ?_
                    rintro e w2 ⟨rfl, rfl⟩
                    go_wp2_with fail
                    refine (HG.out _).mono ?_
                    rintro e w3 ⟨rfl, rfl⟩
                    go_wp2_with fail
                    refine (HV.out _).mono ?_
                    rintro e w4 ⟨rfl, B4⟩
                    have I1 := I0.next B4
                    have t0 := I1.c0
                    have t1 := I1.c1
                    clear B4
                    have HW := five_cells I1.own (.string ⟨#[]⟩) (.string ⟨#[]⟩) (.int .i64 0) (.slice none 0 0) (.slice none 0 0)
                    have HB := five_below (.string ⟨#[]⟩) (.string ⟨#[]⟩) (.int .i64 0) (.slice none 0 0) (.slice none 0 0) I1.below (Nat.le_refl _)
                    have a0 := tblk_cell (i := 0) I1.own rfl
                    have z0 := lblk_z (i := 0) I1.own
                    have a1 := tblk_cell (i := 1) I1.own rfl
                    have z1 := lblk_z (i := 1) I1.own
                    have a2 := tblk_cell (i := 2) I1.own rfl
                    have z2 := lblk_z (i := 2) I1.own
                    have a3 := tblk_cell (i := 3) I1.own rfl
                    have z3 := lblk_z (i := 3) I1.own
                    have a4 := tblk_cell (i := 4) I1.own rfl
                    have z4 := lblk_z (i := 4) I1.own
                    have r0 := tblk_cell (i := 0) HW rfl
                    have r1 := tblk_cell (i := 1) HW rfl
                    have r2 := tblk_cell (i := 2) HW rfl
                    have r3 := tblk_cell (i := 3) HW rfl
                    have r4 := tblk_cell (i := 4) HW rfl
                    unfold five at r0 r1 r2 r3 r4 HB
                    have HB' : Hid _ := HB
                    clear HB HW
                    go_wp2
                    refine bodyPost_ret (v := .tuple #[.agg #[.string ⟨#[]⟩, .string ⟨#[]⟩, .int .i64 0, .slice none 0 0, .slice none 0 0], .int .i64 505]) (by simp [results, Tryz.results25, go_sem, r0, r1, r2, r3, r4]) rfl ⟨rfl, HB'.out⟩
        · rw [if_neg (fun k => by cases k.1)]
          have n47 : ((p1[0].toNat : Int) != 47) = false := by unfold bne; rw [h47]; rfl
          by_cases h512 : 512 < p1.size
          · rw [if_pos h512]
            have hlB : decide ((512 : Int) < (p1.size : Int)) = true := decide_eq_true (by omega)
            clear h512
            go_enter Tryz.func25, Tryz.ntmps25
            go_wp2_with fail
            refine H1.out.mono ?_
            rintro e w1 ⟨b, c, rfl, I0⟩
            have s0 := I0.c0
            have s1 := I0.c1
            have s2 := I0.c2
            clear H1
            go_wp2_with fail
            refine (HK.out _).mono ?_
            rintro e w2 ⟨rfl, rfl⟩
            go_wp2_with fail
            refine (HG.out _).mono ?_
            rintro e w3 ⟨rfl, rfl⟩
            have HW := five_cells I0.own (.string ⟨#[]⟩) (.string ⟨#[]⟩) (.int .i64 0) (.slice none 0 0) (.slice none 0 0)
            have HB := five_below (.string ⟨#[]⟩) (.string ⟨#[]⟩) (.int .i64 0) (.slice none 0 0) (.slice none 0 0) I0.below (Nat.le_refl _)
            have a0 := tblk_cell (i := 0) I0.own rfl
            have z0 := lblk_z (i := 0) I0.own
            have a1 := tblk_cell (i := 1) I0.own rfl
            have z1 := lblk_z (i := 1) I0.own
            have a2 := tblk_cell (i := 2) I0.own rfl
            have z2 := lblk_z (i := 2) I0.own
            have a3 := tblk_cell (i := 3) I0.own rfl
            have z3 := lblk_z (i := 3) I0.own
            have a4 := tblk_cell (i := 4) I0.own rfl
            have z4 := lblk_z (i := 4) I0.own
            have r0 := tblk_cell (i := 0) HW rfl
            have r1 := tblk_cell (i := 1) HW rfl
            have r2 := tblk_cell (i := 2) HW rfl
            have r3 := tblk_cell (i := 3) HW rfl
            have r4 := tblk_cell (i := 4) HW rfl
            unfold five at r0 r1 r2 r3 r4 HB
            have HB' : Hid _ := HB
            clear HB HW
            go_wp2
            refine bodyPost_ret (v := .tuple #[.agg #[.string ⟨#[]⟩, .string ⟨#[]⟩, .int .i64 0, .slice none 0 0, .slice none 0 0], .int .i64 414]) (by simp [results, Tryz.results25, go_sem, r0, r1, r2, r3, r4]) rfl ⟨rfl, HB'.out⟩
          · rw [if_neg h512]
            have hlB : decide ((512 : Int) < (p1.size : Int)) = false := decide_eq_false (by omega)
            clear h512
            cases ok
            · rw [if_pos rfl]
              go_enter Tryz.func25, Tryz.ntmps25
              go_wp2_with fail
              refine H1.out.mono ?_
              rintro e w1 ⟨b, c, rfl, I0⟩
              have s0 := I0.c0
              have s1 := I0.c1
              have s2 := I0.c2
              clear H1
              go_wp2_with fail
              refine (HK.out _).mono ?_
              rintro e w2 ⟨rfl, rfl⟩
              go_wp2_with fail
              refine (HG.out _).mono ?_
              rintro e w3 ⟨rfl, rfl⟩
              go_wp2_with fail
              refine (HV.out _).mono ?_
              rintro e w4 ⟨rfl, B4⟩
              have I1 := I0.next B4
              have t0 := I1.c0
              have t1 := I1.c1
              clear B4
              have HW := five_cells I1.own (.string ⟨#[]⟩) (.string ⟨#[]⟩) (.int .i64 0) (.slice none 0 0) (.slice none 0 0)
              have HB := five_below (.string ⟨#[]⟩) (.string ⟨#[]⟩) (.int .i64 0) (.slice none 0 0) (.slice none 0 0) I1.below (Nat.le_refl _)
              have a0 := tblk_cell (i := 0) I1.own rfl
              have z0 := lblk_z (i := 0) I1.own
              have a1 := tblk_cell (i := 1) I1.own rfl
              have z1 := lblk_z (i := 1) I1.own
              have a2 := tblk_cell (i := 2) I1.own rfl
              have z2 := lblk_z (i := 2) I1.own
              have a3 := tblk_cell (i := 3) I1.own rfl
              have z3 := lblk_z (i := 3) I1.own
              have a4 := tblk_cell (i := 4) I1.own rfl
              have z4 := lblk_z (i := 4) I1.own
              have r0 := tblk_cell (i := 0) HW rfl
              have r1 := tblk_cell (i := 1) HW rfl
              have r2 := tblk_cell (i := 2) HW rfl
              have r3 := tblk_cell (i := 3) HW rfl
              have r4 := tblk_cell (i := 4) HW rfl
              unfold five at r0 r1 r2 r3 r4 HB
              have HB' : Hid _ := HB
              clear HB HW
              go_wp2
              refine bodyPost_ret (v := .tuple #[.agg #[.string ⟨#[]⟩, .string ⟨#[]⟩, .int .i64 0, .slice none 0 0, .slice none 0 0], .int .i64 400]) (by simp [results, Tryz.results25, go_sem, r0, r1, r2, r3, r4]) rfl ⟨rfl, HB'.out⟩
            · rw [if_neg (by decide)]
              by_cases hM : M = 1
              · rw [if_neg (fun k => k hM)]
                subst hM
                by_cases hm : 1 < mi
                · rw [if_pos hm]
                  have hmB : decide ((1 : Int) < mi) = true := decide_eq_true hm
                  clear hm
                  go_enter Tryz.func25, Tryz.ntmps25
                  go_wp2_with fail
                  refine H1.out.mono ?_
                  rintro e w1 ⟨b, c, rfl, I0⟩
                  have s0 := I0.c0
                  have s1 := I0.c1
                  have s2 := I0.c2
                  clear H1
                  go_wp2_with fail
                  refine (HK.out _).mono ?_
                  rintro e w2 ⟨rfl, rfl⟩
                  go_wp2_with fail
                  refine (HG.out _).mono ?_
                  rintro e w3 ⟨rfl, rfl⟩
                  go_wp2_with fail
                  refine (HV.out _).mono ?_
                  rintro e w4 ⟨rfl, B4⟩
                  have I1 := I0.next B4
                  have t0 := I1.c0
                  have t1 := I1.c1
                  clear B4
                  have HW := five_cells I1.own (.string ⟨#[]⟩) (.string ⟨#[]⟩) (.int .i64 0) (.slice none 0 0) (.slice none 0 0)
                  have HB := five_below (.string ⟨#[]⟩) (.string ⟨#[]⟩) (.int .i64 0) (.slice none 0 0) (.slice none 0 0) I1.below (Nat.le_refl _)
                  have a0 := tblk_cell (i := 0) I1.own rfl
                  have z0 := lblk_z (i := 0) I1.own
                  have a1 := tblk_cell (i := 1) I1.own rfl
                  have z1 := lblk_z (i := 1) I1.own
                  have a2 := tblk_cell (i := 2) I1.own rfl
                  have z2 := lblk_z (i := 2) I1.own
                  have a3 := tblk_cell (i := 3) I1.own rfl
                  have z3 := lblk_z (i := 3) I1.own
                  have a4 := tblk_cell (i := 4) I1.own rfl
                  have z4 := lblk_z (i := 4) I1.own
                  have r0 := tblk_cell (i := 0) HW rfl
                  have r1 := tblk_cell (i := 1) HW rfl
                  have r2 := tblk_cell (i := 2) HW rfl
                  have r3 := tblk_cell (i := 3) HW rfl
                  have r4 := tblk_cell (i := 4) HW rfl
                  unfold five at r0 r1 r2 r3 r4 HB
                  have HB' : Hid _ := HB
                  clear HB HW
                  go_wp2
                  refine bodyPost_ret (v := .tuple #[.agg #[.string ⟨#[]⟩, .string ⟨#[]⟩, .int .i64 0, .slice none 0 0, .slice none 0 0], .int .i64 505]) (by simp [results, Tryz.results25, go_sem, r0, r1, r2, r3, r4]) rfl ⟨rfl, HB'.out⟩
                · rw [if_neg hm]
                  have hmB : decide ((1 : Int) < mi) = false := decide_eq_false hm
                  clear hm
                  go_enter Tryz.func25, Tryz.ntmps25
                  go_wp2_with fail
                  refine H1.out.mono ?_
                  rintro e w1 ⟨b, c, rfl, I0⟩
                  have s0 := I0.c0
                  have s1 := I0.c1
                  have s2 := I0.c2
                  clear H1
                  go_wp2_with fail
                  refine (HK.out _).mono ?_
                  rintro e w2 ⟨rfl, rfl⟩
                  go_wp2_with fail
                  refine (HG.out _).mono ?_
                  rintro e w3 ⟨rfl, rfl⟩
                  go_wp2_with fail
                  refine (HV.out _).mono ?_
                  rintro e w4 ⟨rfl, B4⟩
                  have I1 := I0.next B4
                  have t0 := I1.c0
                  have t1 := I1.c1
                  clear B4
                  have nb := I0.ne
                  have nb' : ¬ w.heap.size = b := fun e => nb e.symm
                  have d0 := tblk_cell (i := 0) I1.own rfl
                  have y0 := lblk_z (i := 0) I1.own
                  have d1 := tblk_cell (i := 1) I1.own rfl
                  have y1 := lblk_z (i := 1) I1.own
                  have d2 := tblk_cell (i := 2) I1.own rfl
                  have y2 := lblk_z (i := 2) I1.own
                  have d3 := tblk_cell (i := 3) I1.own rfl
                  have y3 := lblk_z (i := 3) I1.own
                  have d4 := tblk_cell (i := 4) I1.own rfl
                  have y4 := lblk_z (i := 4) I1.own
                  go_wp2_with fail
                  go_region_held3 (fun W => W.cell? ⟨b, 0, none⟩ = some (.string p0) ∧ W.cell? ⟨b, 1, none⟩ = some (.string p1)) (go_keep) (fail)
                  have HW := five_cells I1.own (.string p0) (.string p1) (.int .i64 mi) (.slice none 0 0) (.slice none 0 0)
                  have HB := five_below (.string p0) (.string p1) (.int .i64 mi) (.slice none 0 0) (.slice none 0 0) I1.below (Nat.le_refl _)
                  have r0 := tblk_cell (i := 0) HW rfl
                  have r1 := tblk_cell (i := 1) HW rfl
                  have r2 := tblk_cell (i := 2) HW rfl
                  have r3 := tblk_cell (i := 3) HW rfl
                  have r4 := tblk_cell (i := 4) HW rfl
                  unfold five at r0 r1 r2 r3 r4 HB
                  have HB' : Hid _ := HB
                  clear HB HW
                  go_wp2
                  refine bodyPost_ret (v := .tuple #[.agg #[.string p0, .string p1, .int .i64 mi, .slice none 0 0, .slice none 0 0], .int .i64 0]) (by simp [results, Tryz.results25, go_sem, r0, r1, r2, r3, r4]) rfl ⟨rfl, HB'.out.drew⟩
              · rw [if_pos hM]
                have hMB : (M != 1) = true := by simpa using hM
                clear hM
                go_enter Tryz.func25, Tryz.ntmps25
                go_wp2_with fail
                refine H1.out.mono ?_
                rintro e w1 ⟨b, c, rfl, I0⟩
                have s0 := I0.c0
                have s1 := I0.c1
                have s2 := I0.c2
                clear H1
                go_wp2_with fail
                refine (HK.out _).mono ?_
                rintro e w2 ⟨rfl, rfl⟩
                go_wp2_with fail
                refine (HG.out _).mono ?_
                rintro e w3 ⟨rfl, rfl⟩
                go_wp2_with fail
                refine (HV.out _).mono ?_
                rintro e w4 ⟨rfl, B4⟩
                have I1 := I0.next B4
                have t0 := I1.c0
                have t1 := I1.c1
                clear B4
                have HW := five_cells I1.own (.string ⟨#[]⟩) (.string ⟨#[]⟩) (.int .i64 0) (.slice none 0 0) (.slice none 0 0)
                have HB := five_below (.string ⟨#[]⟩) (.string ⟨#[]⟩) (.int .i64 0) (.slice none 0 0) (.slice none 0 0) I1.below (Nat.le_refl _)
                have a0 := tblk_cell (i := 0) I1.own rfl
                have z0 := lblk_z (i := 0) I1.own
                have a1 := tblk_cell (i := 1) I1.own rfl
                have z1 := lblk_z (i := 1) I1.own
                have a2 := tblk_cell (i := 2) I1.own rfl
                have z2 := lblk_z (i := 2) I1.own
                have a3 := tblk_cell (i := 3) I1.own rfl
                have z3 := lblk_z (i := 3) I1.own
                have a4 := tblk_cell (i := 4) I1.own rfl
                have z4 := lblk_z (i := 4) I1.own
                have r0 := tblk_cell (i := 0) HW rfl
                have r1 := tblk_cell (i := 1) HW rfl
                have r2 := tblk_cell (i := 2) HW rfl
                have r3 := tblk_cell (i := 3) HW rfl
                have r4 := tblk_cell (i := 4) HW rfl
                unfold five at r0 r1 r2 r3 r4 HB
                have HB' : Hid _ := HB
                clear HB HW
                go_wp2
                refine bodyPost_ret (v := .tuple #[.agg #[.string ⟨#[]⟩, .string ⟨#[]⟩, .int .i64 0, .slice none 0 0, .slice none 0 0], .int .i64 505]) (by simp [results, Tryz.results25, go_sem, r0, r1, r2, r3, r4]) rfl ⟨rfl, HB'.out⟩

set_option maxRecDepth 100000 in
set_option maxHeartbeats 4000000 in
theorem rreq_other (s : ByteArray) (w : World) (hs : s.size ≤ 4294967281) (hp : ¬ (partsB s).length = 3) :
    Calls Tryz.prog 25 #[.string s] w fun e w' => e = .returned (.tuple #[rqV (rqNo 400), .int .i64 (rqNo 400).code]) ∧ Below w.heap.size w w' := by
  have C0 : Below w.heap.size w (w.alloc (.cells #[.string ⟨#[]⟩, .string ⟨#[]⟩, .int .i64 0, .slice none 0 0, .slice none 0 0] 26)) := (Below.refl _ _).alloc (Nat.le_refl _) _
  have hg0 := tblk_new w (.cells #[.string ⟨#[]⟩, .string ⟨#[]⟩, .int .i64 0, .slice none 0 0, .slice none 0 0] 26)
  have H1 : Hid (Calls Tryz.prog 58 #[.string s] (w.alloc (.cells #[.string ⟨#[]⟩, .string ⟨#[]⟩, .int .i64 0, .slice none 0 0, .slice none 0 0] 26)) fun e w' => ∃ b c, e = .returned (.slice (some ⟨b, 0, none⟩) (partsB s).length c) ∧ Below w.heap.size w w' ∧ w'.heap[w.heap.size]? = some (.cells #[.string ⟨#[]⟩, .string ⟨#[]⟩, .int .i64 0, .slice none 0 0, .slice none 0 0] 26)) := by
    refine (rparts_any s _ hs).mono ?_
    rintro e w' ⟨g, c, he, hO, B⟩
    exact ⟨g, c, he, C0.trans (B.mono C0.size), tblk_below hg0 B⟩
  have hn : (((partsB s).length : Int) != 3) = true := by
    simp
    omega
  clear hp hs hg0 C0
  generalize (partsB s).length = n at *
  go_enter Tryz.func25, Tryz.ntmps25
  go_wp2_with fail
  refine H1.out.mono ?_
  rintro e w1 ⟨b, c, rfl, C1, hg1⟩
  clear H1
  have HW := five_cells hg1 (.string ⟨#[]⟩) (.string ⟨#[]⟩) (.int .i64 0) (.slice none 0 0) (.slice none 0 0)
  have HB := five_below (.string ⟨#[]⟩) (.string ⟨#[]⟩) (.int .i64 0) (.slice none 0 0) (.slice none 0 0) C1 (Nat.le_refl _)
  have a0 := tblk_cell (i := 0) hg1 rfl
  have z0 := lblk_z (i := 0) hg1
  have a1 := tblk_cell (i := 1) hg1 rfl
  have z1 := lblk_z (i := 1) hg1
  have a2 := tblk_cell (i := 2) hg1 rfl
  have z2 := lblk_z (i := 2) hg1
  have a3 := tblk_cell (i := 3) hg1 rfl
  have z3 := lblk_z (i := 3) hg1
  have a4 := tblk_cell (i := 4) hg1 rfl
  have z4 := lblk_z (i := 4) hg1
  have r0 := tblk_cell (i := 0) HW rfl
  have r1 := tblk_cell (i := 1) HW rfl
  have r2 := tblk_cell (i := 2) HW rfl
  have r3 := tblk_cell (i := 3) HW rfl
  have r4 := tblk_cell (i := 4) HW rfl
  unfold five at r0 r1 r2 r3 r4 HB
  have HB' : Hid _ := HB
  clear HB HW
  go_wp2
  refine bodyPost_ret (v := .tuple #[.agg #[.string ⟨#[]⟩, .string ⟨#[]⟩, .int .i64 0, .slice none 0 0, .slice none 0 0], .int .i64 400]) (by simp [results, Tryz.results25, go_sem, r0, r1, r2, r3, r4]) rfl ⟨rfl, HB'.out⟩

theorem rreq_any (s : ByteArray) (w : World) (hs : s.size ≤ 4294967281) :
    Calls Tryz.prog 25 #[.string s] w fun e w' => e = .returned (.tuple #[rqV (refQ s), .int .i64 (refQ s).code]) ∧ Below w.heap.size w w' := by
  unfold refQ
  split
  · rename_i p0 p1 p2 h
    exact rreq_three p0 p1 p2 s w hs h
  · rename_i h
    refine rreq_other s w hs ?_
    intro h3
    match hl : partsB s, h3 with
    | [a, b, c], _ => exact h a b c hl
end Go.Proofs.YthbjdbookiejeabGreatDoor
