/- FrameBoth, walked. -/
import Derived.Test.YtflgjhknobnnaaaDoorFrE
import Derived.Test.YtflgjhknobnnaaaDoorFrJ
namespace Go.Proofs.YtflgjhknobnnaaaDoor
open Go.ChangeShapes Go.WideShapes Go.ChangeAt Go.RowKit
set_option linter.unusedVariables false

theorem getF_app (a b : Fs) (n : ByteArray) : getF (a ++ b) n = getF a n ++ getF b n := by unfold getF; rw [List.filter_append, List.map_append]
theorem splA_app (a b : List ByteArray) : splA (a ++ b) = splA a ++ splA b := by unfold splA; rw [List.flatMap_append]
theorem listF_app (a b : Fs) (n : ByteArray) : listF (a ++ b) n = listF a n ++ listF b n := by unfold listF; rw [getF_app, splA_app]
theorem getF_yes {k v n : ByteArray} (h : smT k n = true) : getF [(k, v)] n = [v] := by unfold getF; simp [h]
theorem getF_not {k v n : ByteArray} (h : smT k n = false) : getF [(k, v)] n = [] := by unfold getF; simp [h]
theorem listF_yes {k v n : ByteArray} (h : smT k n = true) : listF [(k, v)] n = splT v := by unfold listF; rw [getF_yes h]; unfold splA; simp
theorem listF_not {k v n : ByteArray} (h : smT k n = false) : listF [(k, v)] n = [] := by unfold listF; rw [getF_not h]; rfl
def cCL : ByteArray := ⟨#[67, 79, 78, 84, 69, 78, 84, 45, 108, 101, 110, 103, 116, 104]⟩
def cTE : ByteArray := ⟨#[116, 114, 97, 110, 115, 102, 101, 114, 45, 101, 110, 99, 111, 100, 105, 110, 103]⟩
theorem there_of {a b : Fs} {k v n : ByteArray} (h : smT k n = true) : thereF (a ++ [(k, v)] ++ b) n = true := by
  unfold thereF
  rw [getF_app, getF_app, getF_yes h]
  simp
  omega
theorem told_both (fs : Fs) (v y : ByteArray) (minor : Int) : toldF ([(cTE, v)] ++ fs ++ [(tCL, y)]) minor = (0, 0, 400) := by
  have h1 : thereF ([(cTE, v)] ++ fs ++ [(tCL, y)]) tTE = true := by
    have k := there_of (a := []) (b := fs ++ [(tCL, y)]) (v := v) (show smT cTE tTE = true by decide +kernel)
    simpa using k
  have h2 : thereF ([(cTE, v)] ++ fs ++ [(tCL, y)]) tCL = true := by
    have k := there_of (a := [(cTE, v)] ++ fs) (b := []) (v := y) (show smT tCL tCL = true by decide +kernel)
    simpa using k
  unfold toldF
  rw [h1, h2]; rfl
theorem list_two (fs : Fs) {X Y : List UInt8} {n m : Nat} (hx : Dgs X n) (hy : Dgs Y m) : listF ([(cCL, ⟨X.toArray⟩)] ++ fs ++ [(tCL, ⟨Y.toArray⟩)]) tCL = ⟨X.toArray⟩ :: (listF fs tCL ++ [⟨Y.toArray⟩]) := by
  rw [listF_app, listF_app, listF_yes (show smT cCL tCL = true by decide +kernel), listF_yes (show smT tCL tCL = true by decide +kernel), hx.spl, hy.spl]
  rfl
theorem there_two (fs : Fs) (x y : ByteArray) : thereF ([(cCL, x)] ++ fs ++ [(tCL, y)]) tCL = true := by
  have k := there_of (a := [(cCL, x)] ++ fs) (b := []) (v := y) (show smT tCL tCL = true by decide +kernel)
  simpa using k
theorem sameN_app (f : Int) (a b : List ByteArray) : sameN f (a ++ b) = (sameN f a && sameN f b) := by unfold sameN; rw [List.all_append]
theorem told_two (fs : Fs) {X Y : List UInt8} {n m : Nat} (hx : Dgs X n) (hy : Dgs Y m) (hm : n ≤ 4096) :
    toldF ([(cCL, ⟨X.toArray⟩)] ++ fs ++ [(tCL, ⟨Y.toArray⟩)]) 1 = (0, 0, 400) ∨ (n = m ∧ toldF ([(cCL, ⟨X.toArray⟩)] ++ fs ++ [(tCL, ⟨Y.toArray⟩)]) 1 = (1, (n : Int), 0)) := by
  have h2 := there_two fs ⟨X.toArray⟩ ⟨Y.toArray⟩
  have h3 : lengthF ([(cCL, ⟨X.toArray⟩)] ++ fs ++ [(tCL, ⟨Y.toArray⟩)]) = lenL (⟨X.toArray⟩ :: (listF fs tCL ++ [⟨Y.toArray⟩])) := by unfold lengthF; rw [list_two fs hx hy]
  have h4 : lenL (⟨X.toArray⟩ :: (listF fs tCL ++ [⟨Y.toArray⟩])) = if (sameN (n : Int) (listF fs tCL) && decide (m = n)) = true then ((n : Int), true) else (0, false) := by
    unfold lenL
    simp only [hx.num.1, hx.num.2, Bool.true_and]
    rw [sameN_app]
    have e : sameN (n : Int) [⟨Y.toArray⟩] = decide (m = n) := by
      unfold sameN
      simp only [List.all_cons, List.all_nil, hy.num.1, hy.num.2, Bool.true_and, Bool.and_true]
      by_cases q : m = n
      · rw [decide_eq_true q, decide_eq_true (by omega)]
      · rw [decide_eq_false q, decide_eq_false (by omega)]
    rw [e]
  rw [h4] at h3
  generalize [(cCL, (⟨X.toArray⟩ : ByteArray))] ++ fs ++ [(tCL, ⟨Y.toArray⟩)] = F at *
  unfold toldF
  rw [h2, h3]
  cases ht : thereF F tTE
  · by_cases hs : (sameN (n : Int) (listF fs tCL) && decide (m = n)) = true
    · right
      rw [if_pos hs]
      have hq : m = n := by
        have := (Bool.and_eq_true _ _ ▸ hs).2
        exact of_decide_eq_true this
      refine ⟨hq.symm, ?_⟩
      have : ¬ (4096 : Int) < (n : Int) := by omega
      simp [this]
    · left
      rw [if_neg hs]
      simp
  · left
    simp
theorem ownF_one {w : World} {g B : Nat} {n v : ByteArray} (h : w.heap[g]? = some (.cells #[.string n, .string v] 36)) (hB : B ≤ g) : OwnF B w (.slice (some ⟨g, 0, none⟩) 1 1) [(n, v)] :=
  ⟨rfl, .inr ⟨g, 1, _, rfl, hB, h, Nat.le_refl _, by decide, rfl, rfl⟩⟩
theorem FBd.app {N : Nat} {a b : Fs} (h : FBd N a) (k : FBd N b) : FBd N (a ++ b) := fun f hf => by
  rcases List.mem_append.1 hf with q | q
  · exact h f q
  · exact k f q

set_option maxRecDepth 100000 in
set_option maxHeartbeats 4000000 in
theorem both_walk (fs : Fs) (ad : Option Addr) (n c : Nat) (a0 b0 : Int) (both : Bool) (w : World) (hf : Fds w.heap.size w (.slice ad n c) fs) (hb : FBd 1048576 fs) (hM : MaxL w) :
    Calls Tryd.prog 5 #[.slice ad n c, .int .i64 a0, .int .i64 b0, .bool both] w fun e w' => e = .returned (.bool true) ∧ Below w.heap.size w w' := by
  obtain ⟨hle, h2, h3⟩ := hf.len
  unfold maxLen at h3
  subst hle
  obtain ⟨x, hx, hbx0⟩ := and_mask a0 4095 (by decide)
  have hbx : bits BinOp.and IntKind.i64 a0 4095 = (x : Int) := hbx0
  obtain ⟨y, hy, hby0⟩ := and_mask b0 4095 (by decide)
  have hby : bits BinOp.and IntKind.i64 b0 4095 = (y : Int) := hby0
  clear hbx0 hby0
  by_cases hbig : (100 : Int) < (fs.length : Int)
  · clear hf hb
    go_enter Tryd.func5, Tryd.ntmps5
    go_wp2_with fail
    refine (alive7_any _ hM).mono ?_
    rintro e w1 ⟨rfl, B1⟩
    go_wp2
    go_ret
    exact ⟨rfl, B1⟩
  · have hl : fs.length ≤ 100 := by omega
    have HF : Hid (Fds w.heap.size w (.slice ad fs.length c) fs) := hf
    have HB : Hid (FBd 1048576 fs) := hb
    have HX : Hid (x < 10000) := by rw [Hid]; omega
    have HY : Hid (y < 10000) := by rw [Hid]; omega
    clear hf hb
    go_enter Tryd.func5, Tryd.ntmps5
    go_wp2_with fail
    refine (alive7_any _ hM).mono ?_
    rintro e w1 ⟨rfl, B1⟩
    go_wp2_with fail
    refine (both1_any x HX.out _).mono ?_
    rintro e w2 ⟨X, rfl, DX, hXl, B2⟩
    have D2 := B1.trans (B2.mono B1.size)
    clear B1 B2
    go_wp2_with fail
    refine (of_any _ _ _).mono ?_
    rintro e w3 ⟨g3, rfl, hl3, hg3, B3⟩
    have D3 := D2.trans (B3.mono D2.size)
    have O3 : OwnF w.heap.size w3 (.slice (some ⟨g3, 0, none⟩) 1 1) [(cCL, ⟨X.toArray⟩)] := ownF_one hg3 (Nat.le_trans D2.size hl3)
    obtain ⟨v4, w4, r4, O4, B4⟩ := ownF_append O3 (HF.out.keep D3) (by simp; omega) D3.size
    have D4 := D3.trans B4
    obtain ⟨F4, hF4⟩ : ∃ F : Fs, F = [(cCL, (⟨X.toArray⟩ : ByteArray))] ++ fs := ⟨_, rfl⟩
    rw [← hF4] at O4
    obtain ⟨a4, c4, rfl, _⟩ := O4.form
    have HR4 : Hid _ := r4
    have HO4 : Hid (OwnF w.heap.size w4 (.slice a4 F4.length c4) F4) := O4
    have HD4 : Hid (Below w.heap.size w w4) := D4
    have HDX : Hid (Dgs X x) := DX
    have HXL : Hid (X.length ≤ 4) := hXl
    have HF4 : Hid (F4 = [(cCL, (⟨X.toArray⟩ : ByteArray))] ++ fs) := hF4
    have HL4 : Hid (F4.length ≤ 101) := by rw [Hid, hF4, List.length_append]; simp; omega
    clear B3 B4 O3 O4 r4 D2 D3 hg3 hl3 D4 DX hXl hF4
    go_wp2_with (at_builtin; refine wpList_append_run2 rfl _ _ 22 22 rfl _ _ _ w4 rfl rfl HR4.out ?_)
    refine (both1_any y HY.out _).mono ?_
    rintro e w5 ⟨Y, rfl, DY, hYl, B5⟩
    have D5 := HD4.out.trans (B5.mono HD4.out.size)
    have O5 := (HO4.out.keep B5).keep ((Below.refl _ _).alloc (Nat.le_refl _) (.cells #[.string tCL, .string ⟨Y.toArray⟩] 36))
    have G5 : (w5.alloc (.cells #[.string tCL, .string ⟨Y.toArray⟩] 36)).heap[w5.heap.size]? = some (.cells #[.string tCL, .string ⟨Y.toArray⟩] 36) := tblk_new _ _
    have E5 : Below w.heap.size w (w5.alloc (.cells #[.string tCL, .string ⟨Y.toArray⟩] 36)) := D5.alloc D5.size _
    obtain ⟨v6, w6, r6, O6, B6⟩ := ownF_append O5 (fds_one G5) (by have := HL4.out; simp; omega) E5.size
    have D6 := E5.trans B6
    obtain ⟨F6, hF6⟩ : ∃ F : Fs, F = F4 ++ [(tCL, (⟨Y.toArray⟩ : ByteArray))] := ⟨_, rfl⟩
    rw [← hF6] at O6
    obtain ⟨a6, c6, rfl, _⟩ := O6.form
    have hF6' : F6 = [(cCL, (⟨X.toArray⟩ : ByteArray))] ++ fs ++ [(tCL, (⟨Y.toArray⟩ : ByteArray))] := by rw [hF6, HF4.out]
    have hL6 : F6.length ≤ 102 := by rw [hF6, List.length_append]; have := HL4.out; simp; omega
    have BD6 : FBd 1048576 F6 := by
      rw [hF6']
      refine ((bd_one (by decide) ?_).app HB.out).app (bd_one (by decide) ?_)
      · show X.length ≤ _; have := HXL.out; omega
      · show Y.length ≤ _; omega
    have T6 := told_two fs HDX.out DY (by omega)
    rw [← hF6'] at T6
    have HR6 : Hid ((Builtin.append_ #[22, 22] 22 #[.slice a4 F4.length c4, .slice (some ⟨w5.heap.size, 0, none⟩) 1 1]).run Tryd.prog (w5.alloc (.cells #[.string ⟨#[67, 111, 110, 116, 101, 110, 116, 45, 76, 101, 110, 103, 116, 104]⟩, .string ⟨Y.toArray⟩] 36)) = .ok (.slice a6 F6.length c6) w6) := r6
    have HRQ : Hid (∀ W, Below w6.heap.size w6 W → Calls Tryd.prog 9 #[.slice a6 F6.length c6, .int .i64 1] W fun e w' => e = .returned (.tuple #[.int .i64 (reqF F6 1).1, .bool (reqF F6 1).2.1, .int .i64 (reqF F6 1).2.2]) ∧ Below W.heap.size W w') := fun W b => request_any F6 a6 c6 1 W (O6.fds.over b) BD6 (by omega) (hM.below (D6.trans (b.mono D6.size)))
    have HRS : Hid (∀ W, Below w6.heap.size w6 W → Calls Tryd.prog 13 #[.string ⟨#[71, 69, 84]⟩, .agg #[.int .i64 200, .string ⟨#[]⟩, .int .i64 1, .slice a6 F6.length c6, .slice none 0 0]] W fun e w' => e = .returned (.tuple #[.int .i64 (toldF F6 1).1, .int .i64 (toldF F6 1).2.1, .bool (decide ((toldF F6 1).2.2 = 0))]) ∧ Below W.heap.size W w') := fun W b => resp_full ⟨#[71, 69, 84]⟩ ⟨#[]⟩ 200 1 F6 a6 none c6 0 0 W (by decide +kernel) (O6.fds.over b) BD6 (by omega) (hM.below (D6.trans (b.mono D6.size)))
    have HT6 : Hid (toldF F6 1 = (0, 0, 400) ∨ x = y ∧ toldF F6 1 = (1, (x : Int), 0)) := T6
    have HD6 : Hid (Below w.heap.size w w6) := D6
    unfold reqF at HRQ
    generalize toldF F6 1 = E6 at *
    clear B5 D5 O5 G5 E5 r6 O6 B6 D6 hF6 hF6' hL6 BD6 T6 DY hYl HR4 HO4 HDX HXL HL4
    generalize F6.length = L6 at *
    cases both
    · rcases HT6.out with hE | ⟨hxy, hE⟩
      · subst hE
        clear HT6
        by_cases hxy : x = y
        · subst hxy
          go_wp2_with (at_builtin; refine wpList_append_run2 rfl _ _ 22 22 rfl _ _ _ w6 rfl rfl HR6.out ?_)
          refine (HRQ.out _ (Below.refl _ _)).mono ?_
          rintro e w7 ⟨rfl, B7⟩
          go_wp2_with fail
          refine (HRS.out _ B7).mono ?_
          rintro e w8 ⟨rfl, B8⟩
          have C8 := B7.trans (B8.mono B7.size)
          go_wp2_with fail
          refine (HRQ.out _ C8).mono ?_
          rintro e w9 ⟨rfl, B9⟩
          have C9 := C8.trans (B9.mono C8.size)
          go_wp2
          go_ret
          exact ⟨ret_bool (by simp), HD6.out.trans (C9.mono HD6.out.size)⟩
        · have hne : ((x : Int) != (y : Int)) = true := by
            have : ¬ (x : Int) = (y : Int) := by omega
            simpa using this
          clear hxy
          go_wp2_with (at_builtin; refine wpList_append_run2 rfl _ _ 22 22 rfl _ _ _ w6 rfl rfl HR6.out ?_)
          refine (HRQ.out _ (Below.refl _ _)).mono ?_
          rintro e w7 ⟨rfl, B7⟩
          go_wp2_with fail
          refine (HRS.out _ B7).mono ?_
          rintro e w8 ⟨rfl, B8⟩
          have C8 := B7.trans (B8.mono B7.size)
          go_wp2
          go_ret
          exact ⟨rfl, HD6.out.trans (C8.mono HD6.out.size)⟩
      · subst hE
        subst hxy
        clear HT6
        go_wp2_with (at_builtin; refine wpList_append_run2 rfl _ _ 22 22 rfl _ _ _ w6 rfl rfl HR6.out ?_)
        refine (HRQ.out _ (Below.refl _ _)).mono ?_
        rintro e w7 ⟨rfl, B7⟩
        go_wp2_with fail
        refine (HRS.out _ B7).mono ?_
        rintro e w8 ⟨rfl, B8⟩
        have C8 := B7.trans (B8.mono B7.size)
        go_wp2_with fail
        refine (HRQ.out _ C8).mono ?_
        rintro e w9 ⟨rfl, B9⟩
        have C9 := C8.trans (B9.mono C8.size)
        go_wp2
        go_ret
        exact ⟨ret_bool (by simp), HD6.out.trans (C9.mono HD6.out.size)⟩
    · clear HT6 HRQ HRS
      go_wp2_with (at_builtin; refine wpList_append_run2 rfl _ _ 22 22 rfl _ _ _ w6 rfl rfl HR6.out ?_)
      clear HR6
      refine (of_any _ _ _).mono ?_
      rintro e w7 ⟨g7, rfl, hl7, hg7, B7⟩
      have D7 := HD6.out.trans (B7.mono HD6.out.size)
      have O7 : OwnF w.heap.size w7 (.slice (some ⟨g7, 0, none⟩) 1 1) [(cTE, tCh)] := ownF_one hg7 (Nat.le_trans HD6.out.size hl7)
      obtain ⟨v8, w8, r8, O8, B8⟩ := ownF_append O7 (HF.out.keep D7) (by simp; omega) D7.size
      have D8 := D7.trans B8
      obtain ⟨F8, hF8⟩ : ∃ F : Fs, F = [(cTE, tCh)] ++ fs := ⟨_, rfl⟩
      rw [← hF8] at O8
      obtain ⟨a8, c8, rfl, _⟩ := O8.form
      have HR8 : Hid _ := r8
      have HO8 : Hid (OwnF w.heap.size w8 (.slice a8 F8.length c8) F8) := O8
      have HD8 : Hid (Below w.heap.size w w8) := D8
      have HF8 : Hid (F8 = [(cTE, tCh)] ++ fs) := hF8
      have HL8 : Hid (F8.length ≤ 101) := by rw [Hid, hF8, List.length_append]; simp; omega
      clear B7 B8 O7 O8 r8 D7 hg7 hl7 D8 hF8
      go_wp2_with (at_builtin; refine wpList_append_run2 rfl _ _ 22 22 rfl _ _ _ w8 rfl rfl HR8.out ?_)
      refine (both1_any y HY.out _).mono ?_
      rintro e w9 ⟨Z, rfl, DZ, hZl, B9⟩
      have D9 := HD8.out.trans (B9.mono HD8.out.size)
      have O9 := (HO8.out.keep B9).keep ((Below.refl _ _).alloc (Nat.le_refl _) (.cells #[.string tCL, .string ⟨Z.toArray⟩] 36))
      have G9 : (w9.alloc (.cells #[.string tCL, .string ⟨Z.toArray⟩] 36)).heap[w9.heap.size]? = some (.cells #[.string tCL, .string ⟨Z.toArray⟩] 36) := tblk_new _ _
      have E9 : Below w.heap.size w (w9.alloc (.cells #[.string tCL, .string ⟨Z.toArray⟩] 36)) := D9.alloc D9.size _
      obtain ⟨v10, w10, r10, O10, B10⟩ := ownF_append O9 (fds_one G9) (by have := HL8.out; simp; omega) E9.size
      have D10 := E9.trans B10
      obtain ⟨F10, hF10⟩ : ∃ F : Fs, F = F8 ++ [(tCL, (⟨Z.toArray⟩ : ByteArray))] := ⟨_, rfl⟩
      rw [← hF10] at O10
      obtain ⟨a10, c10, rfl, _⟩ := O10.form
      have hF10' : F10 = [(cTE, tCh)] ++ fs ++ [(tCL, (⟨Z.toArray⟩ : ByteArray))] := by rw [hF10, HF8.out]
      have hL10 : F10.length ≤ 102 := by rw [hF10, List.length_append]; have := HL8.out; simp; omega
      have BD10 : FBd 1048576 F10 := by
        rw [hF10']
        refine ((bd_one (by decide) (by decide)).app HB.out).app (bd_one (by decide) ?_)
        show Z.length ≤ _; omega
      have T10 := told_both fs tCh ⟨Z.toArray⟩ 1
      rw [← hF10'] at T10
      have HR10 : Hid ((Builtin.append_ #[22, 22] 22 #[.slice a8 F8.length c8, .slice (some ⟨w9.heap.size, 0, none⟩) 1 1]).run Tryd.prog (w9.alloc (.cells #[.string ⟨#[67, 111, 110, 116, 101, 110, 116, 45, 76, 101, 110, 103, 116, 104]⟩, .string ⟨Z.toArray⟩] 36)) = .ok (.slice a10 F10.length c10) w10) := r10
      have HRQ : Hid (∀ W, Below w10.heap.size w10 W → Calls Tryd.prog 9 #[.slice a10 F10.length c10, .int .i64 1] W fun e w' => e = .returned (.tuple #[.int .i64 (reqF F10 1).1, .bool (reqF F10 1).2.1, .int .i64 (reqF F10 1).2.2]) ∧ Below W.heap.size W w') := fun W b => request_any F10 a10 c10 1 W (O10.fds.over b) BD10 (by omega) (hM.below (D10.trans (b.mono D10.size)))
      have HRS : Hid (∀ W, Below w10.heap.size w10 W → Calls Tryd.prog 13 #[.string ⟨#[71, 69, 84]⟩, .agg #[.int .i64 200, .string ⟨#[]⟩, .int .i64 1, .slice a10 F10.length c10, .slice none 0 0]] W fun e w' => e = .returned (.tuple #[.int .i64 (toldF F10 1).1, .int .i64 (toldF F10 1).2.1, .bool (decide ((toldF F10 1).2.2 = 0))]) ∧ Below W.heap.size W w') := fun W b => resp_full ⟨#[71, 69, 84]⟩ ⟨#[]⟩ 200 1 F10 a10 none c10 0 0 W (by decide +kernel) (O10.fds.over b) BD10 (by omega) (hM.below (D10.trans (b.mono D10.size)))
      have HD10 : Hid (Below w.heap.size w w10) := D10
      unfold reqF at HRQ
      generalize toldF F10 1 = E10 at *
      subst T10
      clear B9 D9 O9 G9 E9 r10 O10 B10 D10 hF10 hF10' hL10 BD10 DZ hZl HR8 HO8 HL8 HF8
      generalize F10.length = L10 at *
      go_wp2_with (at_builtin; refine wpList_append_run2 rfl _ _ 22 22 rfl _ _ _ w10 rfl rfl HR10.out ?_)
      refine (HRQ.out _ (Below.refl _ _)).mono ?_
      rintro e w11 ⟨rfl, B11⟩
      go_wp2_with fail
      refine (HRS.out _ B11).mono ?_
      rintro e w12 ⟨rfl, B12⟩
      have C12 := B11.trans (B12.mono B11.size)
      go_wp2
      go_ret
      exact ⟨rfl, HD10.out.trans (C12.mono HD10.out.size)⟩
end Go.Proofs.YtflgjhknobnnaaaDoor
