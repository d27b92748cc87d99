/- tell: a right record's line. -/
import Derived.Test.YtdibldocfhpnkaaDoorEnB
import Derived.Test.YtdibldocfhpnkaaDoorTsA
import Derived.Test.YtdibldocfhpnkaaDoorLtA
import Derived.Test.YtdibldocfhpnkaaDoorShJoin
import Derived.Lib.ItoaLen
namespace Go.Proofs.YtdibldocfhpnkaaDoor
open Go.RowKit
set_option linter.unusedVariables false

theorem en_one {B : Nat} {w : World} {v : Value} {X : List ByteArray} (x : ByteArray) (h : OwnT B w v X) (hmax : X.length + 1 ≤ 4294967296) (hB : B ≤ w.heap.size) :
    ∃ v' w', (Builtin.append_ #[55, 55] 55 #[v, .slice (some ⟨w.heap.size, 0, none⟩) 1 1]).run Tryd.prog (w.alloc (.cells #[.string x] 9)) = .ok v' w' ∧ OwnT B w' v' (X ++ [x]) ∧ Below B w w' := by
  have BA : Below w.heap.size w (w.alloc (.cells #[.string x] 9)) := (Below.refl _ _).alloc (Nat.le_refl _) _
  obtain ⟨v', w', r, O, b⟩ := ownT_append (h.keep BA) (one_txs w x (w.heap.size + 1) (Nat.lt_succ_self _)) hmax (Nat.le_trans hB BA.size)
  exact ⟨v', w', r, O, (BA.mono hB).trans b⟩
theorem two_txs (w : World) (x y : ByteArray) (C : Nat) (h : w.heap.size < C) : Txs C (w.alloc (.cells #[.string x, .string y] 9)) (.slice (some ⟨w.heap.size, 0, none⟩) 2 2) [x, y] := by
  refine ⟨_, 2, rfl, (fun e => by cases e), Nat.le_refl _, by unfold maxLen; omega, fun _ => ⟨w.heap.size, 0, rfl, h, fun j hj => ?_⟩⟩
  have hn := tblk_new w (.cells #[.string x, .string y] 9)
  have e : j = 0 ∨ j = 1 := by have : [x, y].length = 2 := rfl; omega
  rcases e with rfl | rfl
  · exact tblk_cell hn rfl
  · exact tblk_cell hn rfl
theorem en_two {B : Nat} {w : World} {v : Value} {X : List ByteArray} (x y : ByteArray) (h : OwnT B w v X) (hmax : X.length + 2 ≤ 4294967296) (hB : B ≤ w.heap.size) :
    ∃ v' w', (Builtin.append_ #[55, 55] 55 #[v, .slice (some ⟨w.heap.size, 0, none⟩) 2 2]).run Tryd.prog (w.alloc (.cells #[.string x, .string y] 9)) = .ok v' w' ∧ OwnT B w' v' (X ++ [x, y]) ∧ Below B w w' := by
  have BA : Below w.heap.size w (w.alloc (.cells #[.string x, .string y] 9)) := (Below.refl _ _).alloc (Nat.le_refl _) _
  obtain ⟨v', w', r, O, b⟩ := ownT_append (h.keep BA) (two_txs w x y (w.heap.size + 1) (Nat.lt_succ_self _)) hmax (Nat.le_trans hB BA.size)
  exact ⟨v', w', r, O, (BA.mono hB).trans b⟩
/-- A record's words, and its line. -/
def wordsE (e : EntP) : List ByteArray := ((numsE e).take 4).map itoaS ++ [e.m, e.t] ++ ((numsE e).drop 4).map itoaS
def lineL (e : EntP) : List UInt8 := Lib.join ((wordsE e).map (·.data.toList)) [32] ++ [10]
def lineB (e : EntP) : ByteArray := ⟨(lineL e).toArray⟩
theorem wordsE_len (e : EntP) : (wordsE e).length = 9 := rfl
theorem right_bd {e : EntP} (h : rightE e = true) : (∀ z ∈ numsE e, 0 ≤ z ∧ z ≤ 1125899906842624) ∧ e.m.size ≤ 20 ∧ e.t.size ≤ 512 ∧ tokS e.m = true ∧ tgtP e.t = true := by
  unfold rightE withinP inB at h
  simp only [Bool.and_eq_true, decide_eq_true_eq] at h
  obtain ⟨⟨⟨h1, h2⟩, ⟨h3, h4⟩, ⟨h5, h6⟩, ⟨h7, h8⟩, ⟨h9, h10⟩, ⟨h11, h12⟩, h13, h14⟩, h15, h16, h17, h18⟩ := h
  refine ⟨fun z hz => ?_, h15, h17, h16, h18⟩
  unfold numsE at hz
  simp only [List.mem_cons, List.not_mem_nil, or_false] at hz
  rcases hz with rfl | rfl | rfl | rfl | rfl | rfl | rfl <;> omega
theorem joinTail_le (ws : List (List UInt8)) (n : Nat) (h : ∀ x ∈ ws, x.length ≤ n) : (Lib.joinTail [32] ws).length ≤ ws.length * (n + 1) := by
  induction ws with
  | nil => exact Nat.zero_le _
  | cons x r ih =>
    have e : Lib.joinTail [32] (x :: r) = (32 :: x) ++ Lib.joinTail [32] r := rfl
    rw [e, List.length_append, List.length_cons, List.length_cons, Nat.succ_mul]
    have := ih fun y hy => h y (List.mem_cons_of_mem _ hy)
    have := h x (List.mem_cons_self)
    omega
theorem join_le (ws : List (List UInt8)) (n : Nat) (h : ∀ x ∈ ws, x.length ≤ n) : (Lib.join ws [32]).length ≤ ws.length * (n + 1) := by
  cases ws with
  | nil => exact Nat.zero_le _
  | cons x r =>
    rw [Lib.join_cons, List.length_append, List.length_cons, Nat.succ_mul]
    have := joinTail_le r n fun y hy => h y (List.mem_cons_of_mem _ hy)
    have := h x (List.mem_cons_self)
    omega
theorem line_le {e : EntP} (h : rightE e = true) : (lineL e).length ≤ 5000 := by
  obtain ⟨h1, h2, h3, _⟩ := right_bd h
  have k := join_le ((wordsE e).map (·.data.toList)) 512 (fun x hx => by
    obtain ⟨y, hy, rfl⟩ := List.mem_map.1 hx
    have hz : ∀ z ∈ numsE e, (itoaS z).data.toList.length ≤ 512 := fun z hz => by
      have a := h1 z hz
      have b := Lib.itoa_length_le z (by omega) (by omega)
      show (Lib.itoa z).length ≤ _
      omega
    unfold wordsE at hy
    simp only [List.mem_append, List.mem_map, List.mem_cons, List.not_mem_nil, or_false] at hy
    rcases hy with (⟨z, hzm, rfl⟩ | rfl | rfl) | ⟨z, hzm, rfl⟩
    · exact hz z ((List.take_sublist _ _).subset hzm)
    · show e.m.size ≤ _; omega
    · show e.t.size ≤ _; omega
    · exact hz z ((List.drop_sublist _ _).subset hzm))
  unfold lineL
  rw [List.length_append]
  rw [List.length_map, wordsE_len] at k
  have : ([10] : List UInt8).length = 1 := rfl
  omega
theorem arr_cell {w : World} {b : Nat} {e : EntP} {t : TypeId} (h : w.heap[b]? = some (.cells (arrV e) t)) (i : Nat) (hi : i < (numsE e).length) : w.cell? ⟨b, i, none⟩ = some (.int .i64 (numsE e)[i]) := by
  refine tblk_cell h ?_
  show (((numsE e).map (Value.int .i64)).toArray)[i]? = _
  rw [List.getElem?_toArray, List.getElem?_map, List.getElem?_eq_getElem hi]; rfl
theorem make9 : ∃ Z : Array Value, Z.size = 9 ∧ ∀ w : World, (Instr.makeSlice 55 (.int .i64 0) (.int .i64 9)).run Tryd.prog w = .ok (.slice (some ⟨w.heap.size, 0, none⟩) 0 9) (w.alloc (.cells Z 9)) := by
  obtain ⟨i, hi, hz0, hz1, hz2⟩ := info_parts info9
  refine ⟨madeCells (Value.string ByteArray.empty).cells 9, by simp [madeCells, Value.cells], fun w => ?_⟩
  have k := run_make (P := Tryd.prog) w 55 9 i (.string ByteArray.empty) Tryd.underlying55 hi hz0 .i64 .i64 0 9 (by omega) (by omega) (by rw [hz2]; omega) (by omega)
  rw [hz1] at k
  exact k
set_option maxRecDepth 100000 in
set_option maxHeartbeats 3200000 in
theorem entell_any (e : EntP) (w : World) (hr : rightE e = true) (hP : PowT w) : Calls Tryd.prog 18 #[.agg (entV e)] w fun r w' => r = .returned (.string (lineB e)) ∧ Below w.heap.size w w' := by
  have HN : Hid (∀ W, Calls Tryd.prog 19 #[.agg (entV e)] W fun r w' => r = .returned (.agg (arrV e)) ∧ Below W.heap.size W w') := fun W => ennums_any e W
  have HT : Hid (∀ z ∈ numsE e, ∀ W, Below w.heap.size w W → Calls Tryd.prog 33 #[.int .i64 z] W fun r w' => r = .returned (.string (itoaS z)) ∧ Below W.heap.size W w') := fun z hz W hW => text_any z (by have := ((right_bd hr).1 z hz).1; omega) (by have := ((right_bd hr).1 z hz).2; omega) W (hP.below hW)
  have hll := line_le hr
  have BA : Below w.heap.size w (w.alloc (.cells (entV e) 23)) := (Below.refl _ _).alloc (Nat.le_refl _) _
  have NA := tblk_new w (.cells (entV e) 23)
  have HLL : Hid ((lineL e).length ≤ 5000) := hll
  have HLB : Hid (lineB e = ⟨(Lib.join ((wordsE e).map (fun x : ByteArray => x.data.toList)) [32] ++ [10]).toArray⟩) := rfl
  have HWD : Hid (wordsE e = ((numsE e).take 4).map itoaS ++ [e.m, e.t] ++ ((numsE e).drop 4).map itoaS) := rfl
  have hnl : (numsE e).length = 7 := rfl
  have HARR : Hid (∀ (W : World) (b : Nat) (t : TypeId), W.heap[b]? = some (.cells (arrV e) t) → ∀ (i : Nat) (hi : i < (numsE e).length), W.cell? ⟨b, i, none⟩ = some (.int .i64 (numsE e)[i])) := fun W b t h => arr_cell h
  have HAV : Hid (arrV e = #[.int .i64 e.q, .int .i64 e.a, .int .i64 e.k, .int .i64 e.n, .int .i64 e.c, .int .i64 e.u, .int .i64 e.d]) := rfl
  generalize hls : numsE e = ns at *
  generalize lineB e = LB at *
  clear hr hP hll hls
  obtain ⟨q, a, k, n, m, t, c, u, d⟩ := e
  unfold entV at *
  simp only at *
  have HLL2 : Hid ((lineL ⟨q, a, k, n, m, t, c, u, d⟩).length ≤ 5000) := HLL
  clear HLL
  generalize hwd : wordsE ⟨q, a, k, n, m, t, c, u, d⟩ = wd at *
  have HJL : Hid ((Lib.join (wd.map (fun x : ByteArray => x.data.toList)) [32]).length ≤ 5000) := by
    have h := HLL2.out
    unfold lineL at h
    rw [hwd, List.length_append] at h
    rw [Hid]; omega
  clear HLL2 hwd
  rw [HAV.out] at HN HARR
  clear HAV
  go_enter Tryd.func18, Tryd.ntmps18
  go_wp2_with fail
  refine (HN.out _).mono ?_
  rintro r w1 ⟨rfl, B1⟩
  have D1 := BA.trans (B1.mono BA.size)
  have N1 := tblk_below NA B1
  clear NA BA B1 HN
  obtain ⟨Z9, hZ9, hmk⟩ := make9
  have BN : Below w1.heap.size w1 (w1.alloc (.cells #[.int .i64 q, .int .i64 a, .int .i64 k, .int .i64 n, .int .i64 c, .int .i64 u, .int .i64 d] 48)) := (Below.refl _ _).alloc (Nat.le_refl _) _
  have NN := tblk_new w1 (.cells #[.int .i64 q, .int .i64 a, .int .i64 k, .int .i64 n, .int .i64 c, .int .i64 u, .int .i64 d] 48)
  have D2 := D1.trans (BN.mono D1.size)
  have N2 := tblk_below N1 BN
  have s2 : (w1.alloc (.cells #[.int .i64 q, .int .i64 a, .int .i64 k, .int .i64 n, .int .i64 c, .int .i64 u, .int .i64 d] 48)).heap.size = w1.heap.size + 1 := by simp
  have hlw : w.heap.size < w1.heap.size := (Array.getElem?_eq_some_iff.1 N1).1
  have HCN : Hid (∀ W, Below (w1.heap.size + 1) (w1.alloc (.cells #[.int .i64 q, .int .i64 a, .int .i64 k, .int .i64 n, .int .i64 c, .int .i64 u, .int .i64 d] 48)) W → ∀ (i : Nat) (hi : i < ns.length), W.cell? ⟨w1.heap.size, i, none⟩ = some (.int .i64 ns[i])) := fun W hW => HARR.out W w1.heap.size _ ((hW.block _ (by omega)).trans NN)
  have HCE : Hid (∀ W, Below (w1.heap.size + 1) (w1.alloc (.cells #[.int .i64 q, .int .i64 a, .int .i64 k, .int .i64 n, .int .i64 c, .int .i64 u, .int .i64 d] 48)) W → W.cell? ⟨w.heap.size, 4, none⟩ = some (.string m) ∧ W.cell? ⟨w.heap.size, 5, none⟩ = some (.string t) ∧ Below w.heap.size w W) := fun W hW => ⟨tblk_cell ((hW.block _ (by omega)).trans N2) rfl, tblk_cell ((hW.block _ (by omega)).trans N2) rfl, D2.trans (hW.mono (by omega))⟩
  have O3 : OwnT (w1.heap.size + 1) ((w1.alloc (.cells #[.int .i64 q, .int .i64 a, .int .i64 k, .int .i64 n, .int .i64 c, .int .i64 u, .int .i64 d] 48)).alloc (.cells Z9 9)) (.slice (some ⟨w1.heap.size + 1, 0, none⟩) 0 9) [] :=
    ⟨rfl, .inr ⟨w1.heap.size + 1, 9, _, rfl, Nat.le_refl _, (by have := tblk_new (w1.alloc (.cells #[.int .i64 q, .int .i64 a, .int .i64 k, .int .i64 n, .int .i64 c, .int .i64 u, .int .i64 d] 48)) (.cells Z9 9); rw [s2] at this; exact this), Nat.zero_le _, by decide, by rw [hZ9], by simp⟩⟩
  have B3 : Below (w1.heap.size + 1) (w1.alloc (.cells #[.int .i64 q, .int .i64 a, .int .i64 k, .int .i64 n, .int .i64 c, .int .i64 u, .int .i64 d] 48)) ((w1.alloc (.cells #[.int .i64 q, .int .i64 a, .int .i64 k, .int .i64 n, .int .i64 c, .int .i64 u, .int .i64 d] 48)).alloc (.cells Z9 9)) := (Below.refl _ _).alloc (Nat.le_of_eq s2.symm) _
  have hsw : w1.heap.size + 1 ≤ (w1.alloc (.cells #[.int .i64 q, .int .i64 a, .int .i64 k, .int .i64 n, .int .i64 c, .int .i64 u, .int .i64 d] 48)).heap.size := Nat.le_of_eq s2.symm
  clear BN NN D2 N2 D1 N1 s2 hlw HARR
  go_wp2_with fail
  generalize hWN : w1.alloc (.cells #[.int .i64 q, .int .i64 a, .int .i64 k, .int .i64 n, .int .i64 c, .int .i64 u, .int .i64 d] 48) = WN at *
  have HSW : Hid (w1.heap.size + 1 ≤ WN.heap.size) := hsw
  clear hWN hmk hsw
  go_loopw [4, 14] (fun v4 vi wr => ∃ i : Nat, i ≤ 4 ∧ vi = .int .i64 i ∧ Hid (OwnT (w1.heap.size + 1) wr v4 ((ns.take i).map itoaS) ∧ Below (w1.heap.size + 1) WN wr)) (fun _ vi _ => 4 - (intOf vi).toNat)
  case atStart => exact ⟨0, Nat.zero_le _, rfl, O3, B3⟩
  case round =>
    obtain ⟨i, hi, rfl, hO⟩ := hrel
    clear O3 B3
    have hs3 : w1.heap.size + 1 ≤ wr.heap.size := Nat.le_trans HSW.out hO.out.2.size
    rename Value => v4
    by_cases hlt : i < 4
    · have hiN : i < ns.length := by rw [hnl]; omega
      have hcell := HCN.out _ hO.out.2 i hiN
      have HTX := HT.out _ (List.getElem_mem hiN)
      have hDW := (HCE.out _ hO.out.2).2.2
      have hsn : (ns.take (i + 1)).map itoaS = (ns.take i).map itoaS ++ [itoaS ns[i]] := by rw [List.take_succ_eq_append_getElem hiN, List.map_append]; rfl
      have HSN : Hid ((ns.take (i + 1)).map itoaS = (ns.take i).map itoaS ++ [itoaS ns[i]]) := hsn
      generalize ns[i] = z at *
      have HT1 : Hid (Calls Tryd.prog 33 #[.int .i64 z] wr fun r w' => r = .returned (.string (itoaS z)) ∧ Below wr.heap.size wr w') := HTX wr hDW
      have ii : (i : Int) < 4 := by omega
      clear HTX hsn hiN hDW
      go_wp2_with fail
      refine HT1.out.mono ?_
      rintro r w4 ⟨rfl, B4⟩
      obtain ⟨v5, w5, r5, O5, B5⟩ := en_one (itoaS z) (hO.out.1.keep B4) (by rw [List.length_map, List.length_take]; omega) (Nat.le_trans hs3 B4.size)
      rw [← HSN.out] at O5
      have D5 : Below (w1.heap.size + 1) WN w5 := (hO.out.2.trans (B4.mono hs3)).trans B5
      go_wp2_with (at_builtin; refine wpList_append_run2 rfl _ _ 55 55 rfl _ _ _ w5 rfl rfl r5 ?_)
      go_wp2
      go_roundw
      case rel => exact ⟨i + 1, by omega, by go_num, O5, D5⟩
      case measure => simp [intOf]; omega
    · have hi4 : i = 4 := by omega
      subst hi4
      obtain ⟨cm, ct, hDW⟩ := HCE.out _ hO.out.2
      obtain ⟨v5, w5, r5, O5, B5⟩ := en_two m t hO.out.1 (by rw [List.length_map, List.length_take]; omega) hs3
      have D5 : Below (w1.heap.size + 1) WN w5 := hO.out.2.trans B5
      have HO5 : Hid (OwnT (w1.heap.size + 1) w5 v5 ((ns.take 4).map itoaS ++ [m, t]) ∧ Below (w1.heap.size + 1) WN w5) := ⟨O5, D5⟩
      have hnot : ¬ ((4 : Nat) : Int) < 4 := by omega
      clear O5 D5 B5 hO hlt hDW hi
      go_wp2_with (at_builtin; refine wpList_append_run2 rfl _ _ 55 55 rfl _ _ _ w5 rfl rfl r5 ?_)
      clear r5 cm ct hnot
      rename World => wo
      go_loopw [4, 33] (fun v4 vi wr => ∃ i : Nat, i ≤ 3 ∧ vi = .int .i64 i ∧ Hid (OwnT (w1.heap.size + 1) wr v4 ((ns.take 4).map itoaS ++ [m, t] ++ ((ns.drop 4).take i).map itoaS) ∧ Below (w1.heap.size + 1) WN wr)) (fun _ vi _ => 3 - (intOf vi).toNat)
      case atStart => exact ⟨0, Nat.zero_le _, rfl, by rw [List.take_zero, List.map_nil, List.append_nil]; exact HO5.out⟩
      case round =>
        obtain ⟨i, hi, rfl, hO⟩ := hrel
        clear HO5
        have hs4 : w1.heap.size + 1 ≤ wr.heap.size := Nat.le_trans HSW.out hO.out.2.size
        by_cases hlt : i < 3
        · have hiN : 4 + i < ns.length := by rw [hnl]; omega
          have hiD : i < (ns.drop 4).length := by rw [List.length_drop, hnl]; omega
          have hcell := HCN.out _ hO.out.2 (4 + i) hiN
          have HTX := HT.out _ (List.getElem_mem hiN)
          have hDW := (HCE.out _ hO.out.2).2.2
          have HSN : Hid ((ns.take 4).map itoaS ++ [m, t] ++ ((ns.drop 4).take (i + 1)).map itoaS = (ns.take 4).map itoaS ++ [m, t] ++ ((ns.drop 4).take i).map itoaS ++ [itoaS ns[4 + i]]) := by
            rw [Hid, List.take_succ_eq_append_getElem hiD, List.map_append, ← List.append_assoc, List.getElem_drop]; rfl
          generalize ns[4 + i] = z at *
          have HT1 : Hid (Calls Tryd.prog 33 #[.int .i64 z] wr fun r w' => r = .returned (.string (itoaS z)) ∧ Below wr.heap.size wr w') := HTX wr hDW
          have ii : (i : Int) < 3 := by omega
          clear HTX hiN hDW hiD
          go_wp2_with fail
          refine HT1.out.mono ?_
          rintro r w4 ⟨rfl, B4⟩
          obtain ⟨v5, w6, r6, O6, B6⟩ := en_one (itoaS z) (hO.out.1.keep B4) (by simp only [List.length_append, List.length_map, List.length_take, List.length_drop, List.length_cons, List.length_nil]; omega) (Nat.le_trans hs4 B4.size)
          rw [← HSN.out] at O6
          have D6 : Below (w1.heap.size + 1) WN w6 := (hO.out.2.trans (B4.mono hs4)).trans B6
          go_wp2_with (at_builtin; refine wpList_append_run2 rfl _ _ 55 55 rfl _ _ _ w6 rfl rfl r6 ?_)
          go_wp2
          go_roundw
          case rel => exact ⟨i + 1, by omega, by go_num, O6, D6⟩
          case measure => simp [intOf]; omega
        · have hi3 : i = 3 := by omega
          subst hi3
          have e3 : (ns.drop 4).take 3 = ns.drop 4 := List.take_of_length_le (by rw [List.length_drop, hnl]; omega)
          have hO2 := hO.out.1
          rw [e3, ← HWD.out] at hO2
          have h9 : wd.length = 9 := by rw [HWD.out]; simp only [List.length_append, List.length_map, List.length_take, List.length_drop, List.length_cons, List.length_nil, hnl]; rfl
          obtain ⟨a7, c7, e7, hn7, q71, q72, q73⟩ := hO2.txs
          subst e7
          obtain ⟨g7, o7, rfl, hg7, hc7⟩ := q73 (by omega)
          have HJ : Hid (Calls Tryd.prog 34 #[.slice (some ⟨g7, o7, none⟩) wd.length c7, .string ⟨#[32]⟩] wr fun e w' => e = .returned (.string ⟨(Lib.join (wd.map (fun x : ByteArray => x.data.toList)) [32]).toArray⟩) ∧ Below wr.heap.size wr w') :=
            Tryd.strings_Join g7 o7 c7 wd ⟨#[32]⟩ wr (fun j y hj => by
              obtain ⟨hjl, rfl⟩ := List.getElem?_eq_some_iff.1 hj
              exact hc7 j hjl) hg7 (by omega) q71 (by have := HJL.out; show (Lib.join _ [32]).length ≤ _; omega)
          have hcat : ∀ W : World, (Op.stringOp .add (⟨(Lib.join (wd.map (fun x : ByteArray => x.data.toList)) [32]).toArray⟩ : ByteArray) ⟨#[10]⟩).run Tryd.prog W = .ok (.string LB) W := fun W => by
            have q := sum_run W ⟨(Lib.join (wd.map (fun x : ByteArray => x.data.toList)) [32]).toArray⟩ ⟨#[10]⟩ (by
              have := HJL.out
              show (Lib.join _ [32]).toArray.size + 1 ≤ _
              rw [List.size_toArray]
              omega)
            rw [cat_data, ← HLB.out] at q
            exact q
          have hDW := (HCE.out _ hO.out.2).2.2
          have hnot : ¬ ((3 : Nat) : Int) < 3 := by omega
          clear hc7 q71 q72 q73 hn7 hO2 hO h9 e3 hlt hi HWD
          generalize (Lib.join (wd.map (fun x : ByteArray => x.data.toList)) [32]) = jn at *
          generalize wd.length = wn at *
          go_wp2_with fail
          refine HJ.out.mono ?_
          rintro e w8 ⟨rfl, B8⟩
          go_wp2
          go_ret
          exact ⟨rfl, hDW.trans (B8.mono hDW.size)⟩
end Go.Proofs.YtdibldocfhpnkaaDoor
