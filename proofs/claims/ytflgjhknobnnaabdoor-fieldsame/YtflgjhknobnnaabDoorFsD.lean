/- The reference's Get, List and Has: what each answers of fields. -/
import Derived.Test.YtflgjhknobnnaabDoorFsC
import Derived.Test.YtflgjhknobnnaabDoorRefC
namespace Go.Proofs.YtflgjhknobnnaabDoor
open Go.ChangeShapes Go.WideShapes Go.ChangeAt Go.RowKit
set_option linter.unusedVariables false

theorem rsame_any (a b : ByteArray) (w : World) (ha : a.size ≤ 4294967281) (hb : b.size ≤ 4294967281) :
    Calls Tryd.prog 29 #[.string a, .string b] w fun e w' => e = .returned (.bool (smT a b)) ∧ Below w.heap.size w w' := by
  unfold smT
  go_enter Tryd.func29, Tryd.ntmps29
  go_wp2_with fail
  refine (rfold_any a _ ha).mono ?_
  rintro e w1 ⟨rfl, B1⟩
  go_wp2_with fail
  refine (rfold_any b _ hb).mono ?_
  rintro e w2 ⟨rfl, B2⟩
  go_wp2
  go_ret
  exact ⟨rfl, B1.trans (B2.mono B1.size)⟩

set_option maxRecDepth 100000 in
set_option maxHeartbeats 1000000 in
theorem rget_any (fs : Fs) (a : Option Addr) (c : Nat) (name : ByteArray) (w : World) (hf : Fds w.heap.size w (.slice a fs.length c) fs) (hb : FBd 1048576 fs) (hn : name.size ≤ 1048576) (hl : fs.length ≤ 1024) :
    Calls Tryd.prog 12 #[.slice a fs.length c, .string name] w fun e w' => ∃ ao cv, e = .returned (.slice ao (getF fs name).length cv) ∧ OwnT w.heap.size w' (.slice ao (getF fs name).length cv) (getF fs name) ∧ Below w.heap.size w w' := by
  have C0 : Below w.heap.size w (w.alloc (.cells #[] 9)) := (Below.refl _ _).alloc (Nat.le_refl _) _
  have HN : Hid (name.size ≤ 4294967281) := by rw [Hid]; omega
  rcases Nat.eq_zero_or_pos fs.length with h0 | hp
  · have he : fs = [] := List.eq_nil_of_length_eq_zero h0
    subst he
    clear hf hb hn hl h0 HN
    go_enter Tryd.func12, Tryd.ntmps12
    go_wp2_with fail
    refine wp_loop_rounds 1 ?_
    rw [rounds_succ]
    go_wp2
    go_ret
    exact ⟨_, 0, rfl, OwnT.empty _ _ (Nat.le_refl _), C0⟩
  · obtain ⟨a', c', e, hnil, h1, h2, h3⟩ := hf
    obtain ⟨rfl, _, rfl⟩ := slice_inj e
    obtain ⟨g, off, rfl, hg, hc⟩ := h3 hp
    have HC : Hid (∀ (j : Nat) (hj : j < fs.length), w.cell? ⟨g, off + j * 2, none⟩ = some (.string fs[j].1) ∧ w.cell? ⟨g, off + j * 2 + 1, none⟩ = some (.string fs[j].2)) := hc
    have HBD : Hid (FBd 1048576 fs) := hb
    clear e hnil h1 h2 h3 hn hc hb
    go_enter Tryd.func12, Tryd.ntmps12
    go_wp2_with fail
    go_loopw [5, 6] (fun v vi wr => ∃ (k : Nat) (ao : Option Addr) (cv : Nat), k ≤ fs.length ∧ vi = .int .i64 k ∧ v = .slice ao (getF (fs.take k) name).length cv ∧ OwnT w.heap.size wr v (getF (fs.take k) name) ∧ Below w.heap.size w wr) (fun _ vi _ => fs.length - (intOf vi).toNat)
    case atStart => exact ⟨0, _, 0, Nat.zero_le _, rfl, rfl, OwnT.empty _ _ (Nat.le_refl _), C0⟩
    case round =>
      obtain ⟨k, ao, cv, hk, rfl, rfl, hown, hB⟩ := hrel
      clear C0
      by_cases hlt : k < fs.length
      · have hc1 := (hB.cell (p := ⟨g, off + k * 2, none⟩) hg).trans (HC.out k hlt).1
        have hsz := HBD.out fs[k] (List.getElem_mem hlt)
        have hsn : Hid (getF (fs.take (k + 1)) name = getF (fs.take k) name ++ (if smT fs[k].1 name = true then [fs[k].2] else [])) := by
          rw [Hid, List.take_succ_eq_append_getElem hlt, getF_snoc]
        have hkl : (getF (fs.take k) name).length ≤ k := Nat.le_trans (getF_len _ _) (List.length_take_le _ _)
        have hc2 : Hid (w.cell? ⟨g, off + k * 2 + 1, none⟩ = some (.string fs[k].2)) := (HC.out k hlt).2
        generalize fs[k] = f at *
        obtain ⟨fn, fv⟩ := f
        simp only at hc1 hc2 hsz hsn
        have hs1 : Hid (fn.size ≤ 4294967281) := by rw [Hid]; omega
        have HS : Hid (∀ W, Calls Tryd.prog 29 #[.string fn, .string name] W fun e w' => e = .returned (.bool (smT fn name)) ∧ Below W.heap.size W w') := fun W => rsame_any fn name W hs1.out HN.out
        generalize smT fn name = b at *
        have HO : Hid (OwnT w.heap.size wr (.slice ao (getF (fs.take k) name).length cv) (getF (fs.take k) name)) := hown
        have HKL : Hid ((getF (fs.take k) name).length ≤ 16777216) := by rw [Hid]; omega
        clear hsz hown hkl
        generalize getF (fs.take k) name = K at *
        go_wp2_with fail
        refine (HS.out _).mono ?_
        rintro e w2 ⟨rfl, B2⟩
        have own2 := HO.out.keep B2
        have hB2 := hB.trans (B2.mono hB.size)
        have c1 := (hB2.cell (p := ⟨g, off + k * 2 + 1, none⟩) hg).trans hc2.out
        clear B2 hB HO hc1 hc2 HS
        cases b
        · have hsn2 : Hid (getF (fs.take (k + 1)) name = K) := by rw [Hid, hsn.out, if_neg (by decide), List.append_nil]
          clear hsn c1
          go_wp2
          go_roundw
          case rel => exact ⟨k + 1, ao, cv, by omega, by go_num, by rw [hsn2.out], by rw [hsn2.out]; exact own2, hB2⟩
          case measure => simp [intOf]; omega
        · have hsn2 : Hid (getF (fs.take (k + 1)) name = K ++ [fv]) := by rw [Hid, hsn.out, if_pos rfl]
          clear hsn
          have own3 := own2.keep ((Below.refl _ _).alloc (Nat.le_refl _) (.cells #[.string fv] 9))
          obtain ⟨v4, w4, r4, own4, B4⟩ := ownT_append own3 (one_txs w2 fv _ (Nat.lt_succ_self _)) (by have := HKL.out; simp; omega) (by have := hB2.size; simp; omega)
          have hB4 : Below w.heap.size w w4 := (hB2.alloc hB2.size _).trans B4
          obtain ⟨a4, c4, rfl, _⟩ := own4.form
          have HO4 : Hid (OwnT w.heap.size w4 (.slice a4 (K ++ [fv]).length c4) (K ++ [fv])) := own4
          have HR : Hid ((Builtin.append_ #[23, 23] 23 #[.slice ao K.length cv, .slice (some ⟨w2.heap.size, 0, none⟩) 1 1]).run Tryd.prog (w2.alloc (.cells #[.string fv] 9)) = .ok (.slice a4 (K ++ [fv]).length c4) w4) := r4
          clear own2 own3 own4 B4 hB2 r4
          have HL : Hid ((K ++ [fv]).length = (getF (fs.take (k + 1)) name).length) := by rw [Hid, hsn2.out]
          generalize (K ++ [fv]).length = L at *
          go_wp2_with (at_builtin; refine wpList_append_run2 rfl _ _ 23 23 rfl _ _ _ w4 rfl rfl HR.out ?_)
          go_roundw
          case rel => exact ⟨k + 1, a4, c4, by omega, by go_num, by rw [HL.out], by rw [hsn2.out]; exact HO4.out, hB4⟩
          case measure => simp [intOf]; omega
      · go_wp2
        go_ret
        have hk' : k = fs.length := by omega
        subst hk'
        rw [List.take_length] at *
        exact ⟨ao, cv, rfl, hown, hB⟩

theorem app_take (K X : List ByteArray) (j : Nat) (h : j < X.length) : K ++ X.take (j + 1) = (K ++ X.take j) ++ [X[j]] := by
  rw [List.take_succ_eq_append_getElem h, List.append_assoc]
/-- One text appended; which block may turn. -/
theorem ownT_one {B : Nat} {w : World} {v : Value} {X : List ByteArray} (x : ByteArray) (h : OwnT B w v X) (hmax : X.length + 1 ≤ 4294967296) (hB : B ≤ w.heap.size) :
    ∃ g' c' w', (Builtin.append_ #[23, 23] 23 #[v, .slice (some ⟨w.heap.size, 0, none⟩) 1 1]).run Tryd.prog (w.alloc (.cells #[.string x] 9)) = .ok (.slice (some ⟨g', 0, none⟩) (X ++ [x]).length c') w' ∧
      OwnT B w' (.slice (some ⟨g', 0, none⟩) (X ++ [x]).length c') (X ++ [x]) ∧ Below B w w' ∧ (∀ k, k < w.heap.size → v.ownBlock ≠ some k → w'.heap[k]? = w.heap[k]?) ∧ w.heap.size ≤ w'.heap.size ∧ (v.ownBlock = some g' ∨ w.heap.size < g') := by
  obtain ⟨i, hi, hz0, hz1, hz2⟩ := info_parts info9
  obtain ⟨v', w', hr, q1, q2, q3, q4⟩ := run_append_own_at (P := Tryd.prog) (w.alloc (.cells #[.string x] 9)) B 23 23 9 i (.string ByteArray.empty) 1 16 Tryd.underlying23 hi hz0 hz1 hz2 rfl (by decide) v X.length (X.map Value.string) (h.alloc _) ⟨w.heap.size, 0, none⟩ 1 1 [.string x] rfl
    (fun j u hj => by
      have : j = 0 := by have := (List.getElem?_eq_some_iff.1 hj).1; simpa using this
      subst this
      have : u = .string x := by simpa using hj.symm
      subst this
      rw [addr_add]
      exact tblk_cell (tblk_new _ _) rfl) (rowT_one [x]) (by unfold maxLen; omega) (by omega) (by simp; omega)
  have hq : w'.ownsRow B 9 1 v' (X ++ [x]).length ((X ++ [x]).map Value.string) := by rw [List.length_append, List.map_append]; exact q1
  have hfr : ∀ k, k < w.heap.size → v.ownBlock ≠ some k → w'.heap[k]? = w.heap[k]? := fun k hk hn =>
    (q2.block k (by simp; omega) (fun e => hn e.symm)).trans (Below.heap_alloc _ _ _ hk)
  rcases hq.2 with ⟨_, hz⟩ | ⟨g', c', cur, hv, _⟩
  · rw [List.length_append] at hz
    have : ([x] : List ByteArray).length = 1 := rfl
    omega
  · subst hv
    refine ⟨g', c', w', hr, hq, ((Below.refl _ _).alloc hB _).grown q2 (by simp; omega) (fun q hq => (h.lt q hq).1), hfr, by have := q2.size; simp at this; omega, ?_⟩
    rcases q4 with q4 | q4
    · exact .inl (q4.symm.trans rfl)
    · have : g' = w.heap.size + 1 := by simpa [Value.ownBlock] using q4
      exact .inr (by omega)

set_option maxRecDepth 100000 in
set_option maxHeartbeats 2000000 in
theorem rlist_any (fs : Fs) (a : Option Addr) (c : Nat) (name : ByteArray) (w : World) (hf : Fds w.heap.size w (.slice a fs.length c) fs) (hb : FBd 1048576 fs) (hn : name.size ≤ 1048576) (hl : fs.length ≤ 1024) :
    Calls Tryd.prog 14 #[.slice a fs.length c, .string name] w fun e w' => ∃ ao cv, e = .returned (.slice ao (listF fs name).length cv) ∧ OwnT w.heap.size w' (.slice ao (listF fs name).length cv) (listF fs name) ∧ Below w.heap.size w w' := by
  have C0 : Below w.heap.size w (w.alloc (.cells #[] 9)) := (Below.refl _ _).alloc (Nat.le_refl _) _
  have HG : Hid (Calls Tryd.prog 12 #[.slice a fs.length c, .string name] (w.alloc (.cells #[] 9)) fun e w' => ∃ ao cv, e = .returned (.slice ao (getF fs name).length cv) ∧ OwnT (w.alloc (.cells #[] 9)).heap.size w' (.slice ao (getF fs name).length cv) (getF fs name) ∧ Below (w.alloc (.cells #[] 9)).heap.size (w.alloc (.cells #[] 9)) w') := rget_any fs a c name _ ((hf.keep C0).mono C0.size) hb hn hl
  have HT : Hid ((splA (getF fs name)).length ≤ 1024 * 1048578) := listF_len hb hl
  have HV : Hid (TBd 1048576 (getF fs name)) := getF_bd hb
  have HVL : Hid ((getF fs name).length ≤ 1024) := Nat.le_trans (getF_len _ _) hl
  have e0 : listF fs name = splA (getF fs name) := rfl
  rw [e0]
  clear e0 hf hb hn hl
  generalize getF fs name = vs at *
  go_enter Tryd.func14, Tryd.ntmps14
  go_wp2_with fail
  refine HG.out.mono ?_
  rintro e w1 ⟨ao1, cv1, rfl, own1, B1⟩
  have E1 : OwnT w.heap.size w1 (.slice (some ⟨w.heap.size, 0, none⟩) 0 0) [] := (OwnT.empty w.heap.size w (Nat.le_refl _)).keep B1
  have D1 : Below w.heap.size w w1 := C0.trans (B1.mono C0.size)
  clear HG
  rcases Nat.eq_zero_or_pos vs.length with h0 | hp
  · have he : vs = [] := List.eq_nil_of_length_eq_zero h0
    subst he
    clear h0 own1 C0 B1
    go_wp2_with fail
    refine wp_loop_rounds 1 ?_
    rw [rounds_succ]
    go_wp2
    go_ret
    exact ⟨_, 0, rfl, E1, D1⟩
  · obtain ⟨g, hg0, hg, hao, hcells⟩ : ∃ g : Nat, w.heap.size < g ∧ g < w1.heap.size ∧ ao1 = some ⟨g, 0, none⟩ ∧ ∀ (j : Nat) (hj : j < vs.length), w1.cell? ⟨g, j, none⟩ = some (.string vs[j]) := by
      have T := own1.txs
      rcases own1.2 with ⟨_, hz⟩ | ⟨g', c', cur, hv, hb, hg, _⟩
      · omega
      · obtain ⟨e1, _, _⟩ := slice_inj hv
        refine ⟨g', by simp at hb; omega, heap_lt hg, e1, fun j hj => ?_⟩
        obtain ⟨a', c', e, _, _, _, h3⟩ := T
        obtain ⟨e2, _, _⟩ := slice_inj e
        obtain ⟨g2, off, e3, _, hc⟩ := h3 hp
        rw [e1] at e2
        rw [← e2] at e3
        injection e3 with e3
        injection e3 with e4 e5
        have k := hc j hj
        rw [← e4, ← e5, Nat.zero_add] at k
        exact k
    subst hao
    have HC1 : Hid (∀ (j : Nat) (hj : j < vs.length), w1.cell? ⟨g, j, none⟩ = some (.string vs[j])) := hcells
    have HE1 : Hid (OwnT w.heap.size w1 (.slice (some ⟨w.heap.size, 0, none⟩) 0 0) []) := E1
    clear hcells own1 C0 B1 E1
    have hvl := HVL.out
    go_wp2_with fail
    go_loopw [5, 7] (fun v vi wr => ∃ (k gO cv : Nat), k ≤ vs.length ∧ vi = .int .i64 k ∧ v = .slice (some ⟨gO, 0, none⟩) (splA (vs.take k)).length cv ∧ Hid (OwnT w.heap.size wr (.slice (some ⟨gO, 0, none⟩) (splA (vs.take k)).length cv) (splA (vs.take k))) ∧ Hid (gO ≠ g) ∧ Hid (∀ (j : Nat) (hj : j < vs.length), wr.cell? ⟨g, j, none⟩ = some (.string vs[j])) ∧ g < wr.heap.size ∧ Below w.heap.size w wr) (fun _ vi _ => vs.length - (intOf vi).toNat)
    case atStart => exact ⟨0, w.heap.size, 0, Nat.zero_le _, rfl, rfl, HE1, by rw [Hid]; omega, HC1, hg, D1⟩
    case round =>
      obtain ⟨k, gO, cv, hk, rfl, rfl, hown, hne, hcs, hgr, hB⟩ := hrel
      clear HC1 HE1 D1 hg
      by_cases hlt : k < vs.length
      · have hc1 := hcs.out k hlt
        have hsz : Hid (vs[k].size ≤ 1048576) := HV.out vs[k] (List.getElem_mem hlt)
        have hsn : Hid (splA (vs.take (k + 1)) = splA (vs.take k) ++ splT vs[k]) := by
          rw [Hid, List.take_succ_eq_append_getElem hlt, splA_snoc]
        have hkl : Hid ((splA (vs.take (k + 1))).length ≤ 1024 * 1048578) := Nat.le_trans (splA_take vs (k + 1)) HT.out
        generalize vs[k] = x at *
        generalize splA (vs.take k) = K at *
        go_wp2_with fail
        refine (rsplit_any x _ (by have := hsz.out; omega)).mono ?_
        rintro e w2 ⟨ao2, cv2, rfl, own2, B2⟩
        have own2' : OwnT wr.heap.size w2 (.slice ao2 (splT x).length cv2) (splT x) := own2
        have ownK : Hid (OwnT w.heap.size w2 (.slice (some ⟨gO, 0, none⟩) K.length cv) K) := hown.out.keep B2
        have hB2 := hB.trans (B2.mono hB.size)
        have hcs2 : Hid (∀ (j : Nat) (hj : j < vs.length), w2.cell? ⟨g, j, none⟩ = some (.string vs[j])) := fun j hj => (B2.cell (p := ⟨g, j, none⟩) hgr).trans (hcs.out j hj)
        have hgO : gO < wr.heap.size := (hown.out.lt gO rfl).2
        have hg2 : g < w2.heap.size := Nat.lt_of_lt_of_le hgr B2.size
        have eX : Hid (splT x = keepT (pieces x)) := rfl
        clear own2 hB hcs hc1 hown
        have hLX : Hid ((K ++ splT x).length ≤ 1024 * 1048578) := by rw [Hid, ← hsn.out]; exact hkl.out
        have HSZ2 : Hid (wr.heap.size ≤ w2.heap.size) := B2.size
        clear B2 hkl
        rw [← eX.out]
        generalize splT x = X at *
        rcases Nat.eq_zero_or_pos X.length with h0 | hpx
        · have he : X = [] := List.eq_nil_of_length_eq_zero h0
          have hsn2 : Hid (splA (vs.take (k + 1)) = K) := by rw [Hid, hsn.out, he, List.append_nil]
          clear hsn eX own2'
          subst he
          clear h0 hLX
          go_wp2_with fail
          refine wp_loop_rounds 1 ?_
          rw [rounds_succ]
          go_wp2
          go_roundw
          case rel => exact ⟨k + 1, gO, cv, by omega, by go_num, by rw [hsn2.out], by rw [hsn2.out]; exact ownK, hne, hcs2, hg2, hB2⟩
          case measure => simp [intOf]; omega
        · obtain ⟨gX, hgX0, hgX, hao, hcells⟩ : ∃ gX : Nat, wr.heap.size ≤ gX ∧ gX < w2.heap.size ∧ ao2 = some ⟨gX, 0, none⟩ ∧ ∀ (j : Nat) (hj : j < X.length), w2.cell? ⟨gX, j, none⟩ = some (.string X[j]) := by
            have T := own2'.txs
            rcases own2'.2 with ⟨_, hz⟩ | ⟨g', c', cur, hv, hb, hg, _⟩
            · omega
            · obtain ⟨e1, _, _⟩ := slice_inj hv
              refine ⟨g', hb, heap_lt hg, e1, fun j hj => ?_⟩
              obtain ⟨a', c', e, _, _, _, h3⟩ := T
              obtain ⟨e2, _, _⟩ := slice_inj e
              obtain ⟨g2, off, e3, _, hc⟩ := h3 hpx
              rw [e1] at e2
              rw [← e2] at e3
              injection e3 with e3
              injection e3 with e4 e5
              have k := hc j hj
              rw [← e4, ← e5, Nat.zero_add] at k
              exact k
          subst hao
          have HCX : Hid (∀ (j : Nat) (hj : j < X.length), w2.cell? ⟨gX, j, none⟩ = some (.string X[j])) := hcells
          have hnX : Hid (gO ≠ gX) := by rw [Hid]; omega
          have hXl : X.length ≤ 1073743872 := by have := hLX.out; rw [List.length_append] at this; omega
          have HFl : Hid (K ++ X = splA (vs.take (k + 1))) := hsn.out.symm
          clear hcells own2' hgX0 hgO HSZ2 eX hsn
          go_wp2_with fail
          go_loopw [5, 9] (fun v vj wi => ∃ (j gP cp : Nat), j ≤ X.length ∧ vj = .int .i64 j ∧ v = .slice (some ⟨gP, 0, none⟩) (K ++ X.take j).length cp ∧ Hid (OwnT w.heap.size wi (.slice (some ⟨gP, 0, none⟩) (K ++ X.take j).length cp) (K ++ X.take j)) ∧ Hid (gP ≠ g) ∧ Hid (gP ≠ gX) ∧ Hid (∀ (j : Nat) (hj : j < vs.length), wi.cell? ⟨g, j, none⟩ = some (.string vs[j])) ∧ Hid (∀ (j : Nat) (hj : j < X.length), wi.cell? ⟨gX, j, none⟩ = some (.string X[j])) ∧ g < wi.heap.size ∧ gX < wi.heap.size ∧ Below w.heap.size w wi) (fun _ vj _ => X.length - (intOf vj).toNat)
          case atStart => exact ⟨0, gO, cv, Nat.zero_le _, rfl, by simp, by simpa using ownK, hne, hnX, hcs2, HCX, hg2, hgX, hB2⟩
          case round =>
            obtain ⟨j, gP, cp, hj, rfl, rfl, hoP, hn1, hn2, hc1, hc2, hl1, hl2, hBi⟩ := hrel
            by_cases hjt : j < X.length
            · have hcx := hc2.out j hjt
              have hap : Hid (K ++ X.take (j + 1) = (K ++ X.take j) ++ [X[j]]) := app_take K X j hjt
              have hlen : Hid ((K ++ X.take j).length + 1 ≤ 4294967296) := by
                have := hLX.out
                rw [Hid, List.length_append, List.length_take]
                rw [List.length_append] at this
                omega
              generalize X[j] = y at *
              generalize K ++ X.take j = R at *
              obtain ⟨g', c', w', hr, own', B', hfr, hsz', hwh⟩ := ownT_one y hoP.out hlen.out hBi.size
              have HO : Hid (OwnT w.heap.size w' (.slice (some ⟨g', 0, none⟩) (K ++ X.take (j + 1)).length c') (K ++ X.take (j + 1))) := by rw [Hid, hap.out]; exact own'
              have m1 : Hid (g' ≠ g) := by
                rw [Hid]
                rcases hwh with q | q
                · have : gP = g' := by simpa [Value.ownBlock] using q
                  rw [← this]; exact hn1.out
                · omega
              have m2 : Hid (g' ≠ gX) := by
                rw [Hid]
                rcases hwh with q | q
                · have : gP = g' := by simpa [Value.ownBlock] using q
                  rw [← this]; exact hn2.out
                · omega
              have k1 : Hid (∀ (j : Nat) (hj : j < vs.length), w'.cell? ⟨g, j, none⟩ = some (.string vs[j])) := fun i hi =>
                (World.cell?_of_block (a := ⟨g, i, none⟩) (hfr g hl1 (by simpa [Value.ownBlock] using hn1.out))).trans (hc1.out i hi)
              have k2 : Hid (∀ (j : Nat) (hj : j < X.length), w'.cell? ⟨gX, j, none⟩ = some (.string X[j])) := fun i hi =>
                (World.cell?_of_block (a := ⟨gX, i, none⟩) (hfr gX hl2 (by simpa [Value.ownBlock] using hn2.out))).trans (hc2.out i hi)
              have D' : Below w.heap.size w w' := hBi.trans B'
              have HR : Hid _ := hr
              have HL : Hid ((R ++ [y]).length = (K ++ X.take (j + 1)).length) := by rw [Hid, hap.out]
              have hs1 : g < w'.heap.size := by omega
              have hs2 : gX < w'.heap.size := by omega
              clear hr own' B' hfr hwh hsz' hc1 hc2 hn1 hn2 hBi hoP
              generalize (R ++ [y]).length = L at *
              go_wp2_with (at_builtin; refine wpList_append_run2 rfl _ _ 23 23 rfl _ _ _ w' rfl rfl HR.out ?_)
              go_roundw
              case rel => exact ⟨j + 1, g', c', by omega, by go_num, by rw [HL.out], HO, m1, m2, k1, k2, hs1, hs2, D'⟩
              case measure => simp [intOf]; omega
            · have hj' : j = X.length := by omega
              subst hj'
              rw [List.take_length, HFl.out] at *
              go_wp2
              go_roundw
              case rel => exact ⟨k + 1, gP, cp, by omega, by go_num, rfl, hoP, hn1, hc1, hl1, hBi⟩
              case measure => simp [intOf]; omega
      · go_wp2
        go_ret
        have hk' : k = vs.length := by omega
        subst hk'
        rw [List.take_length] at *
        exact ⟨_, cv, rfl, hown.out, hB⟩

set_option maxRecDepth 100000 in
set_option maxHeartbeats 1000000 in
theorem rhas_any (fs : Fs) (a : Option Addr) (c : Nat) (name part : ByteArray) (w : World) (hf : Fds w.heap.size w (.slice a fs.length c) fs) (hb : FBd 1048576 fs) (hn : name.size ≤ 1048576) (hq : part.size ≤ 1048576) (hl : fs.length ≤ 1024) :
    Calls Tryd.prog 16 #[.slice a fs.length c, .string name, .string part] w fun e w' => e = .returned (.bool (hasF fs name part)) ∧ Below w.heap.size w w' := by
  have HL : Hid (Calls Tryd.prog 14 #[.slice a fs.length c, .string name] w fun e w' => ∃ ao cv, e = .returned (.slice ao (listF fs name).length cv) ∧ OwnT w.heap.size w' (.slice ao (listF fs name).length cv) (listF fs name) ∧ Below w.heap.size w w') := rlist_any fs a c name w hf hb hn hl
  have HBD : Hid (TBd 1048576 (listF fs name)) := listF_bd hb
  have HLN : Hid ((listF fs name).length ≤ 1024 * 1048578) := listF_len hb hl
  have HS : Hid (part.size ≤ 4294967281) := by rw [Hid]; omega
  unfold hasF
  clear hf hb hn hq hl
  generalize listF fs name = xs at *
  have hln := HLN.out
  go_enter Tryd.func16, Tryd.ntmps16
  go_wp2_with fail
  refine HL.out.mono ?_
  rintro e w1 ⟨ao, cv, rfl, own1, B1⟩
  have T1 := own1.txs
  clear HL own1
  rcases Nat.eq_zero_or_pos xs.length with h0 | hp
  · have he : xs = [] := List.eq_nil_of_length_eq_zero h0
    subst he
    clear T1 h0 hln
    go_wp2_with fail
    refine wp_loop_rounds 1 ?_
    rw [rounds_succ]
    go_wp2
    go_ret
    exact ⟨rfl, B1⟩
  · obtain ⟨a', c', e, hnil, q1, q2, q3⟩ := T1
    obtain ⟨rfl, _, rfl⟩ := slice_inj e
    obtain ⟨g, off, rfl, hg, hc⟩ := q3 hp
    have HC : Hid (∀ (j : Nat) (hj : j < xs.length), w1.cell? ⟨g, off + j, none⟩ = some (.string xs[j])) := hc
    clear e hnil q1 q2 q3 hc
    go_wp2_with fail
    go_loopw [8] (fun vi wr => ∃ k : Nat, k ≤ xs.length ∧ vi = .int .i64 k ∧ Hid (anyT (xs.take k) part = false) ∧ Below w1.heap.size w1 wr) (fun vi _ => xs.length - (intOf vi).toNat)
    case atStart => exact ⟨0, Nat.zero_le _, rfl, rfl, Below.refl _ _⟩
    case round =>
      obtain ⟨k, hk, rfl, hA, hB⟩ := hrel
      by_cases hlt : k < xs.length
      · have hc1 := (hB.cell (p := ⟨g, off + k, none⟩) hg).trans (HC.out k hlt)
        have hsz := HBD.out xs[k] (List.getElem_mem hlt)
        have HA : Hid (∀ W, Calls Tryd.prog 29 #[.string xs[k], .string part] W fun e w' => e = .returned (.bool (smT xs[k] part)) ∧ Below W.heap.size W w') := fun W => rsame_any _ part W (by omega) HS.out
        have hY : Hid (smT xs[k] part = true → anyT xs part = true) := fun q => anyT_at k hlt q
        have hN : Hid (smT xs[k] part = false → anyT (xs.take (k + 1)) part = false) := fun q => anyT_snoc hlt hA.out q
        generalize smT xs[k] part = b at *
        clear hsz
        generalize xs[k] = x at *
        go_wp2_with fail
        refine (HA.out _).mono ?_
        rintro e w2 ⟨rfl, B2⟩
        have hB2 := hB.trans (B2.mono hB.size)
        clear HA hB B2 hc1
        cases b
        · have hN2 : Hid (anyT (xs.take (k + 1)) part = false) := hN.out rfl
          clear hN hY
          go_wp2
          go_roundw
          case rel => exact ⟨k + 1, by omega, by go_num, hN2, hB2⟩
          case measure => simp [intOf]; omega
        · have hY2 : Hid (anyT xs part = true) := hY.out rfl
          clear hN hY
          go_wp2
          go_ret
          exact ⟨ret_bool hY2.out.symm, B1.trans (hB2.mono B1.size)⟩
      · go_wp2
        go_ret
        have hk' : k = xs.length := by omega
        subst hk'
        have h := hA.out
        rw [List.take_length] at h
        exact ⟨ret_bool h.symm, B1.trans (hB.mono B1.size)⟩
end Go.Proofs.YtflgjhknobnnaabDoor
