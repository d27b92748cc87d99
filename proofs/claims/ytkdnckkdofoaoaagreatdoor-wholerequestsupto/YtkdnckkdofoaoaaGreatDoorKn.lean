/- Texts that the proof leans on, one behind the other: FsP FsD FrD FrR FrT FsW -/
import Derived.Test.YtkdnckkdofoaoaaGreatDoorKd
import Derived.Test.YtkdnckkdofoaoaaGreatDoorKc
import Derived.Test.YtkdnckkdofoaoaaGreatDoorKm
import Derived.Test.YtkdnckkdofoaoaaGreatDoorKg
import Derived.Deep.RegionHeld3
/- Right and Without: what each answers of fields, plain. -/
namespace Go.Proofs.YtkdnckkdofoaoaaGreatDoor
open Go.ChangeShapes Go.WideShapes Go.ChangeAt Go.RowKit
set_option linter.unusedVariables false

def wrF (f : ByteArray × ByteArray) : Bool := !okF f.1 f.2
def anyW (fs : Fs) : Bool := fs.any wrF
def rightF (fs : Fs) : Bool := decide (fs.length ≤ 40) && !anyW fs
def withoutF (fs : Fs) (names : List ByteArray) : Fs := fs.filter fun f => !anyT names f.1
theorem withoutF_snoc (fs : Fs) (f : ByteArray × ByteArray) (ns : List ByteArray) : withoutF (fs ++ [f]) ns = withoutF fs ns ++ (if anyT ns f.1 = true then [] else [f]) := by
  unfold withoutF
  rw [List.filter_append]
  congr 1
  cases h : anyT ns f.1 <;> simp [h]
theorem withoutF_len (fs : Fs) (ns : List ByteArray) : (withoutF fs ns).length ≤ fs.length := List.length_filter_le _ _
theorem withoutF_bd {N : Nat} {fs : Fs} {ns : List ByteArray} (h : FBd N fs) : FBd N (withoutF fs ns) := fun f hf => h f (List.mem_filter.1 hf).1
theorem anyW_at {fs : Fs} (k : Nat) (h : k < fs.length) (hs : wrF fs[k] = true) : anyW fs = true := by
  unfold anyW
  rw [List.any_eq_true]
  exact ⟨fs[k], List.getElem_mem h, hs⟩
theorem anyW_snoc {fs : Fs} {k : Nat} (h : k < fs.length) (h0 : anyW (fs.take k) = false) (hs : wrF fs[k] = false) : anyW (fs.take (k + 1)) = false := by
  rw [List.take_succ_eq_append_getElem h]
  unfold anyW at *
  rw [List.any_append, h0]
  simp [hs]

end Go.Proofs.YtkdnckkdofoaoaaGreatDoor

/- The reference's Get, List and Has: what each answers of fields. -/
namespace Go.Proofs.YtkdnckkdofoaoaaGreatDoor
open Go.ChangeShapes Go.WideShapes Go.ChangeAt Go.RowKit
set_option linter.unusedVariables false

theorem rsame_any (a b : ByteArray) (w : World) (ha : a.size ≤ 4294967281) (hb : b.size ≤ 4294967281) :
    Calls Tryz.prog 78 #[.string a, .string b] w fun e w' => e = .returned (.bool (smT a b)) ∧ Below w.heap.size w w' := by
  unfold smT
  go_enter Tryz.func78, Tryz.ntmps78
  go_wp2_with fail
  refine (rfold_any a _ ha).mono ?_
  rintro e w1 ⟨rfl, B1⟩
  go_wp2_with fail
  refine (rfold_any b _ hb).mono ?_
  rintro e w2 ⟨rfl, B2⟩
  go_wp2
  go_ret
  exact ⟨rfl, B1.trans (B2.mono B1.size)⟩

set_option maxRecDepth 100000 in
set_option maxHeartbeats 1000000 in
theorem rget_any (fs : Fs) (a : Option Addr) (c : Nat) (name : ByteArray) (w : World) (hf : Fds w.heap.size w (.slice a fs.length c) fs) (hb : FBd 1048576 fs) (hn : name.size ≤ 1048576) (hl : fs.length ≤ 1024) :
    Calls Tryz.prog 42 #[.slice a fs.length c, .string name] w fun e w' => ∃ ao cv, e = .returned (.slice ao (getF fs name).length cv) ∧ OwnT w.heap.size w' (.slice ao (getF fs name).length cv) (getF fs name) ∧ Below w.heap.size w w' := by
  have C0 : Below w.heap.size w (w.alloc (.cells #[] 9)) := (Below.refl _ _).alloc (Nat.le_refl _) _
  have HN : Hid (name.size ≤ 4294967281) := by rw [Hid]; omega
  rcases Nat.eq_zero_or_pos fs.length with h0 | hp
  · have he : fs = [] := List.eq_nil_of_length_eq_zero h0
    subst he
    clear hf hb hn hl h0 HN
    go_enter Tryz.func42, Tryz.ntmps42
    go_wp2_with fail
    refine wp_loop_rounds 1 ?_
    rw [rounds_succ]
    go_wp2
    go_ret
    exact ⟨_, 0, rfl, OwnT.empty _ _ (Nat.le_refl _), C0⟩
  · obtain ⟨a', c', e, hnil, h1, h2, h3⟩ := hf
    obtain ⟨rfl, _, rfl⟩ := slice_inj e
    obtain ⟨g, off, rfl, hg, hc⟩ := h3 hp
    have HC : Hid (∀ (j : Nat) (hj : j < fs.length), w.cell? ⟨g, off + j * 2, none⟩ = some (.string fs[j].1) ∧ w.cell? ⟨g, off + j * 2 + 1, none⟩ = some (.string fs[j].2)) := hc
    have HBD : Hid (FBd 1048576 fs) := hb
    clear e hnil h1 h2 h3 hn hc hb
    go_enter Tryz.func42, Tryz.ntmps42
    go_wp2_with fail
    go_loopw [5, 6] (fun v vi wr => ∃ (k : Nat) (ao : Option Addr) (cv : Nat), k ≤ fs.length ∧ vi = .int .i64 k ∧ v = .slice ao (getF (fs.take k) name).length cv ∧ OwnT w.heap.size wr v (getF (fs.take k) name) ∧ Below w.heap.size w wr) (fun _ vi _ => fs.length - (intOf vi).toNat)
    case atStart => exact ⟨0, _, 0, Nat.zero_le _, rfl, rfl, OwnT.empty _ _ (Nat.le_refl _), C0⟩
    case round =>
      obtain ⟨k, ao, cv, hk, rfl, rfl, hown, hB⟩ := hrel
      clear C0
      by_cases hlt : k < fs.length
      · have hc1 := (hB.cell (p := ⟨g, off + k * 2, none⟩) hg).trans (HC.out k hlt).1
        have hsz := HBD.out fs[k] (List.getElem_mem hlt)
        have hsn : Hid (getF (fs.take (k + 1)) name = getF (fs.take k) name ++ (if smT fs[k].1 name = true then [fs[k].2] else [])) := by
          rw [Hid, List.take_succ_eq_append_getElem hlt, getF_snoc]
        have hkl : (getF (fs.take k) name).length ≤ k := Nat.le_trans (getF_len _ _) (List.length_take_le _ _)
        have hc2 : Hid (w.cell? ⟨g, off + k * 2 + 1, none⟩ = some (.string fs[k].2)) := (HC.out k hlt).2
        generalize fs[k] = f at *
        obtain ⟨fn, fv⟩ := f
        simp only at hc1 hc2 hsz hsn
        have hs1 : Hid (fn.size ≤ 4294967281) := by rw [Hid]; omega
        have HS : Hid (∀ W, Calls Tryz.prog 78 #[.string fn, .string name] W fun e w' => e = .returned (.bool (smT fn name)) ∧ Below W.heap.size W w') := fun W => rsame_any fn name W hs1.out HN.out
        generalize smT fn name = b at *
        have HO : Hid (OwnT w.heap.size wr (.slice ao (getF (fs.take k) name).length cv) (getF (fs.take k) name)) := hown
        have HKL : Hid ((getF (fs.take k) name).length ≤ 16777216) := by rw [Hid]; omega
        clear hsz hown hkl
        generalize getF (fs.take k) name = K at *
        go_wp2_with fail
        refine (HS.out _).mono ?_
        rintro e w2 ⟨rfl, B2⟩
        have own2 := HO.out.keep B2
        have hB2 := hB.trans (B2.mono hB.size)
        have c1 := (hB2.cell (p := ⟨g, off + k * 2 + 1, none⟩) hg).trans hc2.out
        clear B2 hB HO hc1 hc2 HS
        cases b
        · have hsn2 : Hid (getF (fs.take (k + 1)) name = K) := by rw [Hid, hsn.out, if_neg (by decide), List.append_nil]
          clear hsn c1
          go_wp2
          go_roundw
          case rel => exact ⟨k + 1, ao, cv, by omega, by go_num, by rw [hsn2.out], by rw [hsn2.out]; exact own2, hB2⟩
          case measure => simp [intOf]; omega
        · have hsn2 : Hid (getF (fs.take (k + 1)) name = K ++ [fv]) := by rw [Hid, hsn.out, if_pos rfl]
          clear hsn
          have own3 := own2.keep ((Below.refl _ _).alloc (Nat.le_refl _) (.cells #[.string fv] 9))
          obtain ⟨v4, w4, r4, own4, B4⟩ := ownT_append own3 (one_txs w2 fv _ (Nat.lt_succ_self _)) (by have := HKL.out; simp; omega) (by have := hB2.size; simp; omega)
          have hB4 : Below w.heap.size w w4 := (hB2.alloc hB2.size _).trans B4
          obtain ⟨a4, c4, rfl, _⟩ := own4.form
          have HO4 : Hid (OwnT w.heap.size w4 (.slice a4 (K ++ [fv]).length c4) (K ++ [fv])) := own4
          have HR : Hid ((Builtin.append_ #[39, 39] 39 #[.slice ao K.length cv, .slice (some ⟨w2.heap.size, 0, none⟩) 1 1]).run Tryz.prog (w2.alloc (.cells #[.string fv] 9)) = .ok (.slice a4 (K ++ [fv]).length c4) w4) := r4
          clear own2 own3 own4 B4 hB2 r4
          have HL : Hid ((K ++ [fv]).length = (getF (fs.take (k + 1)) name).length) := by rw [Hid, hsn2.out]
          generalize (K ++ [fv]).length = L at *
          go_wp2_with (at_builtin; refine wpList_append_run2 rfl _ _ 39 39 rfl _ _ _ w4 rfl rfl HR.out ?_)
          go_roundw
          case rel => exact ⟨k + 1, a4, c4, by omega, by go_num, by rw [HL.out], by rw [hsn2.out]; exact HO4.out, hB4⟩
          case measure => simp [intOf]; omega
      · go_wp2
        go_ret
        have hk' : k = fs.length := by omega
        subst hk'
        rw [List.take_length] at *
        exact ⟨ao, cv, rfl, hown, hB⟩

theorem app_take (K X : List ByteArray) (j : Nat) (h : j < X.length) : K ++ X.take (j + 1) = (K ++ X.take j) ++ [X[j]] := by
  rw [List.take_succ_eq_append_getElem h, List.append_assoc]
/-- One text appended; which block may turn. -/
theorem ownT_one {B : Nat} {w : World} {v : Value} {X : List ByteArray} (x : ByteArray) (h : OwnT B w v X) (hmax : X.length + 1 ≤ 4294967296) (hB : B ≤ w.heap.size) :
    ∃ g' c' w', (Builtin.append_ #[39, 39] 39 #[v, .slice (some ⟨w.heap.size, 0, none⟩) 1 1]).run Tryz.prog (w.alloc (.cells #[.string x] 9)) = .ok (.slice (some ⟨g', 0, none⟩) (X ++ [x]).length c') w' ∧
      OwnT B w' (.slice (some ⟨g', 0, none⟩) (X ++ [x]).length c') (X ++ [x]) ∧ Below B w w' ∧ (∀ k, k < w.heap.size → v.ownBlock ≠ some k → w'.heap[k]? = w.heap[k]?) ∧ w.heap.size ≤ w'.heap.size ∧ (v.ownBlock = some g' ∨ w.heap.size < g') := by
  obtain ⟨i, hi, hz0, hz1, hz2⟩ := info_parts info9
  obtain ⟨v', w', hr, q1, q2, q3, q4⟩ := run_append_own_at (P := Tryz.prog) (w.alloc (.cells #[.string x] 9)) B 39 39 9 i (.string ByteArray.empty) 1 16 Tryz.underlying39 hi hz0 hz1 hz2 rfl (by decide) v X.length (X.map Value.string) (h.alloc _) ⟨w.heap.size, 0, none⟩ 1 1 [.string x] rfl
    (fun j u hj => by
      have : j = 0 := by have := (List.getElem?_eq_some_iff.1 hj).1; simpa using this
      subst this
      have : u = .string x := by simpa using hj.symm
      subst this
      rw [addr_add]
      exact tblk_cell (tblk_new _ _) rfl) (rowT_one [x]) (by unfold maxLen; omega) (by omega) (by simp; omega)
  have hq : w'.ownsRow B 9 1 v' (X ++ [x]).length ((X ++ [x]).map Value.string) := by rw [List.length_append, List.map_append]; exact q1
  have hfr : ∀ k, k < w.heap.size → v.ownBlock ≠ some k → w'.heap[k]? = w.heap[k]? := fun k hk hn =>
    (q2.block k (by simp; omega) (fun e => hn e.symm)).trans (Below.heap_alloc _ _ _ hk)
  rcases hq.2 with ⟨_, hz⟩ | ⟨g', c', cur, hv, _⟩
  · rw [List.length_append] at hz
    have : ([x] : List ByteArray).length = 1 := rfl
    omega
  · subst hv
    refine ⟨g', c', w', hr, hq, ((Below.refl _ _).alloc hB _).grown q2 (by simp; omega) (fun q hq => (h.lt q hq).1), hfr, by have := q2.size; simp at this; omega, ?_⟩
    rcases q4 with q4 | q4
    · exact .inl (q4.symm.trans rfl)
    · have : g' = w.heap.size + 1 := by simpa [Value.ownBlock] using q4
      exact .inr (by omega)

set_option maxRecDepth 100000 in
set_option maxHeartbeats 2000000 in
theorem rlist_any (fs : Fs) (a : Option Addr) (c : Nat) (name : ByteArray) (w : World) (hf : Fds w.heap.size w (.slice a fs.length c) fs) (hb : FBd 1048576 fs) (hn : name.size ≤ 1048576) (hl : fs.length ≤ 1024) :
    Calls Tryz.prog 77 #[.slice a fs.length c, .string name] w fun e w' => ∃ ao cv, e = .returned (.slice ao (listF fs name).length cv) ∧ OwnT w.heap.size w' (.slice ao (listF fs name).length cv) (listF fs name) ∧ Below w.heap.size w w' := by
  have C0 : Below w.heap.size w (w.alloc (.cells #[] 9)) := (Below.refl _ _).alloc (Nat.le_refl _) _
  have HG : Hid (Calls Tryz.prog 42 #[.slice a fs.length c, .string name] (w.alloc (.cells #[] 9)) fun e w' => ∃ ao cv, e = .returned (.slice ao (getF fs name).length cv) ∧ OwnT (w.alloc (.cells #[] 9)).heap.size w' (.slice ao (getF fs name).length cv) (getF fs name) ∧ Below (w.alloc (.cells #[] 9)).heap.size (w.alloc (.cells #[] 9)) w') := rget_any fs a c name _ ((hf.keep C0).mono C0.size) hb hn hl
  have HT : Hid ((splA (getF fs name)).length ≤ 1024 * 1048578) := listF_len hb hl
  have HV : Hid (TBd 1048576 (getF fs name)) := getF_bd hb
  have HVL : Hid ((getF fs name).length ≤ 1024) := Nat.le_trans (getF_len _ _) hl
  have e0 : listF fs name = splA (getF fs name) := rfl
  rw [e0]
  clear e0 hf hb hn hl
  generalize getF fs name = vs at *
  go_enter Tryz.func77, Tryz.ntmps77
  go_wp2_with fail
  refine HG.out.mono ?_
  rintro e w1 ⟨ao1, cv1, rfl, own1, B1⟩
  have E1 : OwnT w.heap.size w1 (.slice (some ⟨w.heap.size, 0, none⟩) 0 0) [] := (OwnT.empty w.heap.size w (Nat.le_refl _)).keep B1
  have D1 : Below w.heap.size w w1 := C0.trans (B1.mono C0.size)
  clear HG
  rcases Nat.eq_zero_or_pos vs.length with h0 | hp
  · have he : vs = [] := List.eq_nil_of_length_eq_zero h0
    subst he
    clear h0 own1 C0 B1
    go_wp2_with fail
    refine wp_loop_rounds 1 ?_
    rw [rounds_succ]
    go_wp2
    go_ret
    exact ⟨_, 0, rfl, E1, D1⟩
  · obtain ⟨g, hg0, hg, hao, hcells⟩ : ∃ g : Nat, w.heap.size < g ∧ g < w1.heap.size ∧ ao1 = some ⟨g, 0, none⟩ ∧ ∀ (j : Nat) (hj : j < vs.length), w1.cell? ⟨g, j, none⟩ = some (.string vs[j]) := by
      have T := own1.txs
      rcases own1.2 with ⟨_, hz⟩ | ⟨g', c', cur, hv, hb, hg, _⟩
      · omega
      · obtain ⟨e1, _, _⟩ := slice_inj hv
        refine ⟨g', by simp at hb; omega, heap_lt hg, e1, fun j hj => ?_⟩
        obtain ⟨a', c', e, _, _, _, h3⟩ := T
        obtain ⟨e2, _, _⟩ := slice_inj e
        obtain ⟨g2, off, e3, _, hc⟩ := h3 hp
        rw [e1] at e2
        rw [← e2] at e3
        injection e3 with e3
        injection e3 with e4 e5
        have k := hc j hj
        rw [← e4, ← e5, Nat.zero_add] at k
        exact k
    subst hao
    have HC1 : Hid (∀ (j : Nat) (hj : j < vs.length), w1.cell? ⟨g, j, none⟩ = some (.string vs[j])) := hcells
    have HE1 : Hid (OwnT w.heap.size w1 (.slice (some ⟨w.heap.size, 0, none⟩) 0 0) []) := E1
    clear hcells own1 C0 B1 E1
    have hvl := HVL.out
    go_wp2_with fail
    go_loopw [5, 7] (fun v vi wr => ∃ (k gO cv : Nat), k ≤ vs.length ∧ vi = .int .i64 k ∧ v = .slice (some ⟨gO, 0, none⟩) (splA (vs.take k)).length cv ∧ Hid (OwnT w.heap.size wr (.slice (some ⟨gO, 0, none⟩) (splA (vs.take k)).length cv) (splA (vs.take k))) ∧ Hid (gO ≠ g) ∧ Hid (∀ (j : Nat) (hj : j < vs.length), wr.cell? ⟨g, j, none⟩ = some (.string vs[j])) ∧ g < wr.heap.size ∧ Below w.heap.size w wr) (fun _ vi _ => vs.length - (intOf vi).toNat)
    case atStart => exact ⟨0, w.heap.size, 0, Nat.zero_le _, rfl, rfl, HE1, by rw [Hid]; omega, HC1, hg, D1⟩
    case round =>
      obtain ⟨k, gO, cv, hk, rfl, rfl, hown, hne, hcs, hgr, hB⟩ := hrel
      clear HC1 HE1 D1 hg
      by_cases hlt : k < vs.length
      · have hc1 := hcs.out k hlt
        have hsz : Hid (vs[k].size ≤ 1048576) := HV.out vs[k] (List.getElem_mem hlt)
        have hsn : Hid (splA (vs.take (k + 1)) = splA (vs.take k) ++ splT vs[k]) := by
          rw [Hid, List.take_succ_eq_append_getElem hlt, splA_snoc]
        have hkl : Hid ((splA (vs.take (k + 1))).length ≤ 1024 * 1048578) := Nat.le_trans (splA_take vs (k + 1)) HT.out
        generalize vs[k] = x at *
        generalize splA (vs.take k) = K at *
        go_wp2_with fail
        refine (rsplit_any x _ (by have := hsz.out; omega)).mono ?_
        rintro e w2 ⟨ao2, cv2, rfl, own2, B2⟩
        have own2' : OwnT wr.heap.size w2 (.slice ao2 (splT x).length cv2) (splT x) := own2
        have ownK : Hid (OwnT w.heap.size w2 (.slice (some ⟨gO, 0, none⟩) K.length cv) K) := hown.out.keep B2
        have hB2 := hB.trans (B2.mono hB.size)
        have hcs2 : Hid (∀ (j : Nat) (hj : j < vs.length), w2.cell? ⟨g, j, none⟩ = some (.string vs[j])) := fun j hj => (B2.cell (p := ⟨g, j, none⟩) hgr).trans (hcs.out j hj)
        have hgO : gO < wr.heap.size := (hown.out.lt gO rfl).2
        have hg2 : g < w2.heap.size := Nat.lt_of_lt_of_le hgr B2.size
        have eX : Hid (splT x = keepT (pieces x)) := rfl
        clear own2 hB hcs hc1 hown
        have hLX : Hid ((K ++ splT x).length ≤ 1024 * 1048578) := by rw [Hid, ← hsn.out]; exact hkl.out
        have HSZ2 : Hid (wr.heap.size ≤ w2.heap.size) := B2.size
        clear B2 hkl
        rw [← eX.out]
        generalize splT x = X at *
        rcases Nat.eq_zero_or_pos X.length with h0 | hpx
        · have he : X = [] := List.eq_nil_of_length_eq_zero h0
          have hsn2 : Hid (splA (vs.take (k + 1)) = K) := by rw [Hid, hsn.out, he, List.append_nil]
          clear hsn eX own2'
          subst he
          clear h0 hLX
          go_wp2_with fail
          refine wp_loop_rounds 1 ?_
          rw [rounds_succ]
          go_wp2
          go_roundw
          case rel => exact ⟨k + 1, gO, cv, by omega, by go_num, by rw [hsn2.out], by rw [hsn2.out]; exact ownK, hne, hcs2, hg2, hB2⟩
          case measure => simp [intOf]; omega
        · obtain ⟨gX, hgX0, hgX, hao, hcells⟩ : ∃ gX : Nat, wr.heap.size ≤ gX ∧ gX < w2.heap.size ∧ ao2 = some ⟨gX, 0, none⟩ ∧ ∀ (j : Nat) (hj : j < X.length), w2.cell? ⟨gX, j, none⟩ = some (.string X[j]) := by
            have T := own2'.txs
            rcases own2'.2 with ⟨_, hz⟩ | ⟨g', c', cur, hv, hb, hg, _⟩
            · omega
            · obtain ⟨e1, _, _⟩ := slice_inj hv
              refine ⟨g', hb, heap_lt hg, e1, fun j hj => ?_⟩
              obtain ⟨a', c', e, _, _, _, h3⟩ := T
              obtain ⟨e2, _, _⟩ := slice_inj e
              obtain ⟨g2, off, e3, _, hc⟩ := h3 hpx
              rw [e1] at e2
              rw [← e2] at e3
              injection e3 with e3
              injection e3 with e4 e5
              have k := hc j hj
              rw [← e4, ← e5, Nat.zero_add] at k
              exact k
          subst hao
          have HCX : Hid (∀ (j : Nat) (hj : j < X.length), w2.cell? ⟨gX, j, none⟩ = some (.string X[j])) := hcells
          have hnX : Hid (gO ≠ gX) := by rw [Hid]; omega
          have hXl : X.length ≤ 1073743872 := by have := hLX.out; rw [List.length_append] at this; omega
          have HFl : Hid (K ++ X = splA (vs.take (k + 1))) := hsn.out.symm
          clear hcells own2' hgX0 hgO HSZ2 eX hsn
          go_wp2_with fail
          go_loopw [5, 9] (fun v vj wi => ∃ (j gP cp : Nat), j ≤ X.length ∧ vj = .int .i64 j ∧ v = .slice (some ⟨gP, 0, none⟩) (K ++ X.take j).length cp ∧ Hid (OwnT w.heap.size wi (.slice (some ⟨gP, 0, none⟩) (K ++ X.take j).length cp) (K ++ X.take j)) ∧ Hid (gP ≠ g) ∧ Hid (gP ≠ gX) ∧ Hid (∀ (j : Nat) (hj : j < vs.length), wi.cell? ⟨g, j, none⟩ = some (.string vs[j])) ∧ Hid (∀ (j : Nat) (hj : j < X.length), wi.cell? ⟨gX, j, none⟩ = some (.string X[j])) ∧ g < wi.heap.size ∧ gX < wi.heap.size ∧ Below w.heap.size w wi) (fun _ vj _ => X.length - (intOf vj).toNat)
          case atStart => exact ⟨0, gO, cv, Nat.zero_le _, rfl, by simp, by simpa using ownK, hne, hnX, hcs2, HCX, hg2, hgX, hB2⟩
          case round =>
            obtain ⟨j, gP, cp, hj, rfl, rfl, hoP, hn1, hn2, hc1, hc2, hl1, hl2, hBi⟩ := hrel
            by_cases hjt : j < X.length
            · have hcx := hc2.out j hjt
              have hap : Hid (K ++ X.take (j + 1) = (K ++ X.take j) ++ [X[j]]) := app_take K X j hjt
              have hlen : Hid ((K ++ X.take j).length + 1 ≤ 4294967296) := by
                have := hLX.out
                rw [Hid, List.length_append, List.length_take]
                rw [List.length_append] at this
                omega
              generalize X[j] = y at *
              generalize K ++ X.take j = R at *
              obtain ⟨g', c', w', hr, own', B', hfr, hsz', hwh⟩ := ownT_one y hoP.out hlen.out hBi.size
              have HO : Hid (OwnT w.heap.size w' (.slice (some ⟨g', 0, none⟩) (K ++ X.take (j + 1)).length c') (K ++ X.take (j + 1))) := by rw [Hid, hap.out]; exact own'
              have m1 : Hid (g' ≠ g) := by
                rw [Hid]
                rcases hwh with q | q
                · have : gP = g' := by simpa [Value.ownBlock] using q
                  rw [← this]; exact hn1.out
                · omega
              have m2 : Hid (g' ≠ gX) := by
                rw [Hid]
                rcases hwh with q | q
                · have : gP = g' := by simpa [Value.ownBlock] using q
                  rw [← this]; exact hn2.out
                · omega
              have k1 : Hid (∀ (j : Nat) (hj : j < vs.length), w'.cell? ⟨g, j, none⟩ = some (.string vs[j])) := fun i hi =>
                (World.cell?_of_block (a := ⟨g, i, none⟩) (hfr g hl1 (by simpa [Value.ownBlock] using hn1.out))).trans (hc1.out i hi)
              have k2 : Hid (∀ (j : Nat) (hj : j < X.length), w'.cell? ⟨gX, j, none⟩ = some (.string X[j])) := fun i hi =>
                (World.cell?_of_block (a := ⟨gX, i, none⟩) (hfr gX hl2 (by simpa [Value.ownBlock] using hn2.out))).trans (hc2.out i hi)
              have D' : Below w.heap.size w w' := hBi.trans B'
              have HR : Hid _ := hr
              have HL : Hid ((R ++ [y]).length = (K ++ X.take (j + 1)).length) := by rw [Hid, hap.out]
              have hs1 : g < w'.heap.size := by omega
              have hs2 : gX < w'.heap.size := by omega
              clear hr own' B' hfr hwh hsz' hc1 hc2 hn1 hn2 hBi hoP
              generalize (R ++ [y]).length = L at *
              go_wp2_with (at_builtin; refine wpList_append_run2 rfl _ _ 39 39 rfl _ _ _ w' rfl rfl HR.out ?_)
              go_roundw
              case rel => exact ⟨j + 1, g', c', by omega, by go_num, by rw [HL.out], HO, m1, m2, k1, k2, hs1, hs2, D'⟩
              case measure => simp [intOf]; omega
            · have hj' : j = X.length := by omega
              subst hj'
              rw [List.take_length, HFl.out] at *
              go_wp2
              go_roundw
              case rel => exact ⟨k + 1, gP, cp, by omega, by go_num, rfl, hoP, hn1, hc1, hl1, hBi⟩
              case measure => simp [intOf]; omega
      · go_wp2
        go_ret
        have hk' : k = vs.length := by omega
        subst hk'
        rw [List.take_length] at *
        exact ⟨_, cv, rfl, hown.out, hB⟩

set_option maxRecDepth 100000 in
set_option maxHeartbeats 1000000 in
theorem rhas_any (fs : Fs) (a : Option Addr) (c : Nat) (name part : ByteArray) (w : World) (hf : Fds w.heap.size w (.slice a fs.length c) fs) (hb : FBd 1048576 fs) (hn : name.size ≤ 1048576) (hq : part.size ≤ 1048576) (hl : fs.length ≤ 1024) :
    Calls Tryz.prog 39 #[.slice a fs.length c, .string name, .string part] w fun e w' => e = .returned (.bool (hasF fs name part)) ∧ Below w.heap.size w w' := by
  have HL : Hid (Calls Tryz.prog 77 #[.slice a fs.length c, .string name] w fun e w' => ∃ ao cv, e = .returned (.slice ao (listF fs name).length cv) ∧ OwnT w.heap.size w' (.slice ao (listF fs name).length cv) (listF fs name) ∧ Below w.heap.size w w') := rlist_any fs a c name w hf hb hn hl
  have HBD : Hid (TBd 1048576 (listF fs name)) := listF_bd hb
  have HLN : Hid ((listF fs name).length ≤ 1024 * 1048578) := listF_len hb hl
  have HS : Hid (part.size ≤ 4294967281) := by rw [Hid]; omega
  unfold hasF
  clear hf hb hn hq hl
  generalize listF fs name = xs at *
  have hln := HLN.out
  go_enter Tryz.func39, Tryz.ntmps39
  go_wp2_with fail
  refine HL.out.mono ?_
  rintro e w1 ⟨ao, cv, rfl, own1, B1⟩
  have T1 := own1.txs
  clear HL own1
  rcases Nat.eq_zero_or_pos xs.length with h0 | hp
  · have he : xs = [] := List.eq_nil_of_length_eq_zero h0
    subst he
    clear T1 h0 hln
    go_wp2_with fail
    refine wp_loop_rounds 1 ?_
    rw [rounds_succ]
    go_wp2
    go_ret
    exact ⟨rfl, B1⟩
  · obtain ⟨a', c', e, hnil, q1, q2, q3⟩ := T1
    obtain ⟨rfl, _, rfl⟩ := slice_inj e
    obtain ⟨g, off, rfl, hg, hc⟩ := q3 hp
    have HC : Hid (∀ (j : Nat) (hj : j < xs.length), w1.cell? ⟨g, off + j, none⟩ = some (.string xs[j])) := hc
    clear e hnil q1 q2 q3 hc
    go_wp2_with fail
    go_loopw [8] (fun vi wr => ∃ k : Nat, k ≤ xs.length ∧ vi = .int .i64 k ∧ Hid (anyT (xs.take k) part = false) ∧ Below w1.heap.size w1 wr) (fun vi _ => xs.length - (intOf vi).toNat)
    case atStart => exact ⟨0, Nat.zero_le _, rfl, rfl, Below.refl _ _⟩
    case round =>
      obtain ⟨k, hk, rfl, hA, hB⟩ := hrel
      by_cases hlt : k < xs.length
      · have hc1 := (hB.cell (p := ⟨g, off + k, none⟩) hg).trans (HC.out k hlt)
        have hsz := HBD.out xs[k] (List.getElem_mem hlt)
        have HA : Hid (∀ W, Calls Tryz.prog 78 #[.string xs[k], .string part] W fun e w' => e = .returned (.bool (smT xs[k] part)) ∧ Below W.heap.size W w') := fun W => rsame_any _ part W (by omega) HS.out
        have hY : Hid (smT xs[k] part = true → anyT xs part = true) := fun q => anyT_at k hlt q
        have hN : Hid (smT xs[k] part = false → anyT (xs.take (k + 1)) part = false) := fun q => anyT_snoc hlt hA.out q
        generalize smT xs[k] part = b at *
        clear hsz
        generalize xs[k] = x at *
        go_wp2_with fail
        refine (HA.out _).mono ?_
        rintro e w2 ⟨rfl, B2⟩
        have hB2 := hB.trans (B2.mono hB.size)
        clear HA hB B2 hc1
        cases b
        · have hN2 : Hid (anyT (xs.take (k + 1)) part = false) := hN.out rfl
          clear hN hY
          go_wp2
          go_roundw
          case rel => exact ⟨k + 1, by omega, by go_num, hN2, hB2⟩
          case measure => simp [intOf]; omega
        · have hY2 : Hid (anyT xs part = true) := hY.out rfl
          clear hN hY
          go_wp2
          go_ret
          exact ⟨ret_bool hY2.out.symm, B1.trans (hB2.mono B1.size)⟩
      · go_wp2
        go_ret
        have hk' : k = xs.length := by omega
        subst hk'
        have h := hA.out
        rw [List.take_length] at h
        exact ⟨ret_bool h.symm, B1.trans (hB.mono B1.size)⟩
end Go.Proofs.YtkdnckkdofoaoaaGreatDoor

/- The reference of package frame. -/
namespace Go.Proofs.YtkdnckkdofoaoaaGreatDoor
open Go.ChangeShapes Go.WideShapes Go.ChangeAt Go.RowKit
set_option linter.unusedVariables false

def lCL : ByteArray := ⟨#[99, 111, 110, 116, 101, 110, 116, 45, 108, 101, 110, 103, 116, 104]⟩
def lTE : ByteArray := ⟨#[116, 114, 97, 110, 115, 102, 101, 114, 45, 101, 110, 99, 111, 100, 105, 110, 103]⟩
def lCo : ByteArray := ⟨#[99, 111, 110, 110, 101, 99, 116, 105, 111, 110]⟩
theorem fold_CL : foldS lCL = foldS tCL := by decide +kernel
theorem fold_TE : foldS lTE = foldS tTE := by decide +kernel
theorem fold_Co : foldS lCo = foldS tCo := by decide +kernel
theorem thereF_congr {n n' : ByteArray} (h : foldS n = foldS n') (fs : Fs) : thereF fs n = thereF fs n' := by unfold thereF; rw [getF_congr h]
theorem hasF_congr {n n' : ByteArray} (h : foldS n = foldS n') (fs : Fs) (p : ByteArray) : hasF fs n p = hasF fs n' p := by unfold hasF; rw [listF_congr h]
theorem smCh (p : ByteArray) : smT p tCh = ((foldS p).toList == [99, 104, 117, 110, 107, 101, 100]) := by
  unfold smT
  rw [show (foldS tCh).toList = [99, 104, 117, 110, 107, 101, 100] by decide +kernel]

set_option maxHeartbeats 1000000 in
theorem rthere_any (fs : Fs) (a : Option Addr) (c : Nat) (name : ByteArray) (w : World) (hf : Fds w.heap.size w (.slice a fs.length c) fs) (hb : FBd 1048576 fs) (hn : name.size ≤ 1048576) (hl : fs.length ≤ 1024) :
    Calls Tryz.prog 92 #[.slice a fs.length c, .string name] w fun e w' => e = .returned (.bool (thereF fs name)) ∧ Below w.heap.size w w' := by
  have HG : Hid (Calls Tryz.prog 42 #[.slice a fs.length c, .string name] w fun e w' => ∃ ao cv, e = .returned (.slice ao (getF fs name).length cv) ∧ OwnT w.heap.size w' (.slice ao (getF fs name).length cv) (getF fs name) ∧ Below w.heap.size w w') := rget_any fs a c name w hf hb hn hl
  unfold thereF
  clear hf hb hn hl
  generalize getF fs name = vs at *
  go_enter Tryz.func92, Tryz.ntmps92
  go_wp2_with fail
  refine HG.out.mono ?_
  rintro e w1 ⟨ao1, cv1, rfl, own1, B1⟩
  clear own1 HG
  go_wp2
  go_ret
  exact ⟨ret_bool (by first | exact int_pos _ | simp), B1⟩

set_option maxHeartbeats 1000000 in
theorem rcoded_any (fs : Fs) (a : Option Addr) (c : Nat) (w : World) (hf : Fds w.heap.size w (.slice a fs.length c) fs) (hb : FBd 1048576 fs) (hl : fs.length ≤ 1024) :
    Calls Tryz.prog 94 #[.slice a fs.length c] w fun e w' => e = .returned (.bool (chunkedF fs)) ∧ Below w.heap.size w w' := by
  have HL0 := rlist_any fs a c lTE w hf hb (by decide) hl
  rw [listF_congr fold_TE] at HL0
  have HL : Hid (Calls Tryz.prog 77 #[.slice a fs.length c, .string ⟨#[116, 114, 97, 110, 115, 102, 101, 114, 45, 101, 110, 99, 111, 100, 105, 110, 103]⟩] w fun e w' => ∃ ao cv, e = .returned (.slice ao (listF fs tTE).length cv) ∧ OwnT w.heap.size w' (.slice ao (listF fs tTE).length cv) (listF fs tTE) ∧ Below w.heap.size w w') := HL0
  have HBD : Hid (TBd 1048576 (listF fs tTE)) := listF_bd hb
  unfold chunkedF
  clear hf hb hl HL0
  generalize listF fs tTE = xs at *
  generalize hck : chunkL xs = ck
  have HCK : Hid (chunkL xs = ck) := hck
  clear hck
  go_enter Tryz.func94, Tryz.ntmps94
  go_wp2_with fail
  refine HL.out.mono ?_
  rintro e w1 ⟨ao1, cv1, rfl, own1, B1⟩
  have T1 := own1.txs
  clear own1 HL
  match xs, T1, HBD, HCK with
  | [], _, _, HCK =>
    go_wp2
    go_ret
    exact ⟨ret_bool HCK.out, B1⟩
  | [p], T1, HBD, HCK =>
    obtain ⟨a', c', e, hnil, q1, q2, q3⟩ := T1
    obtain ⟨rfl, _, rfl⟩ := slice_inj e
    obtain ⟨g, off, rfl, hg, hc⟩ := q3 Nat.one_pos
    have hc0 : w1.cell? ⟨g, off, none⟩ = some (.string p) := hc 0 Nat.one_pos
    have HS : Hid (∀ W, Calls Tryz.prog 83 #[.string p] W fun e w' => e = .returned (.string (foldS p)) ∧ Below W.heap.size W w') := fun W => rfold_any p W (by have := HBD.out p (List.mem_cons_self ..); omega)
    have HK2 : Hid (((foldS p).toList == [99, 104, 117, 110, 107, 101, 100]) = ck) := by rw [Hid, ← smCh]; exact HCK.out
    clear e hnil q1 q2 q3 hc HBD HCK
    generalize foldS p = b at *
    go_wp2_with fail
    refine (HS.out _).mono ?_
    rintro e w2 ⟨rfl, B2⟩
    go_wp2
    go_ret
    exact ⟨ret_bool HK2.out, B1.trans (B2.mono B1.size)⟩
  | p :: q :: r, _, _, HCK =>
    have HK2 : Hid (false = ck) := HCK.out
    have h1 : ¬ (((p :: q :: r).length : Int) = 1) := by simp only [List.length_cons]; omega
    have h2 : (((p :: q :: r).length : Int) == 1) = false := by simpa using h1
    clear h1 HCK
    generalize (p :: q :: r).length = n at *
    go_wp2
    go_ret
    exact ⟨ret_bool HK2.out, B1⟩

theorem lenL_cons (p : ByteArray) (r : List ByteArray) : lenL (p :: r) = if sameN (numI 10 18 p) (p :: r) = true then (numI 10 18 p, true) else (0, false) := by
  unfold lenL
  have e : sameN (numI 10 18 p) (p :: r) = (numB 10 18 p && sameN (numI 10 18 p) r) := by
    unfold sameN
    rw [List.all_cons]
    simp
  rw [e]
theorem sameN_bad {f : Int} {ps : List ByteArray} {k : Nat} (h : k < ps.length) (hb : (numB 10 18 ps[k] && decide (numI 10 18 ps[k] = f)) = false) : sameN f ps = false := by
  unfold sameN
  rw [List.all_eq_false]
  exact ⟨ps[k], List.getElem_mem h, by simpa using hb⟩

set_option maxRecDepth 100000 in
set_option maxHeartbeats 1000000 in
theorem rlength_any (fs : Fs) (a : Option Addr) (c : Nat) (w : World) (hf : Fds w.heap.size w (.slice a fs.length c) fs) (hb : FBd 1048576 fs) (hl : fs.length ≤ 1024) :
    Calls Tryz.prog 93 #[.slice a fs.length c] w fun e w' => e = .returned (.tuple #[.int .i64 (lengthF fs).1, .bool (lengthF fs).2]) ∧ Below w.heap.size w w' := by
  have HL0 := rlist_any fs a c lCL w hf hb (by decide) hl
  rw [listF_congr fold_CL] at HL0
  have HL : Hid (Calls Tryz.prog 77 #[.slice a fs.length c, .string ⟨#[99, 111, 110, 116, 101, 110, 116, 45, 108, 101, 110, 103, 116, 104]⟩] w fun e w' => ∃ ao cv, e = .returned (.slice ao (listF fs tCL).length cv) ∧ OwnT w.heap.size w' (.slice ao (listF fs tCL).length cv) (listF fs tCL) ∧ Below w.heap.size w w') := HL0
  have HBD : Hid (TBd 1048576 (listF fs tCL)) := listF_bd hb
  have HLN : Hid ((listF fs tCL).length ≤ 1024 * 1048578) := listF_len hb hl
  unfold lengthF
  clear hf hb hl HL0
  generalize listF fs tCL = xs at *
  generalize hck : lenL xs = ck
  have HCK : Hid (lenL xs = ck) := hck
  clear hck
  obtain ⟨n, r⟩ := ck
  go_enter Tryz.func93, Tryz.ntmps93
  go_wp2_with fail
  refine HL.out.mono ?_
  rintro e w1 ⟨ao1, cv1, rfl, own1, B1⟩
  have T1 := own1.txs
  clear own1 HL
  match xs, T1, HBD, HCK, HLN with
  | [], _, _, HCK, _ =>
    have HK2 : Hid ((0, false) = (n, r)) := HCK.out
    clear HCK
    go_wp2
    go_ret2
    exact ⟨ret2_ib (congrArg Prod.fst HK2.out) (congrArg Prod.snd HK2.out), B1⟩
  | p :: ps, T1, HBD, HCK, HLN =>
    obtain ⟨a', c', e, hnil, q1, q2, q3⟩ := T1
    obtain ⟨rfl, _, rfl⟩ := slice_inj e
    obtain ⟨g, off, rfl, hg, hc⟩ := q3 (Nat.zero_lt_succ _)
    have hc0 : w1.cell? ⟨g, off, none⟩ = some (.string p) := hc 0 (Nat.zero_lt_succ _)
    have HC : Hid (∀ (j : Nat) (hj : j < (p :: ps).length), w1.cell? ⟨g, off + j, none⟩ = some (.string (p :: ps)[j])) := hc
    have HS : Hid (∀ x ∈ p :: ps, ∀ W, Calls Tryz.prog 132 #[.string x] W fun e w' => e = .returned (.tuple #[.int .i64 (numI 10 18 x), .bool (numB 10 18 x)]) ∧ w' = W) := fun x hx W => rdecimal_any x W (by have := HBD.out x hx; unfold maxLen; omega)
    have HK2 : Hid ((if sameN (numI 10 18 p) (p :: ps) = true then (numI 10 18 p, true) else (0, false)) = (n, r)) := by rw [Hid, ← lenL_cons]; exact HCK.out
    have HS0 : Hid (∀ W, Calls Tryz.prog 132 #[.string p] W fun e w' => e = .returned (.tuple #[.int .i64 (numI 10 18 p), .bool (numB 10 18 p)]) ∧ w' = W) := HS.out p (List.mem_cons_self ..)
    have HB0 : Hid (sameN (numI 10 18 p) (p :: ps) = true → numB 10 18 p = true) := fun h => by
      unfold sameN at h
      rw [List.all_cons] at h
      simp at h
      exact h.1
    have hln : (p :: ps).length ≤ 1073743872 := HLN.out
    have hpos : 0 < (p :: ps).length := Nat.zero_lt_succ _
    clear e hnil q1 q3 hc HBD HCK HLN
    have hz : ¬ (((p :: ps).length : Int) = 0) := by omega
    have hz2 : (((p :: ps).length : Int) == 0) = false := by simpa using hz
    clear hz
    generalize numI 10 18 p = f at *
    generalize numB 10 18 p = b at *
    generalize hq : p :: ps = Q at *
    clear hq
    go_wp2_with fail
    refine (HS0.out _).mono ?_
    rintro e w2 ⟨rfl, rfl⟩
    clear HS0 hc0
    go_wp2_with fail
    go_loop [7] (fun vi => ∃ k : Nat, k ≤ Q.length ∧ vi = .int .i64 k ∧ Hid (sameN f (Q.take k) = true)) (fun vi => Q.length - (intOf vi).toNat)
    case atStart => exact ⟨0, Nat.zero_le _, rfl, rfl⟩
    case round =>
      obtain ⟨k, hk, rfl, hA⟩ := hrel
      by_cases hlt : k < Q.length
      · have hc1 := HC.out k hlt
        have hY : Hid ((numB 10 18 Q[k] && decide (numI 10 18 Q[k] = f)) = true → sameN f (Q.take (k + 1)) = true) := fun q => by rw [sameN_snoc hlt, hA.out, q]; rfl
        have hN : Hid ((numB 10 18 Q[k] && decide (numI 10 18 Q[k] = f)) = false → sameN f Q = false) := fun q => sameN_bad hlt q
        have HX : Hid (∀ W, Calls Tryz.prog 132 #[.string Q[k]] W fun e w' => e = .returned (.tuple #[.int .i64 (numI 10 18 Q[k]), .bool (numB 10 18 Q[k])]) ∧ w' = W) := HS.out Q[k] (List.getElem_mem hlt)
        generalize numI 10 18 Q[k] = nx at *
        generalize numB 10 18 Q[k] = nb at *
        generalize Q[k] = x at *
        cases nb
        · have HK3 : Hid ((0, false) = (n, r)) := by
            have h := HK2.out
            rw [hN.out rfl] at h
            exact h
          clear hY hN HK2
          go_wp2_with fail
          refine (HX.out _).mono ?_
          rintro e w3 ⟨rfl, rfl⟩
          go_wp2
          go_ret2
          exact ⟨ret2_ib (congrArg Prod.fst HK3.out) (congrArg Prod.snd HK3.out), B1⟩
        · by_cases hx : nx = f
          · subst hx
            have hY2 : Hid (sameN nx (Q.take (k + 1)) = true) := hY.out (by simp)
            clear hY hN
            go_wp2_with fail
            refine (HX.out _).mono ?_
            rintro e w3 ⟨rfl, rfl⟩
            go_wp2
            go_round
            case rel => exact ⟨k + 1, by omega, by go_num, hY2⟩
            case measure => simp [intOf]; omega
          · have HK3 : Hid ((0, false) = (n, r)) := by
              have h := HK2.out
              rw [hN.out (by rw [decide_eq_false hx]; rfl)] at h
              exact h
            have hx2 : (nx != f) = true := by simpa using hx
            clear hY hN HK2 hx
            go_wp2_with fail
            refine (HX.out _).mono ?_
            rintro e w3 ⟨rfl, rfl⟩
            go_wp2
            go_ret2
            exact ⟨ret2_ib (congrArg Prod.fst HK3.out) (congrArg Prod.snd HK3.out), B1⟩
      · have hk' : k = Q.length := by omega
        subst hk'
        have hA2 := hA.out
        rw [List.take_length] at hA2
        have HK3 : Hid ((f, true) = (n, r)) := by
          have h := HK2.out
          rw [hA2] at h
          exact h
        have hb2 : b = true := HB0.out hA2
        subst hb2
        clear hA2 HK2 HB0
        go_wp2
        go_ret2
        exact ⟨ret2_ib (congrArg Prod.fst HK3.out) (congrArg Prod.snd HK3.out), B1⟩
end Go.Proofs.YtkdnckkdofoaoaaGreatDoor

/- The reference's Request (frame). -/
namespace Go.Proofs.YtkdnckkdofoaoaaGreatDoor
open Go.ChangeShapes Go.WideShapes Go.ChangeAt Go.RowKit
set_option linter.unusedVariables false

def reqP (E : Int × Int × Int) : Int × Bool × Int := (E.2.1, decide (E.1 = 2), E.2.2)

set_option maxHeartbeats 1000000 in
theorem rrequest_any (fs : Fs) (a : Option Addr) (c : Nat) (minor : Int) (w : World) (hf : Fds w.heap.size w (.slice a fs.length c) fs) (hb : FBd 1048576 fs) (hl : fs.length ≤ 1024) :
    Calls Tryz.prog 65 #[.slice a fs.length c, .int .i64 minor] w fun e w' => e = .returned (.tuple #[.int .i64 (reqF fs minor).1, .bool (reqF fs minor).2.1, .int .i64 (reqF fs minor).2.2]) ∧ Below w.heap.size w w' := by
  have H10 := rthere_any fs a c lCL w hf hb (by decide) hl
  rw [thereF_congr fold_CL] at H10
  have H1 : Hid (Calls Tryz.prog 92 #[.slice a fs.length c, .string ⟨#[99, 111, 110, 116, 101, 110, 116, 45, 108, 101, 110, 103, 116, 104]⟩] w fun e w' => e = .returned (.bool (thereF fs tCL)) ∧ Below w.heap.size w w') := H10
  have H2 : Hid (∀ W, Below w.heap.size w W → Calls Tryz.prog 92 #[.slice a fs.length c, .string ⟨#[116, 114, 97, 110, 115, 102, 101, 114, 45, 101, 110, 99, 111, 100, 105, 110, 103]⟩] W fun e w' => e = .returned (.bool (thereF fs tTE)) ∧ Below W.heap.size W w') := fun W b => by
    have k := rthere_any fs a c lTE W (hf.over b) hb (by decide) hl
    rw [thereF_congr fold_TE] at k
    exact k
  have H3 : Hid (∀ W, Below w.heap.size w W → Calls Tryz.prog 94 #[.slice a fs.length c] W fun e w' => e = .returned (.bool (chunkedF fs)) ∧ Below W.heap.size W w') := fun W b => rcoded_any fs a c W (hf.over b) hb hl
  have H4 : Hid (∀ W, Below w.heap.size w W → Calls Tryz.prog 93 #[.slice a fs.length c] W fun e w' => e = .returned (.tuple #[.int .i64 (lengthF fs).1, .bool (lengthF fs).2]) ∧ Below W.heap.size W w') := fun W b => rlength_any fs a c W (hf.over b) hb hl
  have hbd := lenL_bd (listF fs tCL)
  have e0 : reqF fs minor = reqP (toldP (thereF fs tTE) (thereF fs tCL) (chunkedF fs) (lengthF fs) minor) := rfl
  rw [e0]
  have hbd2 : 0 ≤ (lengthF fs).1 ∧ (lengthF fs).1 < 1000000000000000000 := hbd
  clear hf hb hl hbd e0 H10
  generalize thereF fs tTE = te at *
  generalize thereF fs tCL = cl at *
  generalize chunkedF fs = ch at *
  generalize lengthF fs = ln at *
  obtain ⟨n, r⟩ := ln
  simp only at H4 hbd2
  obtain ⟨b1, b2⟩ := hbd2
  generalize hE : reqP (toldP te cl ch (n, r) minor) = E
  have HE : Hid (reqP (toldP te cl ch (n, r) minor) = E) := hE
  clear hE
  obtain ⟨E1, E2, E3⟩ := E
  cases te
  · cases cl
    · have HK : Hid ((0, false, 0) = (E1, E2, E3)) := HE.out
      clear HE
      go_enter Tryz.func65, Tryz.ntmps65
      go_wp2_with fail
      refine H1.out.mono ?_
      rintro e w1 ⟨rfl, B1⟩
      go_wp2_with fail
      refine (H2.out _ B1).mono ?_
      rintro e w2 ⟨rfl, B2⟩
      have D2 := B1.trans (B2.mono B1.size)
      go_wp2
      go_ret3
      exact ⟨ret3_ibi (congrArg Prod.fst HK.out) (congrArg (·.2.1) HK.out) (congrArg (·.2.2) HK.out), D2⟩
    · cases r
      · have HK : Hid ((0, false, 400) = (E1, E2, E3)) := HE.out
        clear HE
        go_enter Tryz.func65, Tryz.ntmps65
        go_wp2_with fail
        refine H1.out.mono ?_
        rintro e w1 ⟨rfl, B1⟩
        go_wp2_with fail
        refine (H2.out _ B1).mono ?_
        rintro e w2 ⟨rfl, B2⟩
        have D2 := B1.trans (B2.mono B1.size)
        go_wp2_with fail
        refine (H4.out _ D2).mono ?_
        rintro e w3 ⟨rfl, B3⟩
        have D3 := D2.trans (B3.mono D2.size)
        go_wp2
        go_ret3
        exact ⟨ret3_ibi (congrArg Prod.fst HK.out) (congrArg (·.2.1) HK.out) (congrArg (·.2.2) HK.out), D3⟩
      · by_cases hn : 4096 < n
        · have HK : Hid ((0, false, 413) = (E1, E2, E3)) := by
            have k := HE.out
            unfold toldP at k
            simp only [Bool.false_and, Bool.false_eq_true, if_false, Bool.true_eq_false, if_pos hn] at k
            exact k
          clear HE
          go_enter Tryz.func65, Tryz.ntmps65
          go_wp2_with fail
          refine H1.out.mono ?_
          rintro e w1 ⟨rfl, B1⟩
          go_wp2_with fail
          refine (H2.out _ B1).mono ?_
          rintro e w2 ⟨rfl, B2⟩
          have D2 := B1.trans (B2.mono B1.size)
          go_wp2_with fail
          refine (H4.out _ D2).mono ?_
          rintro e w3 ⟨rfl, B3⟩
          have D3 := D2.trans (B3.mono D2.size)
          go_wp2
          go_ret3
          exact ⟨ret3_ibi (congrArg Prod.fst HK.out) (congrArg (·.2.1) HK.out) (congrArg (·.2.2) HK.out), D3⟩
        · have HK : Hid ((n, false, 0) = (E1, E2, E3)) := by
            have k := HE.out
            unfold toldP at k
            simp only [Bool.false_and, Bool.false_eq_true, if_false, Bool.true_eq_false, if_neg hn] at k
            exact k
          clear HE
          go_enter Tryz.func65, Tryz.ntmps65
          go_wp2_with fail
          refine H1.out.mono ?_
          rintro e w1 ⟨rfl, B1⟩
          go_wp2_with fail
          refine (H2.out _ B1).mono ?_
          rintro e w2 ⟨rfl, B2⟩
          have D2 := B1.trans (B2.mono B1.size)
          go_wp2_with fail
          refine (H4.out _ D2).mono ?_
          rintro e w3 ⟨rfl, B3⟩
          have D3 := D2.trans (B3.mono D2.size)
          go_wp2
          go_ret3
          exact ⟨ret3_ibi (congrArg Prod.fst HK.out) (congrArg (·.2.1) HK.out) (congrArg (·.2.2) HK.out), D3⟩
  · cases cl
    · by_cases hm : minor = 0
      · subst hm
        have HK : Hid ((0, false, 400) = (E1, E2, E3)) := HE.out
        clear HE
        go_enter Tryz.func65, Tryz.ntmps65
        go_wp2_with fail
        refine H1.out.mono ?_
        rintro e w1 ⟨rfl, B1⟩
        go_wp2_with fail
        refine (H2.out _ B1).mono ?_
        rintro e w2 ⟨rfl, B2⟩
        have D2 := B1.trans (B2.mono B1.size)
        go_wp2
        go_ret3
        exact ⟨ret3_ibi (congrArg Prod.fst HK.out) (congrArg (·.2.1) HK.out) (congrArg (·.2.2) HK.out), D2⟩
      · have hm2 : (minor == 0) = false := by simpa using hm
        have hm3 : decide (minor = 0) = false := decide_eq_false hm
        have HE2 : Hid (reqP (if ch = true then ((2 : Int), (0 : Int), (0 : Int)) else (0, 0, 501)) = (E1, E2, E3)) := by
          have k := HE.out
          unfold toldP at k
          rw [hm3] at k
          exact k
        clear hm hm3
        cases ch
        · have HK : Hid ((0, false, 501) = (E1, E2, E3)) := HE2.out
          clear HE2
          clear HE
          go_enter Tryz.func65, Tryz.ntmps65
          go_wp2_with fail
          refine H1.out.mono ?_
          rintro e w1 ⟨rfl, B1⟩
          go_wp2_with fail
          refine (H2.out _ B1).mono ?_
          rintro e w2 ⟨rfl, B2⟩
          have D2 := B1.trans (B2.mono B1.size)
          go_wp2_with fail
          refine (H3.out _ D2).mono ?_
          rintro e w3 ⟨rfl, B3⟩
          have D3 := D2.trans (B3.mono D2.size)
          go_wp2
          go_ret3
          exact ⟨ret3_ibi (congrArg Prod.fst HK.out) (congrArg (·.2.1) HK.out) (congrArg (·.2.2) HK.out), D3⟩
        · have HK : Hid ((0, true, 0) = (E1, E2, E3)) := HE2.out
          clear HE2
          clear HE
          go_enter Tryz.func65, Tryz.ntmps65
          go_wp2_with fail
          refine H1.out.mono ?_
          rintro e w1 ⟨rfl, B1⟩
          go_wp2_with fail
          refine (H2.out _ B1).mono ?_
          rintro e w2 ⟨rfl, B2⟩
          have D2 := B1.trans (B2.mono B1.size)
          go_wp2_with fail
          refine (H3.out _ D2).mono ?_
          rintro e w3 ⟨rfl, B3⟩
          have D3 := D2.trans (B3.mono D2.size)
          go_wp2
          go_ret3
          exact ⟨ret3_ibi (congrArg Prod.fst HK.out) (congrArg (·.2.1) HK.out) (congrArg (·.2.2) HK.out), D3⟩
    · have HK : Hid ((0, false, 400) = (E1, E2, E3)) := HE.out
      clear HE
      go_enter Tryz.func65, Tryz.ntmps65
      go_wp2_with fail
      refine H1.out.mono ?_
      rintro e w1 ⟨rfl, B1⟩
      go_wp2_with fail
      refine (H2.out _ B1).mono ?_
      rintro e w2 ⟨rfl, B2⟩
      have D2 := B1.trans (B2.mono B1.size)
      go_wp2
      go_ret3
      exact ⟨ret3_ibi (congrArg Prod.fst HK.out) (congrArg (·.2.1) HK.out) (congrArg (·.2.2) HK.out), D2⟩

end Go.Proofs.YtkdnckkdofoaoaaGreatDoor

/- The reference's Response (frame). -/
namespace Go.Proofs.YtkdnckkdofoaoaaGreatDoor
open Go.ChangeShapes Go.WideShapes Go.ChangeAt Go.RowKit
set_option linter.unusedVariables false

def respP (E : Int × Int × Int) : Int × Int × Bool := (E.1, E.2.1, decide (E.2.2 = 0))
/-- The response's own block stays. -/
structure RI (w : World) (o : Obj) (W : World) : Prop where
  below : Below w.heap.size w W
  blk : W.heap[w.heap.size]? = some o
theorem RI.drew {w W : World} {o : Obj} (h : RI w o W) : RI w o W.drew := ⟨h.below.drew, h.blk⟩
theorem RI.next {w W W' : World} {o : Obj} (h : RI w o W) (b : Below W.heap.size W W') : RI w o W' := ⟨h.below.trans (b.mono h.below.size), tblk_below h.blk b⟩

set_option maxRecDepth 100000 in
set_option maxHeartbeats 2000000 in
theorem rresp_full (m reason : ByteArray) (code minor : Int) (fs : Fs) (a b : Option Addr) (c x y : Nat) (w : World) (h : bareF m code = false) (hf : Fds w.heap.size w (.slice a fs.length c) fs) (hb : FBd 1048576 fs) (hl : fs.length ≤ 1024) :
    Calls Tryz.prog 49 #[.string m, .agg #[.int .i64 code, .string reason, .int .i64 minor, .slice a fs.length c, .slice b x y]] w fun e w' => e = .returned (.tuple #[.int .i64 (toldF fs minor).1, .int .i64 (toldF fs minor).2.1, .bool (decide ((toldF fs minor).2.2 = 0))]) ∧ Below w.heap.size w w' := by
  have q : ¬ m = ⟨#[72, 69, 65, 68]⟩ ∧ ¬ code < 200 ∧ ¬ code = 204 ∧ ¬ code = 304 := by
    unfold bareF at h
    simp at h
    exact ⟨h.1.1.1, by omega, h.1.2, h.2⟩
  obtain ⟨p1, q2, p3, p4⟩ := q
  have q1 : (m.toList == [72, 69, 65, 68]) = false := by
    rw [ByteArray.toList_eq, beq_eq_false_iff_ne]
    intro e
    exact p1 (ByteArray.ext (Array.toList_inj.1 e))
  have q3 : (code == 204) = false := by simpa using p3
  have q4 : (code == 304) = false := by simpa using p4
  have I0 : RI w (.cells #[.int .i64 code, .string reason, .int .i64 minor, .slice a fs.length c, .slice b x y] 33) (w.alloc (.cells #[.int .i64 code, .string reason, .int .i64 minor, .slice a fs.length c, .slice b x y] 33)) := ⟨(Below.refl _ _).alloc (Nat.le_refl _) _, tblk_new _ _⟩
  have H1 : Hid (∀ W, RI w (.cells #[.int .i64 code, .string reason, .int .i64 minor, .slice a fs.length c, .slice b x y] 33) W → Calls Tryz.prog 92 #[.slice a fs.length c, .string ⟨#[99, 111, 110, 116, 101, 110, 116, 45, 108, 101, 110, 103, 116, 104]⟩] W fun e w' => e = .returned (.bool (thereF fs tCL)) ∧ RI w (.cells #[.int .i64 code, .string reason, .int .i64 minor, .slice a fs.length c, .slice b x y] 33) w' ∧ w'.cell? ⟨w.heap.size, 3, none⟩ = some (.slice a fs.length c)) := fun W i => by
    have k := rthere_any fs a c lCL W (hf.over i.below) hb (by decide) hl
    rw [thereF_congr fold_CL] at k
    exact k.mono fun e w' z => ⟨z.1, i.next z.2, tblk_cell (i.next z.2).blk rfl⟩
  have H2 : Hid (∀ W, RI w (.cells #[.int .i64 code, .string reason, .int .i64 minor, .slice a fs.length c, .slice b x y] 33) W → Calls Tryz.prog 92 #[.slice a fs.length c, .string ⟨#[116, 114, 97, 110, 115, 102, 101, 114, 45, 101, 110, 99, 111, 100, 105, 110, 103]⟩] W fun e w' => e = .returned (.bool (thereF fs tTE)) ∧ RI w (.cells #[.int .i64 code, .string reason, .int .i64 minor, .slice a fs.length c, .slice b x y] 33) w' ∧ w'.cell? ⟨w.heap.size, 3, none⟩ = some (.slice a fs.length c)) := fun W i => by
    have k := rthere_any fs a c lTE W (hf.over i.below) hb (by decide) hl
    rw [thereF_congr fold_TE] at k
    exact k.mono fun e w' z => ⟨z.1, i.next z.2, tblk_cell (i.next z.2).blk rfl⟩
  have H3 : Hid (∀ W, RI w (.cells #[.int .i64 code, .string reason, .int .i64 minor, .slice a fs.length c, .slice b x y] 33) W → Calls Tryz.prog 94 #[.slice a fs.length c] W fun e w' => e = .returned (.bool (chunkedF fs)) ∧ RI w (.cells #[.int .i64 code, .string reason, .int .i64 minor, .slice a fs.length c, .slice b x y] 33) w') := fun W i => (rcoded_any fs a c W (hf.over i.below) hb hl).mono fun e w' z => ⟨z.1, i.next z.2⟩
  have H4 : Hid (∀ W, RI w (.cells #[.int .i64 code, .string reason, .int .i64 minor, .slice a fs.length c, .slice b x y] 33) W → Calls Tryz.prog 93 #[.slice a fs.length c] W fun e w' => e = .returned (.tuple #[.int .i64 (lengthF fs).1, .bool (lengthF fs).2]) ∧ RI w (.cells #[.int .i64 code, .string reason, .int .i64 minor, .slice a fs.length c, .slice b x y] 33) w') := fun W i => (rlength_any fs a c W (hf.over i.below) hb hl).mono fun e w' z => ⟨z.1, i.next z.2⟩
  have hbd := lenL_bd (listF fs tCL)
  have hbd2 : 0 ≤ (lengthF fs).1 ∧ (lengthF fs).1 < 1000000000000000000 := hbd
  have e0 : ((toldF fs minor).1, (toldF fs minor).2.1, decide ((toldF fs minor).2.2 = 0)) = respP (toldP (thereF fs tTE) (thereF fs tCL) (chunkedF fs) (lengthF fs) minor) := rfl
  generalize hE : ((toldF fs minor).1, (toldF fs minor).2.1, decide ((toldF fs minor).2.2 = 0)) = E at e0
  obtain ⟨E1, E2, E3⟩ := E
  injection hE with g1 hE
  injection hE with g2 g3
  rw [g1, g2, g3]
  have HE : Hid (respP (toldP (thereF fs tTE) (thereF fs tCL) (chunkedF fs) (lengthF fs) minor) = (E1, E2, E3)) := e0.symm
  have SS : (w.alloc (.cells #[.int .i64 code, .string reason, .int .i64 minor, .slice a fs.length c, .slice b x y] 33)).cell? ⟨w.heap.size, 3, none⟩ = some (.slice a fs.length c) := tblk_cell I0.blk rfl
  clear hf hb hl hbd e0 g1 g2 g3 h p1 p3 p4
  generalize thereF fs tTE = te at *
  generalize thereF fs tCL = cl at *
  generalize chunkedF fs = ch at *
  generalize lengthF fs = ln at *
  obtain ⟨n, r⟩ := ln
  simp only at H4 hbd2
  obtain ⟨b1, b2⟩ := hbd2
  go_enter Tryz.func49, Tryz.ntmps49
  go_wp2_with fail
  go_region_held3 (fun W => W.cell? ⟨w.heap.size, 3, none⟩ = some (.slice a fs.length c)) (go_keep) (first | (go_at_call 92; refine (H1.out _ (by first | assumption | exact RI.drew I0 | exact RI.drew (by assumption))).mono ?_; rintro e w' ⟨rfl, hI, hS⟩) | (go_at_call 92; refine (H2.out _ (by first | assumption | exact RI.drew I0 | exact RI.drew (by assumption))).mono ?_; rintro e w' ⟨rfl, hI, hS⟩))
  go_wp2_with fail
  refine (H4.out _ (by first | assumption | exact RI.drew (by assumption))).mono ?_
  rintro e w4 ⟨rfl, I4⟩
  have c2 : w4.cell? ⟨w.heap.size, 2, none⟩ = some (.int .i64 minor) := tblk_cell I4.blk rfl
  have c3 : w4.cell? ⟨w.heap.size, 3, none⟩ = some (.slice a fs.length c) := tblk_cell I4.blk rfl
  clear H1 H2 H4 SS I0
  cases te
  · cases cl
    · have HK : Hid ((3, 0, true) = (E1, E2, E3)) := HE.out
      clear HE
      go_wp2
      go_ret3
      exact ⟨ret3_iib (congrArg Prod.fst HK.out) (congrArg (·.2.1) HK.out) (congrArg (·.2.2) HK.out), I4.below⟩
    · cases r
      · have HK : Hid ((0, 0, false) = (E1, E2, E3)) := HE.out
        clear HE
        go_wp2
        go_ret3
        exact ⟨ret3_iib (congrArg Prod.fst HK.out) (congrArg (·.2.1) HK.out) (congrArg (·.2.2) HK.out), I4.below⟩
      · by_cases hn : 4096 < n
        · have HK : Hid ((0, 0, false) = (E1, E2, E3)) := by
            have k := HE.out
            unfold toldP at k
            simp only [Bool.false_and, Bool.false_eq_true, if_false, Bool.true_eq_false, if_pos hn] at k
            exact k
          clear HE
          go_wp2
          go_ret3
          exact ⟨ret3_iib (congrArg Prod.fst HK.out) (congrArg (·.2.1) HK.out) (congrArg (·.2.2) HK.out), I4.below⟩
        · have HK : Hid ((1, n, true) = (E1, E2, E3)) := by
            have k := HE.out
            unfold toldP at k
            simp only [Bool.false_and, Bool.false_eq_true, if_false, Bool.true_eq_false, if_neg hn] at k
            exact k
          clear HE
          go_wp2
          go_ret3
          exact ⟨ret3_iib (congrArg Prod.fst HK.out) (congrArg (·.2.1) HK.out) (congrArg (·.2.2) HK.out), I4.below⟩
  · cases cl
    · by_cases hm : minor = 0
      · subst hm
        have HK : Hid ((0, 0, false) = (E1, E2, E3)) := HE.out
        clear HE
        go_wp2
        go_ret3
        exact ⟨ret3_iib (congrArg Prod.fst HK.out) (congrArg (·.2.1) HK.out) (congrArg (·.2.2) HK.out), I4.below⟩
      · have hm2 : (minor == 0) = false := by simpa using hm
        have hm3 : decide (minor = 0) = false := decide_eq_false hm
        have HE2 : Hid (respP (if ch = true then ((2 : Int), (0 : Int), (0 : Int)) else (0, 0, 501)) = (E1, E2, E3)) := by
          have k := HE.out
          unfold toldP at k
          rw [hm3] at k
          exact k
        clear hm hm3
        cases ch
        · have HK : Hid ((0, 0, false) = (E1, E2, E3)) := HE2.out
          clear HE HE2
          go_wp2_with fail
          refine (H3.out _ I4).mono ?_
          rintro e w5 ⟨rfl, I5⟩
          go_wp2
          go_ret3
          exact ⟨ret3_iib (congrArg Prod.fst HK.out) (congrArg (·.2.1) HK.out) (congrArg (·.2.2) HK.out), I5.below⟩
        · have HK : Hid ((2, 0, true) = (E1, E2, E3)) := HE2.out
          clear HE HE2
          go_wp2_with fail
          refine (H3.out _ I4).mono ?_
          rintro e w5 ⟨rfl, I5⟩
          go_wp2
          go_ret3
          exact ⟨ret3_iib (congrArg Prod.fst HK.out) (congrArg (·.2.1) HK.out) (congrArg (·.2.2) HK.out), I5.below⟩
    · have HK : Hid ((0, 0, false) = (E1, E2, E3)) := HE.out
      clear HE
      go_wp2
      go_ret3
      exact ⟨ret3_iib (congrArg Prod.fst HK.out) (congrArg (·.2.1) HK.out) (congrArg (·.2.2) HK.out), I4.below⟩

set_option maxHeartbeats 1000000 in
theorem rresp_bare (m reason : ByteArray) (code minor : Int) (a b : Option Addr) (n c x y : Nat) (w : World) (h : bareF m code = true) :
    Calls Tryz.prog 49 #[.string m, .agg #[.int .i64 code, .string reason, .int .i64 minor, .slice a n c, .slice b x y]] w fun e w' => e = .returned (.tuple #[.int .i64 0, .int .i64 0, .bool true]) ∧ Below w.heap.size w w' := by
  have C1 : Below w.heap.size w (w.alloc (.cells #[.int .i64 code, .string reason, .int .i64 minor, .slice a n c, .slice b x y] 33)) := (Below.refl _ _).alloc (Nat.le_refl _) _
  by_cases p1 : m = ⟨#[72, 69, 65, 68]⟩
  · subst p1
    clear h
    go_enter Tryz.func49, Tryz.ntmps49
    go_wp2
    go_ret3
    exact ⟨rfl, C1⟩
  · have q1 : (m.toList == [72, 69, 65, 68]) = false := by
      rw [ByteArray.toList_eq, beq_eq_false_iff_ne]
      intro e
      exact p1 (ByteArray.ext (Array.toList_inj.1 e))
    by_cases p2 : code < 200
    · clear h p1
      go_enter Tryz.func49, Tryz.ntmps49
      go_wp2
      go_ret3
      exact ⟨rfl, C1⟩
    · by_cases p3 : code = 204
      · subst p3
        clear h p1
        go_enter Tryz.func49, Tryz.ntmps49
        go_wp2
        go_ret3
        exact ⟨rfl, C1⟩
      · have p4 : code = 304 := by
          unfold bareF at h
          simp [p1, p2, p3] at h
          exact h
        subst p4
        clear h p1 p3
        go_enter Tryz.func49, Tryz.ntmps49
        go_wp2
        go_ret3
        exact ⟨rfl, C1⟩
theorem rresponse_any (m reason : ByteArray) (code minor : Int) (fs : Fs) (a b : Option Addr) (c x y : Nat) (w : World) (hf : Fds w.heap.size w (.slice a fs.length c) fs) (hb : FBd 1048576 fs) (hl : fs.length ≤ 1024) :
    Calls Tryz.prog 49 #[.string m, .agg #[.int .i64 code, .string reason, .int .i64 minor, .slice a fs.length c, .slice b x y]] w fun e w' => e = .returned (.tuple #[.int .i64 (respF m code minor fs).1, .int .i64 (respF m code minor fs).2.1, .bool (respF m code minor fs).2.2]) ∧ Below w.heap.size w w' := by
  unfold respF
  cases h : bareF m code
  · rw [if_neg (by decide)]
    exact rresp_full m reason code minor fs a b c x y w h hf hb hl
  · rw [if_pos rfl]
    exact rresp_bare m reason code minor a b fs.length c x y w h

end Go.Proofs.YtkdnckkdofoaoaaGreatDoor

/- The reference's In and Without. -/
namespace Go.Proofs.YtkdnckkdofoaoaaGreatDoor
open Go.ChangeShapes Go.WideShapes Go.ChangeAt Go.RowKit
set_option linter.unusedVariables false

set_option maxRecDepth 100000 in
set_option maxHeartbeats 1000000 in
theorem rin_any (xs : List ByteArray) (a : Option Addr) (c : Nat) (s : ByteArray) (w : World) (hx : Txs w.heap.size w (.slice a xs.length c) xs) (hb : TBd 1048576 xs) (hs : s.size ≤ 1048576) :
    Calls Tryz.prog 51 #[.slice a xs.length c, .string s] w fun e w' => e = .returned (.bool (anyT xs s)) ∧ Below w.heap.size w w' := by
  have hlm := hx.len
  unfold maxLen at hlm
  have HS : Hid (s.size ≤ 4294967281) := by rw [Hid]; omega
  rcases Nat.eq_zero_or_pos xs.length with h0 | hp
  · have he : xs = [] := List.eq_nil_of_length_eq_zero h0
    subst he
    clear hx hb h0 hlm HS hs
    go_enter Tryz.func51, Tryz.ntmps51
    go_wp2_with fail
    refine wp_loop_rounds 1 ?_
    rw [rounds_succ]
    go_wp2
    go_ret
    exact ⟨rfl, Below.refl _ _⟩
  · obtain ⟨a', c', e, hnil, q1, q2, q3⟩ := hx
    obtain ⟨rfl, _, rfl⟩ := slice_inj e
    obtain ⟨g, off, rfl, hg, hc⟩ := q3 hp
    have HC : Hid (∀ (j : Nat) (hj : j < xs.length), w.cell? ⟨g, off + j, none⟩ = some (.string xs[j])) := hc
    have HBD : Hid (TBd 1048576 xs) := hb
    have hln : xs.length ≤ 9223372036854775807 := by omega
    clear e hnil q1 q2 q3 hlm hc hb hs
    go_enter Tryz.func51, Tryz.ntmps51
    go_wp2_with fail
    go_loopw [5] (fun vi wr => ∃ k : Nat, k ≤ xs.length ∧ vi = .int .i64 k ∧ Hid (anyT (xs.take k) s = false) ∧ Below w.heap.size w wr) (fun vi _ => xs.length - (intOf vi).toNat)
    case atStart => exact ⟨0, Nat.zero_le _, rfl, rfl, Below.refl _ _⟩
    case round =>
      obtain ⟨k, hk, rfl, hA, hB⟩ := hrel
      by_cases hlt : k < xs.length
      · have hc1 := (hB.cell (p := ⟨g, off + k, none⟩) hg).trans (HC.out k hlt)
        have hsz := HBD.out xs[k] (List.getElem_mem hlt)
        have HA : Hid (∀ W, Calls Tryz.prog 78 #[.string xs[k], .string s] W fun e w' => e = .returned (.bool (smT xs[k] s)) ∧ Below W.heap.size W w') := fun W => rsame_any _ s W (by omega) HS.out
        have hY : Hid (smT xs[k] s = true → anyT xs s = true) := fun q => anyT_at k hlt q
        have hN : Hid (smT xs[k] s = false → anyT (xs.take (k + 1)) s = false) := fun q => anyT_snoc hlt hA.out q
        generalize smT xs[k] s = b at *
        clear hsz
        generalize xs[k] = x at *
        go_wp2_with fail
        refine (HA.out _).mono ?_
        rintro e w2 ⟨rfl, B2⟩
        have hB2 := hB.trans (B2.mono hB.size)
        clear HA hB B2 hc1
        cases b
        · have hN2 : Hid (anyT (xs.take (k + 1)) s = false) := hN.out rfl
          clear hN hY
          go_wp2
          go_roundw
          case rel => exact ⟨k + 1, by omega, by go_num, hN2, hB2⟩
          case measure => simp [intOf]; omega
        · have hY2 : Hid (anyT xs s = true) := hY.out rfl
          clear hN hY
          go_wp2
          go_ret
          exact ⟨ret_bool hY2.out.symm, hB2⟩
      · go_wp2
        go_ret
        have hk' : k = xs.length := by omega
        subst hk'
        have h := hA.out
        rw [List.take_length] at h
        exact ⟨ret_bool h.symm, hB⟩

set_option maxRecDepth 100000 in
set_option maxHeartbeats 1000000 in
theorem rwithout_any (fs : Fs) (a : Option Addr) (c : Nat) (ns : List ByteArray) (b : Option Addr) (d : Nat) (w : World) (hf : Fds w.heap.size w (.slice a fs.length c) fs) (hb : FBd 1048576 fs) (hn : Txs w.heap.size w (.slice b ns.length d) ns) (hnb : TBd 1048576 ns) (hl : fs.length ≤ 16777216) :
    Calls Tryz.prog 21 #[.slice a fs.length c, .slice b ns.length d] w fun e w' => ∃ ao cv, e = .returned (.slice ao (withoutF fs ns).length cv) ∧ OwnF w.heap.size w' (.slice ao (withoutF fs ns).length cv) (withoutF fs ns) ∧ Below w.heap.size w w' := by
  have C0 : Below w.heap.size w (w.alloc (.cells #[] 41)) := (Below.refl _ _).alloc (Nat.le_refl _) _
  have HN : Hid (Txs w.heap.size w (.slice b ns.length d) ns) := hn
  have HNB : Hid (TBd 1048576 ns) := hnb
  clear hn hnb
  rcases Nat.eq_zero_or_pos fs.length with h0 | hp
  · have he : fs = [] := List.eq_nil_of_length_eq_zero h0
    subst he
    clear hf hb hl h0 HN HNB
    go_enter Tryz.func21, Tryz.ntmps21
    go_wp2_with fail
    refine wp_loop_rounds 1 ?_
    rw [rounds_succ]
    go_wp2
    go_ret
    exact ⟨_, 0, rfl, OwnF.empty _ _ (Nat.le_refl _), C0⟩
  · obtain ⟨a', c', e, hnil, h1, h2, h3⟩ := hf
    obtain ⟨rfl, _, rfl⟩ := slice_inj e
    obtain ⟨g, off, rfl, hg, hc⟩ := h3 hp
    have HC : Hid (∀ (j : Nat) (hj : j < fs.length), w.cell? ⟨g, off + j * 2, none⟩ = some (.string fs[j].1) ∧ w.cell? ⟨g, off + j * 2 + 1, none⟩ = some (.string fs[j].2)) := hc
    have HBD : Hid (FBd 1048576 fs) := hb
    clear e hnil h1 h2 h3 hc hb
    go_enter Tryz.func21, Tryz.ntmps21
    go_wp2_with fail
    go_loopw [5, 6] (fun v vi wr => ∃ (k : Nat) (ao : Option Addr) (cv : Nat), k ≤ fs.length ∧ vi = .int .i64 k ∧ v = .slice ao (withoutF (fs.take k) ns).length cv ∧ OwnF w.heap.size wr v (withoutF (fs.take k) ns) ∧ Below w.heap.size w wr) (fun _ vi _ => fs.length - (intOf vi).toNat)
    case atStart => exact ⟨0, _, 0, Nat.zero_le _, rfl, rfl, OwnF.empty _ _ (Nat.le_refl _), C0⟩
    case round =>
      obtain ⟨k, ao, cv, hk, rfl, rfl, hown, hB⟩ := hrel
      clear C0
      by_cases hlt : k < fs.length
      · have hc1 := (hB.cell (p := ⟨g, off + k * 2, none⟩) hg).trans (HC.out k hlt).1
        have hsz := HBD.out fs[k] (List.getElem_mem hlt)
        have hc2 : Hid (w.cell? ⟨g, off + k * 2, none⟩ = some (.string fs[k].1) ∧ w.cell? ⟨g, off + k * 2 + 1, none⟩ = some (.string fs[k].2)) := HC.out k hlt
        have hsn : Hid (withoutF (fs.take (k + 1)) ns = withoutF (fs.take k) ns ++ (if anyT ns fs[k].1 = true then [] else [fs[k]])) := by
          rw [Hid, List.take_succ_eq_append_getElem hlt, withoutF_snoc]
        have hkl : (withoutF (fs.take k) ns).length ≤ k := Nat.le_trans (withoutF_len _ _) (List.length_take_le _ _)
        generalize fs[k] = f at *
        obtain ⟨fn, fv⟩ := f
        simp only at hc1 hc2 hsz hsn
        have hs3 : Hid (fn.size ≤ 1048576) := by rw [Hid]; omega
        have HS : Hid (∀ W, Below w.heap.size w W → Calls Tryz.prog 51 #[.slice b ns.length d, .string fn] W fun e w' => e = .returned (.bool (anyT ns fn)) ∧ Below W.heap.size W w') := fun W b' => rin_any ns b d fn W ((HN.out.keep b').mono b'.size) HNB.out hs3.out
        generalize anyT ns fn = t at *
        have HO : Hid (OwnF w.heap.size wr (.slice ao (withoutF (fs.take k) ns).length cv) (withoutF (fs.take k) ns)) := hown
        have HKL : Hid ((withoutF (fs.take k) ns).length ≤ 16777216) := by rw [Hid]; omega
        clear hsz hown hkl
        generalize withoutF (fs.take k) ns = K at *
        go_wp2_with fail
        refine (HS.out _ hB).mono ?_
        rintro e w2 ⟨rfl, B2⟩
        have own2 := HO.out.keep B2
        have hB2 := hB.trans (B2.mono hB.size)
        have c0 := (hB2.cell (p := ⟨g, off + k * 2, none⟩) hg).trans hc2.out.1
        have c1 := (hB2.cell (p := ⟨g, off + k * 2 + 1, none⟩) hg).trans hc2.out.2
        clear B2 hB HO hc1 hc2 HS
        cases t
        · have hsn2 : Hid (withoutF (fs.take (k + 1)) ns = K ++ [(fn, fv)]) := by rw [Hid, hsn.out, if_neg (by decide)]
          clear hsn
          have own3 := own2.keep ((Below.refl _ _).alloc (Nat.le_refl _) (.cells #[.string fn, .string fv] 41))
          obtain ⟨v4, w4, r4, own4, B4⟩ := ownF_append own3 (fds_new w2 fn fv) (by have := HKL.out; simp; omega) (by have := hB2.size; simp; omega)
          have hB4 : Below w.heap.size w w4 := (hB2.alloc hB2.size _).trans B4
          obtain ⟨a4, c4, rfl, _⟩ := own4.form
          have HO4 : Hid (OwnF w.heap.size w4 (.slice a4 (K ++ [(fn, fv)]).length c4) (K ++ [(fn, fv)])) := own4
          have HR : Hid _ := r4
          have HL : Hid ((K ++ [(fn, fv)]).length = (withoutF (fs.take (k + 1)) ns).length) := by rw [Hid, hsn2.out]
          clear own2 own3 own4 B4 hB2 r4
          generalize (K ++ [(fn, fv)]).length = L at *
          go_wp2_with (at_builtin; refine wpList_append_run2 rfl _ _ 24 24 rfl _ _ _ w4 rfl rfl HR.out ?_)
          go_roundw
          case rel => exact ⟨k + 1, a4, c4, by omega, by go_num, by rw [HL.out], by rw [hsn2.out]; exact HO4.out, hB4⟩
          case measure => simp [intOf]; omega
        · have hsn2 : Hid (withoutF (fs.take (k + 1)) ns = K) := by rw [Hid, hsn.out, if_pos rfl, List.append_nil]
          clear hsn c0 c1
          go_wp2
          go_roundw
          case rel => exact ⟨k + 1, ao, cv, by omega, by go_num, by rw [hsn2.out], by rw [hsn2.out]; exact own2, hB2⟩
          case measure => simp [intOf]; omega
      · go_wp2
        go_ret
        have hk' : k = fs.length := by omega
        subst hk'
        rw [List.take_length] at *
        exact ⟨ao, cv, rfl, hown, hB⟩

end Go.Proofs.YtkdnckkdofoaoaaGreatDoor
