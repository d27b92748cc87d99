/- Get and List: what each answers of fields. -/
import Derived.Test.YthbjdbookiejeabGreatDoorFsA
import Derived.Test.YthbjdbookiejeabGreatDoorCutA
namespace Go.Proofs.YthbjdbookiejeabGreatDoor
open Go.ChangeShapes Go.WideShapes Go.ChangeAt Go.RowKit
set_option linter.unusedVariables false

/-- The same text, folded. -/
def smT (a b : ByteArray) : Bool := (foldS a).toList == (foldS b).toList
def getF (fs : Fs) (n : ByteArray) : List ByteArray := (fs.filter fun f => smT f.1 n).map (·.2)
def splT (s : ByteArray) : List ByteArray := keepT (pieces s)
def splA (xs : List ByteArray) : List ByteArray := xs.flatMap splT
def listF (fs : Fs) (n : ByteArray) : List ByteArray := splA (getF fs n)
theorem getF_snoc (fs : Fs) (f : ByteArray × ByteArray) (n : ByteArray) : getF (fs ++ [f]) n = getF fs n ++ (if smT f.1 n = true then [f.2] else []) := by
  unfold getF
  rw [List.filter_append, List.map_append]
  congr 1
  cases h : smT f.1 n <;> simp [h]
theorem getF_len (fs : Fs) (n : ByteArray) : (getF fs n).length ≤ fs.length := by
  unfold getF
  rw [List.length_map]
  exact List.length_filter_le _ _
theorem getF_mem {fs : Fs} {n x : ByteArray} (h : x ∈ getF fs n) : ∃ f ∈ fs, f.2 = x := by
  unfold getF at h
  obtain ⟨f, hf, rfl⟩ := List.mem_map.1 h
  exact ⟨f, (List.mem_filter.1 hf).1, rfl⟩
/-- No text of theirs is longer than N. -/
def FBd (N : Nat) (fs : Fs) : Prop := ∀ f ∈ fs, f.1.size ≤ N ∧ f.2.size ≤ N
def TBd (N : Nat) (xs : List ByteArray) : Prop := ∀ x ∈ xs, x.size ≤ N
theorem getF_bd {N : Nat} {fs : Fs} {n : ByteArray} (h : FBd N fs) : TBd N (getF fs n) := fun x hx => by
  obtain ⟨f, hf, rfl⟩ := getF_mem hx
  exact (h f hf).2
theorem same_sm (a b : ByteArray) (w : World) (ha : a.size ≤ maxLen) (hb : b.size ≤ maxLen) :
    Calls Tryz.prog 73 #[.string a, .string b] w fun e w' => e = .returned (.bool (smT a b)) ∧ Below w.heap.size w w' := same_any a b w ha hb
theorem one_txs (w : World) (x : ByteArray) (C : Nat) (h : w.heap.size < C) : Txs C (w.alloc (.cells #[.string x] 9)) (.slice (some ⟨w.heap.size, 0, none⟩) 1 1) [x] :=
  ⟨_, 1, rfl, (fun e => by cases e), Nat.le_refl _, by decide, fun _ => ⟨w.heap.size, 0, rfl, h, fun j hj => by
    have : j = 0 := by simpa using hj
    subst this
    exact tblk_cell (tblk_new _ _) rfl⟩⟩

set_option maxRecDepth 100000 in
set_option maxHeartbeats 1000000 in
theorem get_any (fs : Fs) (a : Option Addr) (c : Nat) (name : ByteArray) (w : World) (hf : Fds w.heap.size w (.slice a fs.length c) fs) (hb : FBd 140737488355328 fs) (hn : name.size ≤ 140737488355328) (hl : fs.length ≤ 16777216) :
    Calls Tryz.prog 41 #[.slice a fs.length c, .string name] w fun e w' => ∃ ao cv, e = .returned (.slice ao (getF fs name).length cv) ∧ OwnT w.heap.size w' (.slice ao (getF fs name).length cv) (getF fs name) ∧ Below w.heap.size w w' := by
  have hlm := hf.len
  unfold maxLen at hlm
  have HN : Hid (name.size ≤ maxLen) := by rw [Hid]; unfold maxLen; omega
  rcases Nat.eq_zero_or_pos fs.length with h0 | hp
  · have he : fs = [] := List.eq_nil_of_length_eq_zero h0
    subst he
    clear hf hb hn hl h0 hlm HN
    go_enter Tryz.func41, Tryz.ntmps41
    go_wp2_with fail
    refine wp_loop_rounds 1 ?_
    rw [rounds_succ]
    go_wp2
    go_ret
    exact ⟨none, 0, rfl, OwnT.nil _ _, Below.refl _ _⟩
  · obtain ⟨a', c', e, hnil, h1, h2, h3⟩ := hf
    obtain ⟨rfl, _, rfl⟩ := slice_inj e
    obtain ⟨g, off, rfl, hg, hc⟩ := h3 hp
    have HC : Hid (∀ (j : Nat) (hj : j < fs.length), w.cell? ⟨g, off + j * 2, none⟩ = some (.string fs[j].1) ∧ w.cell? ⟨g, off + j * 2 + 1, none⟩ = some (.string fs[j].2)) := hc
    have HBD : Hid (FBd 140737488355328 fs) := hb
    clear e hnil h1 h2 h3 hn hlm hc hb
    go_enter Tryz.func41, Tryz.ntmps41
    go_wp2_with fail
    go_loopw [5, 10] (fun v vi wr => ∃ (k : Nat) (ao : Option Addr) (cv : Nat), k ≤ fs.length ∧ vi = .int .i64 k ∧ v = .slice ao (getF (fs.take k) name).length cv ∧ OwnT w.heap.size wr v (getF (fs.take k) name) ∧ Below w.heap.size w wr) (fun _ vi _ => fs.length - (intOf vi).toNat)
    case atStart => exact ⟨0, none, 0, Nat.zero_le _, rfl, rfl, OwnT.nil _ _, Below.refl _ _⟩
    case round =>
      obtain ⟨k, ao, cv, hk, rfl, rfl, hown, hB⟩ := hrel
      by_cases hlt : k < fs.length
      · have hc1 := (hB.cell (p := ⟨g, off + k * 2, none⟩) hg).trans (HC.out k hlt).1
        have hc2 := (hB.cell (p := ⟨g, off + k * 2 + 1, none⟩) hg).trans (HC.out k hlt).2
        have hsz := HBD.out fs[k] (List.getElem_mem hlt)
        have hsn : Hid (getF (fs.take (k + 1)) name = getF (fs.take k) name ++ (if smT fs[k].1 name = true then [fs[k].2] else [])) := by
          rw [Hid, List.take_succ_eq_append_getElem hlt, getF_snoc]
        have hkl : (getF (fs.take k) name).length ≤ k := Nat.le_trans (getF_len _ _) (List.length_take_le _ _)
        generalize fs[k] = f at *
        obtain ⟨fn, fv⟩ := f
        simp only at hc1 hc2 hsz hsn
        have hs1 : Hid (fn.size ≤ maxLen) := by rw [Hid]; unfold maxLen; omega
        have hs2 : Hid (fv.size ≤ 281474976710656) := by rw [Hid]; omega
        have HS : Hid (∀ W, Calls Tryz.prog 73 #[.string fn, .string name] W fun e w' => e = .returned (.bool (smT fn name)) ∧ Below W.heap.size W w') := fun W => same_sm fn name W hs1.out HN.out
        generalize smT fn name = b at *
        have HO : Hid (OwnT w.heap.size wr (.slice ao (getF (fs.take k) name).length cv) (getF (fs.take k) name)) := hown
        have HKL : Hid ((getF (fs.take k) name).length ≤ 16777216) := by rw [Hid]; omega
        clear hsz hown hkl
        generalize getF (fs.take k) name = K at *
        go_wp2_with fail
        refine (HS.out _).mono ?_
        rintro e w2 ⟨rfl, B2⟩
        have g2 : w2.heap[wr.heap.size]? = some (.cells #[.string fn, .string fv] 53) := tblk_below (tblk_new _ _) B2
        have C2 : Below wr.heap.size wr w2 := ((Below.refl _ _).alloc (Nat.le_refl _) _).trans (B2.mono (by simp))
        have own2 := HO.out.keep C2
        have hB2 := hB.trans (C2.mono hB.size)
        have c1 : w2.cell? ⟨wr.heap.size, 1, none⟩ = some (.string fv) := tblk_cell g2 rfl
        clear g2 B2 C2 hB HO hc1 hc2 HS
        cases b
        · have hsn2 : Hid (getF (fs.take (k + 1)) name = K) := by rw [Hid, hsn.out, if_neg (by decide), List.append_nil]
          clear hsn
          go_wp2
          go_roundw
          case rel => exact ⟨k + 1, ao, cv, by omega, by go_num, by rw [hsn2.out], by rw [hsn2.out]; exact own2, hB2⟩
          case measure => simp [intOf]; omega
        · have hsn2 : Hid (getF (fs.take (k + 1)) name = K ++ [fv]) := by rw [Hid, hsn.out, if_pos rfl]
          clear hsn
          go_wp2_with fail
          refine (clone_any fv _ hs2.out).mono ?_
          rintro e w3 ⟨rfl, B3⟩
          have own3 := (own2.keep B3).keep ((Below.refl _ _).alloc (Nat.le_refl _) (.cells #[.string fv] 9))
          have hB3 := hB2.trans (B3.mono hB2.size)
          obtain ⟨v4, w4, r4, own4, B4⟩ := ownT_append own3 (one_txs w3 fv _ (Nat.lt_succ_self _)) (by have := HKL.out; simp; omega) (by have := hB3.size; simp; omega)
          have hB4 : Below w.heap.size w w4 := (hB3.alloc hB3.size _).trans B4
          obtain ⟨a4, c4, rfl, _⟩ := own4.form
          have HO4 : Hid (OwnT w.heap.size w4 (.slice a4 (K ++ [fv]).length c4) (K ++ [fv])) := own4
          have HR : Hid ((Builtin.append_ #[39, 39] 39 #[.slice ao K.length cv, .slice (some ⟨w3.heap.size, 0, none⟩) 1 1]).run Tryz.prog (w3.alloc (.cells #[.string fv] 9)) = .ok (.slice a4 (K ++ [fv]).length c4) w4) := r4
          clear own2 own3 own4 B3 B4 hB2 hB3 r4 c1
          have HL : Hid ((K ++ [fv]).length = (getF (fs.take (k + 1)) name).length) := by rw [Hid, hsn2.out]
          generalize (K ++ [fv]).length = L at *
          go_wp2_with (at_builtin; refine wpList_append_run2 rfl _ _ 39 39 rfl _ _ _ w4 rfl rfl HR.out ?_)
          go_roundw
          case rel => exact ⟨k + 1, a4, c4, by omega, by go_num, by rw [HL.out], by rw [hsn2.out]; exact HO4.out, hB4⟩
          case measure => simp [intOf]; omega
      · go_wp2
        go_ret
        have hk' : k = fs.length := by omega
        subst hk'
        rw [List.take_length] at *
        exact ⟨ao, cv, rfl, hown, hB⟩
end Go.Proofs.YthbjdbookiejeabGreatDoor
