/- Right, Without and Same: what each answers of fields. -/
import Derived.Test.YtflgjhknobnnaabDoorFsC
import Derived.Test.YtflgjhknobnnaabDoorFldA
import Derived.Deep.RegionHeld3
import Derived.Deep.QuietTactic
import Derived.BigQuiet
namespace Go.Proofs.YtflgjhknobnnaabDoor
open Go.ChangeShapes Go.WideShapes Go.ChangeAt Go.RowKit
set_option linter.unusedVariables false

def wrF (f : ByteArray × ByteArray) : Bool := !okF f.1 f.2
def anyW (fs : Fs) : Bool := fs.any wrF
def rightF (fs : Fs) : Bool := decide (fs.length ≤ 40) && !anyW fs
def withoutF (fs : Fs) (names : List ByteArray) : Fs := fs.filter fun f => !anyT names f.1
theorem withoutF_snoc (fs : Fs) (f : ByteArray × ByteArray) (ns : List ByteArray) : withoutF (fs ++ [f]) ns = withoutF fs ns ++ (if anyT ns f.1 = true then [] else [f]) := by
  unfold withoutF
  rw [List.filter_append]
  congr 1
  cases h : anyT ns f.1 <;> simp [h]
theorem withoutF_len (fs : Fs) (ns : List ByteArray) : (withoutF fs ns).length ≤ fs.length := List.length_filter_le _ _
theorem withoutF_bd {N : Nat} {fs : Fs} {ns : List ByteArray} (h : FBd N fs) : FBd N (withoutF fs ns) := fun f hf => h f (List.mem_filter.1 hf).1
theorem anyW_at {fs : Fs} (k : Nat) (h : k < fs.length) (hs : wrF fs[k] = true) : anyW fs = true := by
  unfold anyW
  rw [List.any_eq_true]
  exact ⟨fs[k], List.getElem_mem h, hs⟩
theorem anyW_snoc {fs : Fs} {k : Nat} (h : k < fs.length) (h0 : anyW (fs.take k) = false) (hs : wrF fs[k] = false) : anyW (fs.take (k + 1)) = false := by
  rw [List.take_succ_eq_append_getElem h]
  unfold anyW at *
  rw [List.any_append, h0]
  simp [hs]

set_option maxRecDepth 100000 in
set_option maxHeartbeats 1000000 in
theorem idxF_any (fs : Fs) (a : Option Addr) (c : Nat) (w : World) (hf : Fds w.heap.size w (.slice a fs.length c) fs) (hb : FBd 140737488355328 fs) :
    Calls Tryd.prog 46 #[.slice a fs.length c, .func (.func 34) #[] #[]] w fun e w' => ∃ i : Int, e = .returned (.int .i64 i) ∧ -1 ≤ i ∧ (decide (0 ≤ i) = anyW fs) ∧ Below w.heap.size w w' := by
  have hlm := hf.len
  unfold maxLen at hlm
  rcases Nat.eq_zero_or_pos fs.length with h0 | hp
  · have he : fs = [] := List.eq_nil_of_length_eq_zero h0
    subst he
    clear hf hb h0 hlm
    go_enter Tryd.func46, Tryd.ntmps46
    go_wp2_with fail
    refine wp_loop_rounds 1 ?_
    rw [rounds_succ]
    go_wp2
    go_ret
    exact ⟨-1, rfl, Int.le_refl _, rfl, Below.refl _ _⟩
  · obtain ⟨a', c', e, hnil, q1, q2, q3⟩ := hf
    obtain ⟨rfl, _, rfl⟩ := slice_inj e
    obtain ⟨g, off, rfl, hg, hc⟩ := q3 hp
    have HC : Hid (∀ (j : Nat) (hj : j < fs.length), w.cell? ⟨g, off + j * 2, none⟩ = some (.string fs[j].1) ∧ w.cell? ⟨g, off + j * 2 + 1, none⟩ = some (.string fs[j].2)) := hc
    have HBD : Hid (FBd 140737488355328 fs) := hb
    have hln : fs.length ≤ 9223372036854775807 := by omega
    clear e hnil q1 q2 q3 hlm hc hb
    go_enter Tryd.func46, Tryd.ntmps46
    go_wp2_with fail
    go_loopw [8] (fun vi wr => ∃ k : Nat, k ≤ fs.length ∧ vi = .int .i64 k ∧ Hid (anyW (fs.take k) = false) ∧ Below w.heap.size w wr) (fun vi _ => fs.length - (intOf vi).toNat)
    case atStart => exact ⟨0, Nat.zero_le _, rfl, rfl, Below.refl _ _⟩
    case round =>
      obtain ⟨k, hk, rfl, hA, hB⟩ := hrel
      by_cases hlt : k < fs.length
      · have hc1 := (hB.cell (p := ⟨g, off + k * 2, none⟩) hg).trans (HC.out k hlt).1
        have hc2 := (hB.cell (p := ⟨g, off + k * 2 + 1, none⟩) hg).trans (HC.out k hlt).2
        have hsz := HBD.out fs[k] (List.getElem_mem hlt)
        have HA : Hid (∀ W, Calls Tryd.prog 34 #[.agg #[.string fs[k].1, .string fs[k].2]] W fun e w' => e = .returned (.bool (wrF fs[k])) ∧ Below W.heap.size W w') := fun W => wrong_any _ _ W hsz.1 hsz.2
        have hY : Hid (wrF fs[k] = true → anyW fs = true) := fun q => anyW_at k hlt q
        have hN : Hid (wrF fs[k] = false → anyW (fs.take (k + 1)) = false) := fun q => anyW_snoc hlt hA.out q
        generalize wrF fs[k] = b at *
        clear hsz
        generalize fs[k] = f at *
        obtain ⟨fn, fv⟩ := f
        simp only at hc1 hc2 HA
        go_wp2_with fail
        refine (HA.out _).mono ?_
        rintro e w2 ⟨rfl, B2⟩
        have hB2 := hB.trans (B2.mono hB.size)
        clear HA hB B2 hc1 hc2
        cases b
        · have hN2 : Hid (anyW (fs.take (k + 1)) = false) := hN.out rfl
          clear hN hY
          go_wp2
          go_roundw
          case rel => exact ⟨k + 1, by omega, by go_num, hN2, hB2⟩
          case measure => simp [intOf]; omega
        · have hY2 : Hid (anyW fs = true) := hY.out rfl
          clear hN hY
          go_wp2
          go_ret
          exact ⟨k, rfl, by omega, by rw [hY2.out]; simp, hB2⟩
      · go_wp2
        go_ret
        have hk' : k = fs.length := by omega
        subst hk'
        have h := hA.out
        rw [List.take_length] at h
        exact ⟨-1, rfl, Int.le_refl _, by rw [h]; rfl, hB⟩

set_option maxHeartbeats 1000000 in
theorem contF_any (fs : Fs) (a : Option Addr) (c : Nat) (w : World) (hf : Fds w.heap.size w (.slice a fs.length c) fs) (hb : FBd 140737488355328 fs) :
    Calls Tryd.prog 33 #[.slice a fs.length c, .func (.func 34) #[] #[]] w fun e w' => e = .returned (.bool (anyW fs)) ∧ Below w.heap.size w w' := by
  have HI : Hid (Calls Tryd.prog 46 #[.slice a fs.length c, .func (.func 34) #[] #[]] w fun e w' => ∃ i : Int, e = .returned (.int .i64 i) ∧ -1 ≤ i ∧ (decide (0 ≤ i) = anyW fs) ∧ Below w.heap.size w w') := idxF_any fs a c w hf hb
  clear hf hb
  generalize anyW fs = t at *
  go_enter Tryd.func33, Tryd.ntmps33
  go_wp2_with fail
  refine HI.out.mono ?_
  rintro e w2 ⟨i, rfl, hi, hd, B2⟩
  have HD : Hid (decide (0 ≤ i) = t) := hd
  clear hd HI
  go_wp2
  go_ret
  exact ⟨ret_bool HD.out, B2⟩

set_option maxHeartbeats 1000000 in
theorem right_any (fs : Fs) (a : Option Addr) (c : Nat) (w : World) (hf : Fds w.heap.size w (.slice a fs.length c) fs) (hb : FBd 140737488355328 fs) :
    Calls Tryd.prog 17 #[.slice a fs.length c] w fun e w' => e = .returned (.bool (rightF fs)) ∧ Below w.heap.size w w' := by
  have hlm := hf.len
  unfold maxLen at hlm
  have HI : Hid (Calls Tryd.prog 33 #[.slice a fs.length c, .func (.func 34) #[] #[]] w fun e w' => e = .returned (.bool (anyW fs)) ∧ Below w.heap.size w w') := contF_any fs a c w hf hb
  unfold rightF
  clear hf hb
  generalize anyW fs = t at *
  by_cases h : fs.length ≤ 40
  · have h' : (fs.length : Int) ≤ 40 := by omega
    rw [decide_eq_true h, Bool.true_and]
    clear h
    go_enter Tryd.func17, Tryd.ntmps17
    go_wp2_with fail
    refine HI.out.mono ?_
    rintro e w1 ⟨rfl, B1⟩
    go_wp2
    go_ret
    exact ⟨rfl, B1⟩
  · have h' : ¬ (fs.length : Int) ≤ 40 := by omega
    rw [decide_eq_false h, Bool.false_and]
    clear h HI
    go_enter Tryd.func17, Tryd.ntmps17
    go_wp2
    go_ret
    exact ⟨rfl, Below.refl _ _⟩

/-- Behind clone's own two blocks nothing of them turns. -/
structure CI (w : World) (n v : ByteArray) (W : World) : Prop where
  below : Below w.heap.size w W
  src : W.heap[w.heap.size]? = some (.cells #[.string n, .string v] 34)
  dst : W.heap[w.heap.size + 1]? = some (.cells #[.string ⟨#[]⟩, .string ⟨#[]⟩] 34)
theorem CI.drew {w W : World} {n v : ByteArray} (h : CI w n v W) : CI w n v W.drew := ⟨h.below.drew, h.src, h.dst⟩
theorem CI.next {w W W' : World} {n v : ByteArray} (h : CI w n v W) (b : Below W.heap.size W W') : CI w n v W' := ⟨h.below.trans (b.mono h.below.size), tblk_below h.src b, tblk_below h.dst b⟩

set_option maxRecDepth 100000 in
set_option maxHeartbeats 2000000 in
theorem fclone_any (n v : ByteArray) (w : World) (hn : n.size ≤ 281474976710656) (hv : v.size ≤ 281474976710656) :
    Calls Tryd.prog 36 #[.agg #[.string n, .string v]] w fun e w' => e = .returned (.agg #[.string n, .string v]) ∧ Below w.heap.size w w' := by
  have I0 : CI w n v ((w.alloc (.cells #[.string n, .string v] 34)).alloc (.cells #[.string ⟨#[]⟩, .string ⟨#[]⟩] 34)) := by
    refine ⟨((Below.refl _ _).alloc (Nat.le_refl _) _).alloc (by simp) _, ?_, ?_⟩
    · exact (Below.heap_alloc _ _ _ (by simp)).trans (tblk_new _ _)
    · have k := tblk_new (w.alloc (.cells #[.string n, .string v] 34)) (.cells #[.string ⟨#[]⟩, .string ⟨#[]⟩] 34)
      rw [show (w.alloc (.cells #[.string n, .string v] 34)).heap.size = w.heap.size + 1 from by simp] at k
      exact k
  have H : Hid (∀ (s : ByteArray), s.size ≤ 281474976710656 → ∀ W, CI w n v W → Calls Tryd.prog 28 #[.string s] W fun e w' => e = .returned (.string s) ∧ CI w n v w' ∧ w'.cell? ⟨w.heap.size, 0, none⟩ = some (.string n) ∧ w'.cell? ⟨w.heap.size, 1, none⟩ = some (.string v) ∧ w'.cell? ⟨w.heap.size + 1, 0, none⟩ = some (.string ⟨#[]⟩) ∧ w'.cell? ⟨w.heap.size + 1, 1, none⟩ = some (.string ⟨#[]⟩) ∧ w'.frozen? ⟨w.heap.size + 1, 0, none⟩ = false ∧ w'.frozen? ⟨w.heap.size + 1, 1, none⟩ = false) := fun s hs W i => (clone_any s W hs).mono fun e w' z => ⟨z.1, i.next z.2, tblk_cell (i.next z.2).src rfl, tblk_cell (i.next z.2).src rfl, tblk_cell (i.next z.2).dst rfl, tblk_cell (i.next z.2).dst rfl, tblk_z (i.next z.2).dst, tblk_z (i.next z.2).dst⟩
  have HN : Hid (n.size ≤ 281474976710656) := hn
  have HV : Hid (v.size ≤ 281474976710656) := hv
  clear hn hv
  go_enter Tryd.func36, Tryd.ntmps36
  go_wp2_with fail
  go_region_held3 (fun W => W.cell? ⟨w.heap.size, 0, none⟩ = some (.string n) ∧ W.cell? ⟨w.heap.size, 1, none⟩ = some (.string v)) (go_keep) (first | (go_at_call 28; refine (H.out n HN.out _ (by first | assumption | exact CI.drew I0 | exact CI.drew (by assumption))).mono ?_; rintro e w' ⟨rfl, hI, hS1, hS2, hD1, hD2, hZ1, hZ2⟩) | (go_at_call 28; refine (H.out v HV.out _ (by first | assumption | exact CI.drew I0 | exact CI.drew (by assumption))).mono ?_; rintro e w' ⟨rfl, hI, hS1, hS2, hD1, hD2, hZ1, hZ2⟩))
  have HW := two_cells hI.dst n v
  have r0 := HW.2.1
  have r1 := HW.2.2.1
  go_wp2
  refine bodyPost_ret (v := .agg #[.string n, .string v]) (by simp [results, Tryd.results36, go_sem, r0, r1]) rfl ⟨rfl, ?_⟩
  exact (hI.below.setCell (p := ⟨w.heap.size + 1, 0, none⟩) (Nat.le_succ _) _).setCell (p := ⟨w.heap.size + 1, 1, none⟩) (Nat.le_succ _) _

theorem fds_new (w : World) (n v : ByteArray) : Fds (w.alloc (.cells #[.string n, .string v] 34)).heap.size (w.alloc (.cells #[.string n, .string v] 34)) (.slice (some ⟨w.heap.size, 0, none⟩) 1 1) [(n, v)] :=
  ⟨_, 1, rfl, (fun e => by cases e), Nat.le_refl _, by decide, fun _ => ⟨w.heap.size, 0, rfl, by simp, fun j hj => by
    have : j = 0 := by simpa using hj
    subst this
    exact ⟨tblk_cell (tblk_new _ _) rfl, tblk_cell (tblk_new _ _) rfl⟩⟩⟩

set_option maxRecDepth 100000 in
set_option maxHeartbeats 1000000 in
theorem without_any (fs : Fs) (a : Option Addr) (c : Nat) (ns : List ByteArray) (b : Option Addr) (d : Nat) (w : World) (hf : Fds w.heap.size w (.slice a fs.length c) fs) (hb : FBd 140737488355328 fs) (hn : Txs w.heap.size w (.slice b ns.length d) ns) (hnb : TBd 140737488355328 ns) (hl : fs.length ≤ 16777216) :
    Calls Tryd.prog 20 #[.slice a fs.length c, .slice b ns.length d] w fun e w' => ∃ ao cv, e = .returned (.slice ao (withoutF fs ns).length cv) ∧ OwnF w.heap.size w' (.slice ao (withoutF fs ns).length cv) (withoutF fs ns) ∧ Below w.heap.size w w' := by
  have HN : Hid (Txs w.heap.size w (.slice b ns.length d) ns) := hn
  have HNB : Hid (TBd 140737488355328 ns) := hnb
  clear hn hnb
  rcases Nat.eq_zero_or_pos fs.length with h0 | hp
  · have he : fs = [] := List.eq_nil_of_length_eq_zero h0
    subst he
    clear hf hb hl h0 HN HNB
    go_enter Tryd.func20, Tryd.ntmps20
    go_wp2_with fail
    refine wp_loop_rounds 1 ?_
    rw [rounds_succ]
    go_wp2
    go_ret
    exact ⟨none, 0, rfl, OwnF.nil _ _, Below.refl _ _⟩
  · obtain ⟨a', c', e, hnil, h1, h2, h3⟩ := hf
    obtain ⟨rfl, _, rfl⟩ := slice_inj e
    obtain ⟨g, off, rfl, hg, hc⟩ := h3 hp
    have HC : Hid (∀ (j : Nat) (hj : j < fs.length), w.cell? ⟨g, off + j * 2, none⟩ = some (.string fs[j].1) ∧ w.cell? ⟨g, off + j * 2 + 1, none⟩ = some (.string fs[j].2)) := hc
    have HBD : Hid (FBd 140737488355328 fs) := hb
    clear e hnil h1 h2 h3 hc hb
    go_enter Tryd.func20, Tryd.ntmps20
    go_wp2_with fail
    go_loopw [5, 10] (fun v vi wr => ∃ (k : Nat) (ao : Option Addr) (cv : Nat), k ≤ fs.length ∧ vi = .int .i64 k ∧ v = .slice ao (withoutF (fs.take k) ns).length cv ∧ OwnF w.heap.size wr v (withoutF (fs.take k) ns) ∧ Below w.heap.size w wr) (fun _ vi _ => fs.length - (intOf vi).toNat)
    case atStart => exact ⟨0, none, 0, Nat.zero_le _, rfl, rfl, OwnF.nil _ _, Below.refl _ _⟩
    case round =>
      obtain ⟨k, ao, cv, hk, rfl, rfl, hown, hB⟩ := hrel
      by_cases hlt : k < fs.length
      · have hc1 := (hB.cell (p := ⟨g, off + k * 2, none⟩) hg).trans (HC.out k hlt).1
        have hc2 := (hB.cell (p := ⟨g, off + k * 2 + 1, none⟩) hg).trans (HC.out k hlt).2
        have hsz := HBD.out fs[k] (List.getElem_mem hlt)
        have hsn : Hid (withoutF (fs.take (k + 1)) ns = withoutF (fs.take k) ns ++ (if anyT ns fs[k].1 = true then [] else [fs[k]])) := by
          rw [Hid, List.take_succ_eq_append_getElem hlt, withoutF_snoc]
        have hkl : (withoutF (fs.take k) ns).length ≤ k := Nat.le_trans (withoutF_len _ _) (List.length_take_le _ _)
        generalize fs[k] = f at *
        obtain ⟨fn, fv⟩ := f
        simp only at hc1 hc2 hsz hsn
        have hs1 : Hid (fn.size ≤ 281474976710656) := by rw [Hid]; omega
        have hs2 : Hid (fv.size ≤ 281474976710656) := by rw [Hid]; omega
        have hs3 : Hid (fn.size ≤ 140737488355328) := by rw [Hid]; omega
        have HS : Hid (∀ W, Below w.heap.size w W → Calls Tryd.prog 32 #[.string fn, .slice b ns.length d] W fun e w' => e = .returned (.bool (anyT ns fn)) ∧ Below W.heap.size W w') := fun W b' => amongT_any fn ns b d W ((HN.out.keep b').mono b'.size) HNB.out hs3.out
        generalize anyT ns fn = t at *
        have HO : Hid (OwnF w.heap.size wr (.slice ao (withoutF (fs.take k) ns).length cv) (withoutF (fs.take k) ns)) := hown
        have HKL : Hid ((withoutF (fs.take k) ns).length ≤ 16777216) := by rw [Hid]; omega
        have E1 : Below w.heap.size w (wr.alloc (.cells #[.string fn, .string fv] 34)) := hB.alloc hB.size _
        clear hsz hown hkl
        generalize withoutF (fs.take k) ns = K at *
        go_wp2_with fail
        refine (HS.out _ E1).mono ?_
        rintro e w2 ⟨rfl, B2⟩
        have g2 : w2.heap[wr.heap.size]? = some (.cells #[.string fn, .string fv] 34) := tblk_below (tblk_new _ _) B2
        have C2 : Below wr.heap.size wr w2 := ((Below.refl _ _).alloc (Nat.le_refl _) _).trans (B2.mono (by simp))
        have own2 := HO.out.keep C2
        have hB2 := hB.trans (C2.mono hB.size)
        have c0 : w2.cell? ⟨wr.heap.size, 0, none⟩ = some (.string fn) := tblk_cell g2 rfl
        have c1 : w2.cell? ⟨wr.heap.size, 1, none⟩ = some (.string fv) := tblk_cell g2 rfl
        clear g2 B2 C2 hB HO hc1 hc2 HS E1
        cases t
        · have hsn2 : Hid (withoutF (fs.take (k + 1)) ns = K ++ [(fn, fv)]) := by rw [Hid, hsn.out, if_neg (by decide)]
          clear hsn
          go_wp2_with fail
          refine (fclone_any fn fv _ hs1.out hs2.out).mono ?_
          rintro e w3 ⟨rfl, B3⟩
          have own3 := (own2.keep B3).keep ((Below.refl _ _).alloc (Nat.le_refl _) (.cells #[.string fn, .string fv] 34))
          have hB3 := hB2.trans (B3.mono hB2.size)
          have one3 : Fds (w3.alloc (.cells #[.string fn, .string fv] 34)).heap.size (w3.alloc (.cells #[.string fn, .string fv] 34)) (.slice (some ⟨w3.heap.size, 0, none⟩) 1 1) [(fn, fv)] := fds_new w3 fn fv
          obtain ⟨v4, w4, r4, own4, B4⟩ := ownF_append own3 one3 (by have := HKL.out; simp; omega) (by have := hB3.size; simp; omega)
          have hB4 : Below w.heap.size w w4 := (hB3.alloc hB3.size _).trans B4
          obtain ⟨a4, c4, rfl, _⟩ := own4.form
          have HO4 : Hid (OwnF w.heap.size w4 (.slice a4 (K ++ [(fn, fv)]).length c4) (K ++ [(fn, fv)])) := own4
          have HR : Hid _ := r4
          have HL : Hid ((K ++ [(fn, fv)]).length = (withoutF (fs.take (k + 1)) ns).length) := by rw [Hid, hsn2.out]
          clear own2 own3 own4 B3 B4 hB2 hB3 r4 c0 c1 one3
          generalize (K ++ [(fn, fv)]).length = L at *
          go_wp2_with (at_builtin; refine wpList_append_run2 rfl _ _ 22 22 rfl _ _ _ w4 rfl rfl HR.out ?_)
          go_roundw
          case rel => exact ⟨k + 1, a4, c4, by omega, by go_num, by rw [HL.out], by rw [hsn2.out]; exact HO4.out, hB4⟩
          case measure => simp [intOf]; omega
        · have hsn2 : Hid (withoutF (fs.take (k + 1)) ns = K) := by rw [Hid, hsn.out, if_pos rfl, List.append_nil]
          clear hsn
          go_wp2
          go_roundw
          case rel => exact ⟨k + 1, ao, cv, by omega, by go_num, by rw [hsn2.out], by rw [hsn2.out]; exact own2, hB2⟩
          case measure => simp [intOf]; omega
      · go_wp2
        go_ret
        have hk' : k = fs.length := by omega
        subst hk'
        rw [List.take_length] at *
        exact ⟨ao, cv, rfl, hown, hB⟩

theorem toList_ne {a b : ByteArray} (h : ¬ a = b) : (a.toList == b.toList) = false := by
  rw [ByteArray.toList_eq, ByteArray.toList_eq, beq_eq_false_iff_ne]
  intro e
  exact h (ByteArray.ext (Array.toList_inj.1 e))
/-- A field and another one: are they the same? -/
def sameF (a b : Fs) : Bool := decide (a = b)
set_option maxRecDepth 100000 in
set_option maxHeartbeats 1000000 in
theorem same_pos (a b : Fs) (g1 o1 c1 g2 o2 c2 : Nat) (w : World) (hl : a.length = b.length) (hp : 0 < a.length) (hm : a.length ≤ 9223372036854775807)
    (h1 : ∀ (j : Nat) (hj : j < a.length), w.cell? ⟨g1, o1 + j * 2, none⟩ = some (.string a[j].1) ∧ w.cell? ⟨g1, o1 + j * 2 + 1, none⟩ = some (.string a[j].2))
    (h2 : ∀ (j : Nat) (hj : j < b.length), w.cell? ⟨g2, o2 + j * 2, none⟩ = some (.string b[j].1) ∧ w.cell? ⟨g2, o2 + j * 2 + 1, none⟩ = some (.string b[j].2)) :
    Calls Tryd.prog 26 #[.slice (some ⟨g1, o1, none⟩) a.length c1, .slice (some ⟨g2, o2, none⟩) a.length c2] w fun e w' => e = .returned (.bool (sameF a b)) ∧ Below w.heap.size w w' := by
  have H1 : Hid (∀ (j : Nat) (hj : j < a.length), w.cell? ⟨g1, o1 + j * 2, none⟩ = some (.string a[j].1) ∧ w.cell? ⟨g1, o1 + j * 2 + 1, none⟩ = some (.string a[j].2)) := h1
  have H2 : Hid (∀ (j : Nat) (hj : j < b.length), w.cell? ⟨g2, o2 + j * 2, none⟩ = some (.string b[j].1) ∧ w.cell? ⟨g2, o2 + j * 2 + 1, none⟩ = some (.string b[j].2)) := h2
  have HLN : Hid (a.length = b.length) := hl
  clear h1 h2 hl
  go_enter Tryd.func26, Tryd.ntmps26
  go_wp2_with fail
  go_loopw [13] (fun vi wr => ∃ k d : Nat, k ≤ a.length ∧ vi = .int .i64 k ∧ wr = w.drewN d ∧ Hid (a.take k = b.take k)) (fun vi _ => a.length - (intOf vi).toNat)
  case atStart => exact ⟨0, 0, Nat.zero_le _, rfl, by simp [World.drewN_zero], rfl⟩
  case round =>
    obtain ⟨k, d, hk, rfl, rfl, hE⟩ := hrel
    by_cases hlt : k < a.length
    · have hlb : k < b.length := by rw [← HLN.out]; exact hlt
      have p := H1.out k hlt
      have q := H2.out k hlb
      obtain ⟨p1, p2⟩ := p
      obtain ⟨q1, q2⟩ := q
      have hY : Hid (a[k] = b[k] → a.take (k + 1) = b.take (k + 1)) := fun e => by
        rw [List.take_succ_eq_append_getElem hlt, List.take_succ_eq_append_getElem hlb, hE.out, e]
      have hN : Hid (¬ a[k] = b[k] → sameF a b = false) := fun e => by
        unfold sameF
        exact decide_eq_false (fun h => e (by subst h; rfl))
      generalize a[k] = f at *
      obtain ⟨fn, fv⟩ := f
      generalize b[k] = f2 at *
      obtain ⟨gn, gv⟩ := f2
      simp only at p1 p2 q1 q2
      clear hlb
      by_cases e1 : fn = gn
      · subst e1
        by_cases e2 : fv = gv
        · subst e2
          have hY2 : Hid (a.take (k + 1) = b.take (k + 1)) := hY.out rfl
          clear hY hN hE
          go_wp2
          go_quiet (fail)
          go_wp2
          go_roundw
          case rel => exact ⟨k + 1, _, by omega, by go_num, rfl, hY2⟩
          case measure => simp [intOf]; omega
        · have h2 : (fv.toList == gv.toList) = false := toList_ne e2
          have hN2 : Hid (sameF a b = false) := hN.out (fun e => e2 (congrArg Prod.snd e))
          clear hY hN hE
          go_wp2
          go_quiet (fail)
          go_wp2
          go_ret
          exact ⟨ret_bool hN2.out.symm, by refine ⟨?_, ?_, ?_, ?_, ?_⟩ <;> simp [World.drewN]⟩
      · have h1 : (fn.toList == gn.toList) = false := toList_ne e1
        have hN2 : Hid (sameF a b = false) := hN.out (fun e => e1 (congrArg Prod.fst e))
        clear hY hN hE
        go_wp2
        go_quiet (fail)
        go_wp2
        go_ret
        exact ⟨ret_bool hN2.out.symm, by refine ⟨?_, ?_, ?_, ?_, ?_⟩ <;> simp [World.drewN]⟩
    · have hk' : k = a.length := by omega
      subst hk'
      have hEq : sameF a b = true := by
        have h := hE.out
        rw [List.take_length, List.take_of_length_le (by rw [HLN.out]; exact Nat.le_refl _)] at h
        unfold sameF
        exact decide_eq_true h
      have HQ : Hid (sameF a b = true) := hEq
      clear hEq hE
      go_wp2
      go_ret
      exact ⟨ret_bool HQ.out.symm, by refine ⟨?_, ?_, ?_, ?_, ?_⟩ <;> simp [World.drewN]⟩
set_option maxHeartbeats 1000000 in
theorem fsame_any (a b : Fs) (A B : Option Addr) (c d : Nat) (w : World) {X Y : Nat} (ha : Fds X w (.slice A a.length c) a) (hb : Fds Y w (.slice B b.length d) b) :
    Calls Tryd.prog 26 #[.slice A a.length c, .slice B b.length d] w fun e w' => e = .returned (.bool (sameF a b)) ∧ Below w.heap.size w w' := by
  have hla := ha.len
  unfold maxLen at hla
  by_cases hl : a.length = b.length
  · rcases Nat.eq_zero_or_pos a.length with h0 | hp
    · have ea : a = [] := List.eq_nil_of_length_eq_zero h0
      have eb : b = [] := List.eq_nil_of_length_eq_zero (by omega)
      subst ea eb
      clear ha hb hla hl h0
      go_enter Tryd.func26, Tryd.ntmps26
      go_wp2_with fail
      refine wp_loop_rounds 1 ?_
      rw [rounds_succ]
      go_wp2
      go_ret
      exact ⟨rfl, Below.refl _ _⟩
    · obtain ⟨A', c', e, _, _, _, h3⟩ := ha
      obtain ⟨rfl, _, rfl⟩ := slice_inj e
      obtain ⟨g1, o1, rfl, _, k1⟩ := h3 hp
      obtain ⟨B', d', e', _, _, _, h4⟩ := hb
      obtain ⟨rfl, _, rfl⟩ := slice_inj e'
      obtain ⟨g2, o2, rfl, _, k2⟩ := h4 (by omega)
      have k := same_pos a b g1 o1 c g2 o2 d w hl hp (by omega) k1 k2
      rw [hl] at k
      rw [hl]
      exact k
  · have hE : Hid (sameF a b = false) := by
      unfold sameF
      exact decide_eq_false (fun h => hl (by rw [h]))
    have hl2 : ((a.length : Int) != (b.length : Int)) = true := by
      have : ¬ (a.length : Int) = (b.length : Int) := by omega
      simpa using this
    clear ha hb hl hla
    go_enter Tryd.func26, Tryd.ntmps26
    go_wp2
    go_ret
    exact ⟨ret_bool hE.out.symm, Below.refl _ _⟩
end Go.Proofs.YtflgjhknobnnaabDoor
