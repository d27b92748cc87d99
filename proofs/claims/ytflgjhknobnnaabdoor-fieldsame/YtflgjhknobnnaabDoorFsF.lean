/- The reference's Right, Without and Same. -/
import Derived.Test.YtflgjhknobnnaabDoorFsE
import Derived.Test.YtflgjhknobnnaabDoorFsD
import Derived.Test.YtflgjhknobnnaabDoorFldO
namespace Go.Proofs.YtflgjhknobnnaabDoor
open Go.ChangeShapes Go.WideShapes Go.ChangeAt Go.RowKit
set_option linter.unusedVariables false

set_option maxRecDepth 100000 in
set_option maxHeartbeats 1000000 in
theorem rright_any (fs : Fs) (a : Option Addr) (c : Nat) (w : World) (hf : Fds w.heap.size w (.slice a fs.length c) fs) (hb : FBd 140737488355328 fs) :
    Calls Tryd.prog 18 #[.slice a fs.length c] w fun e w' => e = .returned (.bool (rightF fs)) ∧ Below w.heap.size w w' := by
  have hlm := hf.len
  unfold maxLen at hlm
  rcases Nat.eq_zero_or_pos fs.length with h0 | hp
  · have he : fs = [] := List.eq_nil_of_length_eq_zero h0
    subst he
    clear hf hb h0 hlm
    go_enter Tryd.func18, Tryd.ntmps18
    go_wp2_with fail
    refine wp_loop_rounds 1 ?_
    rw [rounds_succ]
    go_wp2
    go_ret
    exact ⟨rfl, Below.refl _ _⟩
  · obtain ⟨a', c', e, hnil, q1, q2, q3⟩ := hf
    obtain ⟨rfl, _, rfl⟩ := slice_inj e
    obtain ⟨g, off, rfl, hg, hc⟩ := q3 hp
    have HC : Hid (∀ (j : Nat) (hj : j < fs.length), w.cell? ⟨g, off + j * 2, none⟩ = some (.string fs[j].1) ∧ w.cell? ⟨g, off + j * 2 + 1, none⟩ = some (.string fs[j].2)) := hc
    have HBD : Hid (FBd 140737488355328 fs) := hb
    have hln : fs.length ≤ 9223372036854775807 := by omega
    clear e hnil q1 q2 q3 hlm hc hb
    go_enter Tryd.func18, Tryd.ntmps18
    go_wp2_with fail
    go_loopw [3] (fun vi wr => ∃ k : Nat, k ≤ fs.length ∧ vi = .int .i64 k ∧ Hid (anyW (fs.take k) = false) ∧ Below w.heap.size w wr) (fun vi _ => fs.length - (intOf vi).toNat)
    case atStart => exact ⟨0, Nat.zero_le _, rfl, rfl, Below.refl _ _⟩
    case round =>
      obtain ⟨k, hk, rfl, hA, hB⟩ := hrel
      by_cases hlt : k < fs.length
      · have hc1 := (hB.cell (p := ⟨g, off + k * 2, none⟩) hg).trans (HC.out k hlt).1
        have hc2 := (hB.cell (p := ⟨g, off + k * 2 + 1, none⟩) hg).trans (HC.out k hlt).2
        have hsz := HBD.out fs[k] (List.getElem_mem hlt)
        have HA : Hid (∀ W, Calls Tryd.prog 35 #[.agg #[.string fs[k].1, .string fs[k].2]] W fun e w' => e = .returned (.bool (!wrF fs[k])) ∧ Below W.heap.size W w') := fun W => by
          have q := r4one_any fs[k].1 fs[k].2 W hsz.1 hsz.2
          unfold wrF
          rw [Bool.not_not]
          exact q
        have hY : Hid (wrF fs[k] = true → anyW fs = true) := fun q => anyW_at k hlt q
        have hN : Hid (wrF fs[k] = false → anyW (fs.take (k + 1)) = false) := fun q => anyW_snoc hlt hA.out q
        generalize wrF fs[k] = b at *
        clear hsz
        generalize fs[k] = f at *
        obtain ⟨fn, fv⟩ := f
        simp only at hc1 hc2 HA
        cases b
        · have hN2 : Hid (anyW (fs.take (k + 1)) = false) := hN.out rfl
          have HA2 : Hid (∀ W, Calls Tryd.prog 35 #[.agg #[.string fn, .string fv]] W fun e w' => e = .returned (.bool true) ∧ Below W.heap.size W w') := HA.out
          clear hN hY HA
          go_wp2_with fail
          refine (HA2.out _).mono ?_
          rintro e w2 ⟨rfl, B2⟩
          have hB2 := hB.trans (B2.mono hB.size)
          go_wp2
          go_roundw
          case rel => exact ⟨k + 1, by omega, by go_num, hN2, hB2⟩
          case measure => simp [intOf]; omega
        · have hY2 : Hid (rightF fs = false) := by rw [Hid, rightF, hY.out rfl]; simp
          have HA2 : Hid (∀ W, Calls Tryd.prog 35 #[.agg #[.string fn, .string fv]] W fun e w' => e = .returned (.bool false) ∧ Below W.heap.size W w') := HA.out
          clear hN hY HA
          go_wp2_with fail
          refine (HA2.out _).mono ?_
          rintro e w2 ⟨rfl, B2⟩
          have hB2 := hB.trans (B2.mono hB.size)
          go_wp2
          go_ret
          exact ⟨ret_bool hY2.out.symm, hB2⟩
      · have hk' : k = fs.length := by omega
        subst hk'
        have h := hA.out
        rw [List.take_length] at h
        have HR : Hid (rightF fs = decide ((fs.length : Int) ≤ 40)) := by
          rw [Hid, rightF, h]
          by_cases q : fs.length ≤ 40
          · rw [decide_eq_true q, decide_eq_true (by omega)]; rfl
          · rw [decide_eq_false q, decide_eq_false (by omega)]; rfl
        clear h hA
        go_wp2
        go_ret
        exact ⟨ret_bool HR.out.symm, hB⟩

set_option maxRecDepth 100000 in
set_option maxHeartbeats 1000000 in
theorem rin_any (xs : List ByteArray) (a : Option Addr) (c : Nat) (s : ByteArray) (w : World) (hx : Txs w.heap.size w (.slice a xs.length c) xs) (hb : TBd 1048576 xs) (hs : s.size ≤ 1048576) :
    Calls Tryd.prog 37 #[.slice a xs.length c, .string s] w fun e w' => e = .returned (.bool (anyT xs s)) ∧ Below w.heap.size w w' := by
  have hlm := hx.len
  unfold maxLen at hlm
  have HS : Hid (s.size ≤ 4294967281) := by rw [Hid]; omega
  rcases Nat.eq_zero_or_pos xs.length with h0 | hp
  · have he : xs = [] := List.eq_nil_of_length_eq_zero h0
    subst he
    clear hx hb h0 hlm HS hs
    go_enter Tryd.func37, Tryd.ntmps37
    go_wp2_with fail
    refine wp_loop_rounds 1 ?_
    rw [rounds_succ]
    go_wp2
    go_ret
    exact ⟨rfl, Below.refl _ _⟩
  · obtain ⟨a', c', e, hnil, q1, q2, q3⟩ := hx
    obtain ⟨rfl, _, rfl⟩ := slice_inj e
    obtain ⟨g, off, rfl, hg, hc⟩ := q3 hp
    have HC : Hid (∀ (j : Nat) (hj : j < xs.length), w.cell? ⟨g, off + j, none⟩ = some (.string xs[j])) := hc
    have HBD : Hid (TBd 1048576 xs) := hb
    have hln : xs.length ≤ 9223372036854775807 := by omega
    clear e hnil q1 q2 q3 hlm hc hb hs
    go_enter Tryd.func37, Tryd.ntmps37
    go_wp2_with fail
    go_loopw [5] (fun vi wr => ∃ k : Nat, k ≤ xs.length ∧ vi = .int .i64 k ∧ Hid (anyT (xs.take k) s = false) ∧ Below w.heap.size w wr) (fun vi _ => xs.length - (intOf vi).toNat)
    case atStart => exact ⟨0, Nat.zero_le _, rfl, rfl, Below.refl _ _⟩
    case round =>
      obtain ⟨k, hk, rfl, hA, hB⟩ := hrel
      by_cases hlt : k < xs.length
      · have hc1 := (hB.cell (p := ⟨g, off + k, none⟩) hg).trans (HC.out k hlt)
        have hsz := HBD.out xs[k] (List.getElem_mem hlt)
        have HA : Hid (∀ W, Calls Tryd.prog 29 #[.string xs[k], .string s] W fun e w' => e = .returned (.bool (smT xs[k] s)) ∧ Below W.heap.size W w') := fun W => rsame_any _ s W (by omega) HS.out
        have hY : Hid (smT xs[k] s = true → anyT xs s = true) := fun q => anyT_at k hlt q
        have hN : Hid (smT xs[k] s = false → anyT (xs.take (k + 1)) s = false) := fun q => anyT_snoc hlt hA.out q
        generalize smT xs[k] s = b at *
        clear hsz
        generalize xs[k] = x at *
        go_wp2_with fail
        refine (HA.out _).mono ?_
        rintro e w2 ⟨rfl, B2⟩
        have hB2 := hB.trans (B2.mono hB.size)
        clear HA hB B2 hc1
        cases b
        · have hN2 : Hid (anyT (xs.take (k + 1)) s = false) := hN.out rfl
          clear hN hY
          go_wp2
          go_roundw
          case rel => exact ⟨k + 1, by omega, by go_num, hN2, hB2⟩
          case measure => simp [intOf]; omega
        · have hY2 : Hid (anyT xs s = true) := hY.out rfl
          clear hN hY
          go_wp2
          go_ret
          exact ⟨ret_bool hY2.out.symm, hB2⟩
      · go_wp2
        go_ret
        have hk' : k = xs.length := by omega
        subst hk'
        have h := hA.out
        rw [List.take_length] at h
        exact ⟨ret_bool h.symm, hB⟩

set_option maxRecDepth 100000 in
set_option maxHeartbeats 1000000 in
theorem rwithout_any (fs : Fs) (a : Option Addr) (c : Nat) (ns : List ByteArray) (b : Option Addr) (d : Nat) (w : World) (hf : Fds w.heap.size w (.slice a fs.length c) fs) (hb : FBd 1048576 fs) (hn : Txs w.heap.size w (.slice b ns.length d) ns) (hnb : TBd 1048576 ns) (hl : fs.length ≤ 16777216) :
    Calls Tryd.prog 21 #[.slice a fs.length c, .slice b ns.length d] w fun e w' => ∃ ao cv, e = .returned (.slice ao (withoutF fs ns).length cv) ∧ OwnF w.heap.size w' (.slice ao (withoutF fs ns).length cv) (withoutF fs ns) ∧ Below w.heap.size w w' := by
  have C0 : Below w.heap.size w (w.alloc (.cells #[] 34)) := (Below.refl _ _).alloc (Nat.le_refl _) _
  have HN : Hid (Txs w.heap.size w (.slice b ns.length d) ns) := hn
  have HNB : Hid (TBd 1048576 ns) := hnb
  clear hn hnb
  rcases Nat.eq_zero_or_pos fs.length with h0 | hp
  · have he : fs = [] := List.eq_nil_of_length_eq_zero h0
    subst he
    clear hf hb hl h0 HN HNB
    go_enter Tryd.func21, Tryd.ntmps21
    go_wp2_with fail
    refine wp_loop_rounds 1 ?_
    rw [rounds_succ]
    go_wp2
    go_ret
    exact ⟨_, 0, rfl, OwnF.empty _ _ (Nat.le_refl _), C0⟩
  · obtain ⟨a', c', e, hnil, h1, h2, h3⟩ := hf
    obtain ⟨rfl, _, rfl⟩ := slice_inj e
    obtain ⟨g, off, rfl, hg, hc⟩ := h3 hp
    have HC : Hid (∀ (j : Nat) (hj : j < fs.length), w.cell? ⟨g, off + j * 2, none⟩ = some (.string fs[j].1) ∧ w.cell? ⟨g, off + j * 2 + 1, none⟩ = some (.string fs[j].2)) := hc
    have HBD : Hid (FBd 1048576 fs) := hb
    clear e hnil h1 h2 h3 hc hb
    go_enter Tryd.func21, Tryd.ntmps21
    go_wp2_with fail
    go_loopw [5, 6] (fun v vi wr => ∃ (k : Nat) (ao : Option Addr) (cv : Nat), k ≤ fs.length ∧ vi = .int .i64 k ∧ v = .slice ao (withoutF (fs.take k) ns).length cv ∧ OwnF w.heap.size wr v (withoutF (fs.take k) ns) ∧ Below w.heap.size w wr) (fun _ vi _ => fs.length - (intOf vi).toNat)
    case atStart => exact ⟨0, _, 0, Nat.zero_le _, rfl, rfl, OwnF.empty _ _ (Nat.le_refl _), C0⟩
    case round =>
      obtain ⟨k, ao, cv, hk, rfl, rfl, hown, hB⟩ := hrel
      clear C0
      by_cases hlt : k < fs.length
      · have hc1 := (hB.cell (p := ⟨g, off + k * 2, none⟩) hg).trans (HC.out k hlt).1
        have hsz := HBD.out fs[k] (List.getElem_mem hlt)
        have hc2 : Hid (w.cell? ⟨g, off + k * 2, none⟩ = some (.string fs[k].1) ∧ w.cell? ⟨g, off + k * 2 + 1, none⟩ = some (.string fs[k].2)) := HC.out k hlt
        have hsn : Hid (withoutF (fs.take (k + 1)) ns = withoutF (fs.take k) ns ++ (if anyT ns fs[k].1 = true then [] else [fs[k]])) := by
          rw [Hid, List.take_succ_eq_append_getElem hlt, withoutF_snoc]
        have hkl : (withoutF (fs.take k) ns).length ≤ k := Nat.le_trans (withoutF_len _ _) (List.length_take_le _ _)
        generalize fs[k] = f at *
        obtain ⟨fn, fv⟩ := f
        simp only at hc1 hc2 hsz hsn
        have hs3 : Hid (fn.size ≤ 1048576) := by rw [Hid]; omega
        have HS : Hid (∀ W, Below w.heap.size w W → Calls Tryd.prog 37 #[.slice b ns.length d, .string fn] W fun e w' => e = .returned (.bool (anyT ns fn)) ∧ Below W.heap.size W w') := fun W b' => rin_any ns b d fn W ((HN.out.keep b').mono b'.size) HNB.out hs3.out
        generalize anyT ns fn = t at *
        have HO : Hid (OwnF w.heap.size wr (.slice ao (withoutF (fs.take k) ns).length cv) (withoutF (fs.take k) ns)) := hown
        have HKL : Hid ((withoutF (fs.take k) ns).length ≤ 16777216) := by rw [Hid]; omega
        clear hsz hown hkl
        generalize withoutF (fs.take k) ns = K at *
        go_wp2_with fail
        refine (HS.out _ hB).mono ?_
        rintro e w2 ⟨rfl, B2⟩
        have own2 := HO.out.keep B2
        have hB2 := hB.trans (B2.mono hB.size)
        have c0 := (hB2.cell (p := ⟨g, off + k * 2, none⟩) hg).trans hc2.out.1
        have c1 := (hB2.cell (p := ⟨g, off + k * 2 + 1, none⟩) hg).trans hc2.out.2
        clear B2 hB HO hc1 hc2 HS
        cases t
        · have hsn2 : Hid (withoutF (fs.take (k + 1)) ns = K ++ [(fn, fv)]) := by rw [Hid, hsn.out, if_neg (by decide)]
          clear hsn
          have own3 := own2.keep ((Below.refl _ _).alloc (Nat.le_refl _) (.cells #[.string fn, .string fv] 34))
          obtain ⟨v4, w4, r4, own4, B4⟩ := ownF_append own3 (fds_new w2 fn fv) (by have := HKL.out; simp; omega) (by have := hB2.size; simp; omega)
          have hB4 : Below w.heap.size w w4 := (hB2.alloc hB2.size _).trans B4
          obtain ⟨a4, c4, rfl, _⟩ := own4.form
          have HO4 : Hid (OwnF w.heap.size w4 (.slice a4 (K ++ [(fn, fv)]).length c4) (K ++ [(fn, fv)])) := own4
          have HR : Hid _ := r4
          have HL : Hid ((K ++ [(fn, fv)]).length = (withoutF (fs.take (k + 1)) ns).length) := by rw [Hid, hsn2.out]
          clear own2 own3 own4 B4 hB2 r4
          generalize (K ++ [(fn, fv)]).length = L at *
          go_wp2_with (at_builtin; refine wpList_append_run2 rfl _ _ 22 22 rfl _ _ _ w4 rfl rfl HR.out ?_)
          go_roundw
          case rel => exact ⟨k + 1, a4, c4, by omega, by go_num, by rw [HL.out], by rw [hsn2.out]; exact HO4.out, hB4⟩
          case measure => simp [intOf]; omega
        · have hsn2 : Hid (withoutF (fs.take (k + 1)) ns = K) := by rw [Hid, hsn.out, if_pos rfl, List.append_nil]
          clear hsn c0 c1
          go_wp2
          go_roundw
          case rel => exact ⟨k + 1, ao, cv, by omega, by go_num, by rw [hsn2.out], by rw [hsn2.out]; exact own2, hB2⟩
          case measure => simp [intOf]; omega
      · go_wp2
        go_ret
        have hk' : k = fs.length := by omega
        subst hk'
        rw [List.take_length] at *
        exact ⟨ao, cv, rfl, hown, hB⟩

set_option maxRecDepth 100000 in
set_option maxHeartbeats 1000000 in
theorem rsame_eq (a : Fs) (A B : Option Addr) (c d : Nat) (w : World) {X Y : Nat} (ha : Fds X w (.slice A a.length c) a) (hb : Fds Y w (.slice B a.length d) a) :
    Calls Tryd.prog 19 #[.slice A a.length c, .slice B a.length d] w fun e w' => e = .returned (.bool true) ∧ Below w.heap.size w w' := by
  have hla := ha.len
  unfold maxLen at hla
  rcases Nat.eq_zero_or_pos a.length with h0 | hp
  · have ea : a = [] := List.eq_nil_of_length_eq_zero h0
    subst ea
    clear ha hb hla h0
    go_enter Tryd.func19, Tryd.ntmps19
    go_wp2_with fail
    refine wp_loop_rounds 1 ?_
    rw [rounds_succ]
    go_wp2
    go_ret
    exact ⟨rfl, Below.refl _ _⟩
  · obtain ⟨A', c', e, _, _, _, h3⟩ := ha
    obtain ⟨rfl, _, rfl⟩ := slice_inj e
    obtain ⟨g1, o1, rfl, _, k1⟩ := h3 hp
    obtain ⟨B', d', e', _, _, _, h4⟩ := hb
    obtain ⟨rfl, _, rfl⟩ := slice_inj e'
    obtain ⟨g2, o2, rfl, _, k2⟩ := h4 hp
    have H1 : Hid (∀ (j : Nat) (hj : j < a.length), w.cell? ⟨g1, o1 + j * 2, none⟩ = some (.string a[j].1) ∧ w.cell? ⟨g1, o1 + j * 2 + 1, none⟩ = some (.string a[j].2)) := k1
    have H2 : Hid (∀ (j : Nat) (hj : j < a.length), w.cell? ⟨g2, o2 + j * 2, none⟩ = some (.string a[j].1) ∧ w.cell? ⟨g2, o2 + j * 2 + 1, none⟩ = some (.string a[j].2)) := k2
    have hln : a.length ≤ 9223372036854775807 := by omega
    clear k1 k2 e e' h3 h4 hla
    go_enter Tryd.func19, Tryd.ntmps19
    go_wp2_with fail
    go_loopw [5] (fun vi wr => ∃ k d : Nat, k ≤ a.length ∧ vi = .int .i64 k ∧ wr = w.drewN d) (fun vi _ => a.length - (intOf vi).toNat)
    case atStart => exact ⟨0, 0, Nat.zero_le _, rfl, by simp [World.drewN_zero]⟩
    case round =>
      obtain ⟨k, d, hk, rfl, rfl⟩ := hrel
      by_cases hlt : k < a.length
      · obtain ⟨p1, p2⟩ := H1.out k hlt
        obtain ⟨q1, q2⟩ := H2.out k hlt
        generalize a[k] = f at *
        obtain ⟨fn, fv⟩ := f
        simp only at p1 p2 q1 q2
        go_wp2
        go_quiet (fail)
        go_wp2
        go_roundw
        case rel => exact ⟨k + 1, _, by omega, by go_num, rfl⟩
        case measure => simp [intOf]; omega
      · go_wp2
        go_ret
        exact ⟨rfl, by refine ⟨?_, ?_, ?_, ?_, ?_⟩ <;> simp [World.drewN]⟩
end Go.Proofs.YtflgjhknobnnaabDoor
