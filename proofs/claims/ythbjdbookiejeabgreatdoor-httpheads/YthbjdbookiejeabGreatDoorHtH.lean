/- Package http: what is written; Host; Waits. -/
import Derived.Test.YthbjdbookiejeabGreatDoorHtG
import Derived.Test.YthbjdbookiejeabGreatDoorOwG
import Derived.Test.YthbjdbookiejeabGreatDoorFldL
import Derived.Test.YthbjdbookiejeabGreatDoorLvA
import Derived.Deep.RegionHeld3
namespace Go.Proofs.YthbjdbookiejeabGreatDoor
open Go.RowKit
set_option linter.unusedVariables false

def linesB (fs : Fs) : List UInt8 := fs.flatMap fun f => (lineT f.1 f.2).data.toList
def writeB (first : ByteArray) (fs : Fs) (body : List UInt8) : List UInt8 := first.data.toList ++ linesB fs ++ [13, 10] ++ body
theorem linesB_snoc (fs : Fs) (f : ByteArray × ByteArray) : linesB (fs ++ [f]) = linesB fs ++ (lineT f.1 f.2).data.toList := by
  unfold linesB
  rw [List.flatMap_append]
  simp
theorem lineT_size (n v : ByteArray) : (lineT n v).size = n.size + v.size + 4 := by
  unfold lineT
  simp only [ByteArray.size_append]
  show n.size + 2 + v.size + 2 = _
  omega
theorem linesB_len {N : Nat} : ∀ (fs : Fs), FBd N fs → (linesB fs).length ≤ fs.length * (2 * N + 4)
  | [], _ => Nat.zero_le _
  | f :: l, h => by
    have k := linesB_len l (fun g hg => h g (List.mem_cons_of_mem _ hg))
    have hf := h f (List.mem_cons_self ..)
    have e : linesB (f :: l) = (lineT f.1 f.2).data.toList ++ linesB l := by unfold linesB; rw [List.flatMap_cons]
    have e2 : (lineT f.1 f.2).data.toList.length = (lineT f.1 f.2).size := rfl
    rw [e, List.length_append, e2, lineT_size, List.length_cons, Nat.succ_mul]
    omega

set_option maxRecDepth 100000 in
set_option maxHeartbeats 2000000 in
theorem write_any (first : ByteArray) (fs : Fs) (body : List UInt8) (a b : Option Addr) (kb c d : Nat) (w : World) (hf : Fds w.heap.size w (.slice a fs.length c) fs) (hb : FBd 1048576 fs) (hl : fs.length ≤ 1024) (hs : Src w kb (.slice b body.length d) body) (hk : 0 < body.length → kb < w.heap.size) (hnil : b = none → d = 0) (hf1 : first.size ≤ 4294967296) (hb1 : body.length ≤ 4294967296) :
    Calls Tryz.prog 62 #[.string first, .slice a fs.length c, .slice b body.length d] w fun e w' => ∃ v, e = .returned v ∧ OwnG w.heap.size w' v (writeB first fs body) ∧ Below w.heap.size w w' := by
  have hlm := hf.len
  have HLB : Hid (∀ k, (linesB (fs.take k)).length ≤ 4294967296) := fun k => by
    have q := linesB_len (N := 1048576) (fs.take k) (fun g hg => hb g (List.mem_of_mem_take hg))
    have q2 : (fs.take k).length ≤ 1024 := Nat.le_trans (List.length_take_le' ..) hl
    have q3 : (fs.take k).length * (2 * 1048576 + 4) ≤ 1024 * (2 * 1048576 + 4) := Nat.mul_le_mul_right _ q2
    omega
  obtain ⟨v1, w1, r1, O1, B1⟩ := convG w first (by unfold maxLen; omega)
  obtain ⟨g1, c1, rfl, hg1, _⟩ := O1.form
  have HF1 : Hid (first.data.toList.length ≤ 4294967296) := hf1
  have HB1' : Hid (body.length ≤ 4294967296) := hb1
  have hcv : (convert 9 22 (.string first)).run Tryz.prog w = .ok (.slice (some ⟨g1, 0, none⟩) first.data.toList.length c1) w1 := r1
  have HFD : Hid (Fds w.heap.size w (.slice a fs.length c) fs) := hf
  have HS : Hid (Src w kb (.slice b body.length d) body) := hs
  have HK : Hid (0 < body.length → kb < w.heap.size) := hk
  have HNI : Hid (b = none → d = 0) := hnil
  have HBD : Hid (FBd 1048576 fs) := hb
  have hfl : fs.length ≤ 1024 := hl
  clear hf hb hs hk hnil hf1 hb1 r1 hlm hl
  -- what stands behind the loop
  have HEND : Hid (∀ (wr : World) (v7 : Value), OwnG w.heap.size wr v7 (first.data.toList ++ linesB fs) → Below w.heap.size w wr → ∃ v8 w8, (Builtin.append_ #[22, 9] 22 #[v7, .string ⟨#[13, 10]⟩]).run Tryz.prog wr = .ok v8 w8 ∧ ∃ v9 w9, (Builtin.append_ #[22, 22] 22 #[v8, .slice b body.length d]).run Tryz.prog w8 = .ok v9 w9 ∧ OwnG w.heap.size w9 v9 (writeB first fs body) ∧ Below w.heap.size w w9) := fun wr v7 hO hB => by
    have q := HLB.out fs.length
    rw [List.take_length] at q
    have q1 := HF1.out
    have q2 := HB1'.out
    obtain ⟨v8, w8, r8, O8, B8⟩ := ownG_append_str (s := ⟨#[13, 10]⟩) hO (by rw [List.length_append]; show _ + 2 ≤ _; omega) hB.size
    have C8 := hB.trans B8
    obtain ⟨v9, w9, r9, O9, B9⟩ := ownG_append O8 (HS.out.keep HK.out C8) HNI.out (by rw [List.length_append, List.length_append]; show _ + _ + 2 + _ ≤ _; omega) C8.size
    exact ⟨v8, w8, r8, v9, w9, r9, O9, C8.trans B9⟩
  rcases Nat.eq_zero_or_pos fs.length with h0 | hp
  · have he : fs = [] := List.eq_nil_of_length_eq_zero h0
    subst he
    obtain ⟨v8, w8, r8, v9, w9, r9, O9, B9⟩ := HEND.out w1 _ (by rw [show linesB [] = [] from rfl, List.append_nil]; exact O1) B1
    have HR8 : Hid ((Builtin.append_ #[22, 9] 22 #[.slice (some ⟨g1, 0, none⟩) first.data.toList.length c1, .string ⟨#[13, 10]⟩]).run Tryz.prog w1 = .ok v8 w8) := r8
    have HR9 : Hid ((Builtin.append_ #[22, 22] 22 #[v8, .slice b body.length d]).run Tryz.prog w8 = .ok v9 w9) := r9
    have HO9 : Hid (OwnG w.heap.size w9 v9 (writeB first [] body)) := O9
    clear h0 HLB HEND O1 B1 r8 r9 O9 HFD HS HK HNI HBD hfl HF1 HB1' hg1
    generalize first.data.toList.length = fl at *
    generalize body.length = bl at *
    go_enter Tryz.func62, Tryz.ntmps62
    go_wp2_with fail
    refine wp_loop_rounds 1 ?_
    rw [rounds_succ]
    go_wp2_with (at_builtin; first | refine wpList_append_run2 rfl _ _ 22 9 rfl _ _ _ w8 rfl rfl HR8.out ?_ | refine wpList_append_run2 rfl _ _ 22 22 rfl _ _ _ w9 rfl rfl HR9.out ?_)
    go_ret
    exact ⟨_, rfl, HO9.out, B9⟩
  · obtain ⟨a', c', e, _, h1, h2, h3⟩ := HFD.out
    obtain ⟨rfl, _, rfl⟩ := slice_inj e
    obtain ⟨g, off, rfl, hg, hc⟩ := h3 hp
    have HC : Hid (∀ (j : Nat) (hj : j < fs.length), w.cell? ⟨g, off + j * 2, none⟩ = some (.string fs[j].1) ∧ w.cell? ⟨g, off + j * 2 + 1, none⟩ = some (.string fs[j].2)) := hc
    have HO1 : Hid (OwnG w.heap.size w1 (.slice (some ⟨g1, 0, none⟩) first.data.toList.length c1) (first.data.toList ++ linesB (fs.take 0))) := by
      rw [Hid, show linesB (fs.take 0) = [] from rfl, List.append_nil]; exact O1
    clear e h1 h2 h3 hc HFD O1
    go_enter Tryz.func62, Tryz.ntmps62
    go_wp2_with fail
    go_loopw [7, 14] (fun v vi wr => ∃ k : Nat, k ≤ fs.length ∧ vi = .int .i64 k ∧ OwnG w.heap.size wr v (first.data.toList ++ linesB (fs.take k)) ∧ Below w.heap.size w wr) (fun _ vi _ => fs.length - (intOf vi).toNat)
    case atStart => exact ⟨0, Nat.zero_le _, rfl, HO1.out, B1⟩
    case round =>
      obtain ⟨k, hk, rfl, hown, hB⟩ := hrel
      by_cases hlt : k < fs.length
      · have hc1 := (hB.cell (p := ⟨g, off + k * 2, none⟩) hg).trans (HC.out k hlt).1
        have hc2 := (hB.cell (p := ⟨g, off + k * 2 + 1, none⟩) hg).trans (HC.out k hlt).2
        have hsz := HBD.out fs[k] (List.getElem_mem hlt)
        have hsn : Hid (first.data.toList ++ linesB (fs.take (k + 1)) = (first.data.toList ++ linesB (fs.take k)) ++ (lineT fs[k].1 fs[k].2).data.toList) := by
          rw [Hid, List.take_succ_eq_append_getElem hlt, linesB_snoc, List.append_assoc]
        have hk1 := HLB.out k
        have HLN : Hid (∀ W, Calls Tryz.prog 94 #[.agg #[.string fs[k].1, .string fs[k].2]] W fun e w' => e = .returned (.string (lineT fs[k].1 fs[k].2)) ∧ Below W.heap.size W w') := fun W => line_any _ _ W (by omega)
        have hls : Hid ((first.data.toList ++ linesB (fs.take k)).length + (lineT fs[k].1 fs[k].2).size ≤ 140737488355328) := by
          rw [Hid, List.length_append, lineT_size]; have := HF1.out; omega
        generalize fs[k] = f at *
        obtain ⟨fn, fv⟩ := f
        simp only at hc1 hc2 hsn HLN hls
        generalize lineT fn fv = ln at *
        obtain ⟨gv, cv, rfl, hgv, _⟩ := hown.form
        have HO : Hid (OwnG w.heap.size wr (.slice (some ⟨gv, 0, none⟩) (first.data.toList ++ linesB (fs.take k)).length cv) (first.data.toList ++ linesB (fs.take k))) := hown
        clear hsz hown hk1 hgv
        generalize first.data.toList ++ linesB (fs.take k) = K at *
        go_wp2_with fail
        refine (HLN.out _).mono ?_
        rintro e w2 ⟨rfl, B2⟩
        have C2 : Below wr.heap.size wr w2 := ((Below.refl _ _).alloc (Nat.le_refl _) _).trans (B2.mono (by simp))
        have hB2 := hB.trans (C2.mono hB.size)
        obtain ⟨v4, w4, r4, own4, B4⟩ := ownG_append_str (s := ln) (HO.out.keep C2) hls.out hB2.size
        have hB4 := hB2.trans B4
        have HR : Hid ((Builtin.append_ #[22, 9] 22 #[.slice (some ⟨gv, 0, none⟩) K.length cv, .string ln]).run Tryz.prog w2 = .ok v4 w4) := r4
        have HO4 : Hid (OwnG w.heap.size w4 v4 (K ++ ln.data.toList)) := own4
        clear B2 C2 hB hB2 B4 r4 own4 HO hc1 hc2 HLN hls
        generalize K.length = kl at *
        go_wp2_with (at_builtin; refine wpList_append_run2 rfl _ _ 22 9 rfl _ _ _ w4 rfl rfl HR.out ?_)
        go_roundw
        case rel => exact ⟨k + 1, by omega, by go_num, by rw [hsn.out]; exact HO4.out, hB4⟩
        case measure => simp [intOf]; omega
      · have hk' : k = fs.length := by omega
        subst hk'
        rw [List.take_length] at hown
        obtain ⟨v8, w8, r8, v9, w9, r9, O9, B9⟩ := HEND.out wr _ hown hB
        obtain ⟨gv, cv, rfl, hgv, _⟩ := hown.form
        generalize (first.data.toList ++ linesB fs).length = kl at *
        have HR8 : Hid ((Builtin.append_ #[22, 9] 22 #[.slice (some ⟨gv, 0, none⟩) kl cv, .string ⟨#[13, 10]⟩]).run Tryz.prog wr = .ok v8 w8) := r8
        have HR9 : Hid ((Builtin.append_ #[22, 22] 22 #[v8, .slice b body.length d]).run Tryz.prog w8 = .ok v9 w9) := r9
        have HO9 : Hid (OwnG w.heap.size w9 v9 (writeB first fs body)) := O9
        clear hown hB r8 r9 O9 hgv
        generalize body.length = bl at *
        go_wp2_with (at_builtin; first | refine wpList_append_run2 rfl _ _ 22 9 rfl _ _ _ w8 rfl rfl HR8.out ?_ | refine wpList_append_run2 rfl _ _ 22 22 rfl _ _ _ w9 rfl rfl HR9.out ?_)
        go_ret
        exact ⟨_, rfl, HO9.out, B9⟩
end Go.Proofs.YthbjdbookiejeabGreatDoor
