/- Texts that the proof leans on, one behind the other: HtH HtI HtJ HtK HtS -/
import Derived.Test.YtkdnckkdofoaoaaGreatDoorKg
import Derived.Test.YtkdnckkdofoaoaaGreatDoorKb
import Derived.Test.YtkdnckkdofoaoaaGreatDoorKc
import Derived.Test.YtkdnckkdofoaoaaGreatDoorKf
import Derived.Deep.RegionHeld3
import Derived.Test.YtkdnckkdofoaoaaGreatDoorKd
/- Package http: what is written; Host; Waits. -/
namespace Go.Proofs.YtkdnckkdofoaoaaGreatDoor
open Go.RowKit
set_option linter.unusedVariables false

def linesB (fs : Fs) : List UInt8 := fs.flatMap fun f => (lineT f.1 f.2).data.toList
def writeB (first : ByteArray) (fs : Fs) (body : List UInt8) : List UInt8 := first.data.toList ++ linesB fs ++ [13, 10] ++ body
theorem linesB_snoc (fs : Fs) (f : ByteArray × ByteArray) : linesB (fs ++ [f]) = linesB fs ++ (lineT f.1 f.2).data.toList := by
  unfold linesB
  rw [List.flatMap_append]
  simp
theorem lineT_size (n v : ByteArray) : (lineT n v).size = n.size + v.size + 4 := by
  unfold lineT
  simp only [ByteArray.size_append]
  show n.size + 2 + v.size + 2 = _
  omega
theorem linesB_len {N : Nat} : ∀ (fs : Fs), FBd N fs → (linesB fs).length ≤ fs.length * (2 * N + 4)
  | [], _ => Nat.zero_le _
  | f :: l, h => by
    have k := linesB_len l (fun g hg => h g (List.mem_cons_of_mem _ hg))
    have hf := h f (List.mem_cons_self ..)
    have e : linesB (f :: l) = (lineT f.1 f.2).data.toList ++ linesB l := by unfold linesB; rw [List.flatMap_cons]
    have e2 : (lineT f.1 f.2).data.toList.length = (lineT f.1 f.2).size := rfl
    rw [e, List.length_append, e2, lineT_size, List.length_cons, Nat.succ_mul]
    omega

set_option maxRecDepth 100000 in
set_option maxHeartbeats 2000000 in
theorem write_any (first : ByteArray) (fs : Fs) (body : List UInt8) (a b : Option Addr) (kb c d : Nat) (w : World) (hf : Fds w.heap.size w (.slice a fs.length c) fs) (hb : FBd 1048576 fs) (hl : fs.length ≤ 1024) (hs : Src w kb (.slice b body.length d) body) (hk : 0 < body.length → kb < w.heap.size) (hnil : b = none → d = 0) (hf1 : first.size ≤ 4294967296) (hb1 : body.length ≤ 4294967296) :
    Calls Tryz.prog 53 #[.string first, .slice a fs.length c, .slice b body.length d] w fun e w' => ∃ v, e = .returned v ∧ OwnG w.heap.size w' v (writeB first fs body) ∧ Below w.heap.size w w' := by
  have hlm := hf.len
  have HLB : Hid (∀ k, (linesB (fs.take k)).length ≤ 4294967296) := fun k => by
    have q := linesB_len (N := 1048576) (fs.take k) (fun g hg => hb g (List.mem_of_mem_take hg))
    have q2 : (fs.take k).length ≤ 1024 := Nat.le_trans (List.length_take_le' ..) hl
    have q3 : (fs.take k).length * (2 * 1048576 + 4) ≤ 1024 * (2 * 1048576 + 4) := Nat.mul_le_mul_right _ q2
    omega
  obtain ⟨v1, w1, r1, O1, B1⟩ := convG w first (by unfold maxLen; omega)
  obtain ⟨g1, c1, rfl, hg1, _⟩ := O1.form
  have HF1 : Hid (first.data.toList.length ≤ 4294967296) := hf1
  have HB1' : Hid (body.length ≤ 4294967296) := hb1
  have hcv : (convert 9 22 (.string first)).run Tryz.prog w = .ok (.slice (some ⟨g1, 0, none⟩) first.data.toList.length c1) w1 := r1
  have HFD : Hid (Fds w.heap.size w (.slice a fs.length c) fs) := hf
  have HS : Hid (Src w kb (.slice b body.length d) body) := hs
  have HK : Hid (0 < body.length → kb < w.heap.size) := hk
  have HNI : Hid (b = none → d = 0) := hnil
  have HBD : Hid (FBd 1048576 fs) := hb
  have hfl : fs.length ≤ 1024 := hl
  clear hf hb hs hk hnil hf1 hb1 r1 hlm hl
  -- what stands behind the loop
  have HEND : Hid (∀ (wr : World) (v7 : Value), OwnG w.heap.size wr v7 (first.data.toList ++ linesB fs) → Below w.heap.size w wr → ∃ v8 w8, (Builtin.append_ #[22, 9] 22 #[v7, .string ⟨#[13, 10]⟩]).run Tryz.prog wr = .ok v8 w8 ∧ ∃ v9 w9, (Builtin.append_ #[22, 22] 22 #[v8, .slice b body.length d]).run Tryz.prog w8 = .ok v9 w9 ∧ OwnG w.heap.size w9 v9 (writeB first fs body) ∧ Below w.heap.size w w9) := fun wr v7 hO hB => by
    have q := HLB.out fs.length
    rw [List.take_length] at q
    have q1 := HF1.out
    have q2 := HB1'.out
    obtain ⟨v8, w8, r8, O8, B8⟩ := ownG_append_str (s := ⟨#[13, 10]⟩) hO (by rw [List.length_append]; show _ + 2 ≤ _; omega) hB.size
    have C8 := hB.trans B8
    obtain ⟨v9, w9, r9, O9, B9⟩ := ownG_append O8 (HS.out.keep HK.out C8) HNI.out (by rw [List.length_append, List.length_append]; show _ + _ + 2 + _ ≤ _; omega) C8.size
    exact ⟨v8, w8, r8, v9, w9, r9, O9, C8.trans B9⟩
  rcases Nat.eq_zero_or_pos fs.length with h0 | hp
  · have he : fs = [] := List.eq_nil_of_length_eq_zero h0
    subst he
    obtain ⟨v8, w8, r8, v9, w9, r9, O9, B9⟩ := HEND.out w1 _ (by rw [show linesB [] = [] from rfl, List.append_nil]; exact O1) B1
    have HR8 : Hid ((Builtin.append_ #[22, 9] 22 #[.slice (some ⟨g1, 0, none⟩) first.data.toList.length c1, .string ⟨#[13, 10]⟩]).run Tryz.prog w1 = .ok v8 w8) := r8
    have HR9 : Hid ((Builtin.append_ #[22, 22] 22 #[v8, .slice b body.length d]).run Tryz.prog w8 = .ok v9 w9) := r9
    have HO9 : Hid (OwnG w.heap.size w9 v9 (writeB first [] body)) := O9
    clear h0 HLB HEND O1 B1 r8 r9 O9 HFD HS HK HNI HBD hfl HF1 HB1' hg1
    generalize first.data.toList.length = fl at *
    generalize body.length = bl at *
    go_enter Tryz.func53, Tryz.ntmps53
    go_wp2_with fail
    refine wp_loop_rounds 1 ?_
    rw [rounds_succ]
    go_wp2_with (at_builtin; first | refine wpList_append_run2 rfl _ _ 22 9 rfl _ _ _ w8 rfl rfl HR8.out ?_ | refine wpList_append_run2 rfl _ _ 22 22 rfl _ _ _ w9 rfl rfl HR9.out ?_)
    go_ret
    exact ⟨_, rfl, HO9.out, B9⟩
  · obtain ⟨a', c', e, _, h1, h2, h3⟩ := HFD.out
    obtain ⟨rfl, _, rfl⟩ := slice_inj e
    obtain ⟨g, off, rfl, hg, hc⟩ := h3 hp
    have HC : Hid (∀ (j : Nat) (hj : j < fs.length), w.cell? ⟨g, off + j * 2, none⟩ = some (.string fs[j].1) ∧ w.cell? ⟨g, off + j * 2 + 1, none⟩ = some (.string fs[j].2)) := hc
    have HO1 : Hid (OwnG w.heap.size w1 (.slice (some ⟨g1, 0, none⟩) first.data.toList.length c1) (first.data.toList ++ linesB (fs.take 0))) := by
      rw [Hid, show linesB (fs.take 0) = [] from rfl, List.append_nil]; exact O1
    clear e h1 h2 h3 hc HFD O1
    go_enter Tryz.func53, Tryz.ntmps53
    go_wp2_with fail
    go_loopw [7, 14] (fun v vi wr => ∃ k : Nat, k ≤ fs.length ∧ vi = .int .i64 k ∧ OwnG w.heap.size wr v (first.data.toList ++ linesB (fs.take k)) ∧ Below w.heap.size w wr) (fun _ vi _ => fs.length - (intOf vi).toNat)
    case atStart => exact ⟨0, Nat.zero_le _, rfl, HO1.out, B1⟩
    case round =>
      obtain ⟨k, hk, rfl, hown, hB⟩ := hrel
      by_cases hlt : k < fs.length
      · have hc1 := (hB.cell (p := ⟨g, off + k * 2, none⟩) hg).trans (HC.out k hlt).1
        have hc2 := (hB.cell (p := ⟨g, off + k * 2 + 1, none⟩) hg).trans (HC.out k hlt).2
        have hsz := HBD.out fs[k] (List.getElem_mem hlt)
        have hsn : Hid (first.data.toList ++ linesB (fs.take (k + 1)) = (first.data.toList ++ linesB (fs.take k)) ++ (lineT fs[k].1 fs[k].2).data.toList) := by
          rw [Hid, List.take_succ_eq_append_getElem hlt, linesB_snoc, List.append_assoc]
        have hk1 := HLB.out k
        have HLN : Hid (∀ W, Calls Tryz.prog 96 #[.agg #[.string fs[k].1, .string fs[k].2]] W fun e w' => e = .returned (.string (lineT fs[k].1 fs[k].2)) ∧ Below W.heap.size W w') := fun W => line_any _ _ W (by omega)
        have hls : Hid ((first.data.toList ++ linesB (fs.take k)).length + (lineT fs[k].1 fs[k].2).size ≤ 140737488355328) := by
          rw [Hid, List.length_append, lineT_size]; have := HF1.out; omega
        generalize fs[k] = f at *
        obtain ⟨fn, fv⟩ := f
        simp only at hc1 hc2 hsn HLN hls
        generalize lineT fn fv = ln at *
        obtain ⟨gv, cv, rfl, hgv, _⟩ := hown.form
        have HO : Hid (OwnG w.heap.size wr (.slice (some ⟨gv, 0, none⟩) (first.data.toList ++ linesB (fs.take k)).length cv) (first.data.toList ++ linesB (fs.take k))) := hown
        clear hsz hown hk1 hgv
        generalize first.data.toList ++ linesB (fs.take k) = K at *
        go_wp2_with fail
        refine (HLN.out _).mono ?_
        rintro e w2 ⟨rfl, B2⟩
        have C2 : Below wr.heap.size wr w2 := ((Below.refl _ _).alloc (Nat.le_refl _) _).trans (B2.mono (by simp))
        have hB2 := hB.trans (C2.mono hB.size)
        obtain ⟨v4, w4, r4, own4, B4⟩ := ownG_append_str (s := ln) (HO.out.keep C2) hls.out hB2.size
        have hB4 := hB2.trans B4
        have HR : Hid ((Builtin.append_ #[22, 9] 22 #[.slice (some ⟨gv, 0, none⟩) K.length cv, .string ln]).run Tryz.prog w2 = .ok v4 w4) := r4
        have HO4 : Hid (OwnG w.heap.size w4 v4 (K ++ ln.data.toList)) := own4
        clear B2 C2 hB hB2 B4 r4 own4 HO hc1 hc2 HLN hls
        generalize K.length = kl at *
        go_wp2_with (at_builtin; refine wpList_append_run2 rfl _ _ 22 9 rfl _ _ _ w4 rfl rfl HR.out ?_)
        go_roundw
        case rel => exact ⟨k + 1, by omega, by go_num, by rw [hsn.out]; exact HO4.out, hB4⟩
        case measure => simp [intOf]; omega
      · have hk' : k = fs.length := by omega
        subst hk'
        rw [List.take_length] at hown
        obtain ⟨v8, w8, r8, v9, w9, r9, O9, B9⟩ := HEND.out wr _ hown hB
        obtain ⟨gv, cv, rfl, hgv, _⟩ := hown.form
        generalize (first.data.toList ++ linesB fs).length = kl at *
        have HR8 : Hid ((Builtin.append_ #[22, 9] 22 #[.slice (some ⟨gv, 0, none⟩) kl cv, .string ⟨#[13, 10]⟩]).run Tryz.prog wr = .ok v8 w8) := r8
        have HR9 : Hid ((Builtin.append_ #[22, 22] 22 #[v8, .slice b body.length d]).run Tryz.prog w8 = .ok v9 w9) := r9
        have HO9 : Hid (OwnG w.heap.size w9 v9 (writeB first fs body)) := O9
        clear hown hB r8 r9 O9 hgv
        generalize body.length = bl at *
        go_wp2_with (at_builtin; first | refine wpList_append_run2 rfl _ _ 22 9 rfl _ _ _ w8 rfl rfl HR8.out ?_ | refine wpList_append_run2 rfl _ _ 22 22 rfl _ _ _ w9 rfl rfl HR9.out ?_)
        go_ret
        exact ⟨_, rfl, HO9.out, B9⟩
end Go.Proofs.YtkdnckkdofoaoaaGreatDoor

/- Package http: WriteRequest, Host, Waits. -/
namespace Go.Proofs.YtkdnckkdofoaoaaGreatDoor
open Go.RowKit
set_option linter.unusedVariables false

def hostQ (fs : Fs) : ByteArray := match getF fs tHost with
  | [] => ⟨#[]⟩
  | h :: _ => (hostP h).1

set_option maxRecDepth 100000 in
set_option maxHeartbeats 2000000 in
theorem hhost_any (m t : ByteArray) (minor : Int) (fs : Fs) (a b : Option Addr) (c x y : Nat) (w : World) (hf : Fds w.heap.size w (.slice a fs.length c) fs) (hb : FBd 1000 fs) (hl : fs.length ≤ 1024) :
    Calls Tryz.prog 15 #[.agg #[.string m, .string t, .int .i64 minor, .slice a fs.length c, .slice b x y]] w fun e w' => e = .returned (.string (hostQ fs)) ∧ Below w.heap.size w w' := by
  have C0 : Below w.heap.size w (w.alloc (.cells #[.string m, .string t, .int .i64 minor, .slice a fs.length c, .slice b x y] 26)) := (Below.refl _ _).alloc (Nat.le_refl _) _
  have HG : Hid (Calls Tryz.prog 40 #[.slice a fs.length c, .string ⟨#[72, 111, 115, 116]⟩] (w.alloc (.cells #[.string m, .string t, .int .i64 minor, .slice a fs.length c, .slice b x y] 26)) fun e w' => ∃ ao cv, e = .returned (.slice ao (getF fs tHost).length cv) ∧ OwnT (w.heap.size + 1) w' (.slice ao (getF fs tHost).length cv) (getF fs tHost) ∧ Below w.heap.size w w') := by
    refine (get_any fs a c tHost _ (hf.over C0) (bd_huge hb) (by decide) (by omega)).mono ?_
    rintro e w' ⟨ao, cv, he, hO, hB⟩
    exact ⟨ao, cv, he, (by have k := hO; simpa using k), C0.trans (hB.mono C0.size)⟩
  have hbd : Hid (TBd 1000 (getF fs tHost)) := getF_bd hb
  unfold hostQ
  generalize getF fs tHost = hs at *
  clear hf hb hl C0
  match hs, HG, hbd with
  | [], HG, _ =>
    show Calls Tryz.prog 15 _ w fun e w' => e = .returned (.string ⟨#[]⟩) ∧ Below w.heap.size w w'
    have HG2 : Hid (Calls Tryz.prog 40 #[.slice a fs.length c, .string ⟨#[72, 111, 115, 116]⟩] (w.alloc (.cells #[.string m, .string t, .int .i64 minor, .slice a fs.length c, .slice b x y] 26)) fun e w' => ∃ ao cv, e = .returned (.slice ao 0 cv) ∧ Below w.heap.size w w') := by
      refine HG.out.mono ?_
      rintro e w' ⟨ao, cv, he, _, hB⟩
      exact ⟨ao, cv, he, hB⟩
    clear HG
    go_enter Tryz.func15, Tryz.ntmps15
    go_wp2_with fail
    refine HG2.out.mono ?_
    rintro e w1 ⟨ao, cv, rfl, B1⟩
    go_wp2
    go_ret
    exact ⟨rfl, B1⟩
  | h :: r, HG, hbd =>
    show Calls Tryz.prog 15 _ w fun e w' => e = .returned (.string (hostP h).1) ∧ Below w.heap.size w w'
    have hsz := hbd.out h (List.mem_cons_self ..)
    have HH : Hid (∀ W, Calls Tryz.prog 41 #[.string h] W fun e w' => e = .returned (.tuple #[.string (hostP h).1, .bool (hostP h).2]) ∧ Below W.heap.size W w') := fun W => host_any h W (by unfold maxLen; omega)
    have HG2 : Hid (Calls Tryz.prog 40 #[.slice a fs.length c, .string ⟨#[72, 111, 115, 116]⟩] (w.alloc (.cells #[.string m, .string t, .int .i64 minor, .slice a fs.length c, .slice b x y] 26)) fun e w' => ∃ g off cv, e = .returned (.slice (some ⟨g, off, none⟩) (r.length + 1) cv) ∧ Below w.heap.size w w' ∧ w'.cell? ⟨g, off, none⟩ = some (.string h) ∧ r.length + 1 ≤ 9223372036854775807) := by
      refine HG.out.mono ?_
      rintro e w' ⟨ao, cv, he, hO, hB⟩
      obtain ⟨a', c', e', _, hl1, hl2, h4⟩ := hO.txs
      obtain ⟨rfl, _, rfl⟩ := slice_inj e'
      obtain ⟨g, off, rfl, _, hc⟩ := h4 (Nat.succ_pos _)
      refine ⟨g, off, cv, he, hB, hc 0 (Nat.succ_pos _), ?_⟩
      have e2 : (h :: r).length = r.length + 1 := rfl
      unfold maxLen at hl2
      omega
    clear HG hbd hsz
    generalize hostP h = hp at *
    obtain ⟨h1, h2⟩ := hp
    have h1' : ¬ (((r.length + 1 : Nat) : Int)) = 0 := by omega
    have h1'' : ((((r.length + 1 : Nat) : Int)) == 0) = false := by simpa using h1'
    generalize r.length + 1 = n at *
    go_enter Tryz.func15, Tryz.ntmps15
    go_wp2_with fail
    refine HG2.out.mono ?_
    rintro e w1 ⟨g, off, cv, rfl, B1, q, hn63⟩
    have hn0 : 0 < n := by omega
    go_wp2_with fail
    refine (HH.out _).mono ?_
    rintro e w2 ⟨rfl, B2⟩
    have C2 := B1.trans (B2.mono B1.size)
    go_wp2
    go_ret
    exact ⟨rfl, C2⟩

set_option maxRecDepth 100000 in
set_option maxHeartbeats 4000000 in
theorem wreq_any (m t : ByteArray) (n : Int) (fs : Fs) (body : List UInt8) (a b : Option Addr) (kb c d : Nat) (h0 : -9223372036854775808 ≤ n) (h1 : n ≤ 9223372036854775807) (hi : (itoaS n).size ≤ 21) (w : World) (ht : PowT w) (hm : m.size ≤ 1048576) (htl : t.size ≤ 1048576) (hf : Fds w.heap.size w (.slice a fs.length c) fs) (hb : FBd 1048576 fs) (hl : fs.length ≤ 1024) (hs : Src w kb (.slice b body.length d) body) (hk : 0 < body.length → kb < w.heap.size) (hnil : b = none → d = 0) (hb1 : body.length ≤ 1048576) :
    Calls Tryz.prog 24 #[.agg #[.string m, .string t, .int .i64 n, .slice a fs.length c, .slice b body.length d]] w fun e w' => ∃ v, e = .returned v ∧ OwnG w.heap.size w' v (writeB (reqT m t (verT n)) fs body) ∧ Below w.heap.size w w' := by
  have hv : (verT n).size ≤ 28 := by unfold verT; rw [lcat_size]; show 7 + _ ≤ _; omega
  have hrs : (reqT m t (verT n)).size ≤ 4294967296 := by
    unfold reqT
    rw [lcat_size, lcat_size, lcat_size, lcat_size, lcat_size]
    show _ + 1 + _ + 1 + _ + 2 ≤ _
    omega
  have H : Hid (∀ W, PI w (.cells #[.string m, .string t, .int .i64 n, .slice a fs.length c, .slice b body.length d] 26) W → Calls Tryz.prog 54 #[.agg #[.string m, .string t, .int .i64 n, .slice a fs.length c, .slice b body.length d]] W fun e w' => e = .returned (.string (reqT m t (verT n))) ∧ PI w (.cells #[.string m, .string t, .int .i64 n, .slice a fs.length c, .slice b body.length d] 26) w' ∧ w'.cell? ⟨w.heap.size, 0, none⟩ = some (.string m) ∧ w'.cell? ⟨w.heap.size, 1, none⟩ = some (.string t) ∧ w'.cell? ⟨w.heap.size, 2, none⟩ = some (.int .i64 n) ∧ w'.cell? ⟨w.heap.size, 3, none⟩ = some (.slice a fs.length c) ∧ w'.cell? ⟨w.heap.size, 4, none⟩ = some (.slice b body.length d)) := fun W i => (reqline_any m t n h0 h1 hi W (ht.below i.below) (by omega) (by omega)).mono fun e w' z => ⟨z.1, i.next z.2, tblk_cell (i.next z.2).own rfl, tblk_cell (i.next z.2).own rfl, tblk_cell (i.next z.2).own rfl, tblk_cell (i.next z.2).own rfl, tblk_cell (i.next z.2).own rfl⟩
  have HW : Hid (∀ W, PI w (.cells #[.string m, .string t, .int .i64 n, .slice a fs.length c, .slice b body.length d] 26) W → Calls Tryz.prog 53 #[.string (reqT m t (verT n)), .slice a fs.length c, .slice b body.length d] W fun e w' => ∃ v, e = .returned v ∧ OwnG w.heap.size w' v (writeB (reqT m t (verT n)) fs body) ∧ Below w.heap.size w w' ∧ w'.cell? ⟨w.heap.size, 0, none⟩ = some (.string m) ∧ w'.cell? ⟨w.heap.size, 1, none⟩ = some (.string t) ∧ w'.cell? ⟨w.heap.size, 2, none⟩ = some (.int .i64 n) ∧ w'.cell? ⟨w.heap.size, 3, none⟩ = some (.slice a fs.length c) ∧ w'.cell? ⟨w.heap.size, 4, none⟩ = some (.slice b body.length d)) := fun W i => by
    refine (write_any _ fs body a b kb c d W (hf.over i.below) hb hl (hs.keep hk i.below) (fun q => Nat.lt_of_lt_of_le (hk q) i.below.size) hnil hrs (by omega)).mono ?_
    rintro e w' ⟨v, he, hO, hB⟩
    exact ⟨v, he, hO.mono i.below.size, i.below.trans (hB.mono i.below.size), tblk_cell (i.next hB).own rfl, tblk_cell (i.next hB).own rfl, tblk_cell (i.next hB).own rfl, tblk_cell (i.next hB).own rfl, tblk_cell (i.next hB).own rfl⟩
  have I0 := PI.new w (.cells #[.string m, .string t, .int .i64 n, .slice a fs.length c, .slice b body.length d] 26)
  generalize writeB (reqT m t (verT n)) fs body = X at *
  generalize reqT m t (verT n) = first at *
  clear h0 h1 ht hi hm htl hv hf hb hl hs hk hnil hb1 hrs
  generalize fs.length = fl at *
  generalize body.length = bl at *
  go_enter Tryz.func24, Tryz.ntmps24
  go_wp2_with fail
  go_region_held3 (fun W => W.cell? ⟨w.heap.size, 0, none⟩ = some (.string m) ∧ W.cell? ⟨w.heap.size, 1, none⟩ = some (.string t) ∧ W.cell? ⟨w.heap.size, 2, none⟩ = some (.int .i64 n) ∧ W.cell? ⟨w.heap.size, 3, none⟩ = some (.slice a fl c) ∧ W.cell? ⟨w.heap.size, 4, none⟩ = some (.slice b bl d)) (go_keep) (first | (go_at_call 54; refine (H.out _ (by first | assumption | exact PI.drew I0 | exact PI.drew (by assumption))).mono ?_; rintro e w' ⟨rfl, hI, hS0, hS1, hS2, hS3, hS4⟩) | (go_at_call 53; refine (HW.out _ (by first | assumption | exact PI.drew I0 | exact PI.drew (by assumption))).mono ?_; rintro e w' ⟨vx, rfl, hO, hB, hS0, hS1, hS2, hS3, hS4⟩))
  go_wp2
  go_ret
  exact ⟨_, rfl, hO, hB⟩
end Go.Proofs.YtkdnckkdofoaoaaGreatDoor

/- Package http: Waits. -/
namespace Go.Proofs.YtkdnckkdofoaoaaGreatDoor
open Go.RowKit
set_option linter.unusedVariables false

def tExp : ByteArray := ⟨#[69, 120, 112, 101, 99, 116]⟩
def t100 : ByteArray := ⟨#[49, 48, 48, 45, 99, 111, 110, 116, 105, 110, 117, 101]⟩
def waitsQ (b : List UInt8) : Bool := if (headQ b).n = 0 then false else if ¬ (headQ b).minor = 1 then false else if hasF (headQ b).fs tExp t100 = false then false else (decide ((reqQ b).n = 0) && decide ((reqQ b).st = 0))

set_option maxRecDepth 100000 in
set_option maxHeartbeats 4000000 in
theorem waits_any (b : List UInt8) (kb c : Nat) (a : Option Addr) (w : World) (hs : Src w kb (.slice a b.length c) b) (hk : 0 < b.length → kb < w.heap.size) (hM : MaxL w) (hlen : b.length ≤ 1048576) :
    Calls Tryz.prog 13 #[.slice a b.length c] w fun e w' => e = .returned (.bool (waitsQ b)) ∧ Below w.heap.size w w' := by
  have HOK : Hid (HdOk b.length (headQ b)) := headQ_ok b
  have HH : Hid (Calls Tryz.prog 10 #[.slice a b.length c] w (HeadR w (headQ b))) := head_any b kb c a w hs hk hM
  have HR : Hid (∀ W, Below w.heap.size w W → Calls Tryz.prog 8 #[.slice a b.length c] W (ReqR W (reqQ b))) := fun W B => hreq_any b kb c a W (hs.keep hk B) (fun q => Nat.lt_of_lt_of_le (hk q) B.size) (hM.below B) hlen
  have HF : Hid (∀ (W : World) (fa : Option Addr) (fc : Nat), Below w.heap.size w W → Fds W.heap.size W (.slice fa (headQ b).fs.length fc) (headQ b).fs → Calls Tryz.prog 38 #[.slice fa (headQ b).fs.length fc, .string ⟨#[69, 120, 112, 101, 99, 116]⟩, .string ⟨#[49, 48, 48, 45, 99, 111, 110, 116, 105, 110, 117, 101]⟩] W fun e w' => e = .returned (.bool (hasF (headQ b).fs tExp t100)) ∧ Below W.heap.size W w') := fun W fa fc B F => has_any _ fa fc tExp t100 W F (bd_big HOK.out.bd) (by decide) (by decide) (by have := HOK.out.len; omega) (hM.below B)
  clear hs hk hM hlen HOK
  unfold waitsQ
  generalize reqQ b = Q at *
  generalize headQ b = H at *
  obtain ⟨m, t, mi, fs, n, st⟩ := H
  obtain ⟨qm, qt, qmi, qfs, qb, qn, qst⟩ := Q
  generalize hasF fs tExp t100 = he at *
  unfold HeadR hdV at HH
  unfold ReqR rdV at HR
  simp only at HH HR HF ⊢
  generalize b.length = bl at *
  by_cases h0 : n = 0
  · subst h0
    rw [if_pos rfl]
    clear HR HF
    go_enter Tryz.func13, Tryz.ntmps13
    go_wp2_with fail
    refine HH.out.mono ?_
    rintro e w1 ⟨fa, fc, rfl, O1, B1⟩
    have B2 := B1.alloc B1.size (.cells #[.string m, .string t, .int .i64 mi, .slice fa fs.length fc, .slice none 0 0] 26)
    clear O1 B1 HH
    go_wp2
    go_ret
    exact ⟨rfl, B2⟩
  · rw [if_neg h0]
    have h0' : ¬ ((n : Nat) : Int) = 0 := by omega
    have h0'' : (((n : Nat) : Int) == 0) = false := by simpa using h0'
    clear h0
    by_cases h1 : mi = 1
    · subst h1
      rw [if_neg (fun k => k rfl)]
      cases he
      · rw [if_pos rfl]
        clear HR
        go_enter Tryz.func13, Tryz.ntmps13
        go_wp2_with fail
        refine HH.out.mono ?_
        rintro e w1 ⟨fa, fc, rfl, O1, B1⟩
        have B2 := B1.alloc B1.size (.cells #[.string m, .string t, .int .i64 1, .slice fa fs.length fc, .slice none 0 0] 26)
        have U2 : Below w1.heap.size w1 (w1.alloc (.cells #[.string m, .string t, .int .i64 1, .slice fa fs.length fc, .slice none 0 0] 26)) := (Below.refl _ _).alloc (Nat.le_refl _) _
        have hr2 := tblk_new w1 (.cells #[.string m, .string t, .int .i64 1, .slice fa fs.length fc, .slice none 0 0] 26)
        have HFF : Hid (Fds (w1.alloc (.cells #[.string m, .string t, .int .i64 1, .slice fa fs.length fc, .slice none 0 0] 26)).heap.size (w1.alloc (.cells #[.string m, .string t, .int .i64 1, .slice fa fs.length fc, .slice none 0 0] 26)) (.slice fa fs.length fc) fs) := (O1.keep U2).fds
        have d2 := tblk_cell (i := 2) hr2 rfl
        have d3 := tblk_cell (i := 3) hr2 rfl
        clear O1 B1 HH U2 hr2
        go_wp2_with fail
        refine (HF.out _ fa fc B2 HFF.out).mono ?_
        rintro e w3 ⟨rfl, B3⟩
        have D3 := B2.trans (B3.mono B2.size)
        clear d2 d3 B2 B3 HFF HF
        go_wp2
        go_ret
        exact ⟨rfl, D3⟩
      · rw [if_neg (by decide)]
        by_cases hq : qn = 0
        · subst hq
          by_cases hs : qst = 0
          · subst hs
            simp only [decide_true, Bool.and_true]
            go_enter Tryz.func13, Tryz.ntmps13
            go_wp2_with fail
            refine HH.out.mono ?_
            rintro e w1 ⟨fa, fc, rfl, O1, B1⟩
            have B2 := B1.alloc B1.size (.cells #[.string m, .string t, .int .i64 1, .slice fa fs.length fc, .slice none 0 0] 26)
            have U2 : Below w1.heap.size w1 (w1.alloc (.cells #[.string m, .string t, .int .i64 1, .slice fa fs.length fc, .slice none 0 0] 26)) := (Below.refl _ _).alloc (Nat.le_refl _) _
            have hr2 := tblk_new w1 (.cells #[.string m, .string t, .int .i64 1, .slice fa fs.length fc, .slice none 0 0] 26)
            have HFF : Hid (Fds (w1.alloc (.cells #[.string m, .string t, .int .i64 1, .slice fa fs.length fc, .slice none 0 0] 26)).heap.size (w1.alloc (.cells #[.string m, .string t, .int .i64 1, .slice fa fs.length fc, .slice none 0 0] 26)) (.slice fa fs.length fc) fs) := (O1.keep U2).fds
            have d2 := tblk_cell (i := 2) hr2 rfl
            have d3 := tblk_cell (i := 3) hr2 rfl
            clear O1 B1 HH U2 hr2
            go_wp2_with fail
            refine (HF.out _ fa fc B2 HFF.out).mono ?_
            rintro e w3 ⟨rfl, B3⟩
            have D3 := B2.trans (B3.mono B2.size)
            clear d2 d3 B2 B3 HFF HF
            go_wp2_with fail
            refine (HR.out _ D3).mono ?_
            rintro e w4 ⟨ga, gb, gc, gd, rfl, _, _, B4⟩
            have D4 := D3.trans (B4.mono D3.size)
            have D5 := D4.alloc D4.size (.cells #[.string qm, .string qt, .int .i64 qmi, .slice ga qfs.length gc, .slice gb qb.length gd] 26)
            clear D3 B4 D4 HR
            generalize qfs.length = q1 at *
            generalize qb.length = q2 at *
            go_wp2
            go_ret
            exact ⟨rfl, D5⟩
          · rw [decide_eq_false hs, Bool.and_false]
            have hs' : (qst == 0) = false := by simpa using hs
            go_enter Tryz.func13, Tryz.ntmps13
            go_wp2_with fail
            refine HH.out.mono ?_
            rintro e w1 ⟨fa, fc, rfl, O1, B1⟩
            have B2 := B1.alloc B1.size (.cells #[.string m, .string t, .int .i64 1, .slice fa fs.length fc, .slice none 0 0] 26)
            have U2 : Below w1.heap.size w1 (w1.alloc (.cells #[.string m, .string t, .int .i64 1, .slice fa fs.length fc, .slice none 0 0] 26)) := (Below.refl _ _).alloc (Nat.le_refl _) _
            have hr2 := tblk_new w1 (.cells #[.string m, .string t, .int .i64 1, .slice fa fs.length fc, .slice none 0 0] 26)
            have HFF : Hid (Fds (w1.alloc (.cells #[.string m, .string t, .int .i64 1, .slice fa fs.length fc, .slice none 0 0] 26)).heap.size (w1.alloc (.cells #[.string m, .string t, .int .i64 1, .slice fa fs.length fc, .slice none 0 0] 26)) (.slice fa fs.length fc) fs) := (O1.keep U2).fds
            have d2 := tblk_cell (i := 2) hr2 rfl
            have d3 := tblk_cell (i := 3) hr2 rfl
            clear O1 B1 HH U2 hr2
            go_wp2_with fail
            refine (HF.out _ fa fc B2 HFF.out).mono ?_
            rintro e w3 ⟨rfl, B3⟩
            have D3 := B2.trans (B3.mono B2.size)
            clear d2 d3 B2 B3 HFF HF
            go_wp2_with fail
            refine (HR.out _ D3).mono ?_
            rintro e w4 ⟨ga, gb, gc, gd, rfl, _, _, B4⟩
            have D4 := D3.trans (B4.mono D3.size)
            have D5 := D4.alloc D4.size (.cells #[.string qm, .string qt, .int .i64 qmi, .slice ga qfs.length gc, .slice gb qb.length gd] 26)
            clear D3 B4 D4 HR
            generalize qfs.length = q1 at *
            generalize qb.length = q2 at *
            go_wp2
            go_ret
            exact ⟨rfl, D5⟩
        · rw [decide_eq_false hq, Bool.false_and]
          have hq' : ¬ ((qn : Nat) : Int) = 0 := by omega
          have hq'' : (((qn : Nat) : Int) == 0) = false := by simpa using hq'
          go_enter Tryz.func13, Tryz.ntmps13
          go_wp2_with fail
          refine HH.out.mono ?_
          rintro e w1 ⟨fa, fc, rfl, O1, B1⟩
          have B2 := B1.alloc B1.size (.cells #[.string m, .string t, .int .i64 1, .slice fa fs.length fc, .slice none 0 0] 26)
          have U2 : Below w1.heap.size w1 (w1.alloc (.cells #[.string m, .string t, .int .i64 1, .slice fa fs.length fc, .slice none 0 0] 26)) := (Below.refl _ _).alloc (Nat.le_refl _) _
          have hr2 := tblk_new w1 (.cells #[.string m, .string t, .int .i64 1, .slice fa fs.length fc, .slice none 0 0] 26)
          have HFF : Hid (Fds (w1.alloc (.cells #[.string m, .string t, .int .i64 1, .slice fa fs.length fc, .slice none 0 0] 26)).heap.size (w1.alloc (.cells #[.string m, .string t, .int .i64 1, .slice fa fs.length fc, .slice none 0 0] 26)) (.slice fa fs.length fc) fs) := (O1.keep U2).fds
          have d2 := tblk_cell (i := 2) hr2 rfl
          have d3 := tblk_cell (i := 3) hr2 rfl
          clear O1 B1 HH U2 hr2
          go_wp2_with fail
          refine (HF.out _ fa fc B2 HFF.out).mono ?_
          rintro e w3 ⟨rfl, B3⟩
          have D3 := B2.trans (B3.mono B2.size)
          clear d2 d3 B2 B3 HFF HF
          go_wp2_with fail
          refine (HR.out _ D3).mono ?_
          rintro e w4 ⟨ga, gb, gc, gd, rfl, _, _, B4⟩
          have D4 := D3.trans (B4.mono D3.size)
          have D5 := D4.alloc D4.size (.cells #[.string qm, .string qt, .int .i64 qmi, .slice ga qfs.length gc, .slice gb qb.length gd] 26)
          clear D3 B4 D4 HR
          generalize qfs.length = q1 at *
          generalize qb.length = q2 at *
          go_wp2
          go_ret
          exact ⟨rfl, D5⟩
    · rw [if_pos h1]
      have h1' : (mi != 1) = true := by simpa using h1
      clear HR HF
      go_enter Tryz.func13, Tryz.ntmps13
      go_wp2_with fail
      refine HH.out.mono ?_
      rintro e w1 ⟨fa, fc, rfl, O1, B1⟩
      have B2 := B1.alloc B1.size (.cells #[.string m, .string t, .int .i64 mi, .slice fa fs.length fc, .slice none 0 0] 26)
      have hr2 := tblk_new w1 (.cells #[.string m, .string t, .int .i64 mi, .slice fa fs.length fc, .slice none 0 0] 26)
      have d2 := tblk_cell (i := 2) hr2 rfl
      clear O1 B1 HH hr2
      go_wp2
      go_ret
      exact ⟨rfl, B2⟩
end Go.Proofs.YtkdnckkdofoaoaaGreatDoor

/- The examples of requests. -/
namespace Go.Proofs.YtkdnckkdofoaoaaGreatDoor
open Go.RowKit
set_option linter.unusedVariables false

theorem src_blk {W : World} {g n : Nat} {l : List UInt8} {row : Array Value} {fz : Nat × Nat} (h : W.heap[g]? = some (.cells row 5 fz)) (hl : l.length = n) (hm : n ≤ maxLen) (hr : (rowB l).toArray = row) : Src W g (.slice (some ⟨g, 0, none⟩) n n) l := by
  subst hr hl
  refine ⟨_, _, rfl, Nat.le_refl _, hm, fun _ => ⟨0, rfl, fun j hj => ?_⟩⟩
  have e : (rowB l).toArray[0 + j]? = some (bv l[j]) := by
    rw [Nat.zero_add, List.getElem?_toArray]
    unfold rowB
    rw [List.getElem?_map, List.getElem?_eq_getElem hj]; rfl
  unfold World.cell?
  rw [h]
  exact e
def l27 : List UInt8 := [71, 69, 84, 32, 47, 32, 72, 84, 84, 80, 47, 49, 46, 49, 13, 10, 72, 111, 115, 116, 58, 32, 97, 13, 10, 13, 10]
def l26 : List UInt8 := [71, 69, 84, 32, 47, 32, 72, 84, 84, 80, 47, 49, 46, 49, 10, 72, 111, 115, 116, 58, 32, 97, 13, 10, 13, 10]
def l69 : List UInt8 := [80, 85, 84, 32, 47, 32, 72, 84, 84, 80, 47, 49, 46, 49, 13, 10, 72, 111, 115, 116, 58, 32, 97, 13, 10, 69, 120, 112, 101, 99, 116, 58, 32, 49, 48, 48, 45, 67, 111, 110, 116, 105, 110, 117, 101, 13, 10, 67, 111, 110, 116, 101, 110, 116, 45, 76, 101, 110, 103, 116, 104, 58, 32, 50, 13, 10, 13, 10, 97]
def l31 : List UInt8 := [71, 69, 84, 32, 47, 32, 72, 84, 84, 80, 47, 49, 46, 49, 13, 10, 72, 111, 115, 116, 58, 32, 97, 13, 10, 13, 10, 109, 111, 114, 101]
def o27 : Obj := .cells #[.int .u8 71, .int .u8 69, .int .u8 84, .int .u8 32, .int .u8 47, .int .u8 32, .int .u8 72, .int .u8 84, .int .u8 84, .int .u8 80, .int .u8 47, .int .u8 49, .int .u8 46, .int .u8 49, .int .u8 13, .int .u8 10, .int .u8 72, .int .u8 111, .int .u8 115, .int .u8 116, .int .u8 58, .int .u8 32, .int .u8 97, .int .u8 13, .int .u8 10, .int .u8 13, .int .u8 10] 5 (27, 28)
theorem ask1 : reqQ l31 = ⟨⟨#[71, 69, 84]⟩, ⟨#[47]⟩, 1, [(⟨#[72, 111, 115, 116]⟩, ⟨#[97]⟩)], [], 27, 0⟩ := by kernel_rfl
theorem ask2 : reqQ (l27.take 20) = rdNo 0 := by kernel_rfl
theorem ask3 : reqQ l26 = rdNo 400 := by kernel_rfl
theorem ask4 : hostQ [(⟨#[72, 111, 115, 116]⟩, ⟨#[97]⟩)] = ⟨#[97]⟩ := by kernel_rfl
theorem ask5 : writeB (reqT ⟨#[71, 69, 84]⟩ ⟨#[47]⟩ (verT 1)) [(⟨#[72, 111, 115, 116]⟩, ⟨#[97]⟩)] [] = l27 := by kernel_rfl
theorem ask6 : waitsQ l69 = true := by kernel_rfl
theorem ask7 : waitsQ l27 = false := by kernel_rfl
theorem askB (N : Nat) (h : 4 ≤ N) : FBd N [(⟨#[72, 111, 115, 116]⟩, ⟨#[97]⟩)] := fun f hf => by
  rw [List.mem_singleton.1 hf]
  exact ⟨Nat.le_trans (show 4 ≤ 4 by decide) h, Nat.le_trans (show 1 ≤ 4 by decide) h⟩
/-- A request that isn't one, at bytes that lie in a block. -/
theorem req_blk {W : World} {g n c : Nat} {l : List UInt8} {st : Int} (hs : Src W g (.slice (some ⟨g, 0, none⟩) n c) l) (hg : g < W.heap.size) (hM : MaxL W) (hl : l.length ≤ 1048576) (hq : reqQ l = rdNo st) :
    Calls Tryz.prog 8 #[.slice (some ⟨g, 0, none⟩) n c] W fun e w' => ∃ fa ba fc bc, e = .returned (.tuple #[.agg #[.string ⟨#[]⟩, .string ⟨#[]⟩, .int .i64 0, .slice fa 0 fc, .slice ba 0 bc], .int .i64 0, .int .i64 st]) ∧ Below W.heap.size W w' := by
  have e := hs.len.1
  subst e
  have k := hreq_any l g c (some ⟨g, 0, none⟩) W hs (fun _ => hg) hM hl
  rw [hq] at k
  refine k.mono ?_
  rintro e w' ⟨fa, ba, fc, bc, he, _, _, hB⟩
  exact ⟨fa, ba, fc, bc, he, hB⟩
theorem waits_blk {W : World} {g n : Nat} {l : List UInt8} {b : Bool} (hs : Src W g (.slice (some ⟨g, 0, none⟩) n n) l) (hg : g < W.heap.size) (hM : MaxL W) (hl : l.length ≤ 1048576) (hq : waitsQ l = b) :
    Calls Tryz.prog 13 #[.slice (some ⟨g, 0, none⟩) n n] W fun e w' => e = .returned (.bool b) ∧ Below W.heap.size W w' := by
  have e := hs.len.1
  have k := waits_any l g l.length (some ⟨g, 0, none⟩) W (by rw [e]; exact hs) (fun _ => hg) hM hl
  rw [hq, e] at k
  exact k

set_option maxRecDepth 100000 in
set_option maxHeartbeats 4000000 in
theorem asking_any (w : World) (hL : Lv w) : Calls Tryz.prog 7 #[] w fun e w' => e = .returned (.bool true) ∧ Below w.heap.size w w' := by
  have hcs := conv_same
  have P0 := PI.new w o27
  have e0 : (w.alloc o27).heap.size = w.heap.size + 1 := by simp
  have S0 : Src (w.alloc o27) w.heap.size (.slice (some ⟨w.heap.size, 0, none⟩) 27 27) l27 := src_blk P0.own rfl (by decide) rfl
  have U1 : Below (w.alloc o27).heap.size (w.alloc o27) ((w.alloc o27).alloc (.cells #[] 5)) := (Below.refl _ _).alloc (Nat.le_refl _) _
  obtain ⟨v1, w1, r1, O1, B1⟩ := own_append (Own.empty (w.alloc o27).heap.size (w.alloc o27) (Nat.le_refl _)) (S0.keep (fun _ => by rw [e0]; exact Nat.lt_succ_self _) U1) (fun e => by cases e) (by decide) (by simp)
  have C1 : Below (w.alloc o27).heap.size (w.alloc o27) w1 := U1.trans B1
  obtain ⟨v2, w2, r2, O2, B2⟩ := own_append_str (s := ⟨#[109, 111, 114, 101]⟩) O1 (by decide) C1.size
  have C2 : Below (w.alloc o27).heap.size (w.alloc o27) w2 := C1.trans B2
  have P2 : PI w o27 w2 := P0.next C2
  obtain ⟨a2, c2, rfl, _⟩ := O2.form
  have O2' : Own (w.alloc o27).heap.size w2 (.slice a2 31 c2) l31 := O2
  obtain ⟨k2, S2, K2⟩ := O2'.src
  rw [e0] at r1
  have HR1 : Hid ((Builtin.append_ #[22, 22] 22 #[.slice (some ⟨w.heap.size + 1, 0, none⟩) 0 0, .slice (some ⟨w.heap.size, 0, none⟩) 27 27]).run Tryz.prog ((w.alloc (.cells #[.int .u8 71, .int .u8 69, .int .u8 84, .int .u8 32, .int .u8 47, .int .u8 32, .int .u8 72, .int .u8 84, .int .u8 84, .int .u8 80, .int .u8 47, .int .u8 49, .int .u8 46, .int .u8 49, .int .u8 13, .int .u8 10, .int .u8 72, .int .u8 111, .int .u8 115, .int .u8 116, .int .u8 58, .int .u8 32, .int .u8 97, .int .u8 13, .int .u8 10, .int .u8 13, .int .u8 10] 5 (27, 28))).alloc (.cells #[] 5)) = .ok v1 w1) := r1
  have HR2 : Hid ((Builtin.append_ #[22, 9] 22 #[v1, .string ⟨#[109, 111, 114, 101]⟩]).run Tryz.prog w1 = .ok (.slice a2 31 c2) w2) := r2
  have HL : Hid (Lv w) := hL
  have HP2 : Hid (PI w o27 w2) := P2
  have HQ1 : Hid (Calls Tryz.prog 8 #[.slice a2 31 c2] w2 fun e w' => ∃ fa ba fc bc, e = .returned (.tuple #[.agg #[.string ⟨#[71, 69, 84]⟩, .string ⟨#[47]⟩, .int .i64 1, .slice fa 1 fc, .slice ba 0 bc], .int .i64 27, .int .i64 0]) ∧ OwnF w2.heap.size w' (.slice fa 1 fc) [(⟨#[72, 111, 115, 116]⟩, ⟨#[97]⟩)] ∧ Own w2.heap.size w' (.slice ba 0 bc) [] ∧ (ba = none → bc = 0) ∧ Below w2.heap.size w2 w') := by
    have k := hreq_any l31 k2 c2 a2 w2 S2 (fun q => (K2 q).2) (hL.below P2.below).max (by decide)
    rw [ask1] at k
    refine k.mono ?_
    rintro e w' ⟨fa, ba, fc, bc, he, hF, hO, hB⟩
    obtain ⟨x, y, hxy, hn⟩ := hO.form
    obtain ⟨rfl, _, rfl⟩ := slice_inj hxy
    exact ⟨fa, ba, fc, bc, he, hF, hO, hn, hB⟩
  clear hL P0 S0 U1 O1 B1 C1 O2 B2 C2 P2 O2' S2 K2 r1 r2 e0
  go_enter Tryz.func7, Tryz.ntmps7
  go_wp2_with (at_builtin; first | refine wpList_append_run2 rfl _ _ 22 22 rfl _ _ _ w1 rfl rfl HR1.out ?_ | refine wpList_append_run2 rfl _ _ 22 9 rfl _ _ _ w2 rfl rfl HR2.out ?_)
  refine HQ1.out.mono ?_
  rintro e w3 ⟨fa, ba, fc, bc, rfl, F3, O3, hnb, B3⟩
  have HNB : Hid (ba = none → bc = 0) := hnb
  have U4 : Below w3.heap.size w3 (w3.alloc (.cells #[.string ⟨#[71, 69, 84]⟩, .string ⟨#[47]⟩, .int .i64 1, .slice fa 1 fc, .slice ba 0 bc] 26)) := (Below.refl _ _).alloc (Nat.le_refl _) _
  have P4 : Hid (PI w o27 (w3.alloc (.cells #[.string ⟨#[71, 69, 84]⟩, .string ⟨#[47]⟩, .int .i64 1, .slice fa 1 fc, .slice ba 0 bc] 26))) := (HP2.out.next B3).next U4
  have hr4 := tblk_new w3 (.cells #[.string ⟨#[71, 69, 84]⟩, .string ⟨#[47]⟩, .int .i64 1, .slice fa 1 fc, .slice ba 0 bc] 26)
  have HF4 : Hid (OwnF w2.heap.size (w3.alloc (.cells #[.string ⟨#[71, 69, 84]⟩, .string ⟨#[47]⟩, .int .i64 1, .slice fa 1 fc, .slice ba 0 bc] 26)) (.slice fa 1 fc) [(⟨#[72, 111, 115, 116]⟩, ⟨#[97]⟩)]) := F3.keep U4
  have HO4 : Hid (Own w2.heap.size (w3.alloc (.cells #[.string ⟨#[71, 69, 84]⟩, .string ⟨#[47]⟩, .int .i64 1, .slice fa 1 fc, .slice ba 0 bc] 26)) (.slice ba 0 bc) []) := O3.keep U4
  clear HQ1 HR1 HR2 HP2 F3 O3 hnb B3 U4
  have HQ2 : Hid (∀ W, PI w o27 W → Calls Tryz.prog 8 #[.slice (some ⟨w.heap.size, 0, none⟩) 20 27] W fun e w' => ∃ fa ba fc bc, e = .returned (.tuple #[.agg #[.string ⟨#[]⟩, .string ⟨#[]⟩, .int .i64 0, .slice fa 0 fc, .slice ba 0 bc], .int .i64 0, .int .i64 0]) ∧ Below W.heap.size W w') := fun W i => req_blk ((src_blk (l := l27) (n := 27) i.own rfl (by decide) rfl).take (m := 20) (by decide)) (heap_lt i.own) (HL.out.below i.below).max (by decide) ask2
  have HQ3 : Hid (∀ W : World, MaxL W → Calls Tryz.prog 8 #[.slice (some ⟨W.heap.size, 0, none⟩) 26 26] (W.alloc (.cells #[.int .u8 71, .int .u8 69, .int .u8 84, .int .u8 32, .int .u8 47, .int .u8 32, .int .u8 72, .int .u8 84, .int .u8 84, .int .u8 80, .int .u8 47, .int .u8 49, .int .u8 46, .int .u8 49, .int .u8 10, .int .u8 72, .int .u8 111, .int .u8 115, .int .u8 116, .int .u8 58, .int .u8 32, .int .u8 97, .int .u8 13, .int .u8 10, .int .u8 13, .int .u8 10] 5 (26, 27))) fun e w' => ∃ fa ba fc bc, e = .returned (.tuple #[.agg #[.string ⟨#[]⟩, .string ⟨#[]⟩, .int .i64 0, .slice fa 0 fc, .slice ba 0 bc], .int .i64 0, .int .i64 400]) ∧ Below W.heap.size W w') := fun W hM => by
    have U : Below W.heap.size W (W.alloc (.cells #[.int .u8 71, .int .u8 69, .int .u8 84, .int .u8 32, .int .u8 47, .int .u8 32, .int .u8 72, .int .u8 84, .int .u8 84, .int .u8 80, .int .u8 47, .int .u8 49, .int .u8 46, .int .u8 49, .int .u8 10, .int .u8 72, .int .u8 111, .int .u8 115, .int .u8 116, .int .u8 58, .int .u8 32, .int .u8 97, .int .u8 13, .int .u8 10, .int .u8 13, .int .u8 10] 5 (26, 27))) := (Below.refl _ _).alloc (Nat.le_refl _) _
    refine (req_blk (src_blk (l := l26) (tblk_new W _) rfl (by decide) rfl) (by simp) (hM.below U) (by decide) ask3).mono ?_
    rintro e w' ⟨fa, ba, fc, bc, he, hB⟩
    exact ⟨fa, ba, fc, bc, he, U.trans (hB.mono U.size)⟩
  go_wp2_with fail
  generalize w3.heap.size = p at *
  generalize w3.alloc (.cells #[.string ⟨#[71, 69, 84]⟩, .string ⟨#[47]⟩, .int .i64 1, .slice fa 1 fc, .slice ba 0 bc] 26) = w4 at *
  refine (HQ2.out w4 P4.out).mono ?_
  rintro e w5 ⟨f5, b5, x5, y5, rfl, B5⟩
  have D6 : Below w4.heap.size w4 (w5.alloc (.cells #[.string ⟨#[]⟩, .string ⟨#[]⟩, .int .i64 0, .slice f5 0 x5, .slice b5 0 y5] 26)) := B5.alloc B5.size _
  have hr6 := tblk_below hr4 D6
  have P6 : Hid (PI w o27 (w5.alloc (.cells #[.string ⟨#[]⟩, .string ⟨#[]⟩, .int .i64 0, .slice f5 0 x5, .slice b5 0 y5] 26))) := P4.out.next D6
  have HF6 : Hid (OwnF w2.heap.size (w5.alloc (.cells #[.string ⟨#[]⟩, .string ⟨#[]⟩, .int .i64 0, .slice f5 0 x5, .slice b5 0 y5] 26)) (.slice fa 1 fc) [(⟨#[72, 111, 115, 116]⟩, ⟨#[97]⟩)]) := OwnF.keep HF4.out D6
  have HO6 : Hid (Own w2.heap.size (w5.alloc (.cells #[.string ⟨#[]⟩, .string ⟨#[]⟩, .int .i64 0, .slice f5 0 x5, .slice b5 0 y5] 26)) (.slice ba 0 bc) []) := Own.keep HO4.out D6
  clear B5 D6 hr4 P4 HF4 HO4 HQ2
  have e6 : (w5.alloc (.cells #[.string ⟨#[]⟩, .string ⟨#[]⟩, .int .i64 0, .slice f5 0 x5, .slice b5 0 y5] 26)).heap.size = w5.heap.size + 1 := by simp
  have HQ4 : Hid (Calls Tryz.prog 8 #[.slice (some ⟨w5.heap.size + 1, 0, none⟩) 26 26] ((w5.alloc (.cells #[.string ⟨#[]⟩, .string ⟨#[]⟩, .int .i64 0, .slice f5 0 x5, .slice b5 0 y5] 26)).alloc (.cells #[.int .u8 71, .int .u8 69, .int .u8 84, .int .u8 32, .int .u8 47, .int .u8 32, .int .u8 72, .int .u8 84, .int .u8 84, .int .u8 80, .int .u8 47, .int .u8 49, .int .u8 46, .int .u8 49, .int .u8 10, .int .u8 72, .int .u8 111, .int .u8 115, .int .u8 116, .int .u8 58, .int .u8 32, .int .u8 97, .int .u8 13, .int .u8 10, .int .u8 13, .int .u8 10] 5 (26, 27))) fun e w' => ∃ fa ba fc bc, e = .returned (.tuple #[.agg #[.string ⟨#[]⟩, .string ⟨#[]⟩, .int .i64 0, .slice fa 0 fc, .slice ba 0 bc], .int .i64 0, .int .i64 400]) ∧ Below (w5.alloc (.cells #[.string ⟨#[]⟩, .string ⟨#[]⟩, .int .i64 0, .slice f5 0 x5, .slice b5 0 y5] 26)).heap.size (w5.alloc (.cells #[.string ⟨#[]⟩, .string ⟨#[]⟩, .int .i64 0, .slice f5 0 x5, .slice b5 0 y5] 26)) w') := by
    rw [Hid, ← e6]
    exact HQ3.out _ (HL.out.below P6.out.below).max
  have hcs4 : (convert 22 22 (.slice (some ⟨w5.heap.size + 1, 0, none⟩) 26 26)).run Tryz.prog ((w5.alloc (.cells #[.string ⟨#[]⟩, .string ⟨#[]⟩, .int .i64 0, .slice f5 0 x5, .slice b5 0 y5] 26)).alloc (.cells #[.int .u8 71, .int .u8 69, .int .u8 84, .int .u8 32, .int .u8 47, .int .u8 32, .int .u8 72, .int .u8 84, .int .u8 84, .int .u8 80, .int .u8 47, .int .u8 49, .int .u8 46, .int .u8 49, .int .u8 10, .int .u8 72, .int .u8 111, .int .u8 115, .int .u8 116, .int .u8 58, .int .u8 32, .int .u8 97, .int .u8 13, .int .u8 10, .int .u8 13, .int .u8 10] 5)) = .ok (.slice (some ⟨w5.heap.size + 1, 0, none⟩) 26 26) ((w5.alloc (.cells #[.string ⟨#[]⟩, .string ⟨#[]⟩, .int .i64 0, .slice f5 0 x5, .slice b5 0 y5] 26)).alloc (.cells #[.int .u8 71, .int .u8 69, .int .u8 84, .int .u8 32, .int .u8 47, .int .u8 32, .int .u8 72, .int .u8 84, .int .u8 84, .int .u8 80, .int .u8 47, .int .u8 49, .int .u8 46, .int .u8 49, .int .u8 10, .int .u8 72, .int .u8 111, .int .u8 115, .int .u8 116, .int .u8 58, .int .u8 32, .int .u8 97, .int .u8 13, .int .u8 10, .int .u8 13, .int .u8 10] 5 (26, 27))) := by
    rw [← e6]
    exact conv_same (w5.alloc (.cells #[.string ⟨#[]⟩, .string ⟨#[]⟩, .int .i64 0, .slice f5 0 x5, .slice b5 0 y5] 26)) #[.int .u8 71, .int .u8 69, .int .u8 84, .int .u8 32, .int .u8 47, .int .u8 32, .int .u8 72, .int .u8 84, .int .u8 84, .int .u8 80, .int .u8 47, .int .u8 49, .int .u8 46, .int .u8 49, .int .u8 10, .int .u8 72, .int .u8 111, .int .u8 115, .int .u8 116, .int .u8 58, .int .u8 32, .int .u8 97, .int .u8 13, .int .u8 10, .int .u8 13, .int .u8 10] 26 26
  clear e6 HQ3
  go_wp2_with fail
  clear hcs4
  generalize w5.alloc (.cells #[.string ⟨#[]⟩, .string ⟨#[]⟩, .int .i64 0, .slice f5 0 x5, .slice b5 0 y5] 26) = w6 at *
  refine HQ4.out.mono ?_
  rintro e w7 ⟨f7, b7, x7, y7, rfl, B7⟩
  have D8 : Below w6.heap.size w6 (w7.alloc (.cells #[.string ⟨#[]⟩, .string ⟨#[]⟩, .int .i64 0, .slice f7 0 x7, .slice b7 0 y7] 26)) := B7.alloc B7.size _
  have hr8 := tblk_below hr6 D8
  have P8 : Hid (PI w o27 (w7.alloc (.cells #[.string ⟨#[]⟩, .string ⟨#[]⟩, .int .i64 0, .slice f7 0 x7, .slice b7 0 y7] 26))) := P6.out.next D8
  have HF8 : Hid (OwnF w2.heap.size (w7.alloc (.cells #[.string ⟨#[]⟩, .string ⟨#[]⟩, .int .i64 0, .slice f7 0 x7, .slice b7 0 y7] 26)) (.slice fa 1 fc) [(⟨#[72, 111, 115, 116]⟩, ⟨#[97]⟩)]) := OwnF.keep HF6.out D8
  have HO8 : Hid (Own w2.heap.size (w7.alloc (.cells #[.string ⟨#[]⟩, .string ⟨#[]⟩, .int .i64 0, .slice f7 0 x7, .slice b7 0 y7] 26)) (.slice ba 0 bc) []) := Own.keep HO6.out D8
  clear B7 D8 hr6 P6 HF6 HO6 HQ4
  have a0 := tblk_cell (i := 0) hr8 rfl
  have a1 := tblk_cell (i := 1) hr8 rfl
  have a2' := tblk_cell (i := 2) hr8 rfl
  have a3 := tblk_cell (i := 3) hr8 rfl
  have a4 := tblk_cell (i := 4) hr8 rfl
  go_wp2_with fail
  clear a0 a1 a2' a3 a4
  generalize w7.alloc (.cells #[.string ⟨#[]⟩, .string ⟨#[]⟩, .int .i64 0, .slice f7 0 x7, .slice b7 0 y7] 26) = w8 at *
  have HH8 : Hid (Calls Tryz.prog 15 #[.agg #[.string ⟨#[71, 69, 84]⟩, .string ⟨#[47]⟩, .int .i64 1, .slice fa 1 fc, .slice ba 0 bc]] w8 fun e w' => e = .returned (.string ⟨#[97]⟩) ∧ Below w8.heap.size w8 w') := by
    have k := hhost_any ⟨#[71, 69, 84]⟩ ⟨#[47]⟩ 1 [(⟨#[72, 111, 115, 116]⟩, ⟨#[97]⟩)] fa ba fc 0 bc w8 (OwnF.fds HF8.out) (askB _ (by decide)) (by decide)
    rw [ask4] at k
    exact k
  refine HH8.out.mono ?_
  rintro e w9 ⟨rfl, B9⟩
  have hr9 := tblk_below hr8 B9
  have P9 : Hid (PI w o27 w9) := P8.out.next B9
  have HF9 : Hid (OwnF w2.heap.size w9 (.slice fa 1 fc) [(⟨#[72, 111, 115, 116]⟩, ⟨#[97]⟩)]) := OwnF.keep HF8.out B9
  have HO9 : Hid (Own w2.heap.size w9 (.slice ba 0 bc) []) := Own.keep HO8.out B9
  clear B9 hr8 P8 HF8 HO8 HH8
  have a0 := tblk_cell (i := 0) hr9 rfl
  have a1 := tblk_cell (i := 1) hr9 rfl
  have a2' := tblk_cell (i := 2) hr9 rfl
  have a3 := tblk_cell (i := 3) hr9 rfl
  have a4 := tblk_cell (i := 4) hr9 rfl
  go_wp2_with fail
  clear a0 a1 a2' a3 a4 hr9
  have HW9 : Hid (Calls Tryz.prog 24 #[.agg #[.string ⟨#[71, 69, 84]⟩, .string ⟨#[47]⟩, .int .i64 1, .slice fa 1 fc, .slice ba 0 bc]] w9 fun e w' => ∃ g c, e = .returned (.slice (some ⟨g, 0, none⟩) 27 c) ∧ OwnG w9.heap.size w' (.slice (some ⟨g, 0, none⟩) 27 c) l27 ∧ Below w9.heap.size w9 w') := by
    obtain ⟨k9, S9, K9⟩ := Own.src HO9.out
    have k := wreq_any ⟨#[71, 69, 84]⟩ ⟨#[47]⟩ 1 [(⟨#[72, 111, 115, 116]⟩, ⟨#[97]⟩)] [] fa ba k9 fc bc (by decide) (by decide) (by decide +kernel) w9 (HL.out.below P9.out.below).pow (by decide) (by decide) (OwnF.fds HF9.out) (askB _ (by decide)) (by decide) S9 (fun q => absurd q (Nat.lt_irrefl _)) HNB.out (by decide)
    rw [ask5] at k
    refine k.mono ?_
    rintro e w' ⟨v, he, hO, hB⟩
    obtain ⟨g, c, rfl, _, _⟩ := hO.form
    exact ⟨g, c, he, hO, hB⟩
  refine HW9.out.mono ?_
  rintro e w10 ⟨gx, cx, rfl, O10, B10⟩
  have P10 : Hid (PI w o27 w10) := P9.out.next B10
  have HS10 : Hid (Calls Tryz.prog 25 #[.slice (some ⟨gx, 0, none⟩) 27 cx, .slice (some ⟨w.heap.size, 0, none⟩) 27 27] w10 fun e w' => e = .returned (.bool true) ∧ Below w10.heap.size w10 w') := by
    obtain ⟨k10, S10, _, _⟩ := O10.src
    exact sameBytes_eq l27 k10 w.heap.size _ _ w10 S10 (src_blk (l := l27) (n := 27) P10.out.own rfl (by decide) rfl)
  clear B10 O10 HF9 HO9 P9 HW9
  go_wp2_with fail
  refine HS10.out.mono ?_
  rintro e w11 ⟨rfl, B11⟩
  have P11 : Hid (PI w o27 w11) := P10.out.next B11
  clear B11 HS10 P10
  have HW11 : Hid (Calls Tryz.prog 13 #[.slice (some ⟨w11.heap.size, 0, none⟩) 69 69] (w11.alloc (.cells #[.int .u8 80, .int .u8 85, .int .u8 84, .int .u8 32, .int .u8 47, .int .u8 32, .int .u8 72, .int .u8 84, .int .u8 84, .int .u8 80, .int .u8 47, .int .u8 49, .int .u8 46, .int .u8 49, .int .u8 13, .int .u8 10, .int .u8 72, .int .u8 111, .int .u8 115, .int .u8 116, .int .u8 58, .int .u8 32, .int .u8 97, .int .u8 13, .int .u8 10, .int .u8 69, .int .u8 120, .int .u8 112, .int .u8 101, .int .u8 99, .int .u8 116, .int .u8 58, .int .u8 32, .int .u8 49, .int .u8 48, .int .u8 48, .int .u8 45, .int .u8 67, .int .u8 111, .int .u8 110, .int .u8 116, .int .u8 105, .int .u8 110, .int .u8 117, .int .u8 101, .int .u8 13, .int .u8 10, .int .u8 67, .int .u8 111, .int .u8 110, .int .u8 116, .int .u8 101, .int .u8 110, .int .u8 116, .int .u8 45, .int .u8 76, .int .u8 101, .int .u8 110, .int .u8 103, .int .u8 116, .int .u8 104, .int .u8 58, .int .u8 32, .int .u8 50, .int .u8 13, .int .u8 10, .int .u8 13, .int .u8 10, .int .u8 97] 5 (69, 70))) fun e w' => e = .returned (.bool true) ∧ Below w11.heap.size w11 w') := by
    have U : Below w11.heap.size w11 (w11.alloc (.cells #[.int .u8 80, .int .u8 85, .int .u8 84, .int .u8 32, .int .u8 47, .int .u8 32, .int .u8 72, .int .u8 84, .int .u8 84, .int .u8 80, .int .u8 47, .int .u8 49, .int .u8 46, .int .u8 49, .int .u8 13, .int .u8 10, .int .u8 72, .int .u8 111, .int .u8 115, .int .u8 116, .int .u8 58, .int .u8 32, .int .u8 97, .int .u8 13, .int .u8 10, .int .u8 69, .int .u8 120, .int .u8 112, .int .u8 101, .int .u8 99, .int .u8 116, .int .u8 58, .int .u8 32, .int .u8 49, .int .u8 48, .int .u8 48, .int .u8 45, .int .u8 67, .int .u8 111, .int .u8 110, .int .u8 116, .int .u8 105, .int .u8 110, .int .u8 117, .int .u8 101, .int .u8 13, .int .u8 10, .int .u8 67, .int .u8 111, .int .u8 110, .int .u8 116, .int .u8 101, .int .u8 110, .int .u8 116, .int .u8 45, .int .u8 76, .int .u8 101, .int .u8 110, .int .u8 103, .int .u8 116, .int .u8 104, .int .u8 58, .int .u8 32, .int .u8 50, .int .u8 13, .int .u8 10, .int .u8 13, .int .u8 10, .int .u8 97] 5 (69, 70))) := (Below.refl _ _).alloc (Nat.le_refl _) _
    refine (waits_blk (src_blk (l := l69) (tblk_new w11 _) rfl (by decide) rfl) (by simp) ((HL.out.below P11.out.below).max.below U) (by decide) ask6).mono ?_
    rintro e w' ⟨he, hB⟩
    exact ⟨he, U.trans (hB.mono U.size)⟩
  go_wp2_with fail
  refine HW11.out.mono ?_
  rintro e w12 ⟨rfl, B12⟩
  have P12 : Hid (PI w o27 w12) := P11.out.next B12
  clear B12 HW11 P11
  have HW12 : Hid (Calls Tryz.prog 13 #[.slice (some ⟨w.heap.size, 0, none⟩) 27 27] w12 fun e w' => e = .returned (.bool false) ∧ Below w12.heap.size w12 w') := waits_blk (src_blk (l := l27) (n := 27) P12.out.own rfl (by decide) rfl) (heap_lt P12.out.own) (HL.out.below P12.out.below).max (by decide) ask7
  go_wp2_with fail
  refine HW12.out.mono ?_
  rintro e w13 ⟨rfl, B13⟩
  have B14 : Below w.heap.size w w13 := P12.out.below.trans (B13.mono P12.out.below.size)
  clear B13 HW12 P12
  go_wp2
  go_ret
  exact ⟨rfl, B14⟩
end Go.Proofs.YtkdnckkdofoaoaaGreatDoor

/- The reference's SameReq: equal requests are the same. -/
namespace Go.Proofs.YtkdnckkdofoaoaaGreatDoor
open Go.RowKit
set_option linter.unusedVariables false

set_option maxRecDepth 100000 in
set_option maxHeartbeats 2000000 in
theorem samereq_eq (m t : ByteArray) (mi : Int) (fs : Fs) (body : List UInt8) (a1 a2 b1 b2 : Option Addr) (c1 c2 d1 d2 k1 k2 : Nat) (w : World) (hf1 : Fds w.heap.size w (.slice a1 fs.length c1) fs) (hf2 : Fds w.heap.size w (.slice a2 fs.length c2) fs) (hs1 : Src w k1 (.slice b1 body.length d1) body) (hk1 : 0 < body.length → k1 < w.heap.size) (hs2 : Src w k2 (.slice b2 body.length d2) body) (hk2 : 0 < body.length → k2 < w.heap.size) :
    Calls Tryz.prog 12 #[.agg #[.string m, .string t, .int .i64 mi, .slice a1 fs.length c1, .slice b1 body.length d1], .agg #[.string m, .string t, .int .i64 mi, .slice a2 fs.length c2, .slice b2 body.length d2]] w fun e w' => e = .returned (.bool true) ∧ Below w.heap.size w w' := by
  have C1 : Below w.heap.size w (w.alloc (.cells #[.string m, .string t, .int .i64 mi, .slice a1 fs.length c1, .slice b1 body.length d1] 26)) := (Below.refl _ _).alloc (Nat.le_refl _) _
  have C2 : Below w.heap.size w ((w.alloc (.cells #[.string m, .string t, .int .i64 mi, .slice a1 fs.length c1, .slice b1 body.length d1] 26)).alloc (.cells #[.string m, .string t, .int .i64 mi, .slice a2 fs.length c2, .slice b2 body.length d2] 26)) := C1.alloc C1.size _
  have h1 : ((w.alloc (.cells #[.string m, .string t, .int .i64 mi, .slice a1 fs.length c1, .slice b1 body.length d1] 26)).alloc (.cells #[.string m, .string t, .int .i64 mi, .slice a2 fs.length c2, .slice b2 body.length d2] 26)).heap[w.heap.size]? = some (.cells #[.string m, .string t, .int .i64 mi, .slice a1 fs.length c1, .slice b1 body.length d1] 26) := tblk_below (tblk_new _ _) ((Below.refl _ _).alloc (Nat.le_refl _) _)
  have h2 : ((w.alloc (.cells #[.string m, .string t, .int .i64 mi, .slice a1 fs.length c1, .slice b1 body.length d1] 26)).alloc (.cells #[.string m, .string t, .int .i64 mi, .slice a2 fs.length c2, .slice b2 body.length d2] 26)).heap[w.heap.size + 1]? = some (.cells #[.string m, .string t, .int .i64 mi, .slice a2 fs.length c2, .slice b2 body.length d2] 26) := by
    have k := tblk_new (w.alloc (.cells #[.string m, .string t, .int .i64 mi, .slice a1 fs.length c1, .slice b1 body.length d1] 26)) (.cells #[.string m, .string t, .int .i64 mi, .slice a2 fs.length c2, .slice b2 body.length d2] 26)
    have e : (w.alloc (.cells #[.string m, .string t, .int .i64 mi, .slice a1 fs.length c1, .slice b1 body.length d1] 26)).heap.size = w.heap.size + 1 := by simp
    rw [e] at k
    exact k
  have HF : Hid (Calls Tryz.prog 26 #[.slice a1 fs.length c1, .slice a2 fs.length c2] ((w.alloc (.cells #[.string m, .string t, .int .i64 mi, .slice a1 fs.length c1, .slice b1 body.length d1] 26)).alloc (.cells #[.string m, .string t, .int .i64 mi, .slice a2 fs.length c2, .slice b2 body.length d2] 26)) fun e w' => e = .returned (.bool true) ∧ Below w.heap.size w w' ∧ w'.cell? ⟨w.heap.size, 4, none⟩ = some (.slice b1 body.length d1) ∧ w'.cell? ⟨w.heap.size + 1, 4, none⟩ = some (.slice b2 body.length d2)) := by
    refine (rsame_eq fs a1 a2 c1 c2 _ (hf1.over C2) (hf2.over C2)).mono ?_
    rintro e w' ⟨he, hB⟩
    exact ⟨he, C2.trans (hB.mono C2.size), tblk_cell (tblk_below h1 hB) rfl, tblk_cell (tblk_below h2 hB) rfl⟩
  have HS : Hid (∀ W, Below w.heap.size w W → Calls Tryz.prog 25 #[.slice b1 body.length d1, .slice b2 body.length d2] W fun e w' => e = .returned (.bool true) ∧ Below W.heap.size W w') := fun W B => sameBytes_eq body k1 k2 _ _ W (hs1.keep hk1 B) (hs2.keep hk2 B)
  have x0 := tblk_cell (i := 0) h1 rfl
  have x1 := tblk_cell (i := 1) h1 rfl
  have x2 := tblk_cell (i := 2) h1 rfl
  have x3 := tblk_cell (i := 3) h1 rfl
  have y0 := tblk_cell (i := 0) h2 rfl
  have y1 := tblk_cell (i := 1) h2 rfl
  have y2 := tblk_cell (i := 2) h2 rfl
  have y3 := tblk_cell (i := 3) h2 rfl
  clear hf1 hf2 hs1 hk1 hs2 hk2 C1 C2 h1 h2
  generalize fs.length = fl at *
  generalize body.length = bl at *
  go_enter Tryz.func12, Tryz.ntmps12
  go_wp2_with fail
  refine HF.out.mono ?_
  rintro e w1 ⟨rfl, B1, q1, q2⟩
  clear HF x0 x1 x2 x3 y0 y1 y2 y3
  go_wp2_with fail
  refine (HS.out _ B1).mono ?_
  rintro e w2 ⟨rfl, B2⟩
  have D2 := B1.trans (B2.mono B1.size)
  go_wp2
  go_ret
  exact ⟨rfl, D2⟩
end Go.Proofs.YtkdnckkdofoaoaaGreatDoor
