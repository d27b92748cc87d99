/- Texts that the proof leans on, one behind the other: ScJ ScK ScL ScM ScN -/
import Derived.Test.YtajfjjmabncldaaGreatDoorSk5
import Derived.Test.YtajfjjmabncldaaGreatDoorSk4
import Derived.Deep.RegionLaw
/- Scrub's reference: Kept, length; what a test of names says in the document's words. -/
namespace Go.Proofs.YtajfjjmabncldaaGreatDoor
open Go.ChangeShapes Go.WideShapes Go.ChangeAt Go.RowKit
set_option linter.unusedVariables false

theorem hasK_anyT (xs : List ByteArray) (s : ByteArray) : anyT xs s = hasK xs s := by
  rw [Bool.eq_iff_iff]
  unfold anyT hasK fkeys smT
  simp only [ByteArray.toList_eq, List.any_eq_true, beq_iff_eq, decide_eq_true_eq, List.mem_map]
def keptT : List ByteArray := [⟨#[104, 111, 115, 116]⟩, ⟨#[99, 111, 110, 116, 101, 110, 116, 45, 108, 101, 110, 103, 116, 104]⟩, ⟨#[116, 114, 97, 110, 115, 102, 101, 114, 45, 101, 110, 99, 111, 100, 105, 110, 103]⟩, ⟨#[99, 111, 110, 110, 101, 99, 116, 105, 111, 110]⟩, ⟨#[107, 101, 101, 112, 45, 97, 108, 105, 118, 101]⟩, ⟨#[112, 114, 111, 120, 121, 45, 99, 111, 110, 110, 101, 99, 116, 105, 111, 110]⟩, ⟨#[116, 101]⟩, ⟨#[116, 114, 97, 105, 108, 101, 114]⟩, ⟨#[117, 112, 103, 114, 97, 100, 101]⟩, ⟨#[101, 120, 112, 101, 99, 116]⟩, ⟨#[118, 105, 97]⟩]
theorem kept_keys : fkeys keptT = keptL := by kernel_rfl
theorem kept_anyT (s : ByteArray) : anyT keptT s = keptS s := by
  rw [hasK_anyT]
  unfold hasK keptS keptF
  rw [kept_keys]
theorem kept_bd : TBd 1048576 keptT := by
  intro x hx
  simp only [keptT, List.mem_cons, List.not_mem_nil, or_false] at hx
  rcases hx with rfl | rfl | rfl | rfl | rfl | rfl | rfl | rfl | rfl | rfl | rfl <;> decide
set_option maxRecDepth 100000 in
set_option maxHeartbeats 1000000 in
theorem r10kept_any (s : ByteArray) (w : World) (hs : s.size ≤ 1048576) : Calls Tryz.prog 37 #[.string s] w fun e w' => e = .returned (.bool (keptS s)) ∧ Below w.heap.size w w' := by
  have U : Below w.heap.size w (w.alloc (.cells #[.string ⟨#[104, 111, 115, 116]⟩, .string ⟨#[99, 111, 110, 116, 101, 110, 116, 45, 108, 101, 110, 103, 116, 104]⟩, .string ⟨#[116, 114, 97, 110, 115, 102, 101, 114, 45, 101, 110, 99, 111, 100, 105, 110, 103]⟩, .string ⟨#[99, 111, 110, 110, 101, 99, 116, 105, 111, 110]⟩, .string ⟨#[107, 101, 101, 112, 45, 97, 108, 105, 118, 101]⟩, .string ⟨#[112, 114, 111, 120, 121, 45, 99, 111, 110, 110, 101, 99, 116, 105, 111, 110]⟩, .string ⟨#[116, 101]⟩, .string ⟨#[116, 114, 97, 105, 108, 101, 114]⟩, .string ⟨#[117, 112, 103, 114, 97, 100, 101]⟩, .string ⟨#[101, 120, 112, 101, 99, 116]⟩, .string ⟨#[118, 105, 97]⟩] 9)) := (Below.refl _ _).alloc (Nat.le_refl _) _
  have h := tblk_new w (.cells #[.string ⟨#[104, 111, 115, 116]⟩, .string ⟨#[99, 111, 110, 116, 101, 110, 116, 45, 108, 101, 110, 103, 116, 104]⟩, .string ⟨#[116, 114, 97, 110, 115, 102, 101, 114, 45, 101, 110, 99, 111, 100, 105, 110, 103]⟩, .string ⟨#[99, 111, 110, 110, 101, 99, 116, 105, 111, 110]⟩, .string ⟨#[107, 101, 101, 112, 45, 97, 108, 105, 118, 101]⟩, .string ⟨#[112, 114, 111, 120, 121, 45, 99, 111, 110, 110, 101, 99, 116, 105, 111, 110]⟩, .string ⟨#[116, 101]⟩, .string ⟨#[116, 114, 97, 105, 108, 101, 114]⟩, .string ⟨#[117, 112, 103, 114, 97, 100, 101]⟩, .string ⟨#[101, 120, 112, 101, 99, 116]⟩, .string ⟨#[118, 105, 97]⟩] 9)
  have k := rin_any keptT (some ⟨w.heap.size, 0, none⟩) 11 s (w.alloc (.cells #[.string ⟨#[104, 111, 115, 116]⟩, .string ⟨#[99, 111, 110, 116, 101, 110, 116, 45, 108, 101, 110, 103, 116, 104]⟩, .string ⟨#[116, 114, 97, 110, 115, 102, 101, 114, 45, 101, 110, 99, 111, 100, 105, 110, 103]⟩, .string ⟨#[99, 111, 110, 110, 101, 99, 116, 105, 111, 110]⟩, .string ⟨#[107, 101, 101, 112, 45, 97, 108, 105, 118, 101]⟩, .string ⟨#[112, 114, 111, 120, 121, 45, 99, 111, 110, 110, 101, 99, 116, 105, 111, 110]⟩, .string ⟨#[116, 101]⟩, .string ⟨#[116, 114, 97, 105, 108, 101, 114]⟩, .string ⟨#[117, 112, 103, 114, 97, 100, 101]⟩, .string ⟨#[101, 120, 112, 101, 99, 116]⟩, .string ⟨#[118, 105, 97]⟩] 9)) ⟨_, 11, rfl, (fun e => by cases e), Nat.le_refl _, by decide, fun _ => ⟨w.heap.size, 0, rfl, by simp, fun j hj => by
    have hj' : j < 11 := hj
    rcases j with _ | _ | _ | _ | _ | _ | _ | _ | _ | _ | _ | j
    all_goals first | exact tblk_cell h rfl | omega⟩⟩ kept_bd hs
  rw [kept_anyT] at k
  have HK := hidS k
  clear k h hs
  generalize keptS s = t at *
  go_enter Tryz.func37, Tryz.ntmps37
  go_wp2_with fail
  refine HK.out.mono ?_
  rintro e w2 ⟨rfl, B2⟩
  have HB := hidS (U.trans (B2.mono U.size))
  clear HK U B2
  go_wp2
  go_ret
  exact ⟨rfl, HB.out⟩
theorem listF_conn (fs : Fs) : listF fs ⟨#[99, 111, 110, 110, 101, 99, 116, 105, 111, 110]⟩ = listF fs connN := by
  have e : foldS ⟨#[99, 111, 110, 110, 101, 99, 116, 105, 111, 110]⟩ = foldS connN := by kernel_rfl
  unfold listF getF smT
  rw [e]
theorem r12length_any (n : Nat) (w : World) (hn : n ≤ 1048576) : Calls Tryz.prog 48 #[.int .i64 n] w fun e w' => e = .returned (.agg #[.string lenN, .string (itoaS n)]) ∧ Below w.heap.size w w' := by
  have U : Below w.heap.size w (w.alloc (.cells #[.string ⟨#[]⟩, .string ⟨#[]⟩] 34)) := (Below.refl _ _).alloc (Nat.le_refl _) _
  have h0 := tblk_new w (.cells #[.string ⟨#[]⟩, .string ⟨#[]⟩] 34)
  have HT := hidS (rtext_pos n (by omega) (by omega) (w.alloc (.cells #[.string ⟨#[]⟩, .string ⟨#[]⟩] 34)))
  unfold lenN
  go_enter Tryz.func48, Tryz.ntmps48
  go_upto_region 1 with fail
  generalize (w.alloc (.cells #[.string ⟨#[]⟩, .string ⟨#[]⟩] 34)) = w1 at *
  go_wp2_with fail
  refine HT.out.mono ?_
  rintro e w2 ⟨rfl, B2⟩
  have h2 := tblk_below h0 B2
  have x0 : w2.cell? ⟨w.heap.size, 0, none⟩ = some (.string ⟨#[]⟩) := tblk_cell h2 rfl
  have x1 : w2.cell? ⟨w.heap.size, 1, none⟩ = some (.string ⟨#[]⟩) := tblk_cell h2 rfl
  have z0 := sblk_z (i := 0) h2
  have z1 := sblk_z (i := 1) h2
  have h3 := sblk_set2 h2 (.string ⟨#[67, 111, 110, 116, 101, 110, 116, 45, 76, 101, 110, 103, 116, 104]⟩) (.string (itoaS n))
  have r0 := tblk_cell (i := 0) (v := .string ⟨#[67, 111, 110, 116, 101, 110, 116, 45, 76, 101, 110, 103, 116, 104]⟩) h3 rfl
  have r1 := tblk_cell (i := 1) (v := .string (itoaS n)) h3 rfl
  have HBB := hidS (((U.trans (B2.mono U.size)).setCell (p := ⟨w.heap.size, 0, none⟩) (Nat.le_refl _) (.string ⟨#[67, 111, 110, 116, 101, 110, 116, 45, 76, 101, 110, 103, 116, 104]⟩)).setCell (p := ⟨w.heap.size, 1, none⟩) (Nat.le_refl _) (.string (itoaS n)))
  clear h0 h2 h3 U B2 HT hn
  go_wp2
  refine bodyPost_ret (v := .agg #[.string ⟨#[67, 111, 110, 116, 101, 110, 116, 45, 76, 101, 110, 103, 116, 104]⟩, .string (itoaS n)]) (by simp [results, Tryz.results48, go_sem, r0, r1]) rfl ?_
  exact ⟨rfl, HBB.out⟩
end Go.Proofs.YtajfjjmabncldaaGreatDoor

/- Scrub's reference: Hop, onward, Reason. -/
namespace Go.Proofs.YtajfjjmabncldaaGreatDoor
open Go.ChangeShapes Go.WideShapes Go.ChangeAt Go.RowKit
set_option linter.unusedVariables false

set_option maxRecDepth 100000 in
set_option maxHeartbeats 1000000 in
theorem r12hop_any (fs : Fs) (a : Option Addr) (c : Nat) (n : ByteArray) (w : World) (hf : Fds w.heap.size w (.slice a fs.length c) fs) (hb : FBd 1048576 fs) (hn : n.size ≤ 1048576) (hl : fs.length ≤ 1024) :
    Calls Tryz.prog 12 #[.slice a fs.length c, .string n] w fun e w' => e = .returned (.bool (hopP (listF fs connN) n)) ∧ Below w.heap.size w w' := by
  have HFO := hidS (rfold_any n w (by omega))
  have HKE : Hid (∀ W, Calls Tryz.prog 37 #[.string n] W fun e w' => e = .returned (.bool (keptS n)) ∧ Below W.heap.size W w') := fun W => r10kept_any n W hn
  have HL : Hid (∀ W, Below w.heap.size w W → Calls Tryz.prog 22 #[.slice a fs.length c, .string ⟨#[99, 111, 110, 110, 101, 99, 116, 105, 111, 110]⟩] W fun e w' => ∃ ao cv, e = .returned (.slice ao (listF fs connN).length cv) ∧ OwnT W.heap.size w' (.slice ao (listF fs connN).length cv) (listF fs connN) ∧ Below W.heap.size W w') := fun W B => by
    have k := rlist_any fs a c ⟨#[99, 111, 110, 110, 101, 99, 116, 105, 111, 110]⟩ W ((hf.keep B).mono B.size) hb (by decide) hl
    rw [listF_conn] at k
    exact k
  have HTB : Hid (TBd 1048576 (listF fs connN)) := listF_bd hb
  obtain ⟨t, ht⟩ : ∃ t, hopP (listF fs connN) n = t := ⟨_, rfl⟩
  rw [ht]
  have HT : Hid ((keptS n || hasK (listF fs connN) n || hasP (foldS n) ownN) = t) := ht
  have HHP : Hid (hasP (foldS n) ownN = (decide (10 ≤ (foldS n).size) && (((foldS n).extract 0 10).toList == [120, 45, 116, 111, 108, 108, 98, 97, 114, 45]))) := by
    rw [Hid]
    unfold hasP
    rw [show ownN.size = 10 by rfl]
    have e : ownN.toList = [120, 45, 116, 111, 108, 108, 98, 97, 114, 45] := by rw [ByteArray.toList_eq]; rfl
    rw [e]
  have hsz : (foldS n).size ≤ 1048576 := by rw [foldS_size]; exact hn
  clear ht hf hb
  generalize keptS n = t1 at *
  generalize hasP (foldS n) ownN = t3 at *
  generalize foldS n = y at *
  go_enter Tryz.func12, Tryz.ntmps12
  go_wp2_with fail
  refine HFO.out.mono ?_
  rintro e w1 ⟨rfl, B1⟩
  clear HFO
  go_wp2_with fail
  refine (HKE.out w1).mono ?_
  rintro e w2 ⟨rfl, B2⟩
  have B12 := B1.trans (B2.mono B1.size)
  clear HKE B1 B2
  have HLI := hidS (HL.out w2 B12)
  have HB := hidS B12
  clear HL B12
  have TAIL : t1 = false → t3 = false → Hid (hasK (listF fs connN) n = t) := fun q1 q3 => by rw [Hid, ← HT.out, q1, q3]; simp
  cases t1
  · have fin : ∀ (w3 : World) (ao : Option Addr) (cv : Nat), OwnT w2.heap.size w3 (.slice ao (listF fs connN).length cv) (listF fs connN) → Calls Tryz.prog 25 #[.slice ao (listF fs connN).length cv, .string n] w3 fun e w' => e = .returned (.bool (hasK (listF fs connN) n)) ∧ Below w3.heap.size w3 w' := fun w3 ao cv O => by
      have k := rin_any (listF fs connN) ao cv n w3 O.txs HTB.out hn
      rw [hasK_anyT] at k
      exact k
    have FIN := hidS fin
    clear fin
    by_cases h10 : 10 ≤ y.size
    · have h10' : (10 : Int) ≤ (y.size : Int) := by omega
      have d10 : decide ((10 : Int) ≤ (y.size : Int)) = true := decide_eq_true h10'
      rcases Bool.eq_false_or_eq_true ((y.extract 0 10).toList == [120, 45, 116, 111, 108, 108, 98, 97, 114, 45]) with e1 | e1
      · have HR : Hid (true = t) := by rw [Hid, ← HT.out, HHP.out, e1, decide_eq_true h10]; simp
        clear HLI FIN HTB HHP HT TAIL
        go_wp2
        go_ret
        exact ⟨ret_b HR.out, HB.out⟩
      · have HR := TAIL rfl (by rw [HHP.out, e1, decide_eq_true h10]; rfl)
        clear HHP HT TAIL
        go_wp2_with fail
        refine HLI.out.mono ?_
        rintro e w3 ⟨ao, cv, rfl, O3, B3⟩
        have HI := hidS (FIN.out w3 ao cv O3)
        have HB3 := hidS (HB.out.trans (B3.mono HB.out.size))
        rw [HR.out] at HI
        clear HLI FIN O3 B3 HB HTB
        go_wp2_with fail
        refine HI.out.mono ?_
        rintro e w4 ⟨rfl, B4⟩
        have HB4 := hidS (HB3.out.trans (B4.mono HB3.out.size))
        clear HI B4 HB3
        go_wp2
        go_ret
        exact ⟨rfl, HB4.out⟩
    · have h10' : ¬ (10 : Int) ≤ (y.size : Int) := by omega
      have d10 : decide ((10 : Int) ≤ (y.size : Int)) = false := decide_eq_false h10'
      have HR := TAIL rfl (by rw [HHP.out, decide_eq_false h10]; rfl)
      clear HHP HT TAIL
      go_wp2_with fail
      refine HLI.out.mono ?_
      rintro e w3 ⟨ao, cv, rfl, O3, B3⟩
      have HI := hidS (FIN.out w3 ao cv O3)
      have HB3 := hidS (HB.out.trans (B3.mono HB.out.size))
      rw [HR.out] at HI
      clear HLI FIN O3 B3 HB HTB
      go_wp2_with fail
      refine HI.out.mono ?_
      rintro e w4 ⟨rfl, B4⟩
      have HB4 := hidS (HB3.out.trans (B4.mono HB3.out.size))
      clear HI B4 HB3
      go_wp2
      go_ret
      exact ⟨rfl, HB4.out⟩
  · have HR : Hid (true = t) := by rw [Hid, ← HT.out]; simp
    clear HLI HTB HHP HT TAIL
    go_wp2
    go_ret
    exact ⟨ret_b HR.out, HB.out⟩
end Go.Proofs.YtajfjjmabncldaaGreatDoor

/- Scrub's reference: onward. -/
namespace Go.Proofs.YtajfjjmabncldaaGreatDoor
open Go.ChangeShapes Go.WideShapes Go.ChangeAt Go.RowKit
set_option linter.unusedVariables false

theorem keepF_snoc (fs : Fs) (f : ByteArray × ByteArray) (P : ByteArray → Bool) : keepF (fs ++ [f]) P = keepF fs P ++ (if P f.1 = true then [] else [f]) := by
  unfold keepF
  rw [List.filter_append]
  congr 1
  cases h : P f.1 <;> simp [h]
theorem keepF_len (fs : Fs) (P : ByteArray → Bool) : (keepF fs P).length ≤ fs.length := List.length_filter_le _ _
set_option maxRecDepth 100000 in
set_option maxHeartbeats 1000000 in
theorem r12onward_any (fs : Fs) (a : Option Addr) (c : Nat) (w : World) (hf : Fds w.heap.size w (.slice a fs.length c) fs) (hb : FBd 1048576 fs) (hl : fs.length ≤ 1024) :
    Calls Tryz.prog 47 #[.slice a fs.length c] w fun e w' => ∃ ao cv, e = .returned (.slice ao (keepF fs (hopP (listF fs connN))).length cv) ∧ OwnF w.heap.size w' (.slice ao (keepF fs (hopP (listF fs connN))).length cv) (keepF fs (hopP (listF fs connN))) ∧ Below w.heap.size w w' := by
  have C0 : Below w.heap.size w (w.alloc (.cells #[] 34)) := (Below.refl _ _).alloc (Nat.le_refl _) _
  rcases Nat.eq_zero_or_pos fs.length with h0 | hp
  · have he : fs = [] := List.eq_nil_of_length_eq_zero h0
    subst he
    clear hf hb hl h0
    go_enter Tryz.func47, Tryz.ntmps47
    go_wp2_with fail
    refine wp_loop_rounds 1 ?_
    rw [rounds_succ]
    go_wp2
    go_ret
    exact ⟨_, 0, rfl, OwnF.empty _ _ (Nat.le_refl _), C0⟩
  · have HH : Hid (∀ (n : ByteArray), n.size ≤ 1048576 → ∀ W, Below w.heap.size w W → Calls Tryz.prog 12 #[.slice a fs.length c, .string n] W fun e w' => e = .returned (.bool (hopP (listF fs connN) n)) ∧ Below W.heap.size W w') := fun n hn W B => r12hop_any fs a c n W ((hf.keep B).mono B.size) hb hn hl
    obtain ⟨P, hP⟩ : ∃ P, hopP (listF fs connN) = P := ⟨_, rfl⟩
    rw [hP]
    rw [hP] at HH
    clear hP
    obtain ⟨a', c', e, hnil, h1, h2, h3⟩ := hf
    obtain ⟨rfl, _, rfl⟩ := slice_inj e
    obtain ⟨g, off, rfl, hg, hc⟩ := h3 hp
    have HC : Hid (∀ (j : Nat) (hj : j < fs.length), w.cell? ⟨g, off + j * 2, none⟩ = some (.string fs[j].1) ∧ w.cell? ⟨g, off + j * 2 + 1, none⟩ = some (.string fs[j].2)) := hc
    have HBD : Hid (FBd 1048576 fs) := hb
    clear e hnil h1 h2 h3 hc hb
    go_enter Tryz.func47, Tryz.ntmps47
    go_wp2_with fail
    go_loopw [3, 4] (fun v vi wr => ∃ (k : Nat) (ao : Option Addr) (cv : Nat), k ≤ fs.length ∧ vi = .int .i64 k ∧ v = .slice ao (keepF (fs.take k) P).length cv ∧ Hid (OwnF w.heap.size wr v (keepF (fs.take k) P)) ∧ Below w.heap.size w wr) (fun _ vi _ => fs.length - (intOf vi).toNat)
    case atStart => exact ⟨0, _, 0, Nat.zero_le _, rfl, rfl, OwnF.empty _ _ (Nat.le_refl _), C0⟩
    case round =>
      obtain ⟨k, ao, cv, hk, rfl, rfl, hown, hB⟩ := hrel
      clear C0
      by_cases hlt : k < fs.length
      · have hc1 := (hB.cell (p := ⟨g, off + k * 2, none⟩) hg).trans (HC.out k hlt).1
        have hsz := HBD.out fs[k] (List.getElem_mem hlt)
        have hc2 : Hid (w.cell? ⟨g, off + k * 2, none⟩ = some (.string fs[k].1) ∧ w.cell? ⟨g, off + k * 2 + 1, none⟩ = some (.string fs[k].2)) := HC.out k hlt
        have hsn : Hid (keepF (fs.take (k + 1)) P = keepF (fs.take k) P ++ (if P fs[k].1 = true then [] else [fs[k]])) := by
          rw [Hid, List.take_succ_eq_append_getElem hlt, keepF_snoc]
        have hkl : (keepF (fs.take k) P).length ≤ k := Nat.le_trans (keepF_len _ _) (List.length_take_le _ _)
        generalize fs[k] = f at *
        obtain ⟨fn, fv⟩ := f
        simp only at hc1 hc2 hsz hsn
        have HS := hidS (HH.out fn hsz.1 wr hB)
        generalize P fn = t at *
        have HO := hown
        have HKL : Hid ((keepF (fs.take k) P).length ≤ 16777216) := by rw [Hid]; omega
        clear hsz hown hkl
        generalize keepF (fs.take k) P = K at *
        go_wp2_with fail
        refine HS.out.mono ?_
        rintro e w2 ⟨rfl, B2⟩
        have own2 := hidS (HO.out.keep B2)
        have hB2 := hB.trans (B2.mono hB.size)
        have c0 := (hB2.cell (p := ⟨g, off + k * 2, none⟩) hg).trans hc2.out.1
        have c1 := (hB2.cell (p := ⟨g, off + k * 2 + 1, none⟩) hg).trans hc2.out.2
        clear B2 hB HO hc1 hc2 HS
        cases t
        · have hsn2 : Hid (keepF (fs.take (k + 1)) P = K ++ [(fn, fv)]) := by rw [Hid, hsn.out, if_neg (by decide)]
          clear hsn
          have own3 := own2.out.keep ((Below.refl _ _).alloc (Nat.le_refl _) (.cells #[.string fn, .string fv] 34))
          obtain ⟨v4, w4, r4, own4, B4⟩ := ownF_append own3 (fds_new w2 fn fv) (by have := HKL.out; simp; omega) (by have := hB2.size; simp; omega)
          have hB4 : Below w.heap.size w w4 := (hB2.alloc hB2.size _).trans B4
          obtain ⟨a4, c4, rfl, _⟩ := own4.form
          have HO4 : Hid (OwnF w.heap.size w4 (.slice a4 (K ++ [(fn, fv)]).length c4) (K ++ [(fn, fv)])) := own4
          have HR : Hid _ := r4
          have HL : Hid ((K ++ [(fn, fv)]).length = (keepF (fs.take (k + 1)) P).length) := by rw [Hid, hsn2.out]
          clear own2 own3 own4 B4 hB2 r4
          generalize (K ++ [(fn, fv)]).length = L at *
          go_wp2_with (at_builtin; refine wpList_append_run2 rfl _ _ 22 22 rfl _ _ _ w4 rfl rfl HR.out ?_)
          go_roundw
          case rel => exact ⟨k + 1, a4, c4, by omega, by go_num, by rw [HL.out], by rw [hsn2.out]; exact HO4, hB4⟩
          case measure => simp [intOf]; omega
        · have hsn2 : Hid (keepF (fs.take (k + 1)) P = K) := by rw [Hid, hsn.out, if_pos rfl, List.append_nil]
          clear hsn c0 c1
          go_wp2
          go_roundw
          case rel => exact ⟨k + 1, ao, cv, by omega, by go_num, by rw [hsn2.out], by rw [hsn2.out]; exact own2, hB2⟩
          case measure => simp [intOf]; omega
      · have hk' : k = fs.length := by omega
        subst hk'
        rw [List.take_length] at *
        go_wp2
        go_ret
        exact ⟨ao, cv, rfl, hown.out, hB⟩
end Go.Proofs.YtajfjjmabncldaaGreatDoor

/- Scrub's reference: Reason, Own (written by scm.py). -/
namespace Go.Proofs.YtajfjjmabncldaaGreatDoor
open Go.ChangeShapes Go.WideShapes Go.ChangeAt Go.RowKit
set_option linter.unusedVariables false

theorem reasonIn_at (c : Int) (l : List (Int × ByteArray)) (k : Nat) (h : k < l.length) : reasonIn c (l.drop k) = if c = l[k].1 then l[k].2 else reasonIn c (l.drop (k + 1)) := by
  rw [List.drop_eq_getElem_cons h]
  rfl
set_option maxRecDepth 100000 in
set_option maxHeartbeats 1000000 in
theorem r5reason_any (c : Int) (w : World) : Calls Tryz.prog 53 #[.int .i64 c] w fun e w' => e = .returned (.string (reasonS c)) ∧ Below w.heap.size w w' := by
  have U : Below w.heap.size w (w.alloc (.cells #[.int .i64 200, .int .i64 204, .int .i64 400, .int .i64 404, .int .i64 413, .int .i64 414, .int .i64 421, .int .i64 429, .int .i64 431, .int .i64 501, .int .i64 502, .int .i64 503, .int .i64 504, .int .i64 505] 3)) := (Below.refl _ _).alloc (Nat.le_refl _) _
  have W0 := U.alloc U.size (.cells #[.string ⟨#[79, 75]⟩, .string ⟨#[78, 111, 32, 67, 111, 110, 116, 101, 110, 116]⟩, .string ⟨#[66, 97, 100, 32, 82, 101, 113, 117, 101, 115, 116]⟩, .string ⟨#[78, 111, 116, 32, 70, 111, 117, 110, 100]⟩, .string ⟨#[67, 111, 110, 116, 101, 110, 116, 32, 84, 111, 111, 32, 76, 97, 114, 103, 101]⟩, .string ⟨#[85, 82, 73, 32, 84, 111, 111, 32, 76, 111, 110, 103]⟩, .string ⟨#[77, 105, 115, 100, 105, 114, 101, 99, 116, 101, 100, 32, 82, 101, 113, 117, 101, 115, 116]⟩, .string ⟨#[84, 111, 111, 32, 77, 97, 110, 121, 32, 82, 101, 113, 117, 101, 115, 116, 115]⟩, .string ⟨#[82, 101, 113, 117, 101, 115, 116, 32, 72, 101, 97, 100, 101, 114, 32, 70, 105, 101, 108, 100, 115, 32, 84, 111, 111, 32, 76, 97, 114, 103, 101]⟩, .string ⟨#[78, 111, 116, 32, 73, 109, 112, 108, 101, 109, 101, 110, 116, 101, 100]⟩, .string ⟨#[66, 97, 100, 32, 71, 97, 116, 101, 119, 97, 121]⟩, .string ⟨#[83, 101, 114, 118, 105, 99, 101, 32, 85, 110, 97, 118, 97, 105, 108, 97, 98, 108, 101]⟩, .string ⟨#[71, 97, 116, 101, 119, 97, 121, 32, 84, 105, 109, 101, 111, 117, 116]⟩, .string ⟨#[72, 84, 84, 80, 32, 86, 101, 114, 115, 105, 111, 110, 32, 78, 111, 116, 32, 83, 117, 112, 112, 111, 114, 116, 101, 100]⟩] 9)
  have h1 : ((w.alloc (.cells #[.int .i64 200, .int .i64 204, .int .i64 400, .int .i64 404, .int .i64 413, .int .i64 414, .int .i64 421, .int .i64 429, .int .i64 431, .int .i64 501, .int .i64 502, .int .i64 503, .int .i64 504, .int .i64 505] 3)).alloc (.cells #[.string ⟨#[79, 75]⟩, .string ⟨#[78, 111, 32, 67, 111, 110, 116, 101, 110, 116]⟩, .string ⟨#[66, 97, 100, 32, 82, 101, 113, 117, 101, 115, 116]⟩, .string ⟨#[78, 111, 116, 32, 70, 111, 117, 110, 100]⟩, .string ⟨#[67, 111, 110, 116, 101, 110, 116, 32, 84, 111, 111, 32, 76, 97, 114, 103, 101]⟩, .string ⟨#[85, 82, 73, 32, 84, 111, 111, 32, 76, 111, 110, 103]⟩, .string ⟨#[77, 105, 115, 100, 105, 114, 101, 99, 116, 101, 100, 32, 82, 101, 113, 117, 101, 115, 116]⟩, .string ⟨#[84, 111, 111, 32, 77, 97, 110, 121, 32, 82, 101, 113, 117, 101, 115, 116, 115]⟩, .string ⟨#[82, 101, 113, 117, 101, 115, 116, 32, 72, 101, 97, 100, 101, 114, 32, 70, 105, 101, 108, 100, 115, 32, 84, 111, 111, 32, 76, 97, 114, 103, 101]⟩, .string ⟨#[78, 111, 116, 32, 73, 109, 112, 108, 101, 109, 101, 110, 116, 101, 100]⟩, .string ⟨#[66, 97, 100, 32, 71, 97, 116, 101, 119, 97, 121]⟩, .string ⟨#[83, 101, 114, 118, 105, 99, 101, 32, 85, 110, 97, 118, 97, 105, 108, 97, 98, 108, 101]⟩, .string ⟨#[71, 97, 116, 101, 119, 97, 121, 32, 84, 105, 109, 101, 111, 117, 116]⟩, .string ⟨#[72, 84, 84, 80, 32, 86, 101, 114, 115, 105, 111, 110, 32, 78, 111, 116, 32, 83, 117, 112, 112, 111, 114, 116, 101, 100]⟩] 9)).heap[w.heap.size]? = some (.cells #[.int .i64 200, .int .i64 204, .int .i64 400, .int .i64 404, .int .i64 413, .int .i64 414, .int .i64 421, .int .i64 429, .int .i64 431, .int .i64 501, .int .i64 502, .int .i64 503, .int .i64 504, .int .i64 505] 3) := (Below.heap_alloc _ _ _ (by simp)).trans (tblk_new _ _)
  have h2 : ((w.alloc (.cells #[.int .i64 200, .int .i64 204, .int .i64 400, .int .i64 404, .int .i64 413, .int .i64 414, .int .i64 421, .int .i64 429, .int .i64 431, .int .i64 501, .int .i64 502, .int .i64 503, .int .i64 504, .int .i64 505] 3)).alloc (.cells #[.string ⟨#[79, 75]⟩, .string ⟨#[78, 111, 32, 67, 111, 110, 116, 101, 110, 116]⟩, .string ⟨#[66, 97, 100, 32, 82, 101, 113, 117, 101, 115, 116]⟩, .string ⟨#[78, 111, 116, 32, 70, 111, 117, 110, 100]⟩, .string ⟨#[67, 111, 110, 116, 101, 110, 116, 32, 84, 111, 111, 32, 76, 97, 114, 103, 101]⟩, .string ⟨#[85, 82, 73, 32, 84, 111, 111, 32, 76, 111, 110, 103]⟩, .string ⟨#[77, 105, 115, 100, 105, 114, 101, 99, 116, 101, 100, 32, 82, 101, 113, 117, 101, 115, 116]⟩, .string ⟨#[84, 111, 111, 32, 77, 97, 110, 121, 32, 82, 101, 113, 117, 101, 115, 116, 115]⟩, .string ⟨#[82, 101, 113, 117, 101, 115, 116, 32, 72, 101, 97, 100, 101, 114, 32, 70, 105, 101, 108, 100, 115, 32, 84, 111, 111, 32, 76, 97, 114, 103, 101]⟩, .string ⟨#[78, 111, 116, 32, 73, 109, 112, 108, 101, 109, 101, 110, 116, 101, 100]⟩, .string ⟨#[66, 97, 100, 32, 71, 97, 116, 101, 119, 97, 121]⟩, .string ⟨#[83, 101, 114, 118, 105, 99, 101, 32, 85, 110, 97, 118, 97, 105, 108, 97, 98, 108, 101]⟩, .string ⟨#[71, 97, 116, 101, 119, 97, 121, 32, 84, 105, 109, 101, 111, 117, 116]⟩, .string ⟨#[72, 84, 84, 80, 32, 86, 101, 114, 115, 105, 111, 110, 32, 78, 111, 116, 32, 83, 117, 112, 112, 111, 114, 116, 101, 100]⟩] 9)).heap[w.heap.size + 1]? = some (.cells #[.string ⟨#[79, 75]⟩, .string ⟨#[78, 111, 32, 67, 111, 110, 116, 101, 110, 116]⟩, .string ⟨#[66, 97, 100, 32, 82, 101, 113, 117, 101, 115, 116]⟩, .string ⟨#[78, 111, 116, 32, 70, 111, 117, 110, 100]⟩, .string ⟨#[67, 111, 110, 116, 101, 110, 116, 32, 84, 111, 111, 32, 76, 97, 114, 103, 101]⟩, .string ⟨#[85, 82, 73, 32, 84, 111, 111, 32, 76, 111, 110, 103]⟩, .string ⟨#[77, 105, 115, 100, 105, 114, 101, 99, 116, 101, 100, 32, 82, 101, 113, 117, 101, 115, 116]⟩, .string ⟨#[84, 111, 111, 32, 77, 97, 110, 121, 32, 82, 101, 113, 117, 101, 115, 116, 115]⟩, .string ⟨#[82, 101, 113, 117, 101, 115, 116, 32, 72, 101, 97, 100, 101, 114, 32, 70, 105, 101, 108, 100, 115, 32, 84, 111, 111, 32, 76, 97, 114, 103, 101]⟩, .string ⟨#[78, 111, 116, 32, 73, 109, 112, 108, 101, 109, 101, 110, 116, 101, 100]⟩, .string ⟨#[66, 97, 100, 32, 71, 97, 116, 101, 119, 97, 121]⟩, .string ⟨#[83, 101, 114, 118, 105, 99, 101, 32, 85, 110, 97, 118, 97, 105, 108, 97, 98, 108, 101]⟩, .string ⟨#[71, 97, 116, 101, 119, 97, 121, 32, 84, 105, 109, 101, 111, 117, 116]⟩, .string ⟨#[72, 84, 84, 80, 32, 86, 101, 114, 115, 105, 111, 110, 32, 78, 111, 116, 32, 83, 117, 112, 112, 111, 114, 116, 101, 100]⟩] 9) := by
    have k := tblk_new (w.alloc (.cells #[.int .i64 200, .int .i64 204, .int .i64 400, .int .i64 404, .int .i64 413, .int .i64 414, .int .i64 421, .int .i64 429, .int .i64 431, .int .i64 501, .int .i64 502, .int .i64 503, .int .i64 504, .int .i64 505] 3)) (.cells #[.string ⟨#[79, 75]⟩, .string ⟨#[78, 111, 32, 67, 111, 110, 116, 101, 110, 116]⟩, .string ⟨#[66, 97, 100, 32, 82, 101, 113, 117, 101, 115, 116]⟩, .string ⟨#[78, 111, 116, 32, 70, 111, 117, 110, 100]⟩, .string ⟨#[67, 111, 110, 116, 101, 110, 116, 32, 84, 111, 111, 32, 76, 97, 114, 103, 101]⟩, .string ⟨#[85, 82, 73, 32, 84, 111, 111, 32, 76, 111, 110, 103]⟩, .string ⟨#[77, 105, 115, 100, 105, 114, 101, 99, 116, 101, 100, 32, 82, 101, 113, 117, 101, 115, 116]⟩, .string ⟨#[84, 111, 111, 32, 77, 97, 110, 121, 32, 82, 101, 113, 117, 101, 115, 116, 115]⟩, .string ⟨#[82, 101, 113, 117, 101, 115, 116, 32, 72, 101, 97, 100, 101, 114, 32, 70, 105, 101, 108, 100, 115, 32, 84, 111, 111, 32, 76, 97, 114, 103, 101]⟩, .string ⟨#[78, 111, 116, 32, 73, 109, 112, 108, 101, 109, 101, 110, 116, 101, 100]⟩, .string ⟨#[66, 97, 100, 32, 71, 97, 116, 101, 119, 97, 121]⟩, .string ⟨#[83, 101, 114, 118, 105, 99, 101, 32, 85, 110, 97, 118, 97, 105, 108, 97, 98, 108, 101]⟩, .string ⟨#[71, 97, 116, 101, 119, 97, 121, 32, 84, 105, 109, 101, 111, 117, 116]⟩, .string ⟨#[72, 84, 84, 80, 32, 86, 101, 114, 115, 105, 111, 110, 32, 78, 111, 116, 32, 83, 117, 112, 112, 111, 114, 116, 101, 100]⟩] 9)
    rw [show (w.alloc (.cells #[.int .i64 200, .int .i64 204, .int .i64 400, .int .i64 404, .int .i64 413, .int .i64 414, .int .i64 421, .int .i64 429, .int .i64 431, .int .i64 501, .int .i64 502, .int .i64 503, .int .i64 504, .int .i64 505] 3)).heap.size = w.heap.size + 1 by simp] at k
    exact k
  clear U
  have HC1 : Hid (∀ (j : Nat) (hj : j < codesR.length), ((w.alloc (.cells #[.int .i64 200, .int .i64 204, .int .i64 400, .int .i64 404, .int .i64 413, .int .i64 414, .int .i64 421, .int .i64 429, .int .i64 431, .int .i64 501, .int .i64 502, .int .i64 503, .int .i64 504, .int .i64 505] 3)).alloc (.cells #[.string ⟨#[79, 75]⟩, .string ⟨#[78, 111, 32, 67, 111, 110, 116, 101, 110, 116]⟩, .string ⟨#[66, 97, 100, 32, 82, 101, 113, 117, 101, 115, 116]⟩, .string ⟨#[78, 111, 116, 32, 70, 111, 117, 110, 100]⟩, .string ⟨#[67, 111, 110, 116, 101, 110, 116, 32, 84, 111, 111, 32, 76, 97, 114, 103, 101]⟩, .string ⟨#[85, 82, 73, 32, 84, 111, 111, 32, 76, 111, 110, 103]⟩, .string ⟨#[77, 105, 115, 100, 105, 114, 101, 99, 116, 101, 100, 32, 82, 101, 113, 117, 101, 115, 116]⟩, .string ⟨#[84, 111, 111, 32, 77, 97, 110, 121, 32, 82, 101, 113, 117, 101, 115, 116, 115]⟩, .string ⟨#[82, 101, 113, 117, 101, 115, 116, 32, 72, 101, 97, 100, 101, 114, 32, 70, 105, 101, 108, 100, 115, 32, 84, 111, 111, 32, 76, 97, 114, 103, 101]⟩, .string ⟨#[78, 111, 116, 32, 73, 109, 112, 108, 101, 109, 101, 110, 116, 101, 100]⟩, .string ⟨#[66, 97, 100, 32, 71, 97, 116, 101, 119, 97, 121]⟩, .string ⟨#[83, 101, 114, 118, 105, 99, 101, 32, 85, 110, 97, 118, 97, 105, 108, 97, 98, 108, 101]⟩, .string ⟨#[71, 97, 116, 101, 119, 97, 121, 32, 84, 105, 109, 101, 111, 117, 116]⟩, .string ⟨#[72, 84, 84, 80, 32, 86, 101, 114, 115, 105, 111, 110, 32, 78, 111, 116, 32, 83, 117, 112, 112, 111, 114, 116, 101, 100]⟩] 9)).cell? ⟨w.heap.size, j, none⟩ = some (.int .i64 codesR[j].1)) := fun j hj => by
    have hj' : j < 14 := hj
    rcases j with _ | _ | _ | _ | _ | _ | _ | _ | _ | _ | _ | _ | _ | _ | j
    all_goals first | exact tblk_cell h1 rfl | omega
  have HC2 : Hid (∀ (j : Nat) (hj : j < codesR.length), ((w.alloc (.cells #[.int .i64 200, .int .i64 204, .int .i64 400, .int .i64 404, .int .i64 413, .int .i64 414, .int .i64 421, .int .i64 429, .int .i64 431, .int .i64 501, .int .i64 502, .int .i64 503, .int .i64 504, .int .i64 505] 3)).alloc (.cells #[.string ⟨#[79, 75]⟩, .string ⟨#[78, 111, 32, 67, 111, 110, 116, 101, 110, 116]⟩, .string ⟨#[66, 97, 100, 32, 82, 101, 113, 117, 101, 115, 116]⟩, .string ⟨#[78, 111, 116, 32, 70, 111, 117, 110, 100]⟩, .string ⟨#[67, 111, 110, 116, 101, 110, 116, 32, 84, 111, 111, 32, 76, 97, 114, 103, 101]⟩, .string ⟨#[85, 82, 73, 32, 84, 111, 111, 32, 76, 111, 110, 103]⟩, .string ⟨#[77, 105, 115, 100, 105, 114, 101, 99, 116, 101, 100, 32, 82, 101, 113, 117, 101, 115, 116]⟩, .string ⟨#[84, 111, 111, 32, 77, 97, 110, 121, 32, 82, 101, 113, 117, 101, 115, 116, 115]⟩, .string ⟨#[82, 101, 113, 117, 101, 115, 116, 32, 72, 101, 97, 100, 101, 114, 32, 70, 105, 101, 108, 100, 115, 32, 84, 111, 111, 32, 76, 97, 114, 103, 101]⟩, .string ⟨#[78, 111, 116, 32, 73, 109, 112, 108, 101, 109, 101, 110, 116, 101, 100]⟩, .string ⟨#[66, 97, 100, 32, 71, 97, 116, 101, 119, 97, 121]⟩, .string ⟨#[83, 101, 114, 118, 105, 99, 101, 32, 85, 110, 97, 118, 97, 105, 108, 97, 98, 108, 101]⟩, .string ⟨#[71, 97, 116, 101, 119, 97, 121, 32, 84, 105, 109, 101, 111, 117, 116]⟩, .string ⟨#[72, 84, 84, 80, 32, 86, 101, 114, 115, 105, 111, 110, 32, 78, 111, 116, 32, 83, 117, 112, 112, 111, 114, 116, 101, 100]⟩] 9)).cell? ⟨w.heap.size + 1, j, none⟩ = some (.string codesR[j].2)) := fun j hj => by
    have hj' : j < 14 := hj
    rcases j with _ | _ | _ | _ | _ | _ | _ | _ | _ | _ | _ | _ | _ | _ | j
    all_goals first | exact tblk_cell h2 rfl | omega
  have hlen : codesR.length = 14 := rfl
  have H0 : Hid (reasonIn c (codesR.drop 0) = reasonS c) := rfl
  obtain ⟨R, hR⟩ : ∃ R, reasonS c = R := ⟨_, rfl⟩
  rw [hR] at H0 ⊢
  have hend : Hid (reasonIn c (codesR.drop 14) = ⟨#[83, 116, 97, 116, 117, 115]⟩) := rfl
  obtain ⟨L, hL⟩ : ∃ L, codesR = L := ⟨_, rfl⟩
  rw [hL] at H0 HC1 HC2 hlen hend
  clear hR hL h1 h2
  go_enter Tryz.func53, Tryz.ntmps53
  go_upto_region 3 with fail
  generalize ((w.alloc (.cells #[.int .i64 200, .int .i64 204, .int .i64 400, .int .i64 404, .int .i64 413, .int .i64 414, .int .i64 421, .int .i64 429, .int .i64 431, .int .i64 501, .int .i64 502, .int .i64 503, .int .i64 504, .int .i64 505] 3)).alloc (.cells #[.string ⟨#[79, 75]⟩, .string ⟨#[78, 111, 32, 67, 111, 110, 116, 101, 110, 116]⟩, .string ⟨#[66, 97, 100, 32, 82, 101, 113, 117, 101, 115, 116]⟩, .string ⟨#[78, 111, 116, 32, 70, 111, 117, 110, 100]⟩, .string ⟨#[67, 111, 110, 116, 101, 110, 116, 32, 84, 111, 111, 32, 76, 97, 114, 103, 101]⟩, .string ⟨#[85, 82, 73, 32, 84, 111, 111, 32, 76, 111, 110, 103]⟩, .string ⟨#[77, 105, 115, 100, 105, 114, 101, 99, 116, 101, 100, 32, 82, 101, 113, 117, 101, 115, 116]⟩, .string ⟨#[84, 111, 111, 32, 77, 97, 110, 121, 32, 82, 101, 113, 117, 101, 115, 116, 115]⟩, .string ⟨#[82, 101, 113, 117, 101, 115, 116, 32, 72, 101, 97, 100, 101, 114, 32, 70, 105, 101, 108, 100, 115, 32, 84, 111, 111, 32, 76, 97, 114, 103, 101]⟩, .string ⟨#[78, 111, 116, 32, 73, 109, 112, 108, 101, 109, 101, 110, 116, 101, 100]⟩, .string ⟨#[66, 97, 100, 32, 71, 97, 116, 101, 119, 97, 121]⟩, .string ⟨#[83, 101, 114, 118, 105, 99, 101, 32, 85, 110, 97, 118, 97, 105, 108, 97, 98, 108, 101]⟩, .string ⟨#[71, 97, 116, 101, 119, 97, 121, 32, 84, 105, 109, 101, 111, 117, 116]⟩, .string ⟨#[72, 84, 84, 80, 32, 86, 101, 114, 115, 105, 111, 110, 32, 78, 111, 116, 32, 83, 117, 112, 112, 111, 114, 116, 101, 100]⟩] 9)) = w1 at *
  have HW := hidS W0
  clear W0
  go_wp2_with fail
  go_loopw [5] (fun vi wr => ∃ k : Nat, k ≤ 14 ∧ vi = .int .i64 k ∧ Hid (reasonIn c (L.drop k) = R) ∧ wr = w1) (fun vi _ => 14 - (intOf vi).toNat)
  case atStart => exact ⟨0, Nat.zero_le _, rfl, H0, rfl⟩
  case round =>
    obtain ⟨k, hk, rfl, hA, rfl⟩ := hrel
    clear H0
    by_cases hlt : k < 14
    · have hkl : k < L.length := by omega
      have c1 := HC1.out k hkl
      have c2 := HC2.out k hkl
      have e := reasonIn_at c L k hkl
      rw [hA.out] at e
      generalize L[k] = x at *
      obtain ⟨xc, xw⟩ := x
      simp only at c1 c2 e
      by_cases hx : xc = c
      · rw [if_pos hx.symm] at e
        have hx2 : (xc == c) = true := by simp [hx]
        have HE : Hid (xw = R) := e.symm
        clear e hx hA
        go_wp2
        go_ret
        exact ⟨ret_sB HE.out, HW.out⟩
      · rw [if_neg (fun q => hx q.symm)] at e
        have hx2 : (xc == c) = false := by simp [hx]
        have HE : Hid (reasonIn c (L.drop (k + 1)) = R) := e.symm
        clear e hA
        go_wp2
        go_roundw
        case rel => exact ⟨k + 1, by omega, by go_num, HE, trivial⟩
        case measure => simp [intOf]; omega
    · have hk' : k = 14 := by omega
      subst hk'
      have HE : Hid ((⟨#[83, 116, 97, 116, 117, 115]⟩ : ByteArray) = R) := hend.out.symm.trans hA.out
      clear hA hend
      go_wp2
      go_ret
      exact ⟨ret_sB HE.out, HW.out⟩
theorem sblk_set3 {w : World} {b : Nat} {y0 y1 y2 y3 y4 : Value} {t : TypeId} (h : w.heap[b]? = some (.cells #[y0, y1, y2, y3, y4] t)) (v : Value) : (w.setCell ⟨b, 3, none⟩ v).heap[b]? = some (.cells #[y0, y1, y2, v, y4] t) := by
  simp [World.setCell, Array.getElem?_modify, h]
theorem sset_away {w : World} {b k i : Nat} {v : Value} (h : k ≠ b) : (w.setCell ⟨b, i, none⟩ v).heap[k]? = w.heap[k]? := by
  simp [World.setCell, Array.getElem?_modify, Ne.symm h]
theorem OwnF.other {B : Nat} {w : World} {v : Value} {fs : Fs} {b : Nat} {cs : Array Value} {t : TypeId} (h : OwnF B w v fs) (hb : w.heap[b]? = some (.cells cs t)) (ht : ¬ 34 = t) (q : Nat) (x : Value) : OwnF B (w.setCell ⟨b, q, none⟩ x) v fs := by
  obtain ⟨e, h⟩ := h
  refine ⟨e, ?_⟩
  rcases h with h | ⟨g, c, row, e1, h1, h2, h3, h4, h5⟩
  · exact .inl h
  · have hne : g ≠ b := by
      rintro rfl
      rw [h2] at hb
      injection hb with hb
      injection hb with _ hb
      exact ht hb
    exact .inr ⟨g, c, row, e1, h1, (sset_away hne).trans h2, h3, h4, h5⟩
set_option maxRecDepth 100000 in
set_option maxHeartbeats 1000000 in
theorem r12own_any (code : Int) (t : Bool) (w : World) :
    Calls Tryz.prog 20 #[.int .i64 code, .bool t] w fun e w' => ∃ ao co, e = .returned (.agg #[.int .i64 code, .string (reasonS code), .int .i64 1, .slice ao (ownFs t).length co, .slice none 0 0]) ∧ OwnF (w.heap.size + 1) w' (.slice ao (ownFs t).length co) (ownFs t) ∧ Below w.heap.size w w' := by
  have U : Below w.heap.size w (w.alloc (.cells #[.int .i64 0, .string ⟨#[]⟩, .int .i64 0, .slice none 0 0, .slice none 0 0] 40)) := (Below.refl _ _).alloc (Nat.le_refl _) _
  have h0 := tblk_new w (.cells #[.int .i64 0, .string ⟨#[]⟩, .int .i64 0, .slice none 0 0, .slice none 0 0] 40)
  have hs1 : (w.alloc (.cells #[.int .i64 0, .string ⟨#[]⟩, .int .i64 0, .slice none 0 0, .slice none 0 0] 40)).heap.size = w.heap.size + 1 := by simp
  have HR := hidS (r5reason_any code (w.alloc (.cells #[.int .i64 0, .string ⟨#[]⟩, .int .i64 0, .slice none 0 0, .slice none 0 0] 40)))
  generalize reasonS code = rs at *
  have HL : Hid (∀ W, Calls Tryz.prog 48 #[.int .i64 0] W fun e w' => e = .returned (.agg #[.string lenN, .string (itoaS ((0 : Nat) : Int))]) ∧ Below W.heap.size W w') := fun W => r12length_any 0 W (by decide)
  go_enter Tryz.func20, Tryz.ntmps20
  go_upto_region 1 with fail
  generalize (w.alloc (.cells #[.int .i64 0, .string ⟨#[]⟩, .int .i64 0, .slice none 0 0, .slice none 0 0] 40)) = w1 at *
  go_wp2_with fail
  refine HR.out.mono ?_
  rintro e w2 ⟨rfl, B2⟩
  go_wp2_with fail
  refine (HL.out w2).mono ?_
  rintro e w3 ⟨rfl, B3⟩
  have B13 := B2.trans (B3.mono B2.size)
  have g0 := tblk_below h0 B13
  have W3 := U.trans (B13.mono U.size)
  have hz := B13.size
  clear U h0 HR HL B2 B3 B13
  have V4 : Below w3.heap.size w3 (w3.alloc (.cells #[.string lenN, .string (itoaS ((0 : Nat) : Int))] 34)) := (Below.refl _ _).alloc (Nat.le_refl _) _
  have V5 := V4.alloc V4.size (.cells #[.int .i64 code, .string rs, .int .i64 1, .slice (some ⟨w3.heap.size, 0, none⟩) 1 1, .slice none 0 0] 40)
  have OF : OwnF w3.heap.size ((w3.alloc (.cells #[.string lenN, .string (itoaS ((0 : Nat) : Int))] 34)).alloc (.cells #[.int .i64 code, .string rs, .int .i64 1, .slice (some ⟨w3.heap.size, 0, none⟩) 1 1, .slice none 0 0] 40)) (.slice (some ⟨w3.heap.size, 0, none⟩) 1 1) [(lenN, itoaS ((0 : Nat) : Int))] := ownS_one ((Below.heap_alloc _ _ _ (by simp)).trans (tblk_new _ _)) (Nat.le_refl _)
  have gO : ((w3.alloc (.cells #[.string lenN, .string (itoaS ((0 : Nat) : Int))] 34)).alloc (.cells #[.int .i64 code, .string rs, .int .i64 1, .slice (some ⟨w3.heap.size, 0, none⟩) 1 1, .slice none 0 0] 40)).heap[w3.heap.size + 1]? = some (.cells #[.int .i64 code, .string rs, .int .i64 1, .slice (some ⟨w3.heap.size, 0, none⟩) 1 1, .slice none 0 0] 40) := by
    have k := tblk_new (w3.alloc (.cells #[.string lenN, .string (itoaS ((0 : Nat) : Int))] 34)) (.cells #[.int .i64 code, .string rs, .int .i64 1, .slice (some ⟨w3.heap.size, 0, none⟩) 1 1, .slice none 0 0] 40)
    rw [show (w3.alloc (.cells #[.string lenN, .string (itoaS ((0 : Nat) : Int))] 34)).heap.size = w3.heap.size + 1 by simp] at k
    exact k
  have gR := tblk_below g0 V5
  have HB := hidS (W3.trans (V5.mono W3.size))
  have hz5 : w3.heap.size + 1 < ((w3.alloc (.cells #[.string lenN, .string (itoaS ((0 : Nat) : Int))] 34)).alloc (.cells #[.int .i64 code, .string rs, .int .i64 1, .slice (some ⟨w3.heap.size, 0, none⟩) 1 1, .slice none 0 0] 40)).heap.size := by simp
  clear V4 V5 W3 g0
  go_upto_region 2 with fail
  generalize ((w3.alloc (.cells #[.string lenN, .string (itoaS ((0 : Nat) : Int))] 34)).alloc (.cells #[.int .i64 code, .string rs, .int .i64 1, .slice (some ⟨w3.heap.size, 0, none⟩) 1 1, .slice none 0 0] 40)) = w5 at *
  cases t
  · have OZ := OF.mono (C := w.heap.size + 1) (by omega)
    clear OF
    have x0 : w5.cell? ⟨w3.heap.size + 1, 0, none⟩ = some (.int .i64 code) := tblk_cell gO rfl
    have x1 : w5.cell? ⟨w3.heap.size + 1, 1, none⟩ = some (.string rs) := tblk_cell gO rfl
    have x2 : w5.cell? ⟨w3.heap.size + 1, 2, none⟩ = some (.int .i64 1) := tblk_cell gO rfl
    have x3 : w5.cell? ⟨w3.heap.size + 1, 3, none⟩ = some (.slice (some ⟨w3.heap.size, 0, none⟩) 1 1) := tblk_cell gO rfl
    have x4 : w5.cell? ⟨w3.heap.size + 1, 4, none⟩ = some (.slice none 0 0) := tblk_cell gO rfl
    have y0 : w5.cell? ⟨w.heap.size, 0, none⟩ = some (.int .i64 0) := tblk_cell gR rfl
    have y1 : w5.cell? ⟨w.heap.size, 1, none⟩ = some (.string ⟨#[]⟩) := tblk_cell gR rfl
    have y2 : w5.cell? ⟨w.heap.size, 2, none⟩ = some (.int .i64 0) := tblk_cell gR rfl
    have y3 : w5.cell? ⟨w.heap.size, 3, none⟩ = some (.slice none 0 0) := tblk_cell gR rfl
    have y4 : w5.cell? ⟨w.heap.size, 4, none⟩ = some (.slice none 0 0) := tblk_cell gR rfl
    have z0 := sblk_z (i := 0) gR
    have z1 := sblk_z (i := 1) gR
    have z2 := sblk_z (i := 2) gR
    have z3 := sblk_z (i := 3) gR
    have z4 := sblk_z (i := 4) gR
    have h6 := s5_cells gR (.int .i64 code) (.string rs) (.int .i64 1) (.slice (some ⟨w3.heap.size, 0, none⟩) 1 1) (.slice none 0 0)
    have r0 : (((((w5.setCell ⟨w.heap.size, 0, none⟩ (.int .i64 code)).setCell ⟨w.heap.size, 1, none⟩ (.string rs)).setCell ⟨w.heap.size, 2, none⟩ (.int .i64 1)).setCell ⟨w.heap.size, 3, none⟩ (.slice (some ⟨w3.heap.size, 0, none⟩) 1 1)).setCell ⟨w.heap.size, 4, none⟩ (.slice none 0 0)).cell? ⟨w.heap.size, 0, none⟩ = some (.int .i64 code) := tblk_cell h6 rfl
    have r1 : (((((w5.setCell ⟨w.heap.size, 0, none⟩ (.int .i64 code)).setCell ⟨w.heap.size, 1, none⟩ (.string rs)).setCell ⟨w.heap.size, 2, none⟩ (.int .i64 1)).setCell ⟨w.heap.size, 3, none⟩ (.slice (some ⟨w3.heap.size, 0, none⟩) 1 1)).setCell ⟨w.heap.size, 4, none⟩ (.slice none 0 0)).cell? ⟨w.heap.size, 1, none⟩ = some (.string rs) := tblk_cell h6 rfl
    have r2 : (((((w5.setCell ⟨w.heap.size, 0, none⟩ (.int .i64 code)).setCell ⟨w.heap.size, 1, none⟩ (.string rs)).setCell ⟨w.heap.size, 2, none⟩ (.int .i64 1)).setCell ⟨w.heap.size, 3, none⟩ (.slice (some ⟨w3.heap.size, 0, none⟩) 1 1)).setCell ⟨w.heap.size, 4, none⟩ (.slice none 0 0)).cell? ⟨w.heap.size, 2, none⟩ = some (.int .i64 1) := tblk_cell h6 rfl
    have r3 : (((((w5.setCell ⟨w.heap.size, 0, none⟩ (.int .i64 code)).setCell ⟨w.heap.size, 1, none⟩ (.string rs)).setCell ⟨w.heap.size, 2, none⟩ (.int .i64 1)).setCell ⟨w.heap.size, 3, none⟩ (.slice (some ⟨w3.heap.size, 0, none⟩) 1 1)).setCell ⟨w.heap.size, 4, none⟩ (.slice none 0 0)).cell? ⟨w.heap.size, 3, none⟩ = some (.slice (some ⟨w3.heap.size, 0, none⟩) 1 1) := tblk_cell h6 rfl
    have r4 : (((((w5.setCell ⟨w.heap.size, 0, none⟩ (.int .i64 code)).setCell ⟨w.heap.size, 1, none⟩ (.string rs)).setCell ⟨w.heap.size, 2, none⟩ (.int .i64 1)).setCell ⟨w.heap.size, 3, none⟩ (.slice (some ⟨w3.heap.size, 0, none⟩) 1 1)).setCell ⟨w.heap.size, 4, none⟩ (.slice none 0 0)).cell? ⟨w.heap.size, 4, none⟩ = some (.slice none 0 0) := tblk_cell h6 rfl
    have HB6 := hidS (s5_below (.int .i64 code) (.string rs) (.int .i64 1) (.slice (some ⟨w3.heap.size, 0, none⟩) 1 1) (.slice none 0 0) HB.out (Nat.le_refl w.heap.size))
    have HO6 := hidS (OZ.awayS (w' := s5 w5 w.heap.size (.int .i64 code) (.string rs) (.int .i64 1) (.slice (some ⟨w3.heap.size, 0, none⟩) 1 1) (.slice none 0 0)) (fun k hk _ => s5_away (by omega)))
    unfold s5 at HB6 HO6
    clear h6 gR gO OZ HB
    go_wp2
    refine bodyPost_ret (v := .agg #[.int .i64 code, .string rs, .int .i64 1, .slice (some ⟨w3.heap.size, 0, none⟩) 1 1, .slice none 0 0]) (by simp [results, Tryz.results20, go_sem, r0, r1, r2, r3, r4]) rfl ?_
    exact ⟨_, _, rfl, HO6.out, HB6.out⟩
  · have U6 : Below w5.heap.size w5 (w5.alloc (.cells #[.string connN, .string ⟨#[99, 108, 111, 115, 101]⟩] 34)) := (Below.refl _ _).alloc (Nat.le_refl _) _
    obtain ⟨v7, w7, r7, O7, B7, K7⟩ := ownF_app2 (OF.keep U6) (fds_new w5 connN ⟨#[99, 108, 111, 115, 101]⟩) (by decide) (by have := U6.size; omega)
    obtain ⟨a7, c7, rfl, _⟩ := O7.form
    have hz6 := U6.size
    have gO7 := (K7 (w3.heap.size + 1) (by omega) (fun q => by have := Option.some.inj q; simp at this)).trans (tblk_below gO U6)
    have gR7 := (B7.block w.heap.size (by omega)).trans (tblk_below gR U6)
    have HB7 := (HB.out.trans (U6.mono HB.out.size)).trans (B7.mono (by omega))
    have gO8 := sblk_set3 gO7 (.slice a7 2 c7)
    have gR8 := (sset_away (i := 3) (v := .slice a7 2 c7) (show w.heap.size ≠ w3.heap.size + 1 by omega)).trans gR7
    have O8 := (O7.other gO7 (by decide) 3 (.slice a7 2 c7)).mono (C := w.heap.size + 1) (by omega)
    have HB8 := hidS (HB7.setCell (p := ⟨w3.heap.size + 1, 3, none⟩) (by show w.heap.size ≤ w3.heap.size + 1; omega) (.slice a7 2 c7))
    have HRR := hidS r7
    have e3 : w5.cell? ⟨w3.heap.size + 1, 3, none⟩ = some (.slice (some ⟨w3.heap.size, 0, none⟩) 1 1) := tblk_cell gO rfl
    have q3 : w7.cell? ⟨w3.heap.size + 1, 3, none⟩ = some (.slice (some ⟨w3.heap.size, 0, none⟩) 1 1) := tblk_cell gO7 rfl
    have qz := sblk_z (i := 3) gO7
    clear gO gR gO7 gR7 OF U6 O7 B7 K7 HB HB7 r7
    unfold connN at HRR
    go_upto_region 4 with (at_builtin; refine wpList_append_run2 rfl _ _ 22 22 rfl _ _ _ w7 rfl rfl HRR.out ?_)
    clear e3 q3 qz HRR
    generalize (w7.setCell ⟨w3.heap.size + 1, 3, none⟩ (.slice a7 2 c7)) = w8 at *
    have gO := gO8
    have gR := gR8
    have OZ := O8
    have HB := HB8
    clear gO8 gR8 O8 HB8
    have x0 : w8.cell? ⟨w3.heap.size + 1, 0, none⟩ = some (.int .i64 code) := tblk_cell gO rfl
    have x1 : w8.cell? ⟨w3.heap.size + 1, 1, none⟩ = some (.string rs) := tblk_cell gO rfl
    have x2 : w8.cell? ⟨w3.heap.size + 1, 2, none⟩ = some (.int .i64 1) := tblk_cell gO rfl
    have x3 : w8.cell? ⟨w3.heap.size + 1, 3, none⟩ = some (.slice a7 2 c7) := tblk_cell gO rfl
    have x4 : w8.cell? ⟨w3.heap.size + 1, 4, none⟩ = some (.slice none 0 0) := tblk_cell gO rfl
    have y0 : w8.cell? ⟨w.heap.size, 0, none⟩ = some (.int .i64 0) := tblk_cell gR rfl
    have y1 : w8.cell? ⟨w.heap.size, 1, none⟩ = some (.string ⟨#[]⟩) := tblk_cell gR rfl
    have y2 : w8.cell? ⟨w.heap.size, 2, none⟩ = some (.int .i64 0) := tblk_cell gR rfl
    have y3 : w8.cell? ⟨w.heap.size, 3, none⟩ = some (.slice none 0 0) := tblk_cell gR rfl
    have y4 : w8.cell? ⟨w.heap.size, 4, none⟩ = some (.slice none 0 0) := tblk_cell gR rfl
    have z0 := sblk_z (i := 0) gR
    have z1 := sblk_z (i := 1) gR
    have z2 := sblk_z (i := 2) gR
    have z3 := sblk_z (i := 3) gR
    have z4 := sblk_z (i := 4) gR
    have h6 := s5_cells gR (.int .i64 code) (.string rs) (.int .i64 1) (.slice a7 2 c7) (.slice none 0 0)
    have r0 : (((((w8.setCell ⟨w.heap.size, 0, none⟩ (.int .i64 code)).setCell ⟨w.heap.size, 1, none⟩ (.string rs)).setCell ⟨w.heap.size, 2, none⟩ (.int .i64 1)).setCell ⟨w.heap.size, 3, none⟩ (.slice a7 2 c7)).setCell ⟨w.heap.size, 4, none⟩ (.slice none 0 0)).cell? ⟨w.heap.size, 0, none⟩ = some (.int .i64 code) := tblk_cell h6 rfl
    have r1 : (((((w8.setCell ⟨w.heap.size, 0, none⟩ (.int .i64 code)).setCell ⟨w.heap.size, 1, none⟩ (.string rs)).setCell ⟨w.heap.size, 2, none⟩ (.int .i64 1)).setCell ⟨w.heap.size, 3, none⟩ (.slice a7 2 c7)).setCell ⟨w.heap.size, 4, none⟩ (.slice none 0 0)).cell? ⟨w.heap.size, 1, none⟩ = some (.string rs) := tblk_cell h6 rfl
    have r2 : (((((w8.setCell ⟨w.heap.size, 0, none⟩ (.int .i64 code)).setCell ⟨w.heap.size, 1, none⟩ (.string rs)).setCell ⟨w.heap.size, 2, none⟩ (.int .i64 1)).setCell ⟨w.heap.size, 3, none⟩ (.slice a7 2 c7)).setCell ⟨w.heap.size, 4, none⟩ (.slice none 0 0)).cell? ⟨w.heap.size, 2, none⟩ = some (.int .i64 1) := tblk_cell h6 rfl
    have r3 : (((((w8.setCell ⟨w.heap.size, 0, none⟩ (.int .i64 code)).setCell ⟨w.heap.size, 1, none⟩ (.string rs)).setCell ⟨w.heap.size, 2, none⟩ (.int .i64 1)).setCell ⟨w.heap.size, 3, none⟩ (.slice a7 2 c7)).setCell ⟨w.heap.size, 4, none⟩ (.slice none 0 0)).cell? ⟨w.heap.size, 3, none⟩ = some (.slice a7 2 c7) := tblk_cell h6 rfl
    have r4 : (((((w8.setCell ⟨w.heap.size, 0, none⟩ (.int .i64 code)).setCell ⟨w.heap.size, 1, none⟩ (.string rs)).setCell ⟨w.heap.size, 2, none⟩ (.int .i64 1)).setCell ⟨w.heap.size, 3, none⟩ (.slice a7 2 c7)).setCell ⟨w.heap.size, 4, none⟩ (.slice none 0 0)).cell? ⟨w.heap.size, 4, none⟩ = some (.slice none 0 0) := tblk_cell h6 rfl
    have HB6 := hidS (s5_below (.int .i64 code) (.string rs) (.int .i64 1) (.slice a7 2 c7) (.slice none 0 0) HB.out (Nat.le_refl w.heap.size))
    have HO6 := hidS (OZ.awayS (w' := s5 w8 w.heap.size (.int .i64 code) (.string rs) (.int .i64 1) (.slice a7 2 c7) (.slice none 0 0)) (fun k hk _ => s5_away (by omega)))
    unfold s5 at HB6 HO6
    clear h6 gR gO OZ HB
    go_wp2
    refine bodyPost_ret (v := .agg #[.int .i64 code, .string rs, .int .i64 1, .slice a7 2 c7, .slice none 0 0]) (by simp [results, Tryz.results20, go_sem, r0, r1, r2, r3, r4]) rfl ?_
    exact ⟨_, _, rfl, HO6.out, HB6.out⟩

end Go.Proofs.YtajfjjmabncldaaGreatDoor

/- Scrub's reference: Response (written by scn.py). -/
namespace Go.Proofs.YtajfjjmabncldaaGreatDoor
open Go.ChangeShapes Go.WideShapes Go.ChangeAt Go.RowKit
set_option linter.unusedVariables false

/-- A block of another type is none of a row's own. -/
theorem ownF_ne {B : Nat} {w : World} {v : Value} {fs : Fs} {b : Nat} {cs : Array Value} {t : TypeId} {fz : Nat × Nat} (h : OwnF B w v fs) (hb : w.heap[b]? = some (.cells cs t fz)) (ht : ¬ 34 = t) : ¬ some b = v.ownBlock := by
  obtain ⟨e, h⟩ := h
  rcases h with ⟨rfl, _⟩ | ⟨g, c, row, rfl, h1, h2, h3⟩
  · intro q; cases q
  · intro q
    have q : b = g := Option.some.inj q
    subst q
    rw [h2] at hb
    injection hb with hb
    injection hb with _ hb
    exact ht hb
theorem own_kept {B C : Nat} {w w' : World} {v v2 : Value} {fs : Fs} {Y : List UInt8} (h : OwnF B w v fs) (o : Own C w v2 Y) (K : ∀ k, k < w.heap.size → some k ≠ v.ownBlock → w'.heap[k]? = w.heap[k]?) : Own C w' v2 Y := by
  obtain ⟨e, q⟩ := o
  refine ⟨e, ?_⟩
  rcases q with q | ⟨g, c, row, e1, h1, h2, h3⟩
  · exact .inl q
  · exact .inr ⟨g, c, row, e1, h1, (K g (Array.getElem?_eq_some_iff.1 h2).1 (ownF_ne h h2 (by decide))).trans h2, h3⟩
theorem own_other {B : Nat} {w : World} {v : Value} {Y : List UInt8} {b : Nat} {cs : Array Value} {t : TypeId} (o : Own B w v Y) (hb : w.heap[b]? = some (.cells cs t)) (ht : ¬ 5 = t) (q : Nat) (x : Value) : Own B (w.setCell ⟨b, q, none⟩ x) v Y := by
  obtain ⟨e, h⟩ := o
  refine ⟨e, ?_⟩
  rcases h with h | ⟨g, c, row, e1, h1, h2, h3, h4, h5⟩
  · exact .inl h
  · have hne : g ≠ b := by
      rintro rfl
      rw [h2] at hb
      injection hb with hb
      injection hb with _ hb
      exact ht hb
    exact .inr ⟨g, c, row, e1, h1, (sset_away hne).trans h2, h3, h4, h5⟩
theorem sblk_set4 {w : World} {b : Nat} {y0 y1 y2 y3 y4 : Value} {t : TypeId} (h : w.heap[b]? = some (.cells #[y0, y1, y2, y3, y4] t)) (v : Value) : (w.setCell ⟨b, 4, none⟩ v).heap[b]? = some (.cells #[y0, y1, y2, y3, v] t) := by
  simp [World.setCell, Array.getElem?_modify, h]
theorem step_appW {o : Oper} {a : Act} {K : Act → World → Prop} {Q : Exit → Act → World → Prop} {w w' : World} {v' : Value} {t : TypeId} (s x : Operand)
    (ho : o.op = .call { callee := .builtin .append, args := #[s, x], argTypes := #[t, t] }) (hty : o.type = t) (vs vx : Value) (hs : a.eval s = vs) (hx : a.eval x = vx)
    (hr : (Builtin.append_ #[t, t] t #[vs, vx]).run Tryz.prog w = .ok v' w') (hK : K (a.put o.dst v') w') : Oper.wp Tryz.prog o a w K Q := by
  unfold Oper.wp execOp
  simp only [ho, hty, resolve, invoke, builtin, Sem.run_bind, Sem.run_pure, Result.andThen_ok, List.map_toArray, List.map_cons, List.map_nil, hs, hx, hr]
  exact hK
/-- The answer in its block, its fields and its body. -/
def OutAt (B ob : Nat) (wx : World) (code : Int) (reason : ByteArray) (F : Fs) (BD : List UInt8) : Prop :=
  ∃ a8 c8 b8 d8, wx.heap[ob]? = some (.cells #[.int .i64 code, .string reason, .int .i64 1, .slice a8 F.length c8, .slice b8 BD.length d8] 40) ∧ OwnF B wx (.slice a8 F.length c8) F ∧ Own B wx (.slice b8 BD.length d8) BD
set_option maxRecDepth 100000 in
set_option maxHeartbeats 4000000 in
theorem r12resp_any (m reason : ByteArray) (code minor : Int) (fs : Fs) (body : List UInt8) (fa ba : Option Addr) (fc bc kb : Nat) (t : Bool) (w : World)
    (hf : Fds w.heap.size w (.slice fa fs.length fc) fs) (hb : Src w kb (.slice ba body.length bc) body) (hkb : 0 < body.length → kb < w.heap.size)
    (bf : FBd 1048576 fs) (bb : body.length ≤ 1048576) (lf : fs.length ≤ 1024) :
    Calls Tryz.prog 18 #[.agg #[.int .i64 code, .string reason, .int .i64 minor, .slice fa fs.length fc, .slice ba body.length bc], .string m, .bool t] w
      fun e w' => ∃ ao co bo cb, e = .returned (.agg #[.int .i64 code, .string reason, .int .i64 1, .slice ao (backF m code minor fs body.length t).length co, .slice bo (backB m code minor fs body).length cb]) ∧
        OwnF w.heap.size w' (.slice ao (backF m code minor fs body.length t).length co) (backF m code minor fs body.length t) ∧ Own w.heap.size w' (.slice bo (backB m code minor fs body).length cb) (backB m code minor fs body) ∧ Below w.heap.size w w' := by
  obtain ⟨SN, hSN⟩ : ∃ x, backF m code minor fs body.length t = x := ⟨_, rfl⟩
  obtain ⟨BD, hBD⟩ : ∃ x, backB m code minor fs body = x := ⟨_, rfl⟩
  obtain ⟨t0, ht0⟩ : ∃ x, hasR m code minor fs = x := ⟨_, rfl⟩
  obtain ⟨KF, hKF⟩ : ∃ x, keepF fs (hopP (listF fs connN)) = x := ⟨_, rfl⟩
  rw [hSN, hBD]
  obtain ⟨FG, hFG⟩ : ∃ x, KF ++ (if t0 = true then [(lenN, itoaS (body.length : Int))] else []) = x := ⟨_, rfl⟩
  have HSN : Hid (withC FG t = SN) := by rw [Hid, ← hSN, ← hFG, ← ht0, ← hKF]; rfl
  have HFG := hidS hFG
  have HBD : Hid ((if t0 = true then body else []) = BD) := by rw [Hid, ← hBD, ← ht0]; rfl
  have hKL : KF.length ≤ 1024 := by rw [← hKF]; exact Nat.le_trans (List.length_filter_le _ _) lf
  have HT0 : Hid ((!decide ((respF m code minor fs).1 = 0) || !(respF m code minor fs).2.2) = t0) := ht0
  have hGL : FG.length ≤ 1100 := by
    rw [← hFG, List.length_append]
    split <;> simp <;> omega
  have HON : Hid (∀ W, Below w.heap.size w W → Calls Tryz.prog 47 #[.slice fa fs.length fc] W fun e w' => ∃ ao cv, e = .returned (.slice ao KF.length cv) ∧ OwnF W.heap.size w' (.slice ao KF.length cv) KF ∧ Below W.heap.size W w') := fun W B => by
    have k := r12onward_any fs fa fc W ((hf.keep B).mono B.size) bf lf
    rw [hKF] at k
    exact k
  clear hSN hBD ht0 hKF hFG
  have W0a : Below w.heap.size w (w.alloc (.cells #[.int .i64 code, .string reason, .int .i64 minor, .slice fa fs.length fc, .slice ba body.length bc] 40)) := (Below.refl _ _).alloc (Nat.le_refl _) _
  have W0 := W0a.alloc W0a.size (.cells #[.int .i64 0, .string ⟨#[]⟩, .int .i64 0, .slice none 0 0, .slice none 0 0] 40)
  clear W0a
  have k1 : ((w.alloc (.cells #[.int .i64 code, .string reason, .int .i64 minor, .slice fa fs.length fc, .slice ba body.length bc] 40)).alloc (.cells #[.int .i64 0, .string ⟨#[]⟩, .int .i64 0, .slice none 0 0, .slice none 0 0] 40)).heap[w.heap.size]? = some (.cells #[.int .i64 code, .string reason, .int .i64 minor, .slice fa fs.length fc, .slice ba body.length bc] 40) := (Below.heap_alloc _ _ _ (by simp)).trans (tblk_new _ _)
  have k3 : ((w.alloc (.cells #[.int .i64 code, .string reason, .int .i64 minor, .slice fa fs.length fc, .slice ba body.length bc] 40)).alloc (.cells #[.int .i64 0, .string ⟨#[]⟩, .int .i64 0, .slice none 0 0, .slice none 0 0] 40)).heap[w.heap.size + 1]? = some (.cells #[.int .i64 0, .string ⟨#[]⟩, .int .i64 0, .slice none 0 0, .slice none 0 0] 40) := by
    have k := tblk_new (w.alloc (.cells #[.int .i64 code, .string reason, .int .i64 minor, .slice fa fs.length fc, .slice ba body.length bc] 40)) (.cells #[.int .i64 0, .string ⟨#[]⟩, .int .i64 0, .slice none 0 0, .slice none 0 0] 40)
    rw [show (w.alloc (.cells #[.int .i64 code, .string reason, .int .i64 minor, .slice fa fs.length fc, .slice ba body.length bc] 40)).heap.size = w.heap.size + 1 by simp] at k
    exact k
  have hs1 : ((w.alloc (.cells #[.int .i64 code, .string reason, .int .i64 minor, .slice fa fs.length fc, .slice ba body.length bc] 40)).alloc (.cells #[.int .i64 0, .string ⟨#[]⟩, .int .i64 0, .slice none 0 0, .slice none 0 0] 40)).heap.size = w.heap.size + 2 := by simp
  have HJO : Hid (∀ W, Below w.heap.size w W → Calls Tryz.prog 46 #[.slice ba body.length bc, .slice (some ⟨W.heap.size, 0, none⟩) 0 0] (W.alloc (.cells #[] 5)) fun e w' => ∃ bo cb, e = .returned (.slice bo body.length cb) ∧ Own W.heap.size w' (.slice bo body.length cb) body ∧ Below W.heap.size W w') := fun W B => by
    have U : Below W.heap.size W (W.alloc (.cells #[] 5)) := (Below.refl _ _).alloc (Nat.le_refl _) _
    have BU := B.trans (U.mono B.size)
    refine (join_any body [] kb 0 _ _ _ (hb.keep hkb BU) (fun q => Nat.lt_of_lt_of_le (hkb q) BU.size) ⟨_, 0, rfl, Nat.le_refl _, by decide, fun q => absurd q (Nat.lt_irrefl 0)⟩ (fun q => absurd q (Nat.lt_irrefl 0)) (by simp; omega)).mono fun e w' ⟨v', e1, e2, e3⟩ => ?_
    rw [List.append_nil] at e2
    obtain ⟨bo, cb, rfl, _⟩ := e2.form
    exact ⟨bo, cb, e1, e2.mono U.size, U.trans (e3.mono U.size)⟩
  have HLE : Hid (∀ W, Calls Tryz.prog 48 #[.int .i64 (body.length : Int)] W fun e w' => e = .returned (.agg #[.string lenN, .string (itoaS (body.length : Int))]) ∧ Below W.heap.size W w') := fun W => r12length_any body.length W bb
  have HFR : Hid (∀ W, Below w.heap.size w W → Calls Tryz.prog 51 #[.string m, .agg #[.int .i64 code, .string reason, .int .i64 minor, .slice fa fs.length fc, .slice ba body.length bc]] W fun e w' => e = .returned (.tuple #[.int .i64 (respF m code minor fs).1, .int .i64 (respF m code minor fs).2.1, .bool (respF m code minor fs).2.2]) ∧ Below W.heap.size W w') := fun W B => rresponse_any m reason code minor fs fa ba fc body.length bc W ((hf.keep B).mono B.size) bf lf
  clear hf hb bf hkb
  generalize (respF m code minor fs).1 = k9 at *
  generalize (respF m code minor fs).2.1 = k10 at *
  generalize (respF m code minor fs).2.2 = r11 at *
  go_enter Tryz.func18, Tryz.ntmps18
  go_upto_region 1 with fail
  generalize ((w.alloc (.cells #[.int .i64 code, .string reason, .int .i64 minor, .slice fa fs.length fc, .slice ba body.length bc] 40)).alloc (.cells #[.int .i64 0, .string ⟨#[]⟩, .int .i64 0, .slice none 0 0, .slice none 0 0] 40)) = w1 at *
  have HSC : Hid (∀ W, Below w1.heap.size w1 W → W.cell? ⟨w.heap.size, 0, none⟩ = some (.int .i64 code) ∧ W.cell? ⟨w.heap.size, 1, none⟩ = some (.string reason) ∧ W.cell? ⟨w.heap.size, 3, none⟩ = some (.slice fa fs.length fc)) := fun W B => ⟨tblk_cell (tblk_below k1 B) rfl, tblk_cell (tblk_below k1 B) rfl, tblk_cell (tblk_below k1 B) rfl⟩
  have HD := (Below.refl w1.heap.size w1).drew
  obtain ⟨x0, x1, x3⟩ := HSC.out _ HD
  have HDA := ((Below.refl w1.heap.size w1).alloc (Nat.le_refl _) (.cells #[.int .i64 0, .string ⟨#[]⟩, .int .i64 0, .slice none 0 0, .slice none 0 0] 40)).drew
  obtain ⟨z0, z1, z3⟩ := HSC.out _ HDA
  have hZ : (w1.alloc (.cells #[.int .i64 0, .string ⟨#[]⟩, .int .i64 0, .slice none 0 0, .slice none 0 0] 40)).drew.heap[w1.heap.size]? = some (.cells #[.int .i64 0, .string ⟨#[]⟩, .int .i64 0, .slice none 0 0, .slice none 0 0] 40) := tblk_new w1 (.cells #[.int .i64 0, .string ⟨#[]⟩, .int .i64 0, .slice none 0 0, .slice none 0 0] 40)
  have HK1 := hidS k1
  have HK3 := hidS k3
  have HW0 := hidS W0
  have HS1 : Hid (w.heap.size + 2 = w1.heap.size) := hs1.symm
  have hne0 : ¬ w1.heap.size = w.heap.size := by omega
  have hne1 : ¬ w.heap.size = w1.heap.size := by omega
  clear k1 k3 W0 hs1
  go_cut [7] from 11 (fun v7 wx => ∃ ob, v7 = .pointer (some ⟨ob, 0, none⟩) ∧ Hid (w.heap.size + 2 ≤ ob) ∧ Hid (OutAt (w.heap.size + 2) ob wx code reason KF []) ∧ Hid (Below w.heap.size w wx) ∧ Hid (wx.heap[w.heap.size]? = some (.cells #[.int .i64 code, .string reason, .int .i64 minor, .slice fa fs.length fc, .slice ba body.length bc] 40)) ∧ Hid (wx.heap[w.heap.size + 1]? = some (.cells #[.int .i64 0, .string ⟨#[]⟩, .int .i64 0, .slice none 0 0, .slice none 0 0] 40)))
  case first =>
    go_region_held3 (fun W => W.cell? ⟨w.heap.size, 0, none⟩ = some (.int .i64 code) ∧ W.cell? ⟨w.heap.size, 1, none⟩ = some (.string reason) ∧ W.cell? ⟨w.heap.size, 3, none⟩ = some (.slice fa fs.length fc)) (go_keep) (first | (go_at_call 47; refine (HON.out _ (HW0.out.trans (HD.mono HW0.out.size))).mono ?_; rintro e w2 ⟨ao, co, rfl, O2, B2⟩; have B2' := HD.trans (B2.mono HD.size); have hS := HSC.out w2 B2'; have hS2 := HSC.out (w2.alloc (.cells #[.int .i64 0, .string ⟨#[]⟩, .int .i64 0, .slice none 0 0, .slice none 0 0] 40)) (B2'.alloc B2'.size _); obtain ⟨s4, s5', s6⟩ := hS2; have hN := tblk_new w2 (.cells #[.int .i64 0, .string ⟨#[]⟩, .int .i64 0, .slice none 0 0, .slice none 0 0] 40); have v0 : (w2.alloc (.cells #[.int .i64 0, .string ⟨#[]⟩, .int .i64 0, .slice none 0 0, .slice none 0 0] 40)).cell? ⟨w2.heap.size, 0, none⟩ = some (.int .i64 0) := tblk_cell hN rfl; have v1 : (w2.alloc (.cells #[.int .i64 0, .string ⟨#[]⟩, .int .i64 0, .slice none 0 0, .slice none 0 0] 40)).cell? ⟨w2.heap.size, 1, none⟩ = some (.string ⟨#[]⟩) := tblk_cell hN rfl; have v2 : (w2.alloc (.cells #[.int .i64 0, .string ⟨#[]⟩, .int .i64 0, .slice none 0 0, .slice none 0 0] 40)).cell? ⟨w2.heap.size, 2, none⟩ = some (.int .i64 0) := tblk_cell hN rfl; have v3 : (w2.alloc (.cells #[.int .i64 0, .string ⟨#[]⟩, .int .i64 0, .slice none 0 0, .slice none 0 0] 40)).cell? ⟨w2.heap.size, 3, none⟩ = some (.slice none 0 0) := tblk_cell hN rfl; have v4 : (w2.alloc (.cells #[.int .i64 0, .string ⟨#[]⟩, .int .i64 0, .slice none 0 0, .slice none 0 0] 40)).cell? ⟨w2.heap.size, 4, none⟩ = some (.slice none 0 0) := tblk_cell hN rfl; have p0 := sblk_z (i := 0) hN; have p1 := sblk_z (i := 1) hN; have p2 := sblk_z (i := 2) hN; have p3 := sblk_z (i := 3) hN; have p4 := sblk_z (i := 4) hN) | (go_at_call 47; refine (HON.out _ (HW0.out.trans (HDA.mono HW0.out.size))).mono ?_; rintro e w2 ⟨ao, co, rfl, O2, B2⟩; have B2' := HDA.trans (B2.mono HDA.size); have hS := HSC.out w2 B2'; have hZ2 := tblk_below hZ B2; have hu0 : w2.cell? ⟨w1.heap.size, 0, none⟩ = some (.int .i64 0) := tblk_cell hZ2 rfl; have hu1 : w2.cell? ⟨w1.heap.size, 1, none⟩ = some (.string ⟨#[]⟩) := tblk_cell hZ2 rfl; have hu2 : w2.cell? ⟨w1.heap.size, 2, none⟩ = some (.int .i64 0) := tblk_cell hZ2 rfl; have hu3 : w2.cell? ⟨w1.heap.size, 3, none⟩ = some (.slice none 0 0) := tblk_cell hZ2 rfl; have hu4 : w2.cell? ⟨w1.heap.size, 4, none⟩ = some (.slice none 0 0) := tblk_cell hZ2 rfl; have fz0 := sblk_z (i := 0) hZ2; have fz1 := sblk_z (i := 1) hZ2; have fz2 := sblk_z (i := 2) hZ2; have fz3 := sblk_z (i := 3) hZ2; have fz4 := sblk_z (i := 4) hZ2))
    · have V3 : Below w2.heap.size w2 (w2.alloc (.cells #[.int .i64 code, .string reason, .int .i64 1, .slice ao KF.length co, .slice none 0 0] 40)) := (Below.refl _ _).alloc (Nat.le_refl _) _
      have B13 := B2'.trans (V3.mono B2'.size)
      have m1 := hidS (tblk_below HK1.out B13)
      have m3 := hidS (tblk_below HK3.out B13)
      have gO := tblk_new w2 (.cells #[.int .i64 code, .string reason, .int .i64 1, .slice ao KF.length co, .slice none 0 0] 40)
      have OO := (O2.mono (C := w.heap.size + 2) (by have := HD.size; have := HS1.out; omega)).keep V3
      have HW3 := hidS (HW0.out.trans (B13.mono HW0.out.size))
      have hz2 : Hid (w.heap.size + 2 ≤ w2.heap.size) := by have := B2'.size; have := HS1.out; rw [Hid]; omega
      have HOU : Hid (OutAt (w.heap.size + 2) w2.heap.size (w2.alloc (.cells #[.int .i64 code, .string reason, .int .i64 1, .slice ao KF.length co, .slice none 0 0] 40)) code reason KF []) := ⟨ao, co, none, 0, gO, OO, Own.nil _ _⟩
      clear V3 B13 gO OO B2' B2 O2 hN hS
      go_wp2
      go_meet
      exact ⟨_, rfl, hz2, HOU, HW3, m1, m3⟩
    · have hq := (Below.refl w1.heap.size w1).alloc (Nat.le_refl _) (.cells #[.int .i64 0, .string ⟨#[]⟩, .int .i64 0, .slice none 0 0, .slice none 0 0] 40)
      have hq2 : w1.heap.size + 1 ≤ (w1.alloc (.cells #[.int .i64 0, .string ⟨#[]⟩, .int .i64 0, .slice none 0 0, .slice none 0 0] 40)).drew.heap.size := by show w1.heap.size + 1 ≤ (w1.alloc (.cells #[.int .i64 0, .string ⟨#[]⟩, .int .i64 0, .slice none 0 0, .slice none 0 0] 40)).heap.size; simp
      have hq3 := B2.size
      have g5 := s5_cells hZ2 (.int .i64 code) (.string reason) (.int .i64 1) (.slice ao KF.length co) (.slice none 0 0)
      have OO := (O2.awayS (w' := s5 w2 w1.heap.size (.int .i64 code) (.string reason) (.int .i64 1) (.slice ao KF.length co) (.slice none 0 0)) (fun k hk _ => s5_away (by omega))).mono (C := w.heap.size + 2) (by have := HS1.out; omega)
      have m1 := hidS ((s5_away (w := w2) (b := w1.heap.size) (v0 := .int .i64 code) (v1 := .string reason) (v2 := .int .i64 1) (v3 := .slice ao KF.length co) (v4 := .slice none 0 0) (show w.heap.size ≠ w1.heap.size by have := HS1.out; omega)).trans (tblk_below HK1.out B2'))
      have m3 := hidS ((s5_away (w := w2) (b := w1.heap.size) (v0 := .int .i64 code) (v1 := .string reason) (v2 := .int .i64 1) (v3 := .slice ao KF.length co) (v4 := .slice none 0 0) (show w.heap.size + 1 ≠ w1.heap.size by have := HS1.out; omega)).trans (tblk_below HK3.out B2'))
      have HW3 := hidS (s5_below (.int .i64 code) (.string reason) (.int .i64 1) (.slice ao KF.length co) (.slice none 0 0) (HW0.out.trans (B2'.mono HW0.out.size)) (show w.heap.size ≤ w1.heap.size by have := HS1.out; omega))
      have HOU : Hid (OutAt (w.heap.size + 2) w1.heap.size (s5 w2 w1.heap.size (.int .i64 code) (.string reason) (.int .i64 1) (.slice ao KF.length co) (.slice none 0 0)) code reason KF []) := ⟨ao, co, none, 0, g5, OO, Own.nil _ _⟩
      have hz2 : Hid (w.heap.size + 2 ≤ w1.heap.size) := by have := HS1.out; rw [Hid]; omega
      unfold s5 at m1 m3 HW3 HOU
      clear hq hq2 hq3 g5 OO B2' B2 O2 hZ2 hS
      go_wp2
      go_meet
      exact ⟨_, rfl, hz2, HOU, HW3, m1, m3⟩
  case rest =>
    obtain ⟨ob, rfl, hob, HOU, HW3h, HM1, HM3⟩ := hcut
    have HW3 := HW3h.out
    have m1 := HM1.out
    have m3 := HM3.out
    clear HW3h HM1 HM3 HON HSC HK1 HK3 HW0
    have y0 : wc.cell? ⟨w.heap.size, 0, none⟩ = some (.int .i64 code) := tblk_cell m1 rfl
    have y1 : wc.cell? ⟨w.heap.size, 1, none⟩ = some (.string reason) := tblk_cell m1 rfl
    have y2 : wc.cell? ⟨w.heap.size, 2, none⟩ = some (.int .i64 minor) := tblk_cell m1 rfl
    have y3 : wc.cell? ⟨w.heap.size, 3, none⟩ = some (.slice fa fs.length fc) := tblk_cell m1 rfl
    have y4 : wc.cell? ⟨w.heap.size, 4, none⟩ = some (.slice ba body.length bc) := tblk_cell m1 rfl
    have HFR3 := hidS (HFR.out wc HW3)
    clear HFR
    go_wp2_with fail
    refine HFR3.out.mono ?_
    rintro e w4 ⟨rfl, B4⟩
    have HW4 := hidS (HW3.trans (B4.mono HW3.size))
    have M1 := hidS (tblk_below m1 B4)
    have M3 := hidS (tblk_below m3 B4)
    have HO4 : Hid (OutAt (w.heap.size + 2) ob w4 code reason KF []) := by
      obtain ⟨a8, c8, b8, d8, o1, o2, o3⟩ := HOU.out
      exact ⟨a8, c8, b8, d8, tblk_below o1 B4, o2.keep B4, o3.keep B4⟩
    clear y0 y1 y2 y3 y4 HFR3 B4 HW3 m1 m3 HOU
    go_upto_region 3 with fail
    go_cut [31] from 26 (fun v wx => v = .bool t0 ∧ wx = w4)
    case first =>
      by_cases hk : k9 = 0
      · have e : Hid ((!r11) = t0) := by rw [Hid, ← HT0.out]; simp [hk]
        subst hk
        go_wp2
        go_meet
        exact ⟨by rw [e.out], rfl⟩
      · have e : Hid (true = t0) := by rw [Hid, ← HT0.out]; simp [hk]
        have hk2 : (k9 != 0) = true := by simp [hk]
        have hk3 : (k9 == 0) = false := by simp [hk]
        go_wp2
        go_meet
        exact ⟨by rw [e.out], rfl⟩
    case rest =>
      obtain ⟨rfl, rfl⟩ := hcut
      clear HT0
      go_upto_if 31 with fail
      go_cut [7] from 32 (fun v7 wx => v7 = .pointer (some ⟨ob, 0, none⟩) ∧ Hid (OutAt (w.heap.size + 2) ob wx code reason FG BD) ∧ Hid (Below w.heap.size w wx) ∧ Hid (wx.heap[w.heap.size + 1]? = some (.cells #[.int .i64 0, .string ⟨#[]⟩, .int .i64 0, .slice none 0 0, .slice none 0 0] 40)))
      case first =>
        cases t0
        · have e : [] = BD := by rw [← HBD.out]; rfl
          have e2 : KF = FG := by rw [← HFG.out]; simp
          subst e e2
          go_wp2_with fail
          go_meet
          exact ⟨rfl, HO4, HW4, M3⟩
        · have e : body = BD := by rw [← HBD.out]; rfl
          have e2 : KF ++ [(lenN, itoaS (body.length : Int))] = FG := by rw [← HFG.out]; simp
          clear HBD HFG
          subst e
          obtain ⟨a8, c8, b8, d8, o1, o2, o3⟩ := HO4.out
          have x4 : wc.cell? ⟨w.heap.size, 4, none⟩ = some (.slice ba body.length bc) := tblk_cell M1.out rfl
          have HJ := hidS (HJO.out wc HW4.out)
          have O1 := hidS o1
          have O2 := hidS o2
          clear HO4 o1 o2 o3 HJO
          go_wp2_with fail
          refine HJ.out.mono ?_
          rintro e1 w5 ⟨bo, cb, rfl, OB, B5⟩
          have p1 := tblk_below O1.out B5
          have p2 := O2.out.keep B5
          have q1 := tblk_below M1.out B5
          have q3 := tblk_below M3.out B5
          have W5 := HW4.out.trans (B5.mono HW4.out.size)
          have hzc := HW4.out.size
          have z4 := sblk_z (i := 4) p1
          have x4' : w5.cell? ⟨ob, 4, none⟩ = some (.slice b8 ([] : List UInt8).length d8) := tblk_cell p1 rfl
          have P1 := hidS (sblk_set4 p1 (.slice bo body.length cb))
          have P2 := hidS (p2.other p1 (by decide) 4 (.slice bo body.length cb))
          have PB := hidS ((own_other OB p1 (by decide) 4 (.slice bo body.length cb)).mono (C := w.heap.size + 2) (by have := heap_lt M3.out; omega))
          have Q1 := hidS ((sset_away (i := 4) (v := .slice bo body.length cb) (show w.heap.size ≠ ob by have := hob.out; omega)).trans q1)
          have Q3 := hidS ((sset_away (i := 4) (v := .slice bo body.length cb) (show w.heap.size + 1 ≠ ob by have := hob.out; omega)).trans q3)
          have WS := hidS (W5.setCell (p := ⟨ob, 4, none⟩) (by show w.heap.size ≤ ob; have := hob.out; omega) (.slice bo body.length cb))
          clear HJ OB B5 p2 q1 q3 W5 O1 O2 HW4 M1 M3 x4 p1
          go_upto_region 5 with fail
          generalize (w5.setCell ⟨ob, 4, none⟩ (.slice bo body.length cb)) = w6 at *
          clear z4 x4'
          obtain ⟨vs, hvs⟩ : ∃ vs, Value.slice a8 KF.length c8 = vs := ⟨_, rfl⟩
          rw [hvs] at P1 P2
          clear hvs
          have HSC6 : Hid (∀ W, Below w6.heap.size w6 W → W.cell? ⟨w.heap.size, 4, none⟩ = some (.slice ba body.length bc) ∧ W.cell? ⟨ob, 3, none⟩ = some vs) := fun W B => ⟨tblk_cell (tblk_below Q1.out B) rfl, tblk_cell (tblk_below P1.out B) rfl⟩
          have hob' := heap_lt P1.out
          have HAP : Hid (∀ w13, Below w6.heap.size w6 w13 → ∃ a14 c14 w14, (Builtin.append_ #[22, 22] 22 #[vs, .slice (some ⟨w13.heap.size, 0, none⟩) 1 1]).run Tryz.prog (w13.alloc (.cells #[.string lenN, .string (itoaS (body.length : Int))] 34)) = .ok (.slice a14 FG.length c14) w14 ∧ w14.cell? ⟨w.heap.size, 4, none⟩ = some (.slice ba body.length bc) ∧ w14.cell? ⟨ob, 3, none⟩ = some vs ∧ w14.frozen? ⟨ob, 3, none⟩ = false ∧ Hid (OutAt (w.heap.size + 2) ob (w14.setCell ⟨ob, 3, none⟩ (.slice a14 FG.length c14)) code reason FG body) ∧ Hid (Below w.heap.size w (w14.setCell ⟨ob, 3, none⟩ (.slice a14 FG.length c14))) ∧ Hid ((w14.setCell ⟨ob, 3, none⟩ (.slice a14 FG.length c14)).heap[w.heap.size + 1]? = some (.cells #[.int .i64 0, .string ⟨#[]⟩, .int .i64 0, .slice none 0 0, .slice none 0 0] 40))) := fun w13 B => by
            have V : Below w13.heap.size w13 (w13.alloc (.cells #[.string lenN, .string (itoaS (body.length : Int))] 34)) := (Below.refl _ _).alloc (Nat.le_refl _) _
            have hq := B.size
            have hq2 := V.size
            have hq6 := heap_lt Q3.out
            have B2 := B.trans (V.mono hq)
            have OV := P2.out.keep B2
            obtain ⟨v14, w14, r14, O14, B14, K14⟩ := ownF_app2 OV (fds_new w13 lenN (itoaS (body.length : Int))) (by simp; omega) (by omega)
            rw [e2] at O14
            obtain ⟨a14, c14, rfl, _⟩ := O14.form
            have gO := (K14 ob (by omega) (ownF_ne OV (tblk_below P1.out B2) (by decide))).trans (tblk_below P1.out B2)
            have gQ := (B14.block w.heap.size (by omega)).trans (tblk_below Q1.out B2)
            have gR := (B14.block (w.heap.size + 1) (by omega)).trans (tblk_below Q3.out B2)
            have oB := own_kept OV (PB.out.keep B2) K14
            exact ⟨a14, c14, w14, r14, tblk_cell gQ rfl, tblk_cell gO rfl, sblk_z gO, ⟨a14, c14, bo, cb, sblk_set3 gO _, O14.other gO (by decide) 3 _, own_other oB gO (by decide) 3 _⟩, ((WS.out.trans (B2.mono WS.out.size)).trans (B14.mono (Nat.le_add_right _ _))).setCell (p := ⟨ob, 3, none⟩) (by show w.heap.size ≤ ob; have := hob.out; omega) _, (sset_away (by have := hob.out; omega)).trans gR⟩
          have HD6 := (Below.refl w6.heap.size w6).drew
          obtain ⟨x4, x3⟩ := HSC6.out _ HD6
          have hnb : ¬ ob = w.heap.size := by have := hob.out; omega
          unfold lenN at HLE HAP
          clear P1 P2 PB Q1 Q3 WS
          go_region_law (first | (refine step_app rfl _ _ rfl rfl _ _ rfl rfl r14 ?_) | (go_simp; go_at_call 48; refine (HLE.out _).mono ?_; rintro e1 w13 ⟨rfl, B13⟩; have B13' := HD6.trans (B13.mono HD6.size); have hS := HSC6.out _ B13'; obtain ⟨s4, s3⟩ := hS; have hS9 := HSC6.out (w13.alloc (.cells #[.string ⟨#[67, 111, 110, 116, 101, 110, 116, 45, 76, 101, 110, 103, 116, 104]⟩, .string (itoaS (body.length : Int))] 34)) (B13'.alloc B13'.size _); obtain ⟨s5', s6⟩ := hS9; obtain ⟨a14, c14, w14, r14, i4, i3, iz, iO, iB, iR⟩ := HAP.out _ B13'; dsimp only))
          all_goals
            clear s4 s3 s5' s6 i4 i3 iz r14 x4 x3 HAP HSC6 HD6 B13 B13'
            go_wp2
            go_meet
            exact ⟨rfl, iO, iB, iR⟩
      case rest =>
        obtain ⟨rfl, HO, HWW, HQ3⟩ := hcut
        obtain ⟨a8, c8, b8, d8, gO, OF, OB⟩ := HO.out
        have gR := HQ3.out
        have HB := HWW.out
        have hob1 : w.heap.size + 2 ≤ ob := hob.out
        have hobl := heap_lt gO
        clear HO HWW HQ3 HBD HFG HLE HJO HO4 HW4 M1 M3 hob
        cases t
        · have e : FG = SN := HSN.out
          rw [e] at OF gO
          have OZ := OF
          clear HSN OF e
          have x0 : wc.cell? ⟨ob, 0, none⟩ = some (.int .i64 code) := tblk_cell gO rfl
          have x1 : wc.cell? ⟨ob, 1, none⟩ = some (.string reason) := tblk_cell gO rfl
          have x2 : wc.cell? ⟨ob, 2, none⟩ = some (.int .i64 1) := tblk_cell gO rfl
          have x3 : wc.cell? ⟨ob, 3, none⟩ = some (.slice a8 SN.length c8) := tblk_cell gO rfl
          have x4 : wc.cell? ⟨ob, 4, none⟩ = some (.slice b8 BD.length d8) := tblk_cell gO rfl
          have y0 : wc.cell? ⟨w.heap.size + 1, 0, none⟩ = some (.int .i64 0) := tblk_cell gR rfl
          have y1 : wc.cell? ⟨w.heap.size + 1, 1, none⟩ = some (.string ⟨#[]⟩) := tblk_cell gR rfl
          have y2 : wc.cell? ⟨w.heap.size + 1, 2, none⟩ = some (.int .i64 0) := tblk_cell gR rfl
          have y3 : wc.cell? ⟨w.heap.size + 1, 3, none⟩ = some (.slice none 0 0) := tblk_cell gR rfl
          have y4 : wc.cell? ⟨w.heap.size + 1, 4, none⟩ = some (.slice none 0 0) := tblk_cell gR rfl
          have z0 := sblk_z (i := 0) gR
          have z1 := sblk_z (i := 1) gR
          have z2 := sblk_z (i := 2) gR
          have z3 := sblk_z (i := 3) gR
          have z4 := sblk_z (i := 4) gR
          have h6 := s5_cells gR (.int .i64 code) (.string reason) (.int .i64 1) (.slice a8 SN.length c8) (.slice b8 BD.length d8)
          have r0 : (((((wc.setCell ⟨w.heap.size + 1, 0, none⟩ (.int .i64 code)).setCell ⟨w.heap.size + 1, 1, none⟩ (.string reason)).setCell ⟨w.heap.size + 1, 2, none⟩ (.int .i64 1)).setCell ⟨w.heap.size + 1, 3, none⟩ (.slice a8 SN.length c8)).setCell ⟨w.heap.size + 1, 4, none⟩ (.slice b8 BD.length d8)).cell? ⟨w.heap.size + 1, 0, none⟩ = some (.int .i64 code) := tblk_cell h6 rfl
          have r1 : (((((wc.setCell ⟨w.heap.size + 1, 0, none⟩ (.int .i64 code)).setCell ⟨w.heap.size + 1, 1, none⟩ (.string reason)).setCell ⟨w.heap.size + 1, 2, none⟩ (.int .i64 1)).setCell ⟨w.heap.size + 1, 3, none⟩ (.slice a8 SN.length c8)).setCell ⟨w.heap.size + 1, 4, none⟩ (.slice b8 BD.length d8)).cell? ⟨w.heap.size + 1, 1, none⟩ = some (.string reason) := tblk_cell h6 rfl
          have r2 : (((((wc.setCell ⟨w.heap.size + 1, 0, none⟩ (.int .i64 code)).setCell ⟨w.heap.size + 1, 1, none⟩ (.string reason)).setCell ⟨w.heap.size + 1, 2, none⟩ (.int .i64 1)).setCell ⟨w.heap.size + 1, 3, none⟩ (.slice a8 SN.length c8)).setCell ⟨w.heap.size + 1, 4, none⟩ (.slice b8 BD.length d8)).cell? ⟨w.heap.size + 1, 2, none⟩ = some (.int .i64 1) := tblk_cell h6 rfl
          have r3 : (((((wc.setCell ⟨w.heap.size + 1, 0, none⟩ (.int .i64 code)).setCell ⟨w.heap.size + 1, 1, none⟩ (.string reason)).setCell ⟨w.heap.size + 1, 2, none⟩ (.int .i64 1)).setCell ⟨w.heap.size + 1, 3, none⟩ (.slice a8 SN.length c8)).setCell ⟨w.heap.size + 1, 4, none⟩ (.slice b8 BD.length d8)).cell? ⟨w.heap.size + 1, 3, none⟩ = some (.slice a8 SN.length c8) := tblk_cell h6 rfl
          have r4 : (((((wc.setCell ⟨w.heap.size + 1, 0, none⟩ (.int .i64 code)).setCell ⟨w.heap.size + 1, 1, none⟩ (.string reason)).setCell ⟨w.heap.size + 1, 2, none⟩ (.int .i64 1)).setCell ⟨w.heap.size + 1, 3, none⟩ (.slice a8 SN.length c8)).setCell ⟨w.heap.size + 1, 4, none⟩ (.slice b8 BD.length d8)).cell? ⟨w.heap.size + 1, 4, none⟩ = some (.slice b8 BD.length d8) := tblk_cell h6 rfl
          have HB6 := hidS (s5_below (.int .i64 code) (.string reason) (.int .i64 1) (.slice a8 SN.length c8) (.slice b8 BD.length d8) HB (show w.heap.size ≤ w.heap.size + 1 from Nat.le_succ _))
          have HO6 := hidS (OZ.awayS (w' := s5 wc (w.heap.size + 1) (.int .i64 code) (.string reason) (.int .i64 1) (.slice a8 SN.length c8) (.slice b8 BD.length d8)) (fun k hk _ => s5_away (by omega)))
          have HP6 := hidS (OB.awayS (w' := s5 wc (w.heap.size + 1) (.int .i64 code) (.string reason) (.int .i64 1) (.slice a8 SN.length c8) (.slice b8 BD.length d8)) (fun k hk _ => s5_away (by omega)))
          unfold s5 at HB6 HO6 HP6
          clear h6 gR gO OZ OB HB
          go_wp2
          refine bodyPost_ret (v := .agg #[.int .i64 code, .string reason, .int .i64 1, .slice a8 SN.length c8, .slice b8 BD.length d8]) (by simp [results, Tryz.results18, go_sem, r0, r1, r2, r3, r4]) rfl ?_
          exact ⟨a8, c8, b8, d8, rfl, HO6.out.mono (Nat.le_add_right _ _), HP6.out.mono (Nat.le_add_right _ _), HB6.out⟩
        · have e : FG ++ [(connN, ⟨#[99, 108, 111, 115, 101]⟩)] = SN := HSN.out
          have U6 : Below wc.heap.size wc (wc.alloc (.cells #[.string connN, .string ⟨#[99, 108, 111, 115, 101]⟩] 34)) := (Below.refl _ _).alloc (Nat.le_refl _) _
          have hz6 := U6.size
          obtain ⟨v7, w7, r7, O7, B7, K7⟩ := ownF_app2 (OF.keep U6) (fds_new wc connN ⟨#[99, 108, 111, 115, 101]⟩) (by simp; omega) (by omega)
          have OB7 := own_kept (OF.keep U6) (OB.keep U6) K7
          have gO7 := (K7 ob (by omega) (ownF_ne (OF.keep U6) (tblk_below gO U6) (by decide))).trans (tblk_below gO U6)
          have gR7 := (B7.block (w.heap.size + 1) (by omega)).trans (tblk_below gR U6)
          have HB7 := (HB.trans (U6.mono HB.size)).trans (B7.mono (Nat.le_add_right _ _))
          rw [e] at O7
          obtain ⟨a7, c7, rfl, _⟩ := O7.form
          have gO8 := sblk_set3 gO7 (.slice a7 SN.length c7)
          have gR8 := (sset_away (i := 3) (v := .slice a7 SN.length c7) (show w.heap.size + 1 ≠ ob by omega)).trans gR7
          have O8 := O7.other gO7 (by decide) 3 (.slice a7 SN.length c7)
          have OB8 := own_other OB7 gO7 (by decide) 3 (.slice a7 SN.length c7)
          have HB8 := HB7.setCell (p := ⟨ob, 3, none⟩) (by show w.heap.size ≤ ob; omega) (.slice a7 SN.length c7)
          have HRR := hidS r7
          have e3 : wc.cell? ⟨ob, 3, none⟩ = some (.slice a8 FG.length c8) := tblk_cell gO rfl
          have q3 : w7.cell? ⟨ob, 3, none⟩ = some (.slice a8 FG.length c8) := tblk_cell gO7 rfl
          have qz := sblk_z (i := 3) gO7
          clear gO gR gO7 gR7 OF U6 O7 B7 K7 HB HB7 r7 OB OB7 HSN e
          unfold connN at HRR
          go_upto_region 8 with (at_builtin; refine wpList_append_run2 rfl _ _ 22 22 rfl _ _ _ w7 rfl rfl HRR.out ?_)
          clear e3 q3 qz HRR
          generalize (w7.setCell ⟨ob, 3, none⟩ (.slice a7 SN.length c7)) = w8 at *
          have gO := gO8
          have gR := gR8
          have OZ := O8
          have OB := OB8
          have HB := HB8
          clear gO8 gR8 O8 OB8 HB8
          have x0 : w8.cell? ⟨ob, 0, none⟩ = some (.int .i64 code) := tblk_cell gO rfl
          have x1 : w8.cell? ⟨ob, 1, none⟩ = some (.string reason) := tblk_cell gO rfl
          have x2 : w8.cell? ⟨ob, 2, none⟩ = some (.int .i64 1) := tblk_cell gO rfl
          have x3 : w8.cell? ⟨ob, 3, none⟩ = some (.slice a7 SN.length c7) := tblk_cell gO rfl
          have x4 : w8.cell? ⟨ob, 4, none⟩ = some (.slice b8 BD.length d8) := tblk_cell gO rfl
          have y0 : w8.cell? ⟨w.heap.size + 1, 0, none⟩ = some (.int .i64 0) := tblk_cell gR rfl
          have y1 : w8.cell? ⟨w.heap.size + 1, 1, none⟩ = some (.string ⟨#[]⟩) := tblk_cell gR rfl
          have y2 : w8.cell? ⟨w.heap.size + 1, 2, none⟩ = some (.int .i64 0) := tblk_cell gR rfl
          have y3 : w8.cell? ⟨w.heap.size + 1, 3, none⟩ = some (.slice none 0 0) := tblk_cell gR rfl
          have y4 : w8.cell? ⟨w.heap.size + 1, 4, none⟩ = some (.slice none 0 0) := tblk_cell gR rfl
          have z0 := sblk_z (i := 0) gR
          have z1 := sblk_z (i := 1) gR
          have z2 := sblk_z (i := 2) gR
          have z3 := sblk_z (i := 3) gR
          have z4 := sblk_z (i := 4) gR
          have h6 := s5_cells gR (.int .i64 code) (.string reason) (.int .i64 1) (.slice a7 SN.length c7) (.slice b8 BD.length d8)
          have r0 : (((((w8.setCell ⟨w.heap.size + 1, 0, none⟩ (.int .i64 code)).setCell ⟨w.heap.size + 1, 1, none⟩ (.string reason)).setCell ⟨w.heap.size + 1, 2, none⟩ (.int .i64 1)).setCell ⟨w.heap.size + 1, 3, none⟩ (.slice a7 SN.length c7)).setCell ⟨w.heap.size + 1, 4, none⟩ (.slice b8 BD.length d8)).cell? ⟨w.heap.size + 1, 0, none⟩ = some (.int .i64 code) := tblk_cell h6 rfl
          have r1 : (((((w8.setCell ⟨w.heap.size + 1, 0, none⟩ (.int .i64 code)).setCell ⟨w.heap.size + 1, 1, none⟩ (.string reason)).setCell ⟨w.heap.size + 1, 2, none⟩ (.int .i64 1)).setCell ⟨w.heap.size + 1, 3, none⟩ (.slice a7 SN.length c7)).setCell ⟨w.heap.size + 1, 4, none⟩ (.slice b8 BD.length d8)).cell? ⟨w.heap.size + 1, 1, none⟩ = some (.string reason) := tblk_cell h6 rfl
          have r2 : (((((w8.setCell ⟨w.heap.size + 1, 0, none⟩ (.int .i64 code)).setCell ⟨w.heap.size + 1, 1, none⟩ (.string reason)).setCell ⟨w.heap.size + 1, 2, none⟩ (.int .i64 1)).setCell ⟨w.heap.size + 1, 3, none⟩ (.slice a7 SN.length c7)).setCell ⟨w.heap.size + 1, 4, none⟩ (.slice b8 BD.length d8)).cell? ⟨w.heap.size + 1, 2, none⟩ = some (.int .i64 1) := tblk_cell h6 rfl
          have r3 : (((((w8.setCell ⟨w.heap.size + 1, 0, none⟩ (.int .i64 code)).setCell ⟨w.heap.size + 1, 1, none⟩ (.string reason)).setCell ⟨w.heap.size + 1, 2, none⟩ (.int .i64 1)).setCell ⟨w.heap.size + 1, 3, none⟩ (.slice a7 SN.length c7)).setCell ⟨w.heap.size + 1, 4, none⟩ (.slice b8 BD.length d8)).cell? ⟨w.heap.size + 1, 3, none⟩ = some (.slice a7 SN.length c7) := tblk_cell h6 rfl
          have r4 : (((((w8.setCell ⟨w.heap.size + 1, 0, none⟩ (.int .i64 code)).setCell ⟨w.heap.size + 1, 1, none⟩ (.string reason)).setCell ⟨w.heap.size + 1, 2, none⟩ (.int .i64 1)).setCell ⟨w.heap.size + 1, 3, none⟩ (.slice a7 SN.length c7)).setCell ⟨w.heap.size + 1, 4, none⟩ (.slice b8 BD.length d8)).cell? ⟨w.heap.size + 1, 4, none⟩ = some (.slice b8 BD.length d8) := tblk_cell h6 rfl
          have HB6 := hidS (s5_below (.int .i64 code) (.string reason) (.int .i64 1) (.slice a7 SN.length c7) (.slice b8 BD.length d8) HB (show w.heap.size ≤ w.heap.size + 1 from Nat.le_succ _))
          have HO6 := hidS (OZ.awayS (w' := s5 w8 (w.heap.size + 1) (.int .i64 code) (.string reason) (.int .i64 1) (.slice a7 SN.length c7) (.slice b8 BD.length d8)) (fun k hk _ => s5_away (by omega)))
          have HP6 := hidS (OB.awayS (w' := s5 w8 (w.heap.size + 1) (.int .i64 code) (.string reason) (.int .i64 1) (.slice a7 SN.length c7) (.slice b8 BD.length d8)) (fun k hk _ => s5_away (by omega)))
          unfold s5 at HB6 HO6 HP6
          clear h6 gR gO OZ OB HB
          go_wp2
          refine bodyPost_ret (v := .agg #[.int .i64 code, .string reason, .int .i64 1, .slice a7 SN.length c7, .slice b8 BD.length d8]) (by simp [results, Tryz.results18, go_sem, r0, r1, r2, r3, r4]) rfl ?_
          exact ⟨a7, c7, b8, d8, rfl, HO6.out.mono (Nat.le_add_right _ _), HP6.out.mono (Nat.le_add_right _ _), HB6.out⟩
end Go.Proofs.YtajfjjmabncldaaGreatDoor
