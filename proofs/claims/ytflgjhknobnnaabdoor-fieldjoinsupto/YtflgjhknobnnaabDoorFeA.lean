/- FieldJoins, walked. -/
import Derived.Test.YtflgjhknobnnaabDoorFdA
namespace Go.Proofs.YtflgjhknobnnaabDoor
open Go.ChangeShapes Go.WideShapes Go.ChangeAt Go.RowKit
set_option linter.unusedVariables false

theorem getF_app (a b : Fs) (n : ByteArray) : getF (a ++ b) n = getF a n ++ getF b n := by unfold getF; rw [List.filter_append, List.map_append]
theorem splA_app (a b : List ByteArray) : splA (a ++ b) = splA a ++ splA b := by unfold splA; rw [List.flatMap_append]
theorem listF_app (a b : Fs) (n : ByteArray) : listF (a ++ b) n = listF a n ++ listF b n := by unfold listF; rw [getF_app, splA_app]
theorem hasF_app (a b : Fs) (n p : ByteArray) : hasF (a ++ b) n p = (hasF a n p || hasF b n p) := by unfold hasF anyT; rw [listF_app, List.any_append]
theorem withoutF_app (a b : Fs) (ns : List ByteArray) : withoutF (a ++ b) ns = withoutF a ns ++ withoutF b ns := by unfold withoutF; rw [List.filter_append]
theorem foldB_idem (b : UInt8) : foldB (foldB b) = foldB b := by
  by_cases h : 65 ≤ (b.toNat : Int) ∧ (b.toNat : Int) ≤ 90
  · have e : foldB b = (b.toNat + 32).toUInt8 := by unfold foldB; rw [if_pos h]
    have e2 : ((b.toNat + 32).toUInt8).toNat = b.toNat + 32 := by simp; omega
    rw [e]
    refine foldB_no ?_
    rw [e2]; omega
  · rw [foldB_no h, foldB_no h]
theorem foldS_idem (s : ByteArray) : foldS (foldS s) = foldS s := by
  unfold foldS foldL
  simp only [List.map_map]
  congr 2
  refine List.map_congr_left fun b _ => foldB_idem b
theorem foldS_size (s : ByteArray) : (foldS s).size = s.size := by
  show (foldL s.data.toList).length = s.data.toList.length
  unfold foldL
  rw [List.length_map]
theorem getF_fold (fs : Fs) (n : ByteArray) : getF fs (foldS n) = getF fs n := by
  unfold getF
  have e : (fun f : ByteArray × ByteArray => smT f.1 (foldS n)) = fun f => smT f.1 n := funext fun f => by unfold smT; rw [foldS_idem]
  rw [e]
theorem right_app (a b : Fs) : rightF (a ++ b) = (rightF a && rightF b && decide ((a ++ b).length ≤ 40)) := by
  unfold rightF anyW
  rw [List.any_append, List.length_append]
  by_cases h : a.length + b.length ≤ 40
  · rw [decide_eq_true h, decide_eq_true (show a.length ≤ 40 by omega), decide_eq_true (show b.length ≤ 40 by omega)]
    cases a.any wrF <;> cases b.any wrF <;> rfl
  · rw [decide_eq_false h]; simp
theorem FBd.app {N : Nat} {a b : Fs} (h : FBd N a) (k : FBd N b) : FBd N (a ++ b) := fun f hf => by
  rcases List.mem_append.1 hf with q | q
  · exact h f q
  · exact k f q

theorem wpList_append_run3 {P : Program} {w : World} {ops : Array Oper} {rest : List Oper} {o : Oper} {a : Act} {Q : Exit → Act → World → Prop} (hw : Region.wanted o (yielded ops a.tmps) = true) (s x : Operand) (t u : TypeId)
    (ho : o.op = .call { callee := .builtin .append, args := #[s, x], argTypes := #[t, u] }) (vs vx v' : Value) (w' : World) (hs : a.eval s = vs) (hx : a.eval x = vx) (hr : (Builtin.append_ #[t, u] o.type #[vs, vx]).run P w = .ok v' w')
    (h : wpList P ops Q rest (a.put o.dst v') w') : wpList P ops Q (o :: rest) a w := by
  refine wpList_step fun K hK => ?_
  rw [if_pos hw]
  unfold Oper.wp execOp
  simp only [ho, resolve, invoke, builtin, Sem.run_bind, Sem.run_pure, Result.andThen_ok, List.map_toArray, List.map_cons, List.map_nil, hs, hx, hr]
  exact hK _ _ h

set_option maxRecDepth 100000 in
set_option maxHeartbeats 4000000 in
theorem joins_walk (fa : Fs) (a : Option Addr) (na ca : Nat) (fb : Fs) (b : Option Addr) (nb cb : Nat) (name part : ByteArray) (w : World) (ha : Fds w.heap.size w (.slice a na ca) fa) (hba : FBd 1048576 fa) (hb : Fds w.heap.size w (.slice b nb cb) fb) (hbb : FBd 1048576 fb) (hn : name.size ≤ 1048576) (hq : part.size ≤ 1048576) (hM : MaxL w) :
    Calls Tryd.prog 7 #[.slice a na ca, .slice b nb cb, .string name, .string part] w fun e w' => e = .returned (.bool true) ∧ Below w.heap.size w w' := by
  obtain ⟨hle, h2, h3⟩ := ha.len
  obtain ⟨hme, m2, m3⟩ := hb.len
  unfold maxLen at h3 m3
  subst hle hme
  by_cases hbig : (50 : Int) < (fa.length : Int)
  · clear ha hba hb hbb
    go_enter Tryd.func7, Tryd.ntmps7
    go_wp2_with fail
    refine (looking_any _ hM).mono ?_
    rintro e w1 ⟨rfl, B1⟩
    go_wp2
    go_ret
    exact ⟨rfl, B1⟩
  · by_cases hbig2 : (50 : Int) < (fb.length : Int)
    · clear ha hba hb hbb
      go_enter Tryd.func7, Tryd.ntmps7
      go_wp2_with fail
      refine (looking_any _ hM).mono ?_
      rintro e w1 ⟨rfl, B1⟩
      go_wp2
      go_ret
      exact ⟨rfl, B1⟩
    · have hla : fa.length ≤ 50 := by omega
      have hlb : fb.length ≤ 50 := by omega
      have HA : Hid (Fds w.heap.size w (.slice a fa.length ca) fa) := ha
      have HB : Hid (Fds w.heap.size w (.slice b fb.length cb) fb) := hb
      have HBA : Hid (FBd 1048576 fa) := hba
      have HBB : Hid (FBd 1048576 fb) := hbb
      have HNS : Hid (name.size ≤ 1048576) := hn
      have HQS : Hid (part.size ≤ 1048576) := hq
      clear ha hba hb hbb hn hq
      go_enter Tryd.func7, Tryd.ntmps7
      go_wp2_with fail
      refine (looking_any _ hM).mono ?_
      rintro e w1 ⟨rfl, B1⟩
      have E1 : Below w.heap.size w (w1.alloc (.cells #[] 34)) := B1.alloc B1.size _
      have O1 : OwnF w.heap.size (w1.alloc (.cells #[] 34)) (.slice (some ⟨w1.heap.size, 0, none⟩) 0 0) [] := OwnF.empty _ _ B1.size
      obtain ⟨v2, w2, r2, O2, B2⟩ := ownF_append O1 (HA.out.keep E1) (by simp; omega) E1.size
      have D2 := E1.trans B2
      rw [List.nil_append] at O2
      obtain ⟨a2, c2, rfl, _⟩ := O2.form
      obtain ⟨v3, w3, r3, O3, B3⟩ := ownF_append O2 (HB.out.keep D2) (by omega) D2.size
      have D3 := D2.trans B3
      obtain ⟨F, hF⟩ : ∃ F : Fs, F = fa ++ fb := ⟨_, rfl⟩
      rw [← hF] at O3
      obtain ⟨a3, c3, rfl, _⟩ := O3.form
      have HF : Hid (F = fa ++ fb) := hF
      have hFl : F.length = fa.length + fb.length := by rw [hF, List.length_append]
      have hl100 : F.length ≤ 100 := by omega
      have HFB : Hid (FBd 1048576 F) := by rw [Hid, hF]; exact HBA.out.app HBB.out
      have HFD : Hid (Fds w3.heap.size w3 (.slice a3 F.length c3) F) := O3.fds
      have HR2 : Hid _ := r2
      have HR3 : Hid _ := r3
      have HD3 : Hid (Below w.heap.size w w3) := D3
      have HM3 : Hid (∀ W, Below w3.heap.size w3 W → MaxL W) := fun W i => hM.below (D3.trans (i.mono D3.size))
      have HA3 : Hid (∀ W, Below w3.heap.size w3 W → Fds W.heap.size W (.slice a fa.length ca) fa) := fun W i => HA.out.over (D3.trans (i.mono D3.size))
      have HB3 : Hid (∀ W, Below w3.heap.size w3 W → Fds W.heap.size W (.slice b fb.length cb) fb) := fun W i => HB.out.over (D3.trans (i.mono D3.size))
      clear E1 O1 O2 B2 D2 O3 B3 D3 r2 r3 B1 hF hFl
      -- the calls, over every later world
      have GF : Hid (∀ nm : ByteArray, nm.size ≤ 1048576 → ∀ W, Below w3.heap.size w3 W → Calls Tryd.prog 11 #[.slice a3 F.length c3, .string nm] W fun e w' => ∃ ao cv, e = .returned (.slice ao (getF F nm).length cv) ∧ OwnT W.heap.size w' (.slice ao (getF F nm).length cv) (getF F nm) ∧ Below W.heap.size W w') := fun nm h W i => get_any F a3 c3 nm W (HFD.out.over i) (HFB.out.mono (by decide)) (by omega) (by omega)
      have GA : Hid (∀ W, Below w3.heap.size w3 W → Calls Tryd.prog 11 #[.slice a fa.length ca, .string name] W fun e w' => ∃ ao cv, e = .returned (.slice ao (getF fa name).length cv) ∧ OwnT W.heap.size w' (.slice ao (getF fa name).length cv) (getF fa name) ∧ Below W.heap.size W w') := fun W i => get_any fa a ca name W (HA3.out W i) (HBA.out.mono (by decide)) (by have := HNS.out; omega) (by omega)
      have GB : Hid (∀ W, Below w3.heap.size w3 W → Calls Tryd.prog 11 #[.slice b fb.length cb, .string name] W fun e w' => ∃ ao cv, e = .returned (.slice ao (getF fb name).length cv) ∧ OwnT W.heap.size w' (.slice ao (getF fb name).length cv) (getF fb name) ∧ Below W.heap.size W w') := fun W i => get_any fb b cb name W (HB3.out W i) (HBB.out.mono (by decide)) (by have := HNS.out; omega) (by omega)
      have LF : Hid (∀ W, Below w3.heap.size w3 W → Calls Tryd.prog 13 #[.slice a3 F.length c3, .string name] W fun e w' => ∃ ao cv, e = .returned (.slice ao (listF F name).length cv) ∧ OwnT W.heap.size w' (.slice ao (listF F name).length cv) (listF F name) ∧ Below W.heap.size W w') := fun W i => list_any F a3 c3 name W (HFD.out.over i) HFB.out HNS.out (by omega) (HM3.out W i)
      have LA : Hid (∀ W, Below w3.heap.size w3 W → Calls Tryd.prog 13 #[.slice a fa.length ca, .string name] W fun e w' => ∃ ao cv, e = .returned (.slice ao (listF fa name).length cv) ∧ OwnT W.heap.size w' (.slice ao (listF fa name).length cv) (listF fa name) ∧ Below W.heap.size W w') := fun W i => list_any fa a ca name W (HA3.out W i) HBA.out HNS.out (by omega) (HM3.out W i)
      have LB : Hid (∀ W, Below w3.heap.size w3 W → Calls Tryd.prog 13 #[.slice b fb.length cb, .string name] W fun e w' => ∃ ao cv, e = .returned (.slice ao (listF fb name).length cv) ∧ OwnT W.heap.size w' (.slice ao (listF fb name).length cv) (listF fb name) ∧ Below W.heap.size W w') := fun W i => list_any fb b cb name W (HB3.out W i) HBB.out HNS.out (by omega) (HM3.out W i)
      have SF : Hid (∀ W, Below w3.heap.size w3 W → Calls Tryd.prog 15 #[.slice a3 F.length c3, .string name, .string part] W fun e w' => e = .returned (.bool (hasF fa name part || hasF fb name part)) ∧ Below W.heap.size W w') := fun W i => by
        have k := has_any F a3 c3 name part W (HFD.out.over i) HFB.out HNS.out HQS.out (by omega) (HM3.out W i)
        rw [show hasF F name part = (hasF fa name part || hasF fb name part) by rw [HF.out, hasF_app]] at k
        exact k
      have SA : Hid (∀ W, Below w3.heap.size w3 W → Calls Tryd.prog 15 #[.slice a fa.length ca, .string name, .string part] W fun e w' => e = .returned (.bool (hasF fa name part)) ∧ Below W.heap.size W w') := fun W i => has_any fa a ca name part W (HA3.out W i) HBA.out HNS.out HQS.out (by omega) (HM3.out W i)
      have SB : Hid (∀ W, Below w3.heap.size w3 W → Calls Tryd.prog 15 #[.slice b fb.length cb, .string name, .string part] W fun e w' => e = .returned (.bool (hasF fb name part)) ∧ Below W.heap.size W w') := fun W i => has_any fb b cb name part W (HB3.out W i) HBB.out HNS.out HQS.out (by omega) (HM3.out W i)
      have GL : Hid ((getF fa name).length ≤ 50 ∧ (getF fb name).length ≤ 50 ∧ (getF F name).length ≤ 100) := ⟨Nat.le_trans (getF_len _ _) hla, Nat.le_trans (getF_len _ _) hlb, Nat.le_trans (getF_len _ _) hl100⟩
      have LL : Hid ((listF fa name).length ≤ 1024 * 1048578 ∧ (listF fb name).length ≤ 1024 * 1048578 ∧ (listF F name).length ≤ 1024 * 1048578) := ⟨listF_len HBA.out (by omega), listF_len HBB.out (by omega), listF_len HFB.out (by omega)⟩
      go_wp2_with (first | (at_builtin; refine wpList_append_run2 rfl _ _ 22 22 rfl _ _ _ w2 rfl rfl HR2.out ?_) | (at_builtin; refine wpList_append_run2 rfl _ _ 22 22 rfl _ _ _ w3 rfl rfl HR3.out ?_))
      refine (GF.out name HNS.out _ (Below.refl _ _)).mono ?_
      rintro e w4 ⟨a4, c4, rfl, O4, B4⟩
      go_wp2_with fail
      refine (GA.out _ B4).mono ?_
      rintro e w5 ⟨a5, c5, rfl, O5, B5⟩
      have D5 := B4.trans (B5.mono B4.size)
      go_wp2_with fail
      refine (GB.out _ D5).mono ?_
      rintro e w6 ⟨a6, c6, rfl, O6, B6⟩
      have D46 : Below w4.heap.size w4 w6 := B5.trans (B6.mono B5.size)
      obtain ⟨v7, w7, r7, O7, B7⟩ := ownT_append (O5.keep B6) O6.txs (by have := GL.out; omega) D46.size
      have D47 : Below w4.heap.size w4 w7 := D46.trans B7
      have eG : getF fa name ++ getF fb name = getF F name := by rw [HF.out, getF_app]
      rw [eG] at O7
      obtain ⟨a7, c7, rfl, _⟩ := O7.form
      have HR7 : Hid _ := r7
      have HS7 : Hid (Calls Tryd.prog 10 #[.slice a4 (getF F name).length c4, .slice a7 (getF F name).length c7] w7 fun e w' => e = .returned (.bool true) ∧ Below w7.heap.size w7 w') := sameTexts_eq _ _ _ a4 a7 c4 c7 w7 (by have := GL.out; unfold maxLen; omega) (O4.keep D47) O7
      have D7 : Below w3.heap.size w3 w7 := B4.trans (D47.mono B4.size)
      clear O4 O5 O6 O7 B5 B6 D46 B7 D47 eG r7 D5 HR2 HR3
      go_wp2_with (at_builtin; refine wpList_append_run2 rfl _ _ 23 23 rfl _ _ _ w7 rfl rfl HR7.out ?_)
      refine HS7.out.mono ?_
      rintro e w8 ⟨rfl, B8⟩
      have D8 := D7.trans (B8.mono D7.size)
      clear HS7 HR7 B8 D7 B4
      go_wp2_with fail
      refine (LF.out _ D8).mono ?_
      rintro e w9 ⟨a9, c9, rfl, O9, B9⟩
      have D9 := D8.trans (B9.mono D8.size)
      go_wp2_with fail
      refine (LA.out _ D9).mono ?_
      rintro e w10 ⟨a10, c10, rfl, O10, B10⟩
      have D10 := D9.trans (B10.mono D9.size)
      go_wp2_with fail
      refine (LB.out _ D10).mono ?_
      rintro e w11 ⟨a11, c11, rfl, O11, B11⟩
      have D911 : Below w9.heap.size w9 w11 := B10.trans (B11.mono B10.size)
      obtain ⟨v12, w12, r12, O12, B12⟩ := ownT_append (O10.keep B11) O11.txs (by have := LL.out; omega) D911.size
      have D912 : Below w9.heap.size w9 w12 := D911.trans B12
      have eL : listF fa name ++ listF fb name = listF F name := by rw [HF.out, listF_app]
      rw [eL] at O12
      obtain ⟨a12, c12, rfl, _⟩ := O12.form
      have HR12 : Hid _ := r12
      have HS12 : Hid (Calls Tryd.prog 10 #[.slice a9 (listF F name).length c9, .slice a12 (listF F name).length c12] w12 fun e w' => e = .returned (.bool true) ∧ Below w12.heap.size w12 w') := sameTexts_eq _ _ _ a9 a12 c9 c12 w12 (by have := LL.out; unfold maxLen; omega) (O9.keep D912) O12
      have D12 : Below w3.heap.size w3 w12 := D9.trans (D912.mono D9.size)
      clear O9 O10 O11 O12 B9 B10 B11 D911 B12 D912 eL r12 D10 D9 D8
      go_wp2_with (at_builtin; refine wpList_append_run3 (by first | rfl | decide | simp [Region.wanted, yielded]) _ _ 23 23 rfl _ _ _ w12 rfl rfl HR12.out ?_)
      refine HS12.out.mono ?_
      rintro e w13 ⟨rfl, B13⟩
      have D13 := D12.trans (B13.mono D12.size)
      clear HS12 HR12 B13 D12 LF LA LB LL
      go_wp2_with fail
      refine (SF.out _ D13).mono ?_
      rintro e w14 ⟨rfl, B14⟩
      have D14 := D13.trans (B14.mono D13.size)
      go_wp2_with fail
      refine (SA.out _ D14).mono ?_
      rintro e w15 ⟨rfl, B15⟩
      have D15 := D14.trans (B15.mono D14.size)
      clear SF SA B14 B15 D13 D14
      have WA : Hid (∀ W, Below w3.heap.size w3 W → Calls Tryd.prog 20 #[.slice a fa.length ca, .slice (some ⟨W.heap.size, 0, none⟩) 1 1] (W.alloc (.cells #[.string name] 9)) fun e w' => ∃ ao cv, e = .returned (.slice ao (withoutF fa [name]).length cv) ∧ OwnF W.heap.size w' (.slice ao (withoutF fa [name]).length cv) (withoutF fa [name]) ∧ Below W.heap.size W w') := fun W i => by
        have j := (Below.refl W.heap.size W).alloc (Nat.le_refl _) (.cells #[.string name] 9)
        exact (without_any fa a ca [name] (some ⟨W.heap.size, 0, none⟩) 1 (W.alloc (.cells #[.string name] 9)) ((HA3.out W i).over j) (HBA.out.mono (by decide)) (one_txs W name _ (by simp)) (fun x hx => by rw [List.mem_singleton.1 hx]; have := HNS.out; omega) (by omega)).mono fun e w' ⟨ao, cv, q1, q2, q3⟩ => ⟨ao, cv, q1, q2.mono j.size, j.trans (q3.mono j.size)⟩
      have WB : Hid (∀ W, Below w3.heap.size w3 W → Calls Tryd.prog 20 #[.slice b fb.length cb, .slice (some ⟨W.heap.size, 0, none⟩) 1 1] (W.alloc (.cells #[.string name] 9)) fun e w' => ∃ ao cv, e = .returned (.slice ao (withoutF fb [name]).length cv) ∧ OwnF W.heap.size w' (.slice ao (withoutF fb [name]).length cv) (withoutF fb [name]) ∧ Below W.heap.size W w') := fun W i => by
        have j := (Below.refl W.heap.size W).alloc (Nat.le_refl _) (.cells #[.string name] 9)
        exact (without_any fb b cb [name] (some ⟨W.heap.size, 0, none⟩) 1 (W.alloc (.cells #[.string name] 9)) ((HB3.out W i).over j) (HBB.out.mono (by decide)) (one_txs W name _ (by simp)) (fun x hx => by rw [List.mem_singleton.1 hx]; have := HNS.out; omega) (by omega)).mono fun e w' ⟨ao, cv, q1, q2, q3⟩ => ⟨ao, cv, q1, q2.mono j.size, j.trans (q3.mono j.size)⟩
      have WF : Hid (∀ W, Below w3.heap.size w3 W → Calls Tryd.prog 20 #[.slice a3 F.length c3, .slice (some ⟨W.heap.size, 0, none⟩) 1 1] (W.alloc (.cells #[.string name] 9)) fun e w' => ∃ ao cv, e = .returned (.slice ao (withoutF F [name]).length cv) ∧ OwnF W.heap.size w' (.slice ao (withoutF F [name]).length cv) (withoutF F [name]) ∧ Below W.heap.size W w') := fun W i => by
        have j := (Below.refl W.heap.size W).alloc (Nat.le_refl _) (.cells #[.string name] 9)
        exact (without_any F a3 c3 [name] (some ⟨W.heap.size, 0, none⟩) 1 (W.alloc (.cells #[.string name] 9)) ((HFD.out.over i).over j) (HFB.out.mono (by decide)) (one_txs W name _ (by simp)) (fun x hx => by rw [List.mem_singleton.1 hx]; have := HNS.out; omega) (by omega)).mono fun e w' ⟨ao, cv, q1, q2, q3⟩ => ⟨ao, cv, q1, q2.mono j.size, j.trans (q3.mono j.size)⟩
      have FO : Hid (∀ W, Calls Tryd.prog 25 #[.string name] W fun e w' => e = .returned (.string (foldS name)) ∧ Below W.heap.size W w') := fun W => rfold_any name W (by have := HNS.out; omega)
      have GFF : Hid (∀ W, Below w3.heap.size w3 W → Calls Tryd.prog 11 #[.slice a3 F.length c3, .string (foldS name)] W fun e w' => ∃ ao cv, e = .returned (.slice ao (getF F name).length cv) ∧ OwnT W.heap.size w' (.slice ao (getF F name).length cv) (getF F name) ∧ Below W.heap.size W w') := fun W i => by
        have k := GF.out (foldS name) (by rw [foldS_size]; exact HNS.out) W i
        rw [getF_fold] at k
        exact k
      have RF : Hid (∀ W, Below w3.heap.size w3 W → Calls Tryd.prog 17 #[.slice a3 F.length c3] W fun e w' => e = .returned (.bool (rightF fa && rightF fb && decide ((F.length : Int) ≤ 40))) ∧ Below W.heap.size W w') := fun W i => by
        have k := right_any F a3 c3 W (HFD.out.over i) (HFB.out.mono (by decide))
        have e2 : rightF F = (rightF fa && rightF fb && decide ((F.length : Int) ≤ 40)) := by
          rw [HF.out, right_app]
          congr 1
          by_cases q : (fa ++ fb).length ≤ 40
          · rw [decide_eq_true q, decide_eq_true (by omega)]
          · rw [decide_eq_false q, decide_eq_false (by omega)]
        rw [e2] at k
        exact k
      have RA : Hid (∀ W, Below w3.heap.size w3 W → Calls Tryd.prog 17 #[.slice a fa.length ca] W fun e w' => e = .returned (.bool (rightF fa)) ∧ Below W.heap.size W w') := fun W i => right_any fa a ca W (HA3.out W i) (HBA.out.mono (by decide))
      have RB : Hid (∀ W, Below w3.heap.size w3 W → Calls Tryd.prog 17 #[.slice b fb.length cb] W fun e w' => e = .returned (.bool (rightF fb)) ∧ Below W.heap.size W w') := fun W i => right_any fb b cb W (HB3.out W i) (HBB.out.mono (by decide))
      have WL : Hid ((withoutF fa [name]).length ≤ 50 ∧ (withoutF fb [name]).length ≤ 50) := ⟨Nat.le_trans (withoutF_len _ _) hla, Nat.le_trans (withoutF_len _ _) hlb⟩
      have HWE : Hid (withoutF fa [name] ++ withoutF fb [name] = withoutF F [name]) := by rw [Hid, HF.out, withoutF_app]
      generalize rightF fa = ra at *
      generalize rightF fb = rb at *
      generalize foldS name = fname at *
      generalize hasF fa name part = pa at *
      generalize hasF fb name part = pb at *
      clear GA GB HA3 HB3 HFD HFB HBA HBB HA HB
      cases pa
      · go_wp2_with fail
        refine (SB.out _ D15).mono ?_
        rintro e w16 ⟨rfl, B16⟩
        have D16 := D15.trans (B16.mono D15.size)
        have hnn : (pb != pb) = false := by cases pb <;> rfl
        clear SB B16 D15
        go_wp2_with fail
        refine (WA.out _ D16).mono ?_
        rintro e w17 ⟨a17, c17, rfl, O17, B17⟩
        have D17 := D16.trans (B17.mono D16.size)
        go_wp2_with fail
        refine (WB.out _ D17).mono ?_
        rintro e w18 ⟨a18, c18, rfl, O18, B18⟩
        have D18 := D17.trans (B18.mono D17.size)
        obtain ⟨v19, w19, r19, O19, B19⟩ := ownF_append (O17.keep B18) O18.fds (by have := WL.out; omega) (Nat.le_trans B17.size B18.size)
        have D19 : Below w3.heap.size w3 w19 := D18.trans (B19.mono D16.size)
        rw [HWE.out] at O19
        obtain ⟨a19, c19, rfl, _⟩ := O19.form
        have HR19 : Hid _ := r19
        have HO19 : Hid _ := O19
        clear O17 O18 B17 B18 B19 r19 O19 D17 D18
        go_wp2_with (at_builtin; refine wpList_append_run2 rfl _ _ 22 22 rfl _ _ _ w19 rfl rfl HR19.out ?_)
        refine (FO.out _).mono ?_
        rintro e w20 ⟨rfl, B20⟩
        have D20 := D19.trans (B20.mono D19.size)
        go_wp2_with fail
        refine (WF.out _ D20).mono ?_
        rintro e w21 ⟨a21, c21, rfl, O21, B21⟩
        have D21 := D20.trans (B21.mono D20.size)
        have HS21 : Hid (Calls Tryd.prog 19 #[.slice a21 (withoutF F [name]).length c21, .slice a19 (withoutF F [name]).length c19] w21 fun e w' => e = .returned (.bool true) ∧ Below w21.heap.size w21 w') := rsame_eq _ a21 a19 c21 c19 w21 O21.fds (OwnF.keep HO19.out (B20.trans (B21.mono B20.size))).fds
        clear O21 B20 B21 HR19 HO19 D19 D20
        generalize (withoutF F [name]).length = LW at *
        go_wp2_with fail
        refine HS21.out.mono ?_
        rintro e w22 ⟨rfl, B22⟩
        have D22 := D21.trans (B22.mono D21.size)
        clear HS21 B22 D21
        go_wp2_with fail
        refine (GFF.out _ D22).mono ?_
        rintro e w23 ⟨a23, c23, rfl, O23, B23⟩
        have D23 := D22.trans (B23.mono D22.size)
        go_wp2_with fail
        refine (GF.out name HNS.out _ D23).mono ?_
        rintro e w24 ⟨a24, c24, rfl, O24, B24⟩
        have D24 := D23.trans (B24.mono D23.size)
        have HS24 : Hid (Calls Tryd.prog 10 #[.slice a23 (getF F name).length c23, .slice a24 (getF F name).length c24] w24 fun e w' => e = .returned (.bool true) ∧ Below w24.heap.size w24 w') := sameTexts_eq _ _ _ a23 a24 c23 c24 w24 (by have := GL.out; unfold maxLen; omega) (O23.keep B24) O24
        clear O23 O24 B23 B24 D22 D23
        generalize (getF F name).length = LG at *
        go_wp2_with fail
        refine HS24.out.mono ?_
        rintro e w25 ⟨rfl, B25⟩
        have D26 := D24.trans (B25.mono D24.size)
        clear HS24 B25 D24 GF GFF WF WA WB FO
        cases ra
        · go_wp2_with fail
          refine (RF.out _ D26).mono ?_
          rintro e w27 ⟨rfl, B27⟩
          have D27 := D26.trans (B27.mono D26.size)
          go_wp2_with fail
          refine (RA.out _ D27).mono ?_
          rintro e w28 ⟨rfl, B28⟩
          have D28 := D27.trans (B28.mono D27.size)
          go_wp2
          go_ret
          exact ⟨ret_bool (by simp), HD3.out.trans (D28.mono HD3.out.size)⟩
        · cases rb
          · go_wp2_with fail
            refine (RF.out _ D26).mono ?_
            rintro e w27 ⟨rfl, B27⟩
            have D27 := D26.trans (B27.mono D26.size)
            go_wp2_with fail
            refine (RA.out _ D27).mono ?_
            rintro e w28 ⟨rfl, B28⟩
            have D28 := D27.trans (B28.mono D27.size)
            go_wp2_with fail
            refine (RB.out _ D28).mono ?_
            rintro e w29 ⟨rfl, B29⟩
            have D29 := D28.trans (B29.mono D28.size)
            go_wp2
            go_ret
            exact ⟨ret_bool (by simp), HD3.out.trans (D29.mono HD3.out.size)⟩
          · go_wp2_with fail
            refine (RF.out _ D26).mono ?_
            rintro e w27 ⟨rfl, B27⟩
            have D27 := D26.trans (B27.mono D26.size)
            go_wp2_with fail
            refine (RA.out _ D27).mono ?_
            rintro e w28 ⟨rfl, B28⟩
            have D28 := D27.trans (B28.mono D27.size)
            go_wp2_with fail
            refine (RB.out _ D28).mono ?_
            rintro e w29 ⟨rfl, B29⟩
            have D29 := D28.trans (B29.mono D28.size)
            go_wp2
            go_ret
            exact ⟨ret_bool (by simp), HD3.out.trans (D29.mono HD3.out.size)⟩
      · clear SB
        go_wp2_with fail
        refine (WA.out _ D15).mono ?_
        rintro e w17 ⟨a17, c17, rfl, O17, B17⟩
        have D17 := D15.trans (B17.mono D15.size)
        go_wp2_with fail
        refine (WB.out _ D17).mono ?_
        rintro e w18 ⟨a18, c18, rfl, O18, B18⟩
        have D18 := D17.trans (B18.mono D17.size)
        obtain ⟨v19, w19, r19, O19, B19⟩ := ownF_append (O17.keep B18) O18.fds (by have := WL.out; omega) (Nat.le_trans B17.size B18.size)
        have D19 : Below w3.heap.size w3 w19 := D18.trans (B19.mono D15.size)
        rw [HWE.out] at O19
        obtain ⟨a19, c19, rfl, _⟩ := O19.form
        have HR19 : Hid _ := r19
        have HO19 : Hid _ := O19
        clear O17 O18 B17 B18 B19 r19 O19 D17 D18
        go_wp2_with (at_builtin; refine wpList_append_run2 rfl _ _ 22 22 rfl _ _ _ w19 rfl rfl HR19.out ?_)
        refine (FO.out _).mono ?_
        rintro e w20 ⟨rfl, B20⟩
        have D20 := D19.trans (B20.mono D19.size)
        go_wp2_with fail
        refine (WF.out _ D20).mono ?_
        rintro e w21 ⟨a21, c21, rfl, O21, B21⟩
        have D21 := D20.trans (B21.mono D20.size)
        have HS21 : Hid (Calls Tryd.prog 19 #[.slice a21 (withoutF F [name]).length c21, .slice a19 (withoutF F [name]).length c19] w21 fun e w' => e = .returned (.bool true) ∧ Below w21.heap.size w21 w') := rsame_eq _ a21 a19 c21 c19 w21 O21.fds (OwnF.keep HO19.out (B20.trans (B21.mono B20.size))).fds
        clear O21 B20 B21 HR19 HO19 D19 D20
        generalize (withoutF F [name]).length = LW at *
        go_wp2_with fail
        refine HS21.out.mono ?_
        rintro e w22 ⟨rfl, B22⟩
        have D22 := D21.trans (B22.mono D21.size)
        clear HS21 B22 D21
        go_wp2_with fail
        refine (GFF.out _ D22).mono ?_
        rintro e w23 ⟨a23, c23, rfl, O23, B23⟩
        have D23 := D22.trans (B23.mono D22.size)
        go_wp2_with fail
        refine (GF.out name HNS.out _ D23).mono ?_
        rintro e w24 ⟨a24, c24, rfl, O24, B24⟩
        have D24 := D23.trans (B24.mono D23.size)
        have HS24 : Hid (Calls Tryd.prog 10 #[.slice a23 (getF F name).length c23, .slice a24 (getF F name).length c24] w24 fun e w' => e = .returned (.bool true) ∧ Below w24.heap.size w24 w') := sameTexts_eq _ _ _ a23 a24 c23 c24 w24 (by have := GL.out; unfold maxLen; omega) (O23.keep B24) O24
        clear O23 O24 B23 B24 D22 D23
        generalize (getF F name).length = LG at *
        go_wp2_with fail
        refine HS24.out.mono ?_
        rintro e w25 ⟨rfl, B25⟩
        have D26 := D24.trans (B25.mono D24.size)
        clear HS24 B25 D24 GF GFF WF WA WB FO
        cases ra
        · go_wp2_with fail
          refine (RF.out _ D26).mono ?_
          rintro e w27 ⟨rfl, B27⟩
          have D27 := D26.trans (B27.mono D26.size)
          go_wp2_with fail
          refine (RA.out _ D27).mono ?_
          rintro e w28 ⟨rfl, B28⟩
          have D28 := D27.trans (B28.mono D27.size)
          go_wp2
          go_ret
          exact ⟨ret_bool (by simp), HD3.out.trans (D28.mono HD3.out.size)⟩
        · cases rb
          · go_wp2_with fail
            refine (RF.out _ D26).mono ?_
            rintro e w27 ⟨rfl, B27⟩
            have D27 := D26.trans (B27.mono D26.size)
            go_wp2_with fail
            refine (RA.out _ D27).mono ?_
            rintro e w28 ⟨rfl, B28⟩
            have D28 := D27.trans (B28.mono D27.size)
            go_wp2_with fail
            refine (RB.out _ D28).mono ?_
            rintro e w29 ⟨rfl, B29⟩
            have D29 := D28.trans (B29.mono D28.size)
            go_wp2
            go_ret
            exact ⟨ret_bool (by simp), HD3.out.trans (D29.mono HD3.out.size)⟩
          · go_wp2_with fail
            refine (RF.out _ D26).mono ?_
            rintro e w27 ⟨rfl, B27⟩
            have D27 := D26.trans (B27.mono D26.size)
            go_wp2_with fail
            refine (RA.out _ D27).mono ?_
            rintro e w28 ⟨rfl, B28⟩
            have D28 := D27.trans (B28.mono D27.size)
            go_wp2_with fail
            refine (RB.out _ D28).mono ?_
            rintro e w29 ⟨rfl, B29⟩
            have D29 := D28.trans (B29.mono D28.size)
            go_wp2
            go_ret
            exact ⟨ret_bool (by simp), HD3.out.trans (D29.mono HD3.out.size)⟩
end Go.Proofs.YtflgjhknobnnaabDoor
