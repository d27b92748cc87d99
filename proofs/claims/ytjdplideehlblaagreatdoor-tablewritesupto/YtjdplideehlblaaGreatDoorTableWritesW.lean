/- Whatever the table, the host and the name (of bulk at most 1048576 together), TableWrites answers true: the table is right, or not, and has the text, as the document says; host and name stand where it says. -/
import Derived.Test.YtjdplideehlblaaGreatDoorTu
import Derived.Test.YtjdplideehlblaaGreatDoorTf
import Derived.Test.YtjdplideehlblaaGreatDoorTj
import Derived.Test.YtjdplideehlblaaGreatDoorRows
import Derived.Test.YtjdplideehlblaaGreatDoorCards
import Derived.Test.YtjdplideehlblaaGreatDoorTie
import Derived.WalkKit
import Derived.ProofKit
import Derived.OpenShut
import Derived.ShutString
import Derived.ChangeOld
import Derived.Below
import Derived.LaidMore
import Derived.Lay
import Derived.Stop.Joined
import Derived.SevenTiedAt
import Derived.Shelf.Vars
import Derived.Deep.DeepHandedRow
import Derived.Deep.DeepWitnessRowRef
/- TableWrites walked; how large the slots are where the bulk is small. -/
namespace Go.Proofs.YtjdplideehlblaaGreatDoor
open Go.ChangeShapes Go.WideShapes Go.ChangeAt Go.RowKit
set_option linter.unusedVariables false

theorem rn_bulk {H : Type} : ∀ (l : List (DataW H)) (d : DataW H), d ∈ l → Rows.uptoBulk d ≤ Rows.uptoBulkAll l
  | x :: l, d, h => by
    simp only [Rows.uptoBulkAll]
    rcases List.mem_cons.1 h with rfl | h
    · omega
    · have := rn_bulk l d h; omega
theorem rn_len (x : ByteArray) : x.data.toList.length = x.size := rfl
theorem bulk_slots {H : Type} {d : DataW H} {ts : List SlotP} (hx : (d = .nil ∧ ts = []) ∨ ∃ (ds sp : List (DataW H)), d = .slice ds sp ∧ ds.length = ts.length ∧ ∀ (i : Nat) (h1 : i < ts.length) (h2 : i < ds.length), DatS ts[i] ds[i]) (h : Rows.uptoBulk d ≤ 1048576) : ∀ s ∈ ts, UBd s := by
  rcases hx with ⟨_, rfl⟩ | ⟨ds, sp, rfl, hl, hD⟩
  · intro a ha; cases ha
  · intro s hs
    obtain ⟨i, hi, rfl⟩ := List.mem_iff_getElem.1 hs
    obtain ⟨dh, e, q⟩ := hD i hi (by omega)
    simp only [Rows.uptoBulk] at h
    have k := rn_bulk ds (ds[i]'(by omega)) (List.getElem_mem _)
    rw [e] at k
    simp only [Rows.uptoBulk, Rows.uptoBulkAll] at k
    have e0 := rn_len ts[i].n
    refine ⟨by omega, fun x hx => ?_⟩
    rcases q with ⟨_, q⟩ | ⟨sp2, rfl⟩
    · rw [q] at hx; cases hx
    · simp only [Rows.uptoBulk] at k
      have k2 := rn_bulk (ts[i].h.map datT) (datT (H := H) x) (List.mem_map.2 ⟨x, hx, rfl⟩)
      unfold datT at k2
      simp only [Rows.uptoBulk] at k2
      have e1 := rn_len x
      unfold datT at k
      omega
theorem ubd_sbd {s : SlotP} (h : UBd s) (hl : s.h.length ≤ 140737488355328) : SBd s := ⟨by have := h.n; omega, fun x hx => by have := h.h x hx; omega, hl⟩
theorem right_nb1 {ts : List SlotP} (h : RightT ts) : ∀ s ∈ ts, NB1 s := fun s hs => ⟨fun k hk => by
  have o := slot_ok (h.each s hs)
  have := o.q
  have := o.c
  have := o.p
  have := o.r
  have := o.b
  have := o.u
  have e : k = 0 ∨ k = 1 ∨ k = 2 ∨ k = 3 ∨ k = 4 ∨ k = 5 := by omega
  rcases e with rfl | rfl | rfl | rfl | rfl | rfl <;> simp only [numsP, List.getElem_cons_zero, List.getElem_cons_succ] <;> omega⟩
set_option maxRecDepth 100000 in
set_option maxHeartbeats 8000000 in
theorem writes9_walk (ts : List SlotP) (a : Option Addr) (n c : Nat) (host name : ByteArray) (w : World) (hf : Sls w.heap.size w (.slice a n c) ts) (hb : ∀ s ∈ ts, UBd s) (hM : MaxL w) (hP : PowT w) :
    Calls Tryz.prog 4 #[.slice a n c, .string host, .string name] w fun e w' => e = .returned (.bool true) ∧ Below w.heap.size w w' := by
  obtain ⟨rfl, hlen⟩ := hf.len
  have HA : Hid (Calls Tryz.prog 5 #[] w fun e w' => e = .returned (.bool true) ∧ Below w.heap.size w w') := alive9_any w hM hP
  unfold maxLen at hlen
  by_cases h100 : 100 < ts.length
  · have h100' : decide (100 < (ts.length : Int)) = true := decide_eq_true (by omega)
    clear hf hb hM hP
    go_enter Tryz.func4, Tryz.ntmps4
    go_wp2_with fail
    refine HA.out.mono ?_
    rintro e w1 ⟨rfl, B1⟩
    go_wp2
    go_ret
    exact ⟨rfl, B1⟩
  · have h100' : decide (100 < (ts.length : Int)) = false := decide_eq_false (by omega)
    have HF : Hid (Sls w.heap.size w (.slice a ts.length c) ts) := hf
    have HUB : Hid (∀ s ∈ ts, UBd s) := hb
    have HPW : Hid (PowT w) := hP
    clear hf hb hM hP
    go_enter Tryz.func4, Tryz.ntmps4
    go_wp2_with fail
    refine HA.out.mono ?_
    rintro e w1 ⟨rfl, B1⟩
    clear HA
    go_wp2_with fail
    go_loopw [18] (fun v wr => ∃ k : Nat, k ≤ ts.length ∧ v = .int .i64 k ∧ Below w.heap.size w wr ∧ Hid (∀ s ∈ ts.take k, s.h.length ≤ 100)) (fun v _ => ts.length - (intOf v).toNat)
    case atStart => exact ⟨0, Nat.zero_le _, rfl, B1, fun s hs => by rw [List.take_zero] at hs; cases hs⟩
    case round =>
      obtain ⟨k, hk, rfl, hB, hA⟩ := hrel
      clear B1
      by_cases hlt : k < ts.length
      · obtain ⟨a1, c1, e1, _, _, _, h4⟩ := HF.out
        obtain ⟨rfl, _, rfl⟩ := slice_inj e1
        obtain ⟨g, off, rfl, hg, hc⟩ := h4 (by omega)
        obtain ⟨ha, hcp, d0, d1, d2, d3, d4, d5, d6, d7, kt⟩ := (hc k hlt).keep hg hB
        have hsl : ts[k].h.length ≤ 9223372036854775807 := by
          obtain ⟨a2, c2, e2, _, q2, q3, _⟩ := kt
          unfold maxLen at q3
          omega
        have hsn : ts[k].h.length ≤ 100 → Hid (∀ s ∈ ts.take (k + 1), s.h.length ≤ 100) := fun h s hs => by
          rw [List.take_succ_eq_append_getElem hlt] at hs
          rcases List.mem_append.1 hs with q | q
          · exact hA.out s q
          · rw [List.mem_singleton] at q; rw [q]; exact h
        clear hc h4 e1 HF kt hA HUB HPW
        generalize ts[k] = si at *
        by_cases h1 : 100 < si.h.length
        · have h1' : decide (100 < (si.h.length : Int)) = true := decide_eq_true (by omega)
          clear hsn h1
          generalize si.h.length = lh at *
          go_wp2
          go_ret
          exact ⟨rfl, hB.alloc hB.size _⟩
        · have h1' : decide (100 < (si.h.length : Int)) = false := decide_eq_false (by omega)
          have q := hsn (by omega)
          clear hsn h1
          generalize si.h.length = lh at *
          go_wp2
          go_roundw
          case rel => exact ⟨k + 1, by omega, by go_num, hB.alloc hB.size _, q⟩
          case measure => simp [intOf]; omega
      · have hk' : k = ts.length := by omega
        subst hk'
        have HSB : Hid (∀ s ∈ ts, SBd s) := fun s hs => ubd_sbd (HUB.out s hs) (by
          have h := hA.out s (by rw [List.take_length]; exact hs)
          omega)
        have SL : ∀ W, Below w.heap.size w W → Sls W.heap.size W (.slice a ts.length c) ts := fun W b => (HF.out.keep b).mono b.size
        have CR : Hid (∀ W, Below w.heap.size w W → Calls Tryz.prog 11 #[.slice a ts.length c] W fun e w' => e = .returned (.bool (rightP ts)) ∧ Below W.heap.size W w') := fun W b => tright_any ts a c W (SL W b) HSB.out
        have CRR : Hid (∀ W, Below w.heap.size w W → Calls Tryz.prog 12 #[.slice a ts.length c] W fun e w' => e = .returned (.bool (rightP ts)) ∧ Below W.heap.size W w') := fun W b => r9right_any ts a c W (SL W b) HUB.out
        have CF : Hid (∀ W, Below w.heap.size w W → Calls Tryz.prog 13 #[.slice a ts.length c, .string host] W fun e w' => e = .returned (.int .i64 (idxP (hasH host) ts)) ∧ Below W.heap.size W w') := fun W b => find_any ts a c host W (SL W b)
        have CFF : Hid (∀ W, Below w.heap.size w W → Calls Tryz.prog 14 #[.slice a ts.length c, .string host] W fun e w' => e = .returned (.int .i64 (idxP (hasH host) ts)) ∧ w' = W) := fun W b => r9find_any ts a c host W (SL W b)
        have CN : Hid (∀ W, Below w.heap.size w W → Calls Tryz.prog 15 #[.slice a ts.length c, .string name] W fun e w' => e = .returned (.int .i64 (idxP (fun s => s.n.toList == name.toList) ts)) ∧ Below W.heap.size W w') := fun W b => named_any ts a c name W (SL W b)
        have CNN : Hid (∀ W, Below w.heap.size w W → Calls Tryz.prog 16 #[.slice a ts.length c, .string name] W fun e w' => e = .returned (.int .i64 (idxP (fun s => s.n.toList == name.toList) ts)) ∧ w' = W) := fun W b => r9named_any ts a c name W (SL W b)
        have CW : Hid (∀ W, Below w.heap.size w W → Calls Tryz.prog 17 #[.slice a ts.length c] W fun e w' => e = .returned (if rightP ts = true then .tuple #[.string ⟨(tellP ts).toArray⟩, .int .i64 0] else .tuple #[.string ⟨#[]⟩, .int .i64 60]) ∧ Below W.heap.size W w') := fun W b => write_any ts a c W (SL W b) HSB.out (fun h => right_bd ((right_iff ts).1 h)) (HPW.out.below b)
        have CRW : Hid (rightP ts = true → ∀ W, Below w.heap.size w W → Calls Tryz.prog 18 #[.slice a ts.length c] W fun e w' => e = .returned (.string ⟨(tellP ts).toArray⟩) ∧ Below W.heap.size W w') := fun h W b => r9write_any ts a c W (SL W b) (right_nb1 ((right_iff ts).1 h)) (right_bd ((right_iff ts).1 h)).1
        clear HF HUB HPW HSB SL hA hlt
        generalize rightP ts = R at *
        generalize idxP (hasH host) ts = fi at *
        generalize idxP (fun s => s.n.toList == name.toList) ts = ni at *
        generalize (⟨(tellP ts).toArray⟩ : ByteArray) = T at *
        have hfi : (fi == fi) = true := beq_self_eq_true fi
        have hni : (ni == ni) = true := beq_self_eq_true ni
        cases R
        · simp only [Bool.false_eq_true, if_false] at CW
          clear CRW
          go_wp2_with fail
          refine (CR.out _ hB).mono ?_
          rintro e w2 ⟨rfl, B2⟩
          have C2 := hB.trans (B2.mono hB.size)
          go_wp2_with fail
          refine (CRR.out _ C2).mono ?_
          rintro e w3 ⟨rfl, B3⟩
          have C3 := C2.trans (B3.mono C2.size)
          clear B2 B3
          go_wp2_with fail
          refine (CF.out _ C3).mono ?_
          rintro e w4 ⟨rfl, B4⟩
          have C4 := C3.trans (B4.mono C3.size)
          go_wp2_with fail
          refine (CFF.out _ C4).mono ?_
          rintro e w5 ⟨rfl, rfl⟩
          go_wp2_with fail
          refine (CN.out _ C4).mono ?_
          rintro e w6 ⟨rfl, B6⟩
          have C6 := C4.trans (B6.mono C4.size)
          go_wp2_with fail
          refine (CNN.out _ C6).mono ?_
          rintro e w7 ⟨rfl, rfl⟩
          go_wp2_with fail
          refine (CW.out _ C6).mono ?_
          rintro e w8 ⟨rfl, B8⟩
          have C8 := C6.trans (B8.mono C6.size)
          go_wp2_with fail
          refine (CRR.out _ C8).mono ?_
          rintro e w9 ⟨rfl, B9⟩
          have C9 := C8.trans (B9.mono C8.size)
          go_wp2
          go_ret
          exact ⟨rfl, C9⟩
        · simp only [if_true] at CW
          have CRW' := CRW.out rfl
          have HRW : Hid (∀ W, Below w.heap.size w W → Calls Tryz.prog 18 #[.slice a ts.length c] W fun e w' => e = .returned (.string T) ∧ Below W.heap.size W w') := CRW'
          clear CRW CRW'
          go_wp2_with fail
          refine (CR.out _ hB).mono ?_
          rintro e w2 ⟨rfl, B2⟩
          have C2 := hB.trans (B2.mono hB.size)
          go_wp2_with fail
          refine (CRR.out _ C2).mono ?_
          rintro e w3 ⟨rfl, B3⟩
          have C3 := C2.trans (B3.mono C2.size)
          clear B2 B3
          go_wp2_with fail
          refine (CF.out _ C3).mono ?_
          rintro e w4 ⟨rfl, B4⟩
          have C4 := C3.trans (B4.mono C3.size)
          go_wp2_with fail
          refine (CFF.out _ C4).mono ?_
          rintro e w5 ⟨rfl, rfl⟩
          go_wp2_with fail
          refine (CN.out _ C4).mono ?_
          rintro e w6 ⟨rfl, B6⟩
          have C6 := C4.trans (B6.mono C4.size)
          go_wp2_with fail
          refine (CNN.out _ C6).mono ?_
          rintro e w7 ⟨rfl, rfl⟩
          go_wp2_with fail
          refine (CW.out _ C6).mono ?_
          rintro e w8 ⟨rfl, B8⟩
          have C8 := C6.trans (B8.mono C6.size)
          go_wp2_with fail
          refine (CRR.out _ C8).mono ?_
          rintro e w9 ⟨rfl, B9⟩
          have C9 := C8.trans (B9.mono C8.size)
          go_wp2_with fail
          refine (HRW.out _ C9).mono ?_
          rintro e w10 ⟨rfl, B10⟩
          have C10 := C9.trans (B10.mono C9.size)
          go_wp2
          go_ret
          exact ⟨rfl, C10⟩
end Go.Proofs.YtjdplideehlblaaGreatDoor

/- Whatever the table, the host and the name (of bulk at most 1048576 together), TableWrites answers true: the table is right, or not, and has the text, as the document says; host and name stand where it says. -/
namespace Go.Proofs.YtjdplideehlblaaGreatDoor.tableWrites
open Go.ChangeShapes Go.WideShapes Go.ChangeAt Go.RowKit
open Go.ChangeMaps (open_string shut_string)
set_option linter.unusedVariables false

theorem own : ownKnob Tryz.prog.godebug = none := by kernel_rfl
theorem laidOut : laidOutB Tryz.prog = true := by kernel_rfl
theorem maxL_of {W : World} (hsh : W.ShapedOpen Tryz.prog) : MaxL W :=
  cell_of_shapedOpen_int (P := Tryz.prog) (g := 0) (t := 3) (zero := #[.int .i64 0]) hsh (of_decide_eq_true (by kernel_rfl)) (by kernel_rfl) rfl (by kernel_rfl) (by kernel_rfl) Tryz.underlying3
noncomputable def laidWorld (os : Os) : World := World.laidAll Tryz.prog os Rows.tableWritesUptoRow.laid
theorem laid_met (os : Os) : laidMetH Tryz.prog Rows.tableWritesUptoRow.laid ((laidWorld os).forCall (fun _ _ => 0) ⟨#[], #[.slice none 0 0, .string ⟨#[]⟩, .string ⟨#[]⟩], []⟩).memory := by
  rw [MakeChecks.laidMetH_plain _ _ _ (by kernel_rfl)]
  exact laidMet_laidAll _ (by kernel_rfl) (by kernel_rfl)
set_option maxRecDepth 100000 in
theorem lifted (os : Os) (started : os.Started) (H : Type) (enc : TypeId × Value → H) (F : Stop.Interp) :
    ReturnsInHanded {} Tryz.checked os 4 .any ((Rows.OpenSpec.upto Rows.tableWritesSpec).preRow enc Tryz.prog Tryz.f4 Rows.tableWritesUptoRow.domain false Rows.tableWritesUptoRow.laid) (((Rows.OpenSpec.upto Rows.tableWritesSpec).at F).post enc Tryz.prog Tryz.f4 false true false false) := by
  obtain ⟨places, hx⟩ := (⟨[], by kernel_rfl⟩ : ∃ places, DataW.whole enc Tryz.prog ((laidWorld os).forCall (fun _ _ => 0) ⟨#[], #[.slice none 0 0, .string ⟨#[]⟩, .string ⟨#[]⟩], []⟩).memory Tryz.f4.params.toList Rows.tableWritesSpec.vars false (#[.slice none 0 0, .string ⟨#[]⟩, .string ⟨#[]⟩] : Array Value).toList 8 = some ([.nil, .lit (.string []), .lit (.string [])], [], places))
  refine returnsInHanded_of_row (C := Tryz.checked) (s := Rows.OpenSpec.upto Rows.tableWritesSpec) own started (by kernel_rfl) Tryz.func4
    (witness_row_atRef (enc := enc) (C := Tryz.checked) false (laidWorld os) #[.slice none 0 0, .string ⟨#[]⟩, .string ⟨#[]⟩] rfl (by kernel_rfl) (by kernel_rfl) (by kernel_rfl)
      (OpenSpec.preRow_of_cond 8 hx (by kernel_rfl) (fun k hk => by cases hk; kernel_rfl) (by kernel_rfl) (laid_met os))) ?_
  intro W base args ds gs before hval0 hW _ hcond hsz hlaid hsh _
  have hM := maxL_of hsh
  clear hsh
  have hval : ∀ (j : Nat) t v, Tryz.f4.params[j]? = some t → args[j]? = some v → Value.okWide Tryz.prog W .any base t v := hval0
  have hW' := hW
  obtain ⟨p, q, hA0, hV, rfl, hfz, hnd⟩ := hW
  have hA : DataW.TrodAll enc Tryz.prog W 0 (fun _ => true) true Tryz.f4.params.toList args.toList ds p := hA0
  rw [Tryz.params4] at hA hval
  obtain ⟨v0, vs0, d0, ds0, p0, q0, hargs, rfl, rfl, h0, r0⟩ := trodAll_cons hA
  obtain ⟨v1, vs1, d1, ds1, p1, q1, rfl, rfl, rfl, h1, r1⟩ := trodAll_cons r0
  obtain ⟨v2, vs2, d2, ds2, p2, q2, rfl, rfl, rfl, h2, r2⟩ := trodAll_cons r1
  obtain ⟨rfl, rfl, rfl⟩ := trodAll_nil r2
  obtain rfl : args = #[v0, v1, v2] := by cases args; simp_all
  obtain ⟨rfl, rfl⟩ := trodVars_none hV
  obtain ⟨a0, len0, cap0, rfl⟩ := okWide_slice Tryz.underlying23 (hval 0 23 v0 rfl rfl)
  have k0 := h0
  have lt0 : ∀ x ∈ p0, x.block < W.heap.size := by obtain ⟨m, hm⟩ := k0; exact DataW.trod_lt m _ _ _ hm
  obtain ⟨qs0, w0, z0, x0⟩ := open_slots h0
  obtain ⟨a1, rfl, rfl, rfl, w1⟩ := open_string Tryz.underlying9 (hval 1 9 v1 rfl rfl) h1
  obtain ⟨a2, rfl, rfl, rfl, w2⟩ := open_string Tryz.underlying9 (hval 2 9 v2 rfl rfl) h2
  clear hA0 hval0
  have hP := tpow_of (l := Rows.tableWritesUptoRow.laid) (by kernel_rfl) hlaid
  have kk := hcond _ rfl
  have kb1 := of_decide_eq_true kk
  simp only [Rows.uptoBulkAll, List.append_nil] at kb1
  clear kk
  have hbd : ∀ s ∈ qs0, UBd s := bulk_slots (d := d0) x0 (by omega)
  refine (writes9_walk qs0 a0 len0 cap0 a1 a2 W w0 hbd hM hP).mono fun e W' ⟨he, bel⟩ => ?_
  subst he
  exact ⟨_, rfl, _, _, _, [], _, [], hW', trodAll_mk1 (shut_bool Tryz.underlying4 _), (trodAll_cons_mk (Below.trod laidOut (by kernel_rfl) (of_decide_eq_true (by kernel_rfl)) k0 bel lt0) (trodAll_cons_mk (shut_string Tryz.underlying9 w1) (trodAll_cons_mk (shut_string Tryz.underlying9 w2) trodAll_mk0))), rfl, bel.frame _, fun h => by cases h⟩

theorem over : Rows.TableWritesUptoSaid :=
  OpenClaim.holds_of_cond 4 Tryz.f4 rfl rfl rfl rfl rfl rfl rfl ⟨rfl, rfl, rfl, rfl, rfl⟩ rfl rfl rfl rfl rfl (by kernel_rfl) Tryz.func4 (by kernel_rfl)
    (of_decide_eq_true (by kernel_rfl)) (by unfold Func.isWrapper; first | (rw [if_pos (by decide +kernel)]; kernel_rfl) | (rw [if_neg (by decide +kernel)]; exact ⟨rfl, rfl⟩))
    (fun os started H enc _ F => by rw [OpenClaim.pre_eq_preRow]; exact lifted os started H enc F)

end Go.Proofs.YtjdplideehlblaaGreatDoor.tableWrites
namespace Go.Proofs.YtjdplideehlblaaGreatDoor
/-- The statement: the tied card. -/
theorem tableWritesUpto_holds : Rows.TableWritesUptoCardSaid :=
  Claim7.holds_tied_plain_at .later [] _ _ _ _
    tableWrites.over (fun _ h => by cases h) (by kernel_rfl) (fun _ h => by cases h) tableWritesUpto_row_tie rfl ⟨rfl, rfl⟩ (by kernel_rfl) rfl
    (fun f fn hf hfn => by
      obtain rfl : f = 4 := Option.some.inj ((show Tryz.prog.funcNamed "tollbar/tollbarlaw09.TableWrites" = some 4 by kernel_rfl).symm.trans hf) |>.symm
      obtain rfl : fn = Tryz.f4 := (Option.some.inj (Tryz.func4.symm.trans hfn)).symm
      exact ⟨by kernel_rfl, fun j t ht => by
        rw [Tryz.params4] at ht
        have hm : t ∈ [23, 9, 9] := by simpa using Array.mem_of_getElem? ht
        have hall : ([23, 9, 9].all fun u => !Tryz.prog.wantsStandIn u) = true := by kernel_rfl
        exact (show Tryz.prog.wantsStandIn t = false by simpa using List.all_eq_true.1 hall t hm)⟩)
    (by kernel_rfl)
#print axioms tableWritesUpto_holds
end Go.Proofs.YtjdplideehlblaaGreatDoor
