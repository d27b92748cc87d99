/- FrameSizes, walked. -/
import Derived.Test.YtflgjhknobnnaaaDoorFrK
namespace Go.Proofs.YtflgjhknobnnaaaDoor
open Go.ChangeShapes Go.WideShapes Go.ChangeAt Go.RowKit
set_option linter.unusedVariables false

def mCL : ByteArray := ⟨#[99, 111, 110, 116, 101, 110, 116, 45, 76, 69, 78, 71, 84, 72]⟩
theorem get_rep (k v n : ByteArray) (h : smT k n = true) : ∀ t, getF (List.replicate t (k, v)) n = List.replicate t v
  | 0 => rfl
  | t + 1 => by
    have e : List.replicate (t + 1) (k, v) = [(k, v)] ++ List.replicate t (k, v) := rfl
    rw [e, getF_app, getF_yes h, get_rep k v n h t]; rfl
theorem get_repn (k v n : ByteArray) (h : smT k n = false) : ∀ t, getF (List.replicate t (k, v)) n = []
  | 0 => rfl
  | t + 1 => by
    have e : List.replicate (t + 1) (k, v) = [(k, v)] ++ List.replicate t (k, v) := rfl
    rw [e, getF_app, getF_not h, get_repn k v n h t]; rfl
theorem splA_rep {X : List UInt8} {n : Nat} (h : Dgs X n) : ∀ t, splA (List.replicate t ⟨X.toArray⟩) = List.replicate t ⟨X.toArray⟩
  | 0 => rfl
  | t + 1 => by
    have e : (List.replicate (t + 1) (⟨X.toArray⟩ : ByteArray)) = [⟨X.toArray⟩] ++ List.replicate t ⟨X.toArray⟩ := rfl
    rw [e, splA_app, splA_rep h t]
    have e2 : splA [⟨X.toArray⟩] = splT ⟨X.toArray⟩ := by unfold splA; simp
    rw [e2, h.spl]
/-- What is told of a list of which all say n. -/
def szE (n : Nat) : Int × Int × Int := if 4096 < n then (0, 0, 413) else (1, (n : Int), 0)
theorem told_len {F : Fs} {n : Nat} (h1 : thereF F tTE = false) (h2 : thereF F tCL = true) (h3 : lengthF F = ((n : Int), true)) : toldF F 1 = szE n := by
  unfold toldF szE
  rw [h1, h2, h3]
  by_cases q : 4096 < n
  · have : (4096 : Int) < (n : Int) := by omega
    simp [q, this]
  · have : ¬ (4096 : Int) < (n : Int) := by omega
    simp [q, this]
theorem told_split {X : List UInt8} {n : Nat} (h : Dgs X n) (t : Nat) : toldF (List.replicate (t + 1) (mCL, ⟨X.toArray⟩)) 1 = szE n := by
  have e1 : smT mCL tTE = false := by decide +kernel
  have e2 : smT mCL tCL = true := by decide +kernel
  refine told_len ?_ ?_ ?_
  · unfold thereF; rw [get_repn _ _ _ e1]; rfl
  · unfold thereF; rw [get_rep _ _ _ e2]; simp
  · unfold lengthF listF
    rw [get_rep _ _ _ e2, splA_rep h, lenL_rep h]
theorem told_one {X : List UInt8} {n : Nat} (h : Dgs X n) (t : Nat) : toldF [(tCL, ⟨(repW X (t + 1)).toArray⟩)] 1 = szE n := by
  have e1 : smT tCL tTE = false := by decide +kernel
  have e2 : smT tCL tCL = true := by decide +kernel
  refine told_len ?_ ?_ ?_
  · unfold thereF; rw [getF_not e1]; rfl
  · unfold thereF; rw [getF_yes e2]; rfl
  · unfold lengthF
    rw [listF_yes e2, spl_rep h, lenL_rep h]
theorem szE_hi {n : Nat} (h : 4096 < n) : szE n = (0, 0, 413) := by unfold szE; rw [if_pos h]
theorem szE_lo {n : Nat} (h : ¬ 4096 < n) : szE n = (1, (n : Int), 0) := by unfold szE; rw [if_neg h]
theorem rep_cat (X : List UInt8) (i : Nat) (o : ByteArray) (h : o.data.toList = repW X i) (y : ByteArray) (hy : y.data.toList = X) : ((o ++ (⟨#[32, 44, 32]⟩ : ByteArray)) ++ y).data.toList = repW X (i + 1) := by
  rw [Joins.data_append, Joins.data_append, h, hy, repW, List.append_assoc]
theorem tuple_told {E : Int × Int × Int} {x : Nat} (h : E = szE x) (hx : ¬ 4096 < x) : E = (1, (x : Int), 0) := h.trans (szE_lo hx)

/-- What both calls answer, behind the building of the fields. -/
def EndsOk (w : World) (F : Fs) (x : Nat) (v : Value) (W : World) : Prop :=
  Below w.heap.size w W ∧ ∀ W', Below W.heap.size W W' → Calls Tryd.prog 9 #[v, .int .i64 1] W' (fun e w' => e = .returned (.tuple #[.int .i64 (szE x).2.1, .bool (decide ((szE x).1 = 2)), .int .i64 (szE x).2.2]) ∧ Below W'.heap.size W' w') ∧
    Calls Tryd.prog 13 #[.string ⟨#[71, 69, 84]⟩, .agg #[.int .i64 200, .string ⟨#[]⟩, .int .i64 1, v, .slice none 0 0]] W' (fun e w' => e = .returned (.tuple #[.int .i64 (szE x).1, .int .i64 (szE x).2.1, .bool (decide ((szE x).2.2 = 0))]) ∧ Below W'.heap.size W' w')
theorem ends_ok {w W : World} {F : Fs} {x : Nat} {a : Option Addr} {n c : Nat} (hM : MaxL w) (hB : Below w.heap.size w W) (hF : Fds W.heap.size W (.slice a n c) F) (hb : FBd 1048576 F) (hl : F.length ≤ 1024) (hT : toldF F 1 = szE x) : EndsOk w F x (.slice a n c) W := by
  obtain ⟨hle, _, _⟩ := hF.len
  subst hle
  refine ⟨hB, fun W' b => ⟨?_, ?_⟩⟩
  · have k := request_any F a c 1 W' (hF.over b) hb hl (hM.below (hB.trans (b.mono hB.size)))
    unfold reqF at k
    rw [hT] at k
    exact k
  · have k := resp_full ⟨#[71, 69, 84]⟩ ⟨#[]⟩ 200 1 F a none c 0 0 W' (by decide +kernel) (hF.over b) hb hl (hM.below (hB.trans (b.mono hB.size)))
    rw [hT] at k
    exact k

set_option maxRecDepth 100000 in
set_option maxHeartbeats 4000000 in
theorem sizes7_walk (n0 t0 z0 : Int) (split : Bool) (w : World) (hM : MaxL w) : Calls Tryd.prog 7 #[.int .i64 n0, .int .i64 t0, .int .i64 z0, .bool split] w fun e w' => e = .returned (.bool true) ∧ Below w.heap.size w w' := by
  obtain ⟨x, hx, hbx0⟩ := and_mask n0 8191 (by decide)
  have hbx : bits BinOp.and IntKind.i64 n0 8191 = (x : Int) := hbx0
  obtain ⟨t, ht, hbt0⟩ := and_mask t0 7 (by decide)
  have hbt : bits BinOp.and IntKind.i64 t0 7 = (t : Int) := hbt0
  obtain ⟨z, hz, hbz0⟩ := and_mask z0 7 (by decide)
  have hbz : bits BinOp.and IntKind.i64 z0 7 = (z : Int) := hbz0
  clear hbx0 hbt0 hbz0
  go_enter Tryd.func7, Tryd.ntmps7
  go_wp2_with fail
  refine (alive7_any _ hM).mono ?_
  rintro e w1 ⟨rfl, B1⟩
  go_wp2_with fail
  go_loopw [10, 9] (fun vn vo wr => ∃ (u : Nat) (o : ByteArray), vn = .int .i64 u ∧ vo = .string o ∧ u < 10000 ∧ o.size ≤ 4 ∧ Hid (DI x u o.data.toList) ∧ Below w.heap.size w wr) (fun vn vo _ => msr vn vo)
  case atStart => exact ⟨x, ⟨#[]⟩, rfl, rfl, by omega, by decide, DI.start (by omega), B1⟩
  case round =>
    obtain ⟨u, o, rfl, rfl, hu, ho, hj, hB⟩ := hrel
    clear B1
    by_cases hz0 : o.size = 0
    · obtain ⟨b, hb1, hb2⟩ : ∃ b : UInt8, (b.toNat : Int) = 48 + (u : Int) % 10 ∧ b = UInt8.ofNat (48 + u % 10) := ⟨_, dig_int u, rfl⟩
      have hcv := conv1 wr (48 + (u : Int) % 10) b hb1
      have hcat := fun W : World => run_string_add (P := Tryd.prog) (w := W) ⟨#[b]⟩ o (show ((1 : Nat) : Int) ≤ 8388608 by decide) (by omega)
      have HS : Hid (DI x (u / 10) ((⟨#[b]⟩ : ByteArray) ++ o).data.toList) := by
        rw [Hid, cons_data, hb2]; exact hj.out.step (.inl (List.eq_nil_of_length_eq_zero hz0))
      have HL : Hid (((⟨#[b]⟩ : ByteArray) ++ o).size ≤ 4) := HS.out.len
      have HM : Hid (msr (.int .i64 ((u / 10 : Nat) : Int)) (.string ((⟨#[b]⟩ : ByteArray) ++ o)) < msr (.int .i64 (u : Int)) (.string o)) := msr_lt (.inl hz0) (by omega) (fun h => by omega) (by rw [cons_size1]; omega)
      clear hb1 hb2
      have he := empty_of hz0
      subst he
      go_wp2
      go_roundw
      case rel => exact ⟨u / 10, _, by go_num, rfl, by omega, HL.out, HS, hB.alloc hB.size _⟩
      case measure => exact HM.out
    · have hne := isEmpty_of hz0
      by_cases hpos : (0 : Int) < (u : Int)
      · obtain ⟨b, hb1, hb2⟩ : ∃ b : UInt8, (b.toNat : Int) = 48 + (u : Int) % 10 ∧ b = UInt8.ofNat (48 + u % 10) := ⟨_, dig_int u, rfl⟩
        have hcv := conv1 wr (48 + (u : Int) % 10) b hb1
        have hcat := fun W : World => run_string_add (P := Tryd.prog) (w := W) ⟨#[b]⟩ o (show ((1 : Nat) : Int) ≤ 8388608 by decide) (by omega)
        have HS : Hid (DI x (u / 10) ((⟨#[b]⟩ : ByteArray) ++ o).data.toList) := by
          rw [Hid, cons_data, hb2]; exact hj.out.step (.inr (by omega))
        have HL : Hid (((⟨#[b]⟩ : ByteArray) ++ o).size ≤ 4) := HS.out.len
        have HM : Hid (msr (.int .i64 ((u / 10 : Nat) : Int)) (.string ((⟨#[b]⟩ : ByteArray) ++ o)) < msr (.int .i64 (u : Int)) (.string o)) := msr_lt (.inr (by omega)) (by omega) (fun h => by omega) (by rw [cons_size1]; omega)
        clear hb1 hb2 hz0
        go_wp2
        go_roundw
        case rel => exact ⟨u / 10, _, by go_num, rfl, by omega, HL.out, HS, hB.alloc hB.size _⟩
        case measure => exact HM.out
      · have hu0 : u = 0 := by omega
        subst hu0
        have HF : Hid (Dgs o.data.toList x) := hj.out.fin (fun e => hz0 (congrArg List.length e))
        clear hz0 hj
        go_wp2_with fail
        clear hne hpos hu
        go_loop [9, 11] (fun vo vi => ∃ (i : Nat) (o : ByteArray), vi = .int .i64 i ∧ vo = .string o ∧ i ≤ z ∧ o.size ≤ 4 + i ∧ Hid (Dgs o.data.toList x)) (fun _ vi => z - (intOf vi).toNat)
        case atStart => exact ⟨0, o, rfl, rfl, Nat.zero_le _, by omega, HF⟩
        case round =>
          clear HF ho
          obtain ⟨i, o, rfl, rfl, hi, ho, hD⟩ := hrel
          by_cases hlt : i < z
          · have hcat := fun W : World => run_string_add (P := Tryd.prog) (w := W) ⟨#[48]⟩ o (show ((1 : Nat) : Int) ≤ 8388608 by decide) (by omega)
            have HS : Hid (Dgs ((⟨#[48]⟩ : ByteArray) ++ o).data.toList x) := by rw [Hid, cons_data]; exact hD.out.nought (by show o.size ≤ 17; omega)
            have HL : Hid (((⟨#[48]⟩ : ByteArray) ++ o).size ≤ 4 + (i + 1)) := by rw [Hid, cons_size1]; omega
            clear hD
            go_wp2
            go_round
            case rel => exact ⟨i + 1, _, by go_num, rfl, by omega, HL.out, HS⟩
            case measure => simp [intOf]; omega
          · have hsz : o.size ≤ 11 := by omega
            have HOX : Hid (o = ⟨o.data.toList.toArray⟩) := bytes_ext rfl
            clear ho hi
            cases split
            · have HB0 : Hid (Below w.heap.size w (wr.alloc (.cells #[] 36))) := hB.alloc hB.size _
              go_wp2_with fail
              clear hB hlt
              go_loop [12, 13, 14] (fun v vv vi => ∃ (j : Nat) (val : ByteArray), vi = .int .i64 j ∧ v = .slice (some ⟨wr.heap.size, 0, none⟩) 0 0 ∧ vv = .string val ∧ j ≤ t + 1 ∧ val.size ≤ 112 ∧ Hid (val.data.toList = repW o.data.toList j)) (fun _ _ vi => t + 1 - (intOf vi).toNat)
              case atStart => exact ⟨0, ⟨#[]⟩, rfl, rfl, rfl, Nat.zero_le _, by decide, rfl⟩
              case round =>
                obtain ⟨j, val, rfl, rfl, rfl, hj, hvs, hv⟩ := hrel
                by_cases hjt : j < t + 1
                · have hcat1 := fun W : World => run_string_add (P := Tryd.prog) (w := W) val ⟨#[32, 44, 32]⟩ (by omega) (show ((3 : Nat) : Int) ≤ 8388608 by decide)
                  have hcs : (val ++ (⟨#[32, 44, 32]⟩ : ByteArray)).size ≤ 115 := by rw [cat_size]; show val.size + 3 ≤ 115; omega
                  have hcat2 := fun W : World => run_string_add (P := Tryd.prog) (w := W) (val ++ (⟨#[32, 44, 32]⟩ : ByteArray)) o (by omega) (by omega)
                  have HV : Hid (((val ++ (⟨#[32, 44, 32]⟩ : ByteArray)) ++ o).data.toList = repW o.data.toList (j + 1)) := rep_cat o.data.toList j val hv.out o rfl
                  have HVS : Hid (((val ++ (⟨#[32, 44, 32]⟩ : ByteArray)) ++ o).size ≤ 112) := by
                    have e : ((val ++ (⟨#[32, 44, 32]⟩ : ByteArray)) ++ o).size = (repW o.data.toList (j + 1)).length := congrArg List.length HV.out
                    rw [Hid, e, repW_len]
                    have : (j + 1) * (o.data.toList.length + 3) ≤ 8 * (11 + 3) := Nat.mul_le_mul (by omega) (by show o.size + 3 ≤ _; omega)
                    omega
                  clear hv hcs
                  generalize hq : val ++ (⟨#[32, 44, 32]⟩ : ByteArray) = q at *
                  clear hq
                  generalize hq2 : q ++ o = q2 at *
                  clear hq2
                  go_wp2
                  go_round
                  case rel => exact ⟨j + 1, q2, by go_num, rfl, rfl, by omega, HVS.out, HV⟩
                  case measure => simp [intOf]; omega
                · have hj' : j = t + 1 := by omega
                  subst hj'
                  have HVE : Hid (val = ⟨(repW o.data.toList (t + 1)).toArray⟩) := bytes_ext hv.out
                  have hjt2 : ¬ ((t + 1 : Nat) : Int) < 1 + (t : Int) := by omega
                  clear hjt hj hv
                  go_wp2_with fail
                  refine (of_any _ _ _).mono ?_
                  rintro e w7 ⟨g7, rfl, hl7, hg7, B7⟩
                  have D7 := HB0.out.trans (B7.mono HB0.out.size)
                  have HE : Hid (EndsOk w [(tCL, val)] x (.slice (some ⟨g7, 0, none⟩) 1 1) w7) := by
                    have hT := told_one hD.out t
                    rw [← HVE.out] at hT
                    exact ends_ok (F := [(tCL, val)]) hM D7 (fds_one hg7) (bd_one (by decide) (by omega)) (show 1 ≤ 1024 by decide) hT
                  unfold EndsOk at HE
                  clear B7 D7 hg7 hl7 HVE hD HB0 HOX
                  by_cases hb : 4096 < x
                  · have hb2 : (4096 : Int) < (x : Int) := by omega
                    rw [szE_hi hb] at HE
                    clear hb
                    go_wp2_with fail
                    refine ((HE.out.2 _ (Below.refl _ _)).1).mono ?_
                    rintro e w8 ⟨rfl, B8⟩
                    go_wp2_with fail
                    refine ((HE.out.2 _ B8).2).mono ?_
                    rintro e w9 ⟨rfl, B9⟩
                    have C9 := B8.trans (B9.mono B8.size)
                    go_wp2
                    go_ret
                    exact ⟨rfl, HE.out.1.trans (C9.mono HE.out.1.size)⟩
                  · have hb2 : ¬ (4096 : Int) < (x : Int) := by omega
                    rw [szE_lo hb] at HE
                    clear hb
                    go_wp2_with fail
                    refine ((HE.out.2 _ (Below.refl _ _)).1).mono ?_
                    rintro e w8 ⟨rfl, B8⟩
                    go_wp2_with fail
                    refine ((HE.out.2 _ B8).2).mono ?_
                    rintro e w9 ⟨rfl, B9⟩
                    have C9 := B8.trans (B9.mono B8.size)
                    go_wp2
                    go_ret
                    exact ⟨ret_bool (by simp), HE.out.1.trans (C9.mono HE.out.1.size)⟩
            · have HB0 : Hid (Below w.heap.size w (wr.alloc (.cells #[] 36))) := hB.alloc hB.size _
              have HO0 : Hid (OwnF w.heap.size (wr.alloc (.cells #[] 36)) (.slice (some ⟨wr.heap.size, 0, none⟩) 0 0) (List.replicate 0 (mCL, o))) := OwnF.empty _ _ hB.size
              go_wp2_with fail
              clear hB hlt
              go_loopw [12, 13, 14] (fun v vv vi wl => ∃ (j c : Nat) (a : Option Addr), vi = .int .i64 j ∧ v = .slice a j c ∧ vv = .string ⟨#[]⟩ ∧ j ≤ t + 1 ∧ Hid (OwnF w.heap.size wl (.slice a j c) (List.replicate j (mCL, o))) ∧ Below w.heap.size w wl) (fun _ _ vi _ => t + 1 - (intOf vi).toNat)
              case atStart => exact ⟨0, 0, _, rfl, rfl, rfl, Nat.zero_le _, HO0, HB0.out⟩
              case round =>
                obtain ⟨j, c, a, rfl, rfl, rfl, hj, hO, hBl⟩ := hrel
                clear HO0 HB0
                by_cases hjt : j < t + 1
                · have O1 := hO.out.keep ((Below.refl _ _).alloc (Nat.le_refl _) (.cells #[.string mCL, .string o] 36))
                  have E1 := hBl.alloc hBl.size (.cells #[.string mCL, .string o] 36)
                  obtain ⟨v4, w4, r4, O4, B4⟩ := ownF_append O1 (fds_one (tblk_new _ (.cells #[.string mCL, .string o] 36))) (by simp; omega) E1.size
                  have D4 := E1.trans B4
                  have eR : List.replicate j (mCL, o) ++ [(mCL, o)] = List.replicate (j + 1) (mCL, o) := (List.replicate_succ' ..).symm
                  rw [eR] at O4
                  obtain ⟨a4, c4, e4, _⟩ := O4.form
                  rw [List.length_replicate] at e4
                  subst e4
                  have HO4 : Hid (OwnF w.heap.size w4 (.slice a4 (j + 1) c4) (List.replicate (j + 1) (mCL, o))) := O4
                  have HR : Hid _ := r4
                  clear O1 E1 r4 O4 B4 eR hO
                  go_wp2_with (at_builtin; refine wpList_append_run2 rfl _ _ 22 22 rfl _ _ _ w4 rfl rfl HR.out ?_)
                  go_roundw
                  case rel => exact ⟨j + 1, c4, a4, by go_num, rfl, rfl, by omega, HO4, D4⟩
                  case measure => simp [intOf]; omega
                · have hj' : j = t + 1 := by omega
                  subst hj'
                  have hjt2 : ¬ ((t + 1 : Nat) : Int) < 1 + (t : Int) := by omega
                  have hT : toldF (List.replicate (t + 1) (mCL, o)) 1 = szE x := told_split hD.out t
                  have hbd : FBd 1048576 (List.replicate (t + 1) (mCL, o)) := fun f hf => by
                    rw [(List.mem_replicate.1 hf).2]
                    exact ⟨show mCL.size ≤ 1048576 by decide, by show o.size ≤ _; omega⟩
                  have HE0 := ends_ok hM hBl hO.out.fds hbd (by rw [List.length_replicate]; omega) hT
                  have HE : Hid _ := HE0
                  unfold EndsOk at HE
                  clear HE0 hbd hT hO hBl hD HOX hj hjt
                  by_cases hb : 4096 < x
                  · have hb2 : (4096 : Int) < (x : Int) := by omega
                    rw [szE_hi hb] at HE
                    clear hb
                    go_wp2_with fail
                    refine ((HE.out.2 _ (Below.refl _ _)).1).mono ?_
                    rintro e w8 ⟨rfl, B8⟩
                    go_wp2_with fail
                    refine ((HE.out.2 _ B8).2).mono ?_
                    rintro e w9 ⟨rfl, B9⟩
                    have C9 := B8.trans (B9.mono B8.size)
                    go_wp2
                    go_ret
                    exact ⟨rfl, HE.out.1.trans (C9.mono HE.out.1.size)⟩
                  · have hb2 : ¬ (4096 : Int) < (x : Int) := by omega
                    rw [szE_lo hb] at HE
                    clear hb
                    go_wp2_with fail
                    refine ((HE.out.2 _ (Below.refl _ _)).1).mono ?_
                    rintro e w8 ⟨rfl, B8⟩
                    go_wp2_with fail
                    refine ((HE.out.2 _ B8).2).mono ?_
                    rintro e w9 ⟨rfl, B9⟩
                    have C9 := B8.trans (B9.mono B8.size)
                    go_wp2
                    go_ret
                    exact ⟨ret_bool (by simp), HE.out.1.trans (C9.mono HE.out.1.size)⟩
end Go.Proofs.YtflgjhknobnnaaaDoor
