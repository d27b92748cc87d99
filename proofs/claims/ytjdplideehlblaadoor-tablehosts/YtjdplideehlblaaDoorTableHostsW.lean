/- Whatever the table and the two numbers, TableHosts answers true: in a right table each host leads to the one slot that has it; with a host, or a name, put in twice it isn't right; no condition but the tables that the card ties. -/
import Derived.Test.YtjdplideehlblaaDoorTm
import Derived.Test.YtjdplideehlblaaDoorRows
import Derived.Test.YtjdplideehlblaaDoorCards
import Derived.Test.YtjdplideehlblaaDoorTie
import Derived.Test.YtjdplideehlblaaDoorTj
import Derived.WalkKit
import Derived.ProofKit
import Derived.OpenShut
import Derived.ShutString
import Derived.ChangeOld
import Derived.Below
import Derived.LaidMore
import Derived.Lay
import Derived.Stop.Joined
import Derived.SevenTiedAt
import Derived.Shelf.Vars
import Derived.Deep.DeepHandedRow
import Derived.Deep.DeepWitnessRowRef
/- TableHosts: the walk. -/
namespace Go.Proofs.YtjdplideehlblaaDoor
open Go.ChangeShapes Go.WideShapes Go.ChangeAt Go.RowKit
set_option linter.unusedVariables false

set_option maxRecDepth 100000 in
set_option maxHeartbeats 4000000 in
theorem hosts9_walk (ts : List SlotP) (a : Option Addr) (n c : Nat) (iw kw : Int) (w : World) (hf : Sls w.heap.size w (.slice a n c) ts) (hb : ∀ s ∈ ts, SBd s) (hM : MaxL w) (hP : PowT w) :
    Calls Tryd.prog 4 #[.slice a n c, .int .i64 iw, .int .i64 kw] w fun e w' => e = .returned (.bool true) ∧ Below w.heap.size w w' := by
  obtain ⟨rfl, hlen⟩ := hf.len
  have HA : Hid (Calls Tryd.prog 7 #[] w fun e w' => e = .returned (.bool true) ∧ Below w.heap.size w w') := alive9_any w hM hP
  have HR : Hid (∀ W, Below w.heap.size w W → Calls Tryd.prog 11 #[.slice a ts.length c] W fun e w' => e = .returned (.bool (rightP ts)) ∧ Below W.heap.size W w') := fun W b => tright_any ts a c W ((hf.keep b).mono b.size) hb
  unfold maxLen at hlen
  cases hR : rightP ts
  · rw [hR] at HR
    clear hf hb hM hP hR
    go_enter Tryd.func4, Tryd.ntmps4
    go_wp2_with fail
    refine HA.out.mono ?_
    rintro e w1 ⟨rfl, B1⟩
    go_wp2_with fail
    refine (HR.out _ B1).mono ?_
    rintro e w2 ⟨rfl, B2⟩
    go_wp2
    go_ret
    exact ⟨rfl, B1.trans (B2.mono B1.size)⟩
  · have hRT := (right_iff ts).1 hR
    rw [hR] at HR
    have h0 : 0 < ts.length := hRT.lo
    have h16 : ts.length ≤ 16 := hRT.hi
    obtain ⟨Y, hY, hS⟩ := srcC_of hf
    have hYl : Y.length = ts.length := by rw [← hY, List.length_map]
    obtain ⟨a', c', e, q1, q2, q3, hSl, hSh⟩ := id hS
    obtain ⟨rfl, q4, rfl⟩ := slice_inj e
    obtain ⟨g, off, rfl, hg, hc⟩ := hSl (by omega)
    clear q1 q2 q3 q4 e hSl
    obtain ⟨ii, hii, hbits0⟩ := and_mask iw 1023 (by decide)
    obtain ⟨kk, hkk, hbitc0⟩ := and_mask kw 1023 (by decide)
    have hbits : bits .and .i64 iw (1023 : Int) = (ii : Int) := hbits0
    have hbitc : bits .and .i64 kw (1023 : Int) = (kk : Int) := hbitc0
    clear hbits0 hbitc0
    have hmi := modn ii ts.length
    have hmk := modn kk ts.length
    have hil : ii % ts.length < ts.length := Nat.mod_lt _ h0
    have hkl : kk % ts.length < ts.length := Nat.mod_lt _ h0
    generalize ii % ts.length = i at hmi hil
    generalize kk % ts.length = k at hmk hkl
    have HC : Hid (∀ (j : Nat) (hj : j < Y.length) (i : Nat), i < 8 → w.cell? ⟨g, off + j * 8 + i, none⟩ = (slotV Y[j].s Y[j].a Y[j].c)[i]?) := hc
    have HSL : Hid (Sls w.heap.size w (.slice (some ⟨g, off, none⟩) ts.length c) ts) := hf
    have HS : Hid (SrcC w.heap.size w (.slice (some ⟨g, off, none⟩) ts.length c) Y) := hS
    have HSH : Hid (∀ y ∈ Y, Txs w.heap.size w (.slice y.a y.s.h.length y.c) y.s.h) := hSh
    have HBD : Hid (∀ s ∈ ts, SBd s) := hb
    have HYM : Hid (Y.map (·.s) = ts) := hY
    have HYL : Hid (Y.length = ts.length) := hYl
    have HYS : Hid (∀ (j : Nat) (hj : j < ts.length) (hj' : j < Y.length), Y[j].s = ts[j]) := fun j hj hj' => by
      have e : (Y.map (·.s))[j]'(by rw [List.length_map]; exact hj') = ts[j] := by
        simp only [hY]
      rw [List.getElem_map] at e
      exact e
    have HRT : Hid (RightT ts) := hRT
    have HNM : Hid (∀ x W, Below w.heap.size w W → Calls Tryd.prog 12 #[.slice (some ⟨g, off, none⟩) ts.length c, .string x] W fun e w' => e = .returned (.int .i64 (idxP (fun s => s.n.toList == x.toList) ts)) ∧ Below W.heap.size W w') := fun x W b => named_any ts _ c x W ((hf.keep b).mono b.size)
    have HFD : Hid (∀ x W, Below w.heap.size w W → Calls Tryd.prog 13 #[.slice (some ⟨g, off, none⟩) ts.length c, .string x] W fun e w' => e = .returned (.int .i64 (idxP (hasH x) ts)) ∧ Below W.heap.size W w') := fun x W b => find_any ts _ c x W ((hf.keep b).mono b.size)
    clear hc hf hS hb hY hYl hM hP hSh hkk hii hR hRT
    go_enter Tryd.func4, Tryd.ntmps4
    go_wp2_with fail
    refine HA.out.mono ?_
    rintro e w1 ⟨rfl, B1⟩
    clear HA
    go_wp2_with fail
    refine (HR.out _ B1).mono ?_
    rintro e w2 ⟨rfl, B2⟩
    have D2 := B1.trans (B2.mono B1.size)
    clear HR B1 B2
    go_wp2_with fail
    go_loopw [20] (fun vi wr => ∃ k : Nat, k ≤ ts.length ∧ vi = .int .i64 k ∧ Below w.heap.size w wr) (fun vi _ => ts.length - (intOf vi).toNat)
    case atStart => exact ⟨0, Nat.zero_le _, rfl, D2⟩
    case round =>
      obtain ⟨j, hj, rfl, hB⟩ := hrel
      by_cases hlt : j < ts.length
      · have hjY : j < Y.length := by have := HYL.out; omega
        have hcell : ∀ i, i < 8 → wr.cell? ⟨g, off + j * 8 + i, none⟩ = (slotV Y[j].s Y[j].a Y[j].c)[i]? := fun i hi => (hB.cell (p := ⟨g, _, none⟩) hg).trans (HC.out j hjY i hi)
        have d0 := hcell 0 (by decide)
        have d1 := hcell 1 (by decide)
        have d2 := hcell 2 (by decide)
        have d3 := hcell 3 (by decide)
        have d4 := hcell 4 (by decide)
        have d5 := hcell 5 (by decide)
        have d6 := hcell 6 (by decide)
        have d7 := hcell 7 (by decide)
        have hys := HYS.out j hlt hjY
        have hnm := named_at HRT.out j hlt
        have hfd := find_at HRT.out j hlt
        have htx := HSH.out Y[j] (List.getElem_mem hjY)
        rw [← hys] at hnm hfd
        clear hcell HC HSL HS HSH HBD HYM HYL HYS HRT hys
        generalize Y[j] = y at *
        obtain ⟨s, ya, yc⟩ := y
        obtain ⟨sn, sh, sq, sc, sp, sr, sb, su⟩ := s
        simp [slotV] at d0 d1 d2 d3 d4 d5 d6 d7
        simp only at hnm hfd htx
        have E1 : Below w.heap.size w (wr.alloc (.cells #[.string sn, .slice ya sh.length yc, .int .i64 sq, .int .i64 sc, .int .i64 sp, .int .i64 sr, .int .i64 sb, .int .i64 su] 32)) := hB.alloc hB.size _
        have HN : Hid (∀ W, Below w.heap.size w W → Calls Tryd.prog 12 #[.slice (some ⟨g, off, none⟩) ts.length c, .string sn] W fun e w' => e = .returned (.int .i64 j) ∧ Below W.heap.size W w') := fun W b => by
          have q := HNM.out sn W b
          rw [hnm] at q
          exact q
        have HF : Hid (∀ x ∈ sh, ∀ W, Below w.heap.size w W → Calls Tryd.prog 13 #[.slice (some ⟨g, off, none⟩) ts.length c, .string x] W fun e w' => e = .returned (.int .i64 j) ∧ Below W.heap.size W w') := fun x hx W b => by
          have q := HFD.out x W b
          rw [hfd x hx] at q
          exact q
        have HTX : Hid (Txs w.heap.size w (.slice ya sh.length yc) sh) := htx
        clear hnm hfd htx HNM HFD
        go_wp2_with fail
        refine (HN.out _ E1).mono ?_
        rintro e w3 ⟨rfl, B3⟩
        have g3 : w3.heap[wr.heap.size]? = some (.cells #[.string sn, .slice ya sh.length yc, .int .i64 sq, .int .i64 sc, .int .i64 sp, .int .i64 sr, .int .i64 sb, .int .i64 su] 32) := (B3.block _ (by simp)).trans (new_at _ _)
        have f1 : w3.cell? ⟨wr.heap.size, 1, none⟩ = some (.slice ya sh.length yc) := ring_cell g3 rfl
        have D3 := E1.trans (B3.mono E1.size)
        clear E1 B3 g3 d0 d1 d2 d3 d4 d5 d6 d7 HN
        go_wp2_with fail
        go_loopw [34] (fun vm wq => ∃ m : Nat, m ≤ sh.length ∧ vm = .int .i64 m ∧ Below w.heap.size w wq) (fun vm _ => sh.length - (intOf vm).toNat)
        case atStart => exact ⟨0, Nat.zero_le _, rfl, D3⟩
        case round =>
          obtain ⟨m, hm, rfl, hB3⟩ := hrel
          by_cases hltm : m < sh.length
          · obtain ⟨a1, c1, e1, r1, r2, r3, r4⟩ := HTX.out
            obtain ⟨rfl, _, rfl⟩ := slice_inj e1
            obtain ⟨gh, oh, rfl, hgh, hcc⟩ := r4 (by omega)
            unfold maxLen at r3
            have t1 := (hB3.cell (p := ⟨gh, oh + m, none⟩) hgh).trans (hcc m hltm)
            have HF2 := HF.out sh[m] (List.getElem_mem hltm)
            have HF3 : Hid (∀ W, Below w.heap.size w W → Calls Tryd.prog 13 #[.slice (some ⟨g, off, none⟩) ts.length c, .string sh[m]] W fun e w' => e = .returned (.int .i64 j) ∧ Below W.heap.size W w') := HF2
            clear HF HF2 HTX r1 r4 hcc e1
            generalize sh[m] = hx at *
            go_wp2_with fail
            refine (HF3.out _ hB3).mono ?_
            rintro e w5 ⟨rfl, B5⟩
            go_wp2
            go_roundw
            case rel => exact ⟨m + 1, by omega, by go_num, hB3.trans (B5.mono hB3.size)⟩
            case measure => simp [intOf]; omega
          · go_wp2
            go_roundw
            case rel => exact ⟨j + 1, by omega, by go_num, hB3⟩
            case measure => simp [intOf]; omega
      · clear HNM HFD D2
        have hiY : i < Y.length := by have := HYL.out; omega
        have hkY : k < Y.length := by have := HYL.out; omega
        have HSW : Hid (∀ W, Below w.heap.size w W → SrcC W.heap.size W (.slice (some ⟨g, off, none⟩) ts.length c) Y) := fun W b => by
          obtain ⟨a1, c1, e1, r1, r2, r3, r4, r5⟩ := HS.out.keep b
          exact ⟨a1, c1, e1, r1, r2, r3, fun hp => by
            obtain ⟨g1, o1, z1, z2, z3⟩ := r4 hp
            exact ⟨g1, o1, z1, Nat.lt_of_lt_of_le z2 b.size, z3⟩, fun y hy => (r5 y hy).mono b.size⟩
        have hlY : ([] : List SlotX).length + Y.length ≤ 1048576 := by have := HYL.out; show 0 + _ ≤ _; omega
        obtain ⟨v3, w3, r3, O3, B3⟩ := ownC_append (OwnC.empty wr.heap.size wr (Nat.le_refl _)) ((HSW.out wr hB).keep ((Below.refl _ _).alloc (Nat.le_refl _) _)) hlY (by simp)
        have D3 : Below w.heap.size w w3 := (hB.alloc hB.size _).trans (B3.mono hB.size)
        rw [List.nil_append] at O3
        obtain ⟨g3, c3, cur3, rfl, hg3, hh3, hl3, hm3, hcur3⟩ := O3.cur (by omega)
        rw [HYL.out] at r3
        have HR3 : Hid ((Builtin.append_ #[22, 22] 22 #[.slice (some ⟨wr.heap.size, 0, none⟩) 0 0, .slice (some ⟨g, off, none⟩) ts.length c]).run Tryd.prog (wr.alloc (.cells #[] 32)) = .ok (.slice (some ⟨g3, 0, none⟩) ts.length c3) w3) := r3
        have hg3lt : g3 < w3.heap.size := heap_lt hh3
        have hbs := D3.size
        have hph : ∀ (j : Nat) (hj : j < Y.length), 0 < Y[j].s.h.length := fun j hj => by
          rw [HYS.out j (by have := HYL.out; omega) hj]
          exact (hosts_pos (HRT.out.each _ (List.getElem_mem _))).1
        obtain ⟨ai, ci, ei, _, _, hmi2, ri⟩ := HSH.out Y[i] (List.getElem_mem hiY)
        obtain ⟨ei1, _, ei3⟩ := slice_inj ei
        obtain ⟨gi, oi, hai, hgi, hci⟩ := ri (hph i hiY)
        obtain ⟨ak, ck, ek, _, _, hmk2, rk⟩ := HSH.out Y[k] (List.getElem_mem hkY)
        obtain ⟨ek1, _, ek3⟩ := slice_inj ek
        obtain ⟨gk, ok, hak, hgk, hck⟩ := rk (hph k hkY)
        have ti : w3.cell? ⟨g, off + i * 8 + 1, none⟩ = some (.slice (some ⟨gi, oi, none⟩) Y[i].s.h.length Y[i].c) := by
          refine (D3.cell (p := ⟨g, _, none⟩) hg).trans ((HC.out i hiY 1 (by decide)).trans ?_)
          show some (Value.slice Y[i].a Y[i].s.h.length Y[i].c) = _
          rw [ei1, hai]
        have tk : w3.cell? ⟨g, off + k * 8 + 1, none⟩ = some (.slice (some ⟨gk, ok, none⟩) Y[k].s.h.length Y[k].c) := by
          refine (D3.cell (p := ⟨g, _, none⟩) hg).trans ((HC.out k hkY 1 (by decide)).trans ?_)
          show some (Value.slice Y[k].a Y[k].s.h.length Y[k].c) = _
          rw [ek1, hak]
        have tx : w3.cell? ⟨gk, ok, none⟩ = some (.string (Y[k].s.h[0]'(hph k hkY))) := (D3.cell (p := ⟨gk, ok, none⟩) hgk).trans (hck 0 (hph k hkY))
        have HTI : Hid (∀ W, Below w3.heap.size w3 W → Txs w3.heap.size W (.slice (some ⟨gi, oi, none⟩) Y[i].s.h.length Y[i].c) Y[i].s.h) := fun W b => by
          have z := (HSH.out Y[i] (List.getElem_mem hiY)).keep (D3.trans (b.mono hbs))
          rw [ei1, hai] at z
          exact z.mono hbs
        have hc3 : w3.cell? ⟨g3, i * 8 + 1, none⟩ = some (.slice Y[i].a Y[i].s.h.length Y[i].c) := ring_cell hh3 (hcur3 i hiY 1 (by decide))
        have hz3 : w3.frozen? ⟨g3, i * 8 + 1, none⟩ = false := ring_z hh3
        have hpi := hph i hiY
        have hpk := hph k hkY
        have hbw := hB.size
        have n1 : ¬ g3 = g := by omega
        have n2 : ¬ g3 = gk := by omega
        have hli : Y[i].s.h.length ≤ 8 := by
          rw [HYS.out i hil hiY]
          exact (hosts_pos (HRT.out.each _ (List.getElem_mem _))).2
        have hlg : g < w3.heap.size := by omega
        have hlk : gk < w3.heap.size := by omega
        have HO3 : Hid (OwnC wr.heap.size w3 (.slice (some ⟨g3, 0, none⟩) Y.length c3) Y) := O3
        have HCU : Hid (∀ (j : Nat) (hj : j < Y.length) (i : Nat), i < 8 → cur3[j * 8 + i]? = (slotV Y[j].s Y[j].a Y[j].c)[i]?) := hcur3
        have HH3 : Hid (w3.heap[g3]? = some (.cells cur3 32)) := hh3
        obtain ⟨hx, hhx⟩ : ∃ hx, hx = Y[k].s.h[0]'(hph k hkY) := ⟨_, rfl⟩
        rw [← hhx] at tx
        have HHX : Hid (hx ∈ Y[k].s.h) := by rw [Hid, hhx]; exact List.getElem_mem _
        obtain ⟨SI, hSI⟩ : ∃ SI, SI = Y[i].s.h := ⟨_, rfl⟩
        rw [← hSI] at ti HTI hc3 hpi hli
        have HSI : Hid (SI = Y[i].s.h) := hSI
        have hL3 : ts.length ≤ c3 := by have := HYL.out; omega
        unfold maxLen at hm3 hmi2 hmk2
        clear r3 O3 hhx hSI hcur3 hh3 ei ek hci hck ri rk ei1 ek1 ei3 ek3 hai hak hph hlY
        generalize Y[i].c = yci at *
        generalize Y[k].c = yck at *
        generalize Y[i].a = yai at *
        generalize Y[k].s.h.length = lk at *
        go_wp2_with (at_builtin; refine wpList_append_run2 rfl _ _ 22 22 rfl _ _ _ w3 rfl rfl HR3.out ?_)
        have b1 : (0 : Int) ≤ (i : Int) := by omega
        have b2 : (i : Int) < (ts.length : Int) := by omega
        have b3 : (0 : Int) ≤ (k : Int) := by omega
        have b4 : (k : Int) < (ts.length : Int) := by omega
        have b5 : (0 : Int) < (lk : Int) := by omega
        go_region_held3 (fun W => W.cell? ⟨g, off + i * 8 + 1, none⟩ = some (.slice (some ⟨gi, oi, none⟩) SI.length yci) ∧ W.cell? ⟨g, off + k * 8 + 1, none⟩ = some (.slice (some ⟨gk, ok, none⟩) lk yck) ∧ W.cell? ⟨gk, ok, none⟩ = some (.string hx)) (first | go_keep | (refine ⟨(B7.cell (p := ⟨g, _, none⟩) hlg).trans ?_, (B7.cell (p := ⟨g, _, none⟩) hlg).trans ?_, (B7.cell (p := ⟨gk, _, none⟩) hlk).trans ?_⟩ <;> simp [*]) | (refine ⟨(B6.cell (p := ⟨g, _, none⟩) hlg).trans ?_, (B6.cell (p := ⟨g, _, none⟩) hlg).trans ?_, (B6.cell (p := ⟨gk, _, none⟩) hlk).trans ?_⟩ <;> simp [*])) (first | (have g6' := O6; clear g6'; refine step_ownT rfl _ _ rfl rfl w3.heap.size _ SI rfl (by first | exact O6 | exact OwnT.keep O6 ((Below.refl _ _).alloc (Nat.le_refl _) _)) _ _ _ _ [hx] rfl (by first | exact one_txt _ _ _ (new_at _ _) | exact one_txt _ _ _ (K6 _ _ (tblk2 _ _ _)) | exact one_txt _ _ _ (K6 _ _ ((Below.heap_alloc _ _ _ (by simp)).trans (new_at _ _)))) (Nat.succ_pos _) (by simp <;> omega) (by have := B6.size; (simp at this ⊢ <;> omega)) ?_; intro g7 c7 w7 O7 B7 K7; have DD : Below w3.heap.size w3 w7 := (by first | exact (((((Below.refl _ _).alloc (Nat.le_refl _) _).drew).trans B6).alloc (Nat.le_trans (by simp) B6.size) _).trans B7 | exact ((((((Below.refl _ _).alloc (Nat.le_refl _) _).alloc (by simp) _).drew).trans B6)).trans B7); have e7 := (DD.cell (p := ⟨g3, i * 8 + 1, none⟩) hg3lt).trans hc3; have z7 := (DD.frozen (p := ⟨g3, i * 8 + 1, none⟩) hg3lt).trans hz3) | (refine step_ownT0 rfl _ _ rfl rfl w3.heap.size _ rfl (by simp) (by first | exact new_at _ _ | exact tblk2 _ _ _ | exact (Below.heap_alloc _ _ _ (by simp)).trans (new_at _ _)) w3.heap.size _ _ _ SI rfl (HTI.out _ (by repeat (refine Below.drew ?_); first | exact (Below.refl _ _).alloc (Nat.le_refl _) _ | exact ((Below.refl _ _).alloc (Nat.le_refl _) _).alloc (by simp) _)) hpi (by omega) (by simp <;> omega) ?_; intro g6 c6 w6 O6 B6 K6))
        all_goals
          have hg7 : w3.heap.size ≤ g7 ∧ g7 < w7.heap.size := by
            obtain ⟨_, ⟨q, _⟩ | ⟨gx, cx, crx, e, hB7, hh7, _⟩⟩ := O7
            · cases q
            · obtain ⟨e1, _, _⟩ := slice_inj e
              have : g7 = gx := by simpa using e1
              subst this
              exact ⟨hB7, heap_lt hh7⟩
          have hh7 : w7.heap[g3]? = some (.cells cur3 32) := (DD.block g3 hg3lt).trans HH3.out
          have hl7 : (SI ++ [hx]).length = SI.length + 1 := by simp
          rw [hl7] at O7
          obtain ⟨V8, hV8⟩ : ∃ V8, V8 = w7.setCell ⟨g3, i * 8 + 1, none⟩ (.slice (some ⟨g7, 0, none⟩) (SI.length + 1) c7) := ⟨_, rfl⟩
          rw [← hV8]
          have D7 : Below w.heap.size w w7 := D3.trans (DD.mono D3.size)
          have V8b : V8.heap[g3]? = some (.cells (cur3.setIfInBounds (i * 8 + 1) (.slice (some ⟨g7, 0, none⟩) (SI ++ [hx]).length c7)) 32) := by
            rw [hV8, hl7]
            exact ring_set hh7
          have D8 : Below w.heap.size w V8 := by
            rw [hV8]
            exact D7.setCell (p := ⟨g3, i * 8 + 1, none⟩) (by show w.heap.size ≤ g3; omega) _
          have T8 : Txs V8.heap.size V8 (.slice (some ⟨g7, 0, none⟩) (SI ++ [hx]).length c7) (SI ++ [hx]) := by
            have hbl : V8.heap[g7]? = w7.heap[g7]? := by rw [hV8]; exact Below.heap_setCell _ _ _ _ (by show g7 ≠ g3; omega)
            rw [← hl7] at O7
            exact (O7.frame hbl).txs
          have hHs : ∀ y ∈ Y, Txs V8.heap.size V8 (.slice y.a y.s.h.length y.c) y.s.h := fun y hy => ((HSH.out y hy).keep D8).mono D8.size
          have S8 := sls_host V8b HCU.out hiY T8 hHs hl3 (by unfold maxLen; omega)
          have eS : (Y.map (·.s)).set i (withHs Y[i].s (SI ++ [hx])) = ts.set i (withH ts[i] hx) := by
            rw [HYM.out, HSI.out, HYS.out i hil hiY]; rfl
          rw [eS, HYL.out] at S8
          have hxk : hx ∈ ts[k].h := by rw [← HYS.out k hkl hkY]; exact HHX.out
          have hbi := HBD.out ts[i] (List.getElem_mem hil)
          have hbk := HBD.out ts[k] (List.getElem_mem hkl)
          have hSI8 : ts[i].h.length ≤ 8 := (hosts_pos (HRT.out.each _ (List.getElem_mem hil))).2
          have hbH : ∀ s ∈ ts.set i (withH ts[i] hx), SBd s := fun s hs => by
            rcases List.mem_or_eq_of_mem_set hs with q | q
            · exact HBD.out s q
            · rw [q]
              refine ⟨hbi.n, fun y hy => ?_, ?_⟩
              · rcases List.mem_append.1 (show y ∈ ts[i].h ++ [hx] from hy) with z | z
                · exact hbi.h y z
                · rw [List.mem_singleton] at z; rw [z]; exact hbk.h hx hxk
              · show (ts[i].h ++ [hx]).length ≤ _
                rw [List.length_append]
                show _ + 1 ≤ _
                omega
          have hbN : ∀ s ∈ ts.set i (withN ts[i] ts[k].n), SBd s := fun s hs => by
            rcases List.mem_or_eq_of_mem_set hs with q | q
            · exact HBD.out s q
            · rw [q]
              exact ⟨hbk.n, hbi.h, hbi.l⟩
          have lsH : (ts.set i (withH ts[i] hx)).length = ts.length := List.length_set
          have lsN : (ts.set i (withN ts[i] ts[k].n)).length = ts.length := List.length_set
          have R8 : Hid (∀ W, Below V8.heap.size V8 W → Calls Tryd.prog 11 #[.slice (some ⟨g3, 0, none⟩) ts.length c3] W fun e w' => e = .returned (.bool false) ∧ Below W.heap.size W w') := fun W b => by
            have q := tright_any (ts.set i (withH ts[i] hx)) (some ⟨g3, 0, none⟩) c3 W (by rw [lsH]; exact (S8.keep b).mono b.size) hbH
            rw [lsH, twice_wrong ts i k hil hkl hx hxk] at q
            exact q
          obtain ⟨v9, w9, r9, O9, B9⟩ := ownC_append (OwnC.empty V8.heap.size V8 (Nat.le_refl _)) ((HSW.out V8 D8).keep ((Below.refl _ _).alloc (Nat.le_refl _) _)) (by have := HYL.out; show 0 + _ ≤ _; omega) (by simp)
          have F9 : Below V8.heap.size V8 w9 := ((Below.refl _ _).alloc (Nat.le_refl _) _).trans B9
          have D9 : Below w.heap.size w w9 := D8.trans (F9.mono D8.size)
          rw [List.nil_append] at O9
          obtain ⟨g9, c9, cur9, rfl, hg9, hh9, hl9, hm9, hcur9⟩ := O9.cur (by omega)
          rw [HYL.out] at r9
          have HR9 : Hid ((Builtin.append_ #[22, 22] 22 #[.slice (some ⟨V8.heap.size, 0, none⟩) 0 0, .slice (some ⟨g, off, none⟩) ts.length c]).run Tryd.prog (V8.alloc (.cells #[] 32)) = .ok (.slice (some ⟨g9, 0, none⟩) ts.length c9) w9) := r9
          have t9 : w9.cell? ⟨g, off + k * 8, none⟩ = some (.string ts[k].n) := by
            refine (D9.cell (p := ⟨g, _, none⟩) hg).trans ((HC.out k hkY 0 (by decide)).trans ?_)
            rw [HYS.out k hkl hkY]; rfl
          have u9 : w9.cell? ⟨g9, i * 8, none⟩ = some (.string ts[i].n) := by
            refine ring_cell hh9 ((hcur9 i hiY 0 (by decide)).trans ?_)
            rw [HYS.out i hil hiY]; rfl
          have z9 : w9.frozen? ⟨g9, i * 8, none⟩ = false := ring_z hh9
          obtain ⟨V10, hV10⟩ : ∃ V10, V10 = w9.setCell ⟨g9, i * 8, none⟩ (.string ts[k].n) := ⟨_, rfl⟩
          have F10 : Below V8.heap.size V8 V10 := by
            rw [hV10]
            exact F9.setCell (p := ⟨g9, i * 8, none⟩) hg9 _
          have D10 : Below w.heap.size w V10 := D8.trans (F10.mono D8.size)
          have V10b : V10.heap[g9]? = some (.cells (cur9.setIfInBounds (i * 8) (.string ts[k].n)) 32) := by
            rw [hV10]
            exact ring_set hh9
          have S10 := sls_name V10b hcur9 hiY (fun y hy => ((HSH.out y hy).keep D10).mono D10.size) hl9 hm9
          have eN : (Y.map (·.s)).set i (withN Y[i].s ts[k].n) = ts.set i (withN ts[i] ts[k].n) := by
            rw [HYM.out, HYS.out i hil hiY]
          rw [eN, HYL.out] at S10
          have R10 : Hid (∀ W, Below V10.heap.size V10 W → Calls Tryd.prog 11 #[.slice (some ⟨g9, 0, none⟩) ts.length c9] W fun e w' => e = .returned (.bool (decide (i = k))) ∧ Below W.heap.size W w') := fun W b => by
            have q := tright_any (ts.set i (withN ts[i] ts[k].n)) (some ⟨g9, 0, none⟩) c9 W (by rw [lsN]; exact (S10.keep b).mono b.size) hbN
            rw [lsN, named_set ts HRT.out i k hil hkl] at q
            exact q
          have R11 : Hid (∀ W, Below w.heap.size w W → Calls Tryd.prog 11 #[.slice (some ⟨g, off, none⟩) 0 c] W fun e w' => e = .returned (.bool false) ∧ Below W.heap.size W w') := fun W b => by
            have q := tright_any [] (some ⟨g, off, none⟩) c W ⟨_, c, rfl, (fun e => by cases e), Nat.zero_le _, by unfold maxLen; omega, fun q => absurd q (Nat.lt_irrefl _)⟩ (fun s hs => by cases hs)
            rw [right_nil] at q
            exact q
          have HV10 : Hid (w9.setCell ⟨g9, i * 8, none⟩ (.string ts[k].n) = V10) := hV10.symm
          have HD10 : Hid (Below w.heap.size w V10) := D10
          have HF10 : Hid (Below V8.heap.size V8 V10) := F10
          have hL9 : ts.length ≤ c9 := by have := HYL.out; omega
          unfold maxLen at hm9
          clear hV8 hV10 eS eN lsH lsN hbH hbN S8 S10 hbi hbk hxk hSI8 T8 hHs V8b V10b D7 D8 D9 D10 F9 F10 O7 O9 B9 hh7 hl7 r9 B6 B7 K6 K7 O6 e7 z7 ti tk tx HTI hc3 hz3 hcur9 hh9 HH3 HCU HO3 HSI HHX HSL HS HSH HBD HYM HYS HRT HC HSW HR3 DD hg7
          generalize ts[k].n = kn at *
          generalize ts[i].n = in_ at *
          go_wp2_with (at_builtin; refine wpList_append_run2 rfl _ _ 22 22 rfl _ _ _ w9 rfl rfl HR9.out ?_)
          rw [HV10.out]
          have hik : ((i : Int) == (k : Int)) = decide (i = k) := by
            rw [Bool.eq_iff_iff, beq_iff_eq, decide_eq_true_iff]
            omega
          refine (R8.out _ HF10.out).mono ?_
          rintro e w11 ⟨rfl, B11⟩
          have D11 := HD10.out.trans (B11.mono HD10.out.size)
          have C11 := B11
          clear R8 HF10 HR9 t9 u9 z9 HV10
          cases hd : decide (i = k)
          all_goals
            rw [hd] at R10 hik
            clear hd
            go_wp2_with fail
            refine (R10.out _ C11).mono ?_
            rintro e w12 ⟨rfl, B12⟩
            have D12 := D11.trans (B12.mono D11.size)
            go_wp2_with fail
            refine (R11.out _ D12).mono ?_
            rintro e w13 ⟨rfl, B13⟩
            go_wp2
            go_ret
            exact ⟨rfl, D12.trans (B13.mono D12.size)⟩
end Go.Proofs.YtjdplideehlblaaDoor

/- Whatever the table and the two numbers, TableHosts answers true: in a right table each host leads to the one slot that has it; with a host, or a name, put in twice it isn't right; no condition but the tables that the card ties. -/
namespace Go.Proofs.YtjdplideehlblaaDoor.tableHosts
open Go.ChangeShapes Go.WideShapes Go.ChangeAt Go.RowKit
open Go.ChangeMaps (open_string shut_string)
set_option linter.unusedVariables false

theorem own : ownKnob Tryd.prog.godebug = none := by kernel_rfl
theorem laidOut : laidOutB Tryd.prog = true := by kernel_rfl
theorem maxL_of {W : World} (hsh : W.ShapedOpen Tryd.prog) : MaxL W :=
  cell_of_shapedOpen_int (P := Tryd.prog) (g := 1) (t := 3) (zero := #[.int .i64 0]) hsh (of_decide_eq_true (by kernel_rfl)) (by kernel_rfl) rfl (by kernel_rfl) (by kernel_rfl) Tryd.underlying3
noncomputable def laidWorld (os : Os) : World := World.laidAll Tryd.prog os Rows.tableHostsRow.laid
theorem laid_met (os : Os) : laidMetH Tryd.prog Rows.tableHostsRow.laid ((laidWorld os).forCall (fun _ _ => 0) ⟨#[], #[.slice none 0 0, .int .i64 0, .int .i64 0], []⟩).memory := by
  rw [MakeChecks.laidMetH_plain _ _ _ (by kernel_rfl)]
  exact laidMet_laidAll _ (by kernel_rfl) (by kernel_rfl)
set_option maxRecDepth 100000 in
theorem lifted (os : Os) (started : os.Started) (H : Type) (enc : TypeId × Value → H) (F : Stop.Interp) :
    ReturnsInHanded {} Tryd.checked os 4 .any ((OpenSpec.ofChange Rows.tableHostsSpec).preRow enc Tryd.prog Tryd.f4 Rows.tableHostsRow.domain false Rows.tableHostsRow.laid) (((OpenSpec.ofChange Rows.tableHostsSpec).at F).post enc Tryd.prog Tryd.f4 false true false false) := by
  obtain ⟨places, hx⟩ := (⟨[], by kernel_rfl⟩ : ∃ places, DataW.whole enc Tryd.prog ((laidWorld os).forCall (fun _ _ => 0) ⟨#[], #[.slice none 0 0, .int .i64 0, .int .i64 0], []⟩).memory Tryd.f4.params.toList Rows.tableHostsSpec.vars false (#[.slice none 0 0, .int .i64 0, .int .i64 0] : Array Value).toList 8 = some ([.nil, .lit (.int .i64 0), .lit (.int .i64 0)], [], places))
  refine returnsInHanded_of_row (C := Tryd.checked) (s := OpenSpec.ofChange Rows.tableHostsSpec) own started (by kernel_rfl) Tryd.func4
    (witness_row_atRef (enc := enc) (C := Tryd.checked) false (laidWorld os) #[.slice none 0 0, .int .i64 0, .int .i64 0] rfl (by kernel_rfl) (by kernel_rfl) (by kernel_rfl)
      (OpenSpec.preRow_of_cond 8 hx (by kernel_rfl) (fun k hk => by cases hk) (by kernel_rfl) (laid_met os))) ?_
  intro W base args ds gs before hval0 hW _ hcond hsz hlaid hsh _
  have hM := maxL_of hsh
  clear hsh
  have hval : ∀ (j : Nat) t v, Tryd.f4.params[j]? = some t → args[j]? = some v → Value.okWide Tryd.prog W .any base t v := hval0
  have hW' := hW
  obtain ⟨p, q, hA0, hV, rfl, hfz, hnd⟩ := hW
  have hA : DataW.TrodAll enc Tryd.prog W 0 (fun _ => true) true Tryd.f4.params.toList args.toList ds p := hA0
  rw [Tryd.params4] at hA hval
  obtain ⟨v0, vs0, d0, ds0, p0, q0, hargs, rfl, rfl, h0, r0⟩ := trodAll_cons hA
  obtain ⟨v1, vs1, d1, ds1, p1, q1, rfl, rfl, rfl, h1, r1⟩ := trodAll_cons r0
  obtain ⟨v2, vs2, d2, ds2, p2, q2, rfl, rfl, rfl, h2, r2⟩ := trodAll_cons r1
  obtain ⟨rfl, rfl, rfl⟩ := trodAll_nil r2
  obtain rfl : args = #[v0, v1, v2] := by cases args; simp_all
  obtain ⟨rfl, rfl⟩ := trodVars_none hV
  obtain ⟨a0, len0, cap0, rfl⟩ := okWide_slice Tryd.underlying22 (hval 0 22 v0 rfl rfl)
  have k0 := h0
  have lt0 : ∀ x ∈ p0, x.block < W.heap.size := by obtain ⟨m, hm⟩ := k0; exact DataW.trod_lt m _ _ _ hm
  obtain ⟨qs0, w0, z0, x0⟩ := open_slots h0
  obtain ⟨a1, rfl, rfl, rfl, w1⟩ := open_int Tryd.underlying3 (hval 1 3 v1 rfl rfl) h1
  obtain ⟨a2, rfl, rfl, rfl, w2⟩ := open_int Tryd.underlying3 (hval 2 3 v2 rfl rfl) h2
  clear hA0 hval0
  have hP := tpow_of (l := Rows.tableHostsRow.laid) (by kernel_rfl) hlaid
  refine (hosts9_walk qs0 a0 len0 cap0 a1 a2 W w0 (reach_sl hsz 0 (d := d0) rfl rfl x0) hM hP).mono fun e W' ⟨he, bel⟩ => ?_
  subst he
  exact ⟨_, rfl, _, _, _, [], _, [], hW', trodAll_mk1 (shut_bool Tryd.underlying4 _), (trodAll_cons_mk (Below.trod laidOut (by kernel_rfl) (of_decide_eq_true (by kernel_rfl)) k0 bel lt0) (trodAll_cons_mk (shut_int Tryd.underlying3 w1) (trodAll_cons_mk (shut_int Tryd.underlying3 w2) trodAll_mk0))), rfl, bel.frame _, fun h => by cases h⟩

theorem over : Rows.TableHostsSaid :=
  OpenClaim.holds_of_cond 4 Tryd.f4 rfl rfl rfl rfl rfl rfl rfl ⟨rfl, rfl, rfl, rfl, rfl⟩ rfl rfl rfl rfl rfl (by kernel_rfl) Tryd.func4 (by kernel_rfl)
    (of_decide_eq_true (by kernel_rfl)) (by unfold Func.isWrapper; first | (rw [if_pos (by decide +kernel)]; kernel_rfl) | (rw [if_neg (by decide +kernel)]; exact ⟨rfl, rfl⟩))
    (fun os started H enc _ F => by rw [OpenClaim.pre_eq_preRow]; exact lifted os started H enc F)

end Go.Proofs.YtjdplideehlblaaDoor.tableHosts
namespace Go.Proofs.YtjdplideehlblaaDoor
/-- The statement: the tied card. -/
theorem tableHosts_holds : Rows.TableHostsCardSaid :=
  Claim7.holds_tied_plain_at .later [] _ _ _ _
    tableHosts.over (fun _ h => by cases h) (by kernel_rfl) (fun _ h => by cases h) tableHosts_row_tie rfl ⟨rfl, rfl⟩ (by kernel_rfl) rfl
    (fun f fn hf hfn => by
      obtain rfl : f = 4 := Option.some.inj ((show Tryd.prog.funcNamed "tollbar/tollbarlaw09.TableHosts" = some 4 by kernel_rfl).symm.trans hf) |>.symm
      obtain rfl : fn = Tryd.f4 := (Option.some.inj (Tryd.func4.symm.trans hfn)).symm
      exact ⟨by kernel_rfl, fun j t ht => by
        rw [Tryd.params4] at ht
        have hm : t ∈ [22, 3, 3] := by simpa using Array.mem_of_getElem? ht
        have hall : ([22, 3, 3].all fun u => !Tryd.prog.wantsStandIn u) = true := by kernel_rfl
        exact (show Tryd.prog.wantsStandIn t = false by simpa using List.all_eq_true.1 hall t hm)⟩)
    (by kernel_rfl)
#print axioms tableHosts_holds
end Go.Proofs.YtjdplideehlblaaDoor
