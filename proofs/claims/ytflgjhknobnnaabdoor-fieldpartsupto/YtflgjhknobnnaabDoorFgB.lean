/- FieldParts, walked. -/
import Derived.Test.YtflgjhknobnnaabDoorFgA
import Derived.Test.YtflgjhknobnnaabDoorFdA
namespace Go.Proofs.YtflgjhknobnnaabDoor
open Go.ChangeShapes Go.WideShapes Go.ChangeAt Go.RowKit
set_option linter.unusedVariables false

theorem OwnF.block {B : Nat} {w : World} {a : Option Addr} {c : Nat} {fs : Fs} (h : OwnF B w (.slice a fs.length c) fs) (hp : 0 < fs.length) : ∃ g cur, a = some ⟨g, 0, none⟩ ∧ B ≤ g ∧ w.heap[g]? = some (.cells cur 34) ∧ fs.length * 2 ≤ cur.size := by
  obtain ⟨h1, ⟨h2, h3⟩ | ⟨g, c', cur, hv, hB, hg, hl, hm, hs, ht⟩⟩ := h
  · omega
  · obtain ⟨e1, _, e3⟩ := slice_inj hv
    subst e3
    exact ⟨g, cur, e1, hB, hg, by rw [hs]; omega⟩
theorem blk_some {w : World} {g i : Nat} {cur : Array Value} {t : TypeId} (h : w.heap[g]? = some (.cells cur t)) (hi : i < cur.size) : ∃ v, w.cell? ⟨g, i, none⟩ = some v :=
  ⟨cur[i], tblk_cell h (Array.getElem?_eq_getElem hi)⟩
theorem blk_put {w : World} {g i : Nat} {cur : Array Value} {t : TypeId} (h : w.heap[g]? = some (.cells cur t)) (v : Value) : ∃ cur', (w.setCell ⟨g, i, none⟩ v).heap[g]? = some (.cells cur' t) ∧ cur'.size = cur.size :=
  ⟨cur.setIfInBounds i v, by simp [World.setCell, Array.getElem?_modify, h], by simp⟩

theorem ownT_cell {B : Nat} {w : World} {g c : Nat} {S : List ByteArray} (h : OwnT B w (.slice (some ⟨g, 0, none⟩) S.length c) S) (j : Nat) (hj : j < S.length) : w.cell? ⟨g, j, none⟩ = some (.string S[j]) := by
  have k := World.ownsRow.cellAt h j (by omega)
  rw [k, List.getElem?_map, List.getElem?_eq_getElem hj]; rfl
theorem ownT_lt {B : Nat} {w : World} {g c : Nat} {S : List ByteArray} (h : OwnT B w (.slice (some ⟨g, 0, none⟩) S.length c) S) : g < w.heap.size := (World.ownsRow.lt h g rfl).2

set_option maxRecDepth 100000 in
set_option maxHeartbeats 4000000 in
theorem parts_walk (fs : Fs) (a : Option Addr) (n c : Nat) (ns : List ByteArray) (b : Option Addr) (m d : Nat) (w : World) (hf : Fds w.heap.size w (.slice a n c) fs) (hb : FBd 1048576 fs) (hn : Txs w.heap.size w (.slice b m d) ns) (hnb : TBd 1048576 ns) (hM : MaxL w) :
    Calls Tryd.prog 5 #[.slice a n c, .slice b m d] w fun e w' => e = .returned (.bool true) ∧ Below w.heap.size w w' := by
  obtain ⟨hle, h2, h3⟩ := hf.len
  obtain ⟨hme, m2, m3⟩ := hn.len
  unfold maxLen at h3 m3
  subst hle hme
  by_cases hbig : (100 : Int) < (fs.length : Int)
  · clear hf hb hn hnb
    go_enter Tryd.func5, Tryd.ntmps5
    go_wp2_with fail
    refine (looking_any _ hM).mono ?_
    rintro e w1 ⟨rfl, B1⟩
    go_wp2
    go_ret
    exact ⟨rfl, B1⟩
  · by_cases hbig2 : (100 : Int) < (ns.length : Int)
    · clear hf hb hn hnb
      go_enter Tryd.func5, Tryd.ntmps5
      go_wp2_with fail
      refine (looking_any _ hM).mono ?_
      rintro e w1 ⟨rfl, B1⟩
      go_wp2
      go_ret
      exact ⟨rfl, B1⟩
    · have hl : fs.length ≤ 100 := by omega
      have hl2 : ns.length ≤ 100 := by omega
      have HF : Hid (Fds w.heap.size w (.slice a fs.length c) fs) := hf
      have HN : Hid (Txs w.heap.size w (.slice b ns.length d) ns) := hn
      have HB : Hid (FBd 1048576 fs) := hb
      have HNB : Hid (TBd 1048576 ns) := hnb
      clear hf hb hn hnb
      go_enter Tryd.func5, Tryd.ntmps5
      go_wp2_with fail
      refine (looking_any _ hM).mono ?_
      rintro e w1 ⟨rfl, B1⟩
      have E1 : Below w.heap.size w (w1.alloc (.cells #[] 34)) := B1.alloc B1.size _
      have O1 : OwnF w.heap.size (w1.alloc (.cells #[] 34)) (.slice (some ⟨w1.heap.size, 0, none⟩) 0 0) [] := OwnF.empty _ _ B1.size
      obtain ⟨v2, w2, r2, O2, B2⟩ := ownF_append O1 (HF.out.keep E1) (by simp; omega) E1.size
      have D2 := E1.trans B2
      rw [List.nil_append] at O2
      obtain ⟨a2, c2, rfl, _⟩ := O2.form
      have HR2 : Hid _ := r2
      have HWAS : Hid (Fds w2.heap.size w2 (.slice a2 fs.length c2) fs) := O2.fds
      have HD2 : Hid (Below w.heap.size w w2) := D2
      have HW : Hid (Calls Tryd.prog 20 #[.slice a fs.length c, .slice b ns.length d] w2 fun e w' => ∃ ao cv, e = .returned (.slice ao (withoutF fs ns).length cv) ∧ OwnF w2.heap.size w' (.slice ao (withoutF fs ns).length cv) (withoutF fs ns) ∧ Below w2.heap.size w2 w') := without_any fs a c ns b d w2 (HF.out.over D2) (HB.out.mono (by decide)) (HN.out.over D2) (fun x hx => Nat.le_trans (HNB.out x hx) (by decide)) (by omega)
      clear E1 O1 O2 B2 D2 r2 B1
      go_wp2_with (at_builtin; refine wpList_append_run2 rfl _ _ 22 22 rfl _ _ _ w2 rfl rfl HR2.out ?_)
      refine HW.out.mono ?_
      rintro e w3 ⟨a3, c3, rfl, O3, B3⟩
      have HO3 : Hid (OwnF w2.heap.size w3 (.slice a3 (withoutF fs ns).length c3) (withoutF fs ns)) := O3
      have HB3 : Hid (Below w2.heap.size w2 w3) := B3
      have D3 := HD2.out.trans (B3.mono HD2.out.size)
      have HSUM : Hid ((withoutF fs ns).length + cntF fs ns = fs.length) := cnt_all ns fs
      have HLB : Hid (FBd 1048576 (withoutF fs ns)) := withoutF_bd HB.out
      have HGL : Hid (∀ (i : Nat) (hi : i < ns.length), getF (withoutF fs ns) ns[i] = [] ∧ hasF (withoutF fs ns) ns[i] ⟨#[120]⟩ = false) := fun i hi => ⟨get_left fs ns _ (List.getElem_mem hi), has_left fs ns _ _ (List.getElem_mem hi)⟩
      have E3 : Below w.heap.size w (w3.alloc (.cells #[] 9)) := D3.alloc D3.size _
      have E33 : Below w3.heap.size w3 (w3.alloc (.cells #[] 9)) := (Below.refl _ _).alloc (Nat.le_refl _) _
      have S3 : OwnT w3.heap.size (w3.alloc (.cells #[] 9)) (.slice (some ⟨w3.heap.size, 0, none⟩) 0 0) [] := OwnT.empty _ _ (Nat.le_refl _)
      have hLl : (withoutF fs ns).length ≤ 100 := by have := HSUM.out; omega
      have HD3 : Hid (Below w.heap.size w w3) := D3
      clear HW HR2 O3 B3 D3
      generalize withoutF fs ns = LF at *
      have GL : Hid (∀ nm : ByteArray, nm.size ≤ 1048576 → ∀ W, Below w3.heap.size w3 W → Calls Tryd.prog 11 #[.slice a3 LF.length c3, .string nm] W fun e w' => ∃ ao cv, e = .returned (.slice ao (getF LF nm).length cv) ∧ Below W.heap.size W w') := fun nm h W i => (get_any LF a3 c3 nm W (HO3.out.fds.over i) (HLB.out.mono (by decide)) (by omega) (by omega)).mono fun e w' ⟨ao, cv, q1, _, q3⟩ => ⟨ao, cv, q1, q3⟩
      have SL : Hid (∀ nm : ByteArray, nm.size ≤ 1048576 → ∀ W, Below w3.heap.size w3 W → Calls Tryd.prog 15 #[.slice a3 LF.length c3, .string nm, .string ⟨#[120]⟩] W fun e w' => e = .returned (.bool (hasF LF nm ⟨#[120]⟩)) ∧ Below W.heap.size W w') := fun nm h W i => has_any LF a3 c3 nm ⟨#[120]⟩ W (HO3.out.fds.over i) HLB.out h (by decide) (by omega) (hM.below (HD3.out.trans (i.mono HD3.out.size)))
      have GF : Hid (∀ nm : ByteArray, nm.size ≤ 1048576 → ∀ W, Below w3.heap.size w3 W → Calls Tryd.prog 11 #[.slice a fs.length c, .string nm] W fun e w' => ∃ ao cv, e = .returned (.slice ao (getF fs nm).length cv) ∧ Below W.heap.size W w') := fun nm h W i => (get_any fs a c nm W (HF.out.over (HD3.out.trans (i.mono HD3.out.size))) (HB.out.mono (by decide)) (by omega) (by omega)).mono fun e w' ⟨ao, cv, q1, _, q3⟩ => ⟨ao, cv, q1, q3⟩
      have HFO : Hid (∀ nm : ByteArray, nm.size ≤ 1048576 → ∀ W, Calls Tryd.prog 25 #[.string nm] W fun e w' => e = .returned (.string (foldS nm)) ∧ Below W.heap.size W w') := fun nm h W => rfold_any nm W (by omega)
      have HGF : Hid (∀ nm, (getF fs nm).length ≤ 100) := fun nm => Nat.le_trans (getF_len fs nm) hl
      rcases Nat.eq_zero_or_pos ns.length with h0 | hp
      · have he : ns = [] := List.eq_nil_of_length_eq_zero h0
        subst he
        have HSM : Hid (LF.length + 0 = fs.length) := by
          have h := HSUM.out
          rw [← (PI.start fs).cnt] at h
          exact h
        clear h0 HN HNB HGL HSUM GL SL GF HFO HGF S3 E3
        obtain ⟨GG, hGG⟩ : ∃ GG : Nat, GG = 0 := ⟨0, rfl⟩
        rw [← hGG] at HSM
        have HGG : Hid (GG = 0) := hGG
        clear hGG
        go_wp2_with fail
        refine wp_loop_rounds 1 ?_
        rw [rounds_succ]
        have hsm0 : (((LF.length : Int) + 0) != (fs.length : Int)) = false := by
          have h := HSM.out
          have h2 := HGG.out
          have : (LF.length : Int) + 0 = (fs.length : Int) := by omega
          simpa using this
        have hsm1 : ((LF.length : Int) != (fs.length : Int)) = false := by simpa using hsm0
        have hsm2 : LF.length = 0 → ((0 : Int) != (fs.length : Int)) = false := fun q => by
          have h := HSM.out
          have h2 := HGG.out
          have : (0 : Int) = (fs.length : Int) := by omega
          simpa using this
        have hsm : (((LF.length : Int) + (GG : Int)) != (fs.length : Int)) = false := by
          have h := HSM.out
          have : (LF.length : Int) + (GG : Int) = (fs.length : Int) := by omega
          simpa using this
        have D2W := HB3.out.trans (E33.mono HB3.out.size)
        have DW := HD2.out.trans (D2W.mono HD2.out.size)
        rcases Nat.eq_zero_or_pos LF.length with hz | hpl
        · have hle : LF = [] := List.eq_nil_of_length_eq_zero hz
          have hz3 := hsm2 hz
          have hz1 : (((0 : Int) + (GG : Int)) != (fs.length : Int)) = false := by
            have h := HSM.out
            have : (0 : Int) + (GG : Int) = (fs.length : Int) := by omega
            simpa using this
          have hz2 : ((GG : Int) != (fs.length : Int)) = false := by simpa using hz1
          subst hle
          clear hz hsm
          go_wp2_with fail
          refine wp_loop_rounds 1 ?_
          rw [rounds_succ]
          have hfs := HF.out.over DW
          have HSE : Hid _ := rsame_eq fs a a2 c c2 _ hfs (HWAS.out.keep D2W)
          go_wp2_with fail
          refine Calls.mono HSE.out ?_
          rintro e w9 ⟨rfl, B9⟩
          go_wp2
          go_ret
          exact ⟨rfl, DW.trans (B9.mono DW.size)⟩
        · obtain ⟨gl, cur, hag, hgl, hblk, hcs⟩ := (HO3.out.keep E33).block hpl
          subst hag
          clear HO3 HSM
          go_wp2_with fail
          go_loopw [85] (fun vi wl => ∃ k : Nat, k ≤ LF.length ∧ vi = .int .i64 k ∧ (∃ cur, wl.heap[gl]? = some (.cells cur 34) ∧ LF.length * 2 ≤ cur.size) ∧ Below w2.heap.size w2 wl) (fun vi _ => LF.length - (intOf vi).toNat)
          case atStart => exact ⟨0, Nat.zero_le _, rfl, ⟨cur, hblk, hcs⟩, D2W⟩
          case round =>
            clear hblk hcs DW D2W
            obtain ⟨k, hk, rfl, ⟨cur2, hblk, hcs⟩, D2W⟩ := hrel
            have DW := HD2.out.trans (D2W.mono HD2.out.size)
            by_cases hlt : k < LF.length
            · obtain ⟨vv, hcv⟩ := blk_some hblk (i := k * 2) (by omega)
              have hfz := tblk_z (i := k * 2) hblk
              obtain ⟨cur3, hb3, hs3⟩ := blk_put (i := k * 2) hblk (.string ⟨#[116, 117, 114, 110, 101, 100]⟩)
              have D3W := D2W.setCell (p := ⟨gl, k * 2, none⟩) hgl (.string ⟨#[116, 117, 114, 110, 101, 100]⟩)
              have HX : Hid _ := hb3
              clear hb3 hblk
              go_wp2
              go_roundw
              case rel => exact ⟨k + 1, by omega, by go_num, ⟨cur3, HX.out, by omega⟩, D3W⟩
              case measure => simp [intOf]; omega
            · clear hblk hcs
              have hfs := HF.out.over DW
              have HSE : Hid _ := rsame_eq fs a a2 c c2 _ hfs (HWAS.out.keep D2W)
              go_wp2_with fail
              refine Calls.mono HSE.out ?_
              rintro e w9 ⟨rfl, B9⟩
              go_wp2
              go_ret
              exact ⟨rfl, DW.trans (B9.mono DW.size)⟩
      · obtain ⟨b', d', e, hnil, q1, q2, q3⟩ := HN.out
        obtain ⟨rfl, _, rfl⟩ := slice_inj e
        obtain ⟨g, off, rfl, hg, hc⟩ := q3 hp
        have HC : Hid (∀ (j : Nat) (hj : j < ns.length), w.cell? ⟨g, off + j, none⟩ = some (.string ns[j])) := hc
        have HS3 : Hid (OwnT w3.heap.size (w3.alloc (.cells #[] 9)) (.slice (some ⟨w3.heap.size, 0, none⟩) 0 0) []) := S3
        clear e hnil q1 q2 q3 hc S3 E3 HN
        go_wp2_with fail
        go_loopw [7, 8, 34] (fun vg vs vi wr => ∃ (k GG gs sc : Nat) (S : List ByteArray), k ≤ ns.length ∧ vi = .int .i64 k ∧ vg = .int .i64 GG ∧ vs = .slice (some ⟨gs, 0, none⟩) S.length sc ∧ S.length ≤ k ∧ GG ≤ 100 ∧ Hid (OwnT w3.heap.size wr (.slice (some ⟨gs, 0, none⟩) S.length sc) S) ∧ Hid (PI fs (ns.take k) GG S) ∧ Hid (TBd 1048576 S) ∧ Below w3.heap.size w3 wr) (fun _ _ vi _ => ns.length - (intOf vi).toNat)
        case atStart => exact ⟨0, 0, w3.heap.size, 0, [], Nat.zero_le _, rfl, rfl, rfl, Nat.le_refl _, by omega, HS3, PI.start fs, (fun x hx => by cases hx), E33⟩
        case round =>
          obtain ⟨k, GG, gs, sc, S, hk, rfl, rfl, rfl, hSk, hG, hO, hPI, hSB, hB⟩ := hrel
          clear HS3 E33
          by_cases hlt : k < ns.length
          · have hc1 := ((HD3.out.trans (hB.mono HD3.out.size)).cell (p := ⟨g, off + k, none⟩) hg).trans (HC.out k hlt)
            have hsz : Hid (ns[k].size ≤ 1048576) := HNB.out ns[k] (List.getElem_mem hlt)
            have hgl := HGL.out k hlt
            have hsn : Hid (ns.take (k + 1) = ns.take k ++ [ns[k]]) := List.take_succ_eq_append_getElem hlt
            have G1 : Hid (∀ W, Below w3.heap.size w3 W → Calls Tryd.prog 11 #[.slice a3 LF.length c3, .string ns[k]] W fun e w' => ∃ ao cv, e = .returned (.slice ao 0 cv) ∧ Below W.heap.size W w') := fun W i => by
              have q := GL.out ns[k] hsz.out W i
              rw [hgl.1] at q
              exact q
            have S1 : Hid (∀ W, Below w3.heap.size w3 W → Calls Tryd.prog 15 #[.slice a3 LF.length c3, .string ns[k], .string ⟨#[120]⟩] W fun e w' => e = .returned (.bool false) ∧ Below W.heap.size W w') := fun W i => by
              have q := SL.out ns[k] hsz.out W i
              rw [hgl.2] at q
              exact q
            clear hgl
            generalize ns[k] = x at *
            go_wp2_with fail
            refine (G1.out _ hB).mono ?_
            rintro e w4 ⟨a4, c4, rfl, B4⟩
            have D4 := hB.trans (B4.mono hB.size)
            go_wp2_with fail
            refine (S1.out _ D4).mono ?_
            rintro e w5 ⟨rfl, B5⟩
            have D5 := D4.trans (B5.mono D4.size)
            have O5 : Hid (OwnT w3.heap.size w5 (.slice (some ⟨gs, 0, none⟩) S.length sc) S) := (hO.out.keep B4).keep B5
            clear G1 S1 B4 B5 D4 hB hO hc1
            go_wp2_with fail
            go_loopw [11, 50] (fun vt vj wl => ∃ j : Nat, j ≤ S.length ∧ vj = .int .i64 j ∧ vt = .bool (anyT (S.take j) x) ∧ Below w5.heap.size w5 wl) (fun _ vj _ => S.length - (intOf vj).toNat)
            case atStart => exact ⟨0, Nat.zero_le _, rfl, rfl, Below.refl _ _⟩
            case round =>
              obtain ⟨j, hj, rfl, rfl, hBl⟩ := hrel
              by_cases hjt : j < S.length
              · have hcs := (hBl.cell (p := ⟨gs, j, none⟩) (ownT_lt O5.out)).trans (ownT_cell O5.out j hjt)
                have hsz2 : Hid (S[j].size ≤ 1048576) := hSB.out S[j] (List.getElem_mem hjt)
                have hsn2 : Hid (anyT (S.take (j + 1)) x = (anyT (S.take j) x || smT S[j] x)) := by rw [Hid, List.take_succ_eq_append_getElem hjt, anyT_app, anyT_one]
                have e1 : smT S[j] x = ((foldS S[j]).toList == (foldS x).toList) := rfl
                rw [e1] at hsn2
                clear e1
                generalize S[j] = y at *
                generalize anyT (S.take j) x = tb at *
                cases tb
                · have hs3 : Hid (anyT (S.take (j + 1)) x = ((foldS y).toList == (foldS x).toList)) := hsn2.out
                  clear hsn2
                  go_wp2_with fail
                  refine (HFO.out y hsz2.out _).mono ?_
                  rintro e w6 ⟨rfl, B6⟩
                  have D6 := hBl.trans (B6.mono hBl.size)
                  go_wp2_with fail
                  refine (HFO.out x hsz.out _).mono ?_
                  rintro e w7 ⟨rfl, B7⟩
                  have D7 := D6.trans (B7.mono D6.size)
                  clear B6 B7 D6 hcs hBl
                  go_wp2
                  go_roundw
                  case rel => exact ⟨j + 1, by omega, by go_num, by rw [hs3.out], D7⟩
                  case measure => simp [intOf]; omega
                · have hs3 : Hid (anyT (S.take (j + 1)) x = true) := hsn2.out
                  clear hsn2
                  go_wp2
                  go_roundw
                  case rel => exact ⟨j + 1, by omega, by go_num, by rw [hs3.out], hBl⟩
                  case measure => simp [intOf]; omega
              · have hj' : j = S.length := by omega
                subst hj'
                rw [List.take_length] at *
                have DL := D5.trans (hBl.mono D5.size)
                have OL := O5.out.keep hBl
                have hY : Hid (anyT S x = true → PI fs (ns.take (k + 1)) GG S) := fun q => by rw [hsn.out]; exact hPI.out.again q
                have hNn : Hid (anyT S x = false → PI fs (ns.take (k + 1)) (GG + (getF fs x).length) (S ++ [x])) := fun q => by rw [hsn.out]; exact hPI.out.fresh q
                have HOL : Hid _ := OL
                clear hjt hj hBl OL O5 D5 hPI hsn
                generalize anyT S x = tw at *
                cases tw
                · have hP2 : Hid (PI fs (ns.take (k + 1)) (GG + (getF fs x).length) (S ++ [x])) := hNn.out rfl
                  have hG2 : Hid (GG + (getF fs x).length ≤ 100) := by rw [Hid, hP2.out.cnt]; exact Nat.le_trans (cnt_le _ _) hl
                  have hgx := HGF.out x
                  clear hY hNn
                  go_wp2_with fail
                  refine (GF.out x hsz.out _ DL).mono ?_
                  rintro e w8 ⟨a8, c8, rfl, B8⟩
                  have D8 := DL.trans (B8.mono DL.size)
                  obtain ⟨g9, c9, w9, r9, O9, B9, _, _, _⟩ := ownT_one x (OwnT.keep HOL.out B8) (by omega) D8.size
                  have D9 := D8.trans B9
                  have HO9 : Hid (OwnT w3.heap.size w9 (.slice (some ⟨g9, 0, none⟩) (S ++ [x]).length c9) (S ++ [x])) := O9
                  have HR9 : Hid _ := r9
                  have HSB9 : Hid (TBd 1048576 (S ++ [x])) := fun y hy => by
                    rcases List.mem_append.1 hy with q | q
                    · exact hSB.out y q
                    · rw [List.mem_singleton.1 q]; exact hsz.out
                  have hS9 : (S ++ [x]).length ≤ k + 1 := by rw [List.length_append]; simp; omega
                  clear r9 O9 B9 B8 D8 HOL DL hSB
                  generalize hS' : S ++ [x] = S' at *
                  clear hS'
                  generalize hgn : (getF fs x).length = gn at *
                  clear hgn
                  go_wp2_with (at_builtin; refine wpList_append_run2 rfl _ _ 23 23 rfl _ _ _ w9 rfl rfl HR9.out ?_)
                  go_roundw
                  case rel => exact ⟨k + 1, GG + gn, g9, c9, S', by omega, by go_num, by go_num, rfl, hS9, hG2.out, HO9, hP2, HSB9, D9⟩
                  case measure => simp [intOf]; omega
                · have hP2 : Hid (PI fs (ns.take (k + 1)) GG S) := hY.out rfl
                  clear hY hNn
                  go_wp2
                  go_roundw
                  case rel => exact ⟨k + 1, GG, gs, sc, S, by omega, by go_num, rfl, rfl, by omega, hG, HOL, hP2, hSB, DL⟩
                  case measure => simp [intOf]; omega
          · have hk' : k = ns.length := by omega
            subst hk'
            have HSM : Hid (LF.length + GG = fs.length) := by
              have h := hPI.out.cnt
              rw [List.take_length] at h
              rw [Hid, h]; exact HSUM.out
            clear hPI hSB hO GL SL GF HFO HGF HGL HSUM HNB hlt
            have hsm : (((LF.length : Int) + (GG : Int)) != (fs.length : Int)) = false := by
              have h := HSM.out
              have : (LF.length : Int) + (GG : Int) = (fs.length : Int) := by omega
              simpa using this
            have D2W := HB3.out.trans (hB.mono HB3.out.size)
            have DW := HD2.out.trans (D2W.mono HD2.out.size)
            rcases Nat.eq_zero_or_pos LF.length with hz | hpl
            · have hle : LF = [] := List.eq_nil_of_length_eq_zero hz
              have hz1 : (((0 : Int) + (GG : Int)) != (fs.length : Int)) = false := by
                have h := HSM.out
                have : (0 : Int) + (GG : Int) = (fs.length : Int) := by omega
                simpa using this
              have hz2 : ((GG : Int) != (fs.length : Int)) = false := by simpa using hz1
              subst hle
              clear hz hsm
              go_wp2_with fail
              refine wp_loop_rounds 1 ?_
              rw [rounds_succ]
              have hfs := HF.out.over DW
              have HSE : Hid _ := rsame_eq fs a a2 c c2 _ hfs (HWAS.out.keep D2W)
              go_wp2_with fail
              refine Calls.mono HSE.out ?_
              rintro e w9 ⟨rfl, B9⟩
              go_wp2
              go_ret
              exact ⟨rfl, DW.trans (B9.mono DW.size)⟩
            · obtain ⟨gl, cur, hag, hgl, hblk, hcs⟩ := (HO3.out.keep hB).block hpl
              subst hag
              clear HO3 HSM
              go_wp2_with fail
              go_loopw [85] (fun vi wl => ∃ k : Nat, k ≤ LF.length ∧ vi = .int .i64 k ∧ (∃ cur, wl.heap[gl]? = some (.cells cur 34) ∧ LF.length * 2 ≤ cur.size) ∧ Below w2.heap.size w2 wl) (fun vi _ => LF.length - (intOf vi).toNat)
              case atStart => exact ⟨0, Nat.zero_le _, rfl, ⟨cur, hblk, hcs⟩, D2W⟩
              case round =>
                clear hblk hcs DW D2W
                obtain ⟨k, hk, rfl, ⟨cur2, hblk, hcs⟩, D2W⟩ := hrel
                have DW := HD2.out.trans (D2W.mono HD2.out.size)
                by_cases hlt : k < LF.length
                · obtain ⟨vv, hcv⟩ := blk_some hblk (i := k * 2) (by omega)
                  have hfz := tblk_z (i := k * 2) hblk
                  obtain ⟨cur3, hb3, hs3⟩ := blk_put (i := k * 2) hblk (.string ⟨#[116, 117, 114, 110, 101, 100]⟩)
                  have D3W := D2W.setCell (p := ⟨gl, k * 2, none⟩) hgl (.string ⟨#[116, 117, 114, 110, 101, 100]⟩)
                  have HX : Hid _ := hb3
                  clear hb3 hblk
                  go_wp2
                  go_roundw
                  case rel => exact ⟨k + 1, by omega, by go_num, ⟨cur3, HX.out, by omega⟩, D3W⟩
                  case measure => simp [intOf]; omega
                · clear hblk hcs
                  have hfs := HF.out.over DW
                  have HSE : Hid _ := rsame_eq fs a a2 c c2 _ hfs (HWAS.out.keep D2W)
                  go_wp2_with fail
                  refine Calls.mono HSE.out ?_
                  rintro e w9 ⟨rfl, B9⟩
                  go_wp2
                  go_ret
                  exact ⟨rfl, DW.trans (B9.mono DW.size)⟩
end Go.Proofs.YtflgjhknobnnaabDoor
