/- Whatever the bytes, HttpRequests answers true: Request, Head, Waits and Host tell of all bytes what the document tells, line by line; no condition. -/
import Derived.Test.YtkdnckkdofoaoaaGreatDoorKt
import Derived.Test.YtkdnckkdofoaoaaGreatDoorKh
import Derived.Test.YtkdnckkdofoaoaaGreatDoorRows
import Derived.Test.YtkdnckkdofoaoaaGreatDoorCards
import Derived.Test.YtkdnckkdofoaoaaGreatDoorTie
import Derived.Test.YtkdnckkdofoaoaaGreatDoorKf
import Derived.WalkKit
import Derived.ProofKit
import Derived.OpenShut
import Derived.ShutString
import Derived.ChangeOld
import Derived.Below
import Derived.LaidMore
import Derived.Lay
import Derived.Stop.Joined
import Derived.SevenTiedAt
import Derived.Shelf.Vars
import Derived.Deep.DeepHandedRow
import Derived.Deep.DeepWitnessRowRef
/- HttpRequests walked. -/
namespace Go.Proofs.YtkdnckkdofoaoaaGreatDoor
open Go.ChangeShapes Go.WideShapes Go.ChangeAt Go.RowKit
set_option linter.unusedVariables false

theorem samereq_q {B C : Nat} (m t : ByteArray) (mi : Int) (fs : Fs) (x : List UInt8) (W : World) (a1 a2 b1 b2 : Option Addr) (c1 c2 d1 d2 : Nat) (f1 : OwnF B W (.slice a1 fs.length c1) fs) (f2 : OwnF C W (.slice a2 fs.length c2) fs) (s1 : Own B W (.slice b1 x.length d1) x) (s2 : Own C W (.slice b2 x.length d2) x) :
    Calls Tryz.prog 12 #[.agg #[.string m, .string t, .int .i64 mi, .slice a1 fs.length c1, .slice b1 x.length d1], .agg #[.string m, .string t, .int .i64 mi, .slice a2 fs.length c2, .slice b2 x.length d2]] W fun e w' => e = .returned (.bool true) ∧ Below W.heap.size W w' := by
  obtain ⟨k1, S1, K1⟩ := s1.src
  obtain ⟨k2, S2, K2⟩ := s2.src
  exact samereq_eq m t mi fs x a1 a2 b1 b2 c1 c2 d1 d2 k1 k2 W f1.fds f2.fds S1 (fun q => (K1 q).2) S2 (fun q => (K2 q).2)
theorem reqQ_fs (b : List UInt8) : FBd 1000 (reqQ b).fs ∧ (reqQ b).fs.length ≤ 40 := by
  have k := headQ_ok b
  have h0 : ∀ st, FBd 1000 (rdNo st).fs ∧ (rdNo st).fs.length ≤ 40 := fun st => ⟨(fun f hf => by cases hf), Nat.zero_le _⟩
  unfold reqQ
  split
  · exact h0 _
  · unfold rdOf
    split
    · exact h0 _
    · exact ⟨k.bd, k.len⟩
theorem blk5 {W : World} {p : Nat} {v0 v1 v2 v3 v4 : Value} (h : W.heap[p]? = some (.cells #[v0, v1, v2, v3, v4] 26)) : W.cell? ⟨p, 0, none⟩ = some v0 ∧ W.cell? ⟨p, 1, none⟩ = some v1 ∧ W.cell? ⟨p, 2, none⟩ = some v2 ∧ W.cell? ⟨p, 3, none⟩ = some v3 ∧ W.cell? ⟨p, 4, none⟩ = some v4 :=
  ⟨tblk_cell h rfl, tblk_cell h rfl, tblk_cell h rfl, tblk_cell h rfl, tblk_cell h rfl⟩

set_option maxRecDepth 100000 in
set_option maxHeartbeats 16000000 in
theorem requests8_walk (kb len cap : Nat) (a : Option Addr) (b : List UInt8) (w : World) (hb : Src w kb (.slice a len cap) b) (hkb : 0 < b.length → kb < w.heap.size) (hL : Lv w) :
    Calls Tryz.prog 3 #[.slice a len cap] w fun e w' => e = .returned (.bool true) ∧ Below w.heap.size w w' := by
  have HA : Hid (Calls Tryz.prog 7 #[] w fun e w' => e = .returned (.bool true) ∧ Below w.heap.size w w') := asking_any w hL
  have hlb := hb.len
  by_cases hbig : 8000 < len
  · have h1 : (8000 : Int) < (len : Int) := by omega
    clear hb hkb hL hlb
    go_enter Tryz.func3, Tryz.ntmps3
    go_wp2_with fail
    refine HA.out.mono ?_
    rintro e w1 ⟨rfl, B1⟩
    go_wp2
    go_ret
    exact ⟨rfl, B1⟩
  have h1 : ¬ (8000 : Int) < (len : Int) := by omega
  obtain ⟨hb1, hb2, hb3⟩ := hlb
  subst hb1
  have HK : Hid (∀ W, Below w.heap.size w W → Src W kb (.slice a b.length cap) b ∧ (0 < b.length → kb < W.heap.size)) := fun W B => ⟨hb.keep hkb B, fun q => Nat.lt_of_lt_of_le (hkb q) B.size⟩
  have HR1 : Hid (∀ W, Below w.heap.size w W → Calls Tryz.prog 8 #[.slice a b.length cap] W (ReqR W (reqQ b))) := fun W B => hreq_any b kb cap a W (HK.out W B).1 (HK.out W B).2 (hL.below B).max (by omega)
  have HR2 : Hid (∀ W, Below w.heap.size w W → Calls Tryz.prog 9 #[.slice a b.length cap] W (ReqR W (reqQ b))) := fun W B => r8req_any b kb cap a W (HK.out W B).1 (HK.out W B).2 (by omega)
  have HH1 : Hid (∀ W, Below w.heap.size w W → Calls Tryz.prog 10 #[.slice a b.length cap] W (HeadR W (headQ b))) := fun W B => head_any b kb cap a W (HK.out W B).1 (HK.out W B).2 (hL.below B).max
  have HH2 : Hid (∀ W, Below w.heap.size w W → Calls Tryz.prog 11 #[.slice a b.length cap] W (HeadR W (headQ b))) := fun W B => r8head_any b kb cap a W (HK.out W B).1 (HK.out W B).2
  have HW1 : Hid (∀ W, Below w.heap.size w W → Calls Tryz.prog 13 #[.slice a b.length cap] W fun e w' => e = .returned (.bool (waitsQ b)) ∧ Below W.heap.size W w') := fun W B => waits_any b kb cap a W (HK.out W B).1 (HK.out W B).2 (hL.below B).max (by omega)
  have HW2 : Hid (∀ W, Below w.heap.size w W → Calls Tryz.prog 14 #[.slice a b.length cap] W fun e w' => e = .returned (.bool (waitsQ b)) ∧ Below W.heap.size W w') := fun W B => r8waits_any b kb cap a W (HK.out W B).1 (HK.out W B).2 (by omega)
  have HFS : Hid (FBd 1000 (reqQ b).fs ∧ (reqQ b).fs.length ≤ 40) := reqQ_fs b
  clear hb hkb hL hb2 hb3 HK
  generalize waitsQ b = wq at *
  generalize reqQ b = Q at *
  generalize headQ b = H at *
  obtain ⟨m, t, mi, fs, x, n, st⟩ := Q
  obtain ⟨hm, ht, hmi, hfs, hn, hst⟩ := H
  unfold ReqR rdV at HR1 HR2
  unfold HeadR hdV at HH1 HH2
  simp only at HR1 HR2 HH1 HH2 HFS
  have HHO1 : Hid (∀ (W : World) (fa ba : Option Addr) (fc bl bc : Nat), Fds W.heap.size W (.slice fa fs.length fc) fs → Calls Tryz.prog 15 #[.agg #[.string m, .string t, .int .i64 mi, .slice fa fs.length fc, .slice ba bl bc]] W fun e w' => e = .returned (.string (hostQ fs)) ∧ Below W.heap.size W w') := fun W fa ba fc bl bc F => hhost_any m t mi fs fa ba fc bl bc W F HFS.out.1 (by have := HFS.out.2; omega)
  have HHO2 : Hid (∀ (W : World) (fa ba : Option Addr) (fc bl bc : Nat), Fds W.heap.size W (.slice fa fs.length fc) fs → Calls Tryz.prog 16 #[.agg #[.string m, .string t, .int .i64 mi, .slice fa fs.length fc, .slice ba bl bc]] W fun e w' => e = .returned (.string (hostQ fs)) ∧ Below W.heap.size W w') := fun W fa ba fc bl bc F => r8host_any m t mi fs fa ba fc bl bc W F HFS.out.1 (by have := HFS.out.2; omega)
  generalize hostQ fs = hq at *
  generalize b.length = bn at *
  clear HFS
  go_enter Tryz.func3, Tryz.ntmps3
  go_wp2_with fail
  refine HA.out.mono ?_
  rintro e w1 ⟨rfl, B1⟩
  clear HA
  go_wp2_with fail
  refine (HR1.out _ B1).mono ?_
  rintro e w2 ⟨fa, ba, fc, bc, rfl, F2, O2, B2⟩
  have C2 := B1.trans (B2.mono B1.size)
  have U3 : Below w2.heap.size w2 (w2.alloc (.cells #[.string m, .string t, .int .i64 mi, .slice fa fs.length fc, .slice ba x.length bc] 26)) := (Below.refl _ _).alloc (Nat.le_refl _) _
  have C3 := C2.trans (U3.mono C2.size)
  have hr3 := tblk_new w2 (.cells #[.string m, .string t, .int .i64 mi, .slice fa fs.length fc, .slice ba x.length bc] 26)
  have F3 := F2.keep U3
  have O3 := O2.keep U3
  clear B1 B2 C2 U3 F2 O2 HR1
  go_wp2_with fail
  generalize w2.alloc (.cells #[.string m, .string t, .int .i64 mi, .slice fa fs.length fc, .slice ba x.length bc] 26) = w3 at *
  generalize w2.heap.size = p1 at *
  refine (HR2.out _ C3).mono ?_
  rintro e w4 ⟨ga, da, gc, dc, rfl, F4, O4, B4⟩
  have U5 : Below w3.heap.size w3 (w4.alloc (.cells #[.string m, .string t, .int .i64 mi, .slice ga fs.length gc, .slice da x.length dc] 26)) := B4.alloc B4.size _
  have V5 : Below w4.heap.size w4 (w4.alloc (.cells #[.string m, .string t, .int .i64 mi, .slice ga fs.length gc, .slice da x.length dc] 26)) := (Below.refl _ _).alloc (Nat.le_refl _) _
  have C5 := C3.trans (U5.mono C3.size)
  have hr5 := tblk_below hr3 U5
  have hs5 := tblk_new w4 (.cells #[.string m, .string t, .int .i64 mi, .slice ga fs.length gc, .slice da x.length dc] 26)
  have F5 := F3.keep U5
  have O5 := O3.keep U5
  have G5 := F4.keep V5
  have P5 := O4.keep V5
  clear B4 U5 V5 F3 O3 F4 O4 hr3 C3 HR2
  go_wp2_with fail
  generalize w4.alloc (.cells #[.string m, .string t, .int .i64 mi, .slice ga fs.length gc, .slice da x.length dc] 26) = w5 at *
  generalize w4.heap.size = p2 at *
  refine (HH1.out _ C5).mono ?_
  rintro e w6 ⟨ha, hc, rfl, F6, B6⟩
  have U7 : Below w5.heap.size w5 (w6.alloc (.cells #[.string hm, .string ht, .int .i64 hmi, .slice ha hfs.length hc, .slice none 0 0] 26)) := B6.alloc B6.size _
  have V7 : Below w6.heap.size w6 (w6.alloc (.cells #[.string hm, .string ht, .int .i64 hmi, .slice ha hfs.length hc, .slice none 0 0] 26)) := (Below.refl _ _).alloc (Nat.le_refl _) _
  have C7 := C5.trans (U7.mono C5.size)
  have hr7 := tblk_below hr5 U7
  have hs7 := tblk_below hs5 U7
  have ht7 := tblk_new w6 (.cells #[.string hm, .string ht, .int .i64 hmi, .slice ha hfs.length hc, .slice none 0 0] 26)
  have F7 := F5.keep U7
  have O7 := O5.keep U7
  have G7 := G5.keep U7
  have P7 := P5.keep U7
  have I7 := F6.keep V7
  clear B6 U7 V7 F5 O5 G5 P5 F6 hr5 hs5 C5 HH1
  go_wp2_with fail
  generalize w6.alloc (.cells #[.string hm, .string ht, .int .i64 hmi, .slice ha hfs.length hc, .slice none 0 0] 26) = w7 at *
  generalize w6.heap.size = p3 at *
  refine (HH2.out _ C7).mono ?_
  rintro e w8 ⟨ia, ic, rfl, F8, B8⟩
  have U9 : Below w7.heap.size w7 (w8.alloc (.cells #[.string hm, .string ht, .int .i64 hmi, .slice ia hfs.length ic, .slice none 0 0] 26)) := B8.alloc B8.size _
  have V9 : Below w8.heap.size w8 (w8.alloc (.cells #[.string hm, .string ht, .int .i64 hmi, .slice ia hfs.length ic, .slice none 0 0] 26)) := (Below.refl _ _).alloc (Nat.le_refl _) _
  have C9 := C7.trans (U9.mono C7.size)
  have hr9 := tblk_below hr7 U9
  have hs9 := tblk_below hs7 U9
  have ht9 := tblk_below ht7 U9
  have hu9 := tblk_new w8 (.cells #[.string hm, .string ht, .int .i64 hmi, .slice ia hfs.length ic, .slice none 0 0] 26)
  have F9 := F7.keep U9
  have O9 := O7.keep U9
  have G9 := G7.keep U9
  have P9 := P7.keep U9
  have I9 := I7.keep U9
  have J9 := F8.keep V9
  clear B8 U9 V9 F7 O7 G7 P7 I7 F8 hr7 hs7 ht7 C7 HH2
  have HSH : Hid (∀ W, W = w8.alloc (.cells #[.string hm, .string ht, .int .i64 hmi, .slice ia hfs.length ic, .slice none 0 0] 26) → Calls Tryz.prog 12 #[.agg #[.string hm, .string ht, .int .i64 hmi, .slice ha hfs.length hc, .slice none 0 0], .agg #[.string hm, .string ht, .int .i64 hmi, .slice ia hfs.length ic, .slice none 0 0]] W fun e w' => e = .returned (.bool true) ∧ Below W.heap.size W w') := fun W e => by
    subst e
    exact samereq_q hm ht hmi hfs [] _ ha ia none none hc ic 0 0 I9 J9 (Own.nil _ _) (Own.nil _ _)
  obtain ⟨x0, x1, x2, x3, x4⟩ := blk5 ht9
  obtain ⟨y0, y1, y2, y3, y4⟩ := blk5 hu9
  clear ht9 hu9 I9 J9
  have HF9 : Hid (OwnF w1.heap.size (w8.alloc (.cells #[.string hm, .string ht, .int .i64 hmi, .slice ia hfs.length ic, .slice none 0 0] 26)) (.slice fa fs.length fc) fs) := F9
  have HO9 : Hid (Own w1.heap.size (w8.alloc (.cells #[.string hm, .string ht, .int .i64 hmi, .slice ia hfs.length ic, .slice none 0 0] 26)) (.slice ba x.length bc) x) := O9
  have HG9 : Hid (OwnF w3.heap.size (w8.alloc (.cells #[.string hm, .string ht, .int .i64 hmi, .slice ia hfs.length ic, .slice none 0 0] 26)) (.slice ga fs.length gc) fs) := G9
  have HP9 : Hid (Own w3.heap.size (w8.alloc (.cells #[.string hm, .string ht, .int .i64 hmi, .slice ia hfs.length ic, .slice none 0 0] 26)) (.slice da x.length dc) x) := P9
  clear F9 O9 G9 P9
  go_wp2_with fail
  refine (HSH.out _ rfl).mono ?_
  rintro e w10 ⟨rfl, B10⟩
  have C10 := C9.trans (B10.mono C9.size)
  have hr10 := tblk_below hr9 B10
  have hs10 := tblk_below hs9 B10
  have HF : Hid (OwnF w1.heap.size w10 (.slice fa fs.length fc) fs) := HF9.out.keep B10
  have HO : Hid (Own w1.heap.size w10 (.slice ba x.length bc) x) := HO9.out.keep B10
  have HG : Hid (OwnF w3.heap.size w10 (.slice ga fs.length gc) fs) := HG9.out.keep B10
  have HP : Hid (Own w3.heap.size w10 (.slice da x.length dc) x) := HP9.out.keep B10
  clear x0 x1 x2 x3 x4 y0 y1 y2 y3 y4 HSH C9 hr9 hs9 HF9 HO9 HG9 HP9 B10
  have KEEP : Hid (∀ w', Below w10.heap.size w10 w' → w'.cell? ⟨p1, 0, none⟩ = some (.string m) ∧ w'.cell? ⟨p1, 1, none⟩ = some (.string t) ∧ w'.cell? ⟨p1, 2, none⟩ = some (.int .i64 mi) ∧ w'.cell? ⟨p1, 3, none⟩ = some (.slice fa fs.length fc) ∧ w'.cell? ⟨p1, 4, none⟩ = some (.slice ba x.length bc) ∧ w'.cell? ⟨p2, 0, none⟩ = some (.string m) ∧ w'.cell? ⟨p2, 1, none⟩ = some (.string t) ∧ w'.cell? ⟨p2, 2, none⟩ = some (.int .i64 mi) ∧ w'.cell? ⟨p2, 3, none⟩ = some (.slice ga fs.length gc) ∧ w'.cell? ⟨p2, 4, none⟩ = some (.slice da x.length dc)) := fun w' B => by
    obtain ⟨q0, q1, q2, q3, q4⟩ := blk5 (tblk_below hr10 B)
    obtain ⟨s0, s1, s2, s3, s4⟩ := blk5 (tblk_below hs10 B)
    exact ⟨q0, q1, q2, q3, q4, s0, s1, s2, s3, s4⟩
  have T1 : Hid (∀ W, Below w10.heap.size w10 W → Calls Tryz.prog 12 #[.agg #[.string m, .string t, .int .i64 mi, .slice fa fs.length fc, .slice ba x.length bc], .agg #[.string m, .string t, .int .i64 mi, .slice ga fs.length gc, .slice da x.length dc]] W fun e w' => e = .returned (.bool true) ∧ Below w10.heap.size w10 w' ∧ w'.cell? ⟨p1, 0, none⟩ = some (.string m) ∧ w'.cell? ⟨p1, 1, none⟩ = some (.string t) ∧ w'.cell? ⟨p1, 2, none⟩ = some (.int .i64 mi) ∧ w'.cell? ⟨p1, 3, none⟩ = some (.slice fa fs.length fc) ∧ w'.cell? ⟨p1, 4, none⟩ = some (.slice ba x.length bc) ∧ w'.cell? ⟨p2, 0, none⟩ = some (.string m) ∧ w'.cell? ⟨p2, 1, none⟩ = some (.string t) ∧ w'.cell? ⟨p2, 2, none⟩ = some (.int .i64 mi) ∧ w'.cell? ⟨p2, 3, none⟩ = some (.slice ga fs.length gc) ∧ w'.cell? ⟨p2, 4, none⟩ = some (.slice da x.length dc)) := fun W B => by
    refine (samereq_q m t mi fs x W fa ga ba da fc gc bc dc (HF.out.keep B) (HG.out.keep B) (HO.out.keep B) (HP.out.keep B)).mono ?_
    rintro e w' ⟨he, B'⟩
    exact ⟨he, B.trans (B'.mono B.size), KEEP.out _ (B.trans (B'.mono B.size))⟩
  have T2 : Hid (∀ W, Below w10.heap.size w10 W → Calls Tryz.prog 13 #[.slice a bn cap] W fun e w' => e = .returned (.bool wq) ∧ Below w10.heap.size w10 w' ∧ w'.cell? ⟨p1, 0, none⟩ = some (.string m) ∧ w'.cell? ⟨p1, 1, none⟩ = some (.string t) ∧ w'.cell? ⟨p1, 2, none⟩ = some (.int .i64 mi) ∧ w'.cell? ⟨p1, 3, none⟩ = some (.slice fa fs.length fc) ∧ w'.cell? ⟨p1, 4, none⟩ = some (.slice ba x.length bc) ∧ w'.cell? ⟨p2, 0, none⟩ = some (.string m) ∧ w'.cell? ⟨p2, 1, none⟩ = some (.string t) ∧ w'.cell? ⟨p2, 2, none⟩ = some (.int .i64 mi) ∧ w'.cell? ⟨p2, 3, none⟩ = some (.slice ga fs.length gc) ∧ w'.cell? ⟨p2, 4, none⟩ = some (.slice da x.length dc)) := fun W B => by
    refine (HW1.out W (C10.trans (B.mono C10.size))).mono ?_
    rintro e w' ⟨he, B'⟩
    exact ⟨he, B.trans (B'.mono B.size), KEEP.out _ (B.trans (B'.mono B.size))⟩
  have T3 : Hid (∀ W, Below w10.heap.size w10 W → Calls Tryz.prog 14 #[.slice a bn cap] W fun e w' => e = .returned (.bool wq) ∧ Below w10.heap.size w10 w' ∧ w'.cell? ⟨p1, 0, none⟩ = some (.string m) ∧ w'.cell? ⟨p1, 1, none⟩ = some (.string t) ∧ w'.cell? ⟨p1, 2, none⟩ = some (.int .i64 mi) ∧ w'.cell? ⟨p1, 3, none⟩ = some (.slice fa fs.length fc) ∧ w'.cell? ⟨p1, 4, none⟩ = some (.slice ba x.length bc) ∧ w'.cell? ⟨p2, 0, none⟩ = some (.string m) ∧ w'.cell? ⟨p2, 1, none⟩ = some (.string t) ∧ w'.cell? ⟨p2, 2, none⟩ = some (.int .i64 mi) ∧ w'.cell? ⟨p2, 3, none⟩ = some (.slice ga fs.length gc) ∧ w'.cell? ⟨p2, 4, none⟩ = some (.slice da x.length dc)) := fun W B => by
    refine (HW2.out W (C10.trans (B.mono C10.size))).mono ?_
    rintro e w' ⟨he, B'⟩
    exact ⟨he, B.trans (B'.mono B.size), KEEP.out _ (B.trans (B'.mono B.size))⟩
  have T4 : Hid (∀ W, Below w10.heap.size w10 W → Calls Tryz.prog 15 #[.agg #[.string m, .string t, .int .i64 mi, .slice fa fs.length fc, .slice ba x.length bc]] W fun e w' => e = .returned (.string hq) ∧ Below w10.heap.size w10 w' ∧ w'.cell? ⟨p1, 0, none⟩ = some (.string m) ∧ w'.cell? ⟨p1, 1, none⟩ = some (.string t) ∧ w'.cell? ⟨p1, 2, none⟩ = some (.int .i64 mi) ∧ w'.cell? ⟨p1, 3, none⟩ = some (.slice fa fs.length fc) ∧ w'.cell? ⟨p1, 4, none⟩ = some (.slice ba x.length bc) ∧ w'.cell? ⟨p2, 0, none⟩ = some (.string m) ∧ w'.cell? ⟨p2, 1, none⟩ = some (.string t) ∧ w'.cell? ⟨p2, 2, none⟩ = some (.int .i64 mi) ∧ w'.cell? ⟨p2, 3, none⟩ = some (.slice ga fs.length gc) ∧ w'.cell? ⟨p2, 4, none⟩ = some (.slice da x.length dc)) := fun W B => by
    refine (HHO1.out W fa ba fc x.length bc (HF.out.keep B).fds).mono ?_
    rintro e w' ⟨he, B'⟩
    exact ⟨he, B.trans (B'.mono B.size), KEEP.out _ (B.trans (B'.mono B.size))⟩
  have T5 : Hid (∀ W, Below w10.heap.size w10 W → Calls Tryz.prog 16 #[.agg #[.string m, .string t, .int .i64 mi, .slice ga fs.length gc, .slice da x.length dc]] W fun e w' => e = .returned (.string hq) ∧ Below w10.heap.size w10 w' ∧ w'.cell? ⟨p1, 0, none⟩ = some (.string m) ∧ w'.cell? ⟨p1, 1, none⟩ = some (.string t) ∧ w'.cell? ⟨p1, 2, none⟩ = some (.int .i64 mi) ∧ w'.cell? ⟨p1, 3, none⟩ = some (.slice fa fs.length fc) ∧ w'.cell? ⟨p1, 4, none⟩ = some (.slice ba x.length bc) ∧ w'.cell? ⟨p2, 0, none⟩ = some (.string m) ∧ w'.cell? ⟨p2, 1, none⟩ = some (.string t) ∧ w'.cell? ⟨p2, 2, none⟩ = some (.int .i64 mi) ∧ w'.cell? ⟨p2, 3, none⟩ = some (.slice ga fs.length gc) ∧ w'.cell? ⟨p2, 4, none⟩ = some (.slice da x.length dc)) := fun W B => by
    refine (HHO2.out W ga da gc x.length dc (HG.out.keep B).fds).mono ?_
    rintro e w' ⟨he, B'⟩
    exact ⟨he, B.trans (B'.mono B.size), KEEP.out _ (B.trans (B'.mono B.size))⟩
  have I0 : Below w10.heap.size w10 w10 := Below.refl _ _
  obtain ⟨q0, q1, q2, q3, q4⟩ := blk5 hr10
  obtain ⟨s0, s1, s2, s3, s4⟩ := blk5 hs10
  have HC10 : Hid (Below w.heap.size w w10) := C10
  clear hr10 hs10 C10 KEEP HF HO HG HP HW1 HW2 HHO1 HHO2
  generalize fs.length = fl at *
  generalize x.length = xl at *
  go_wp2_with fail
  go_region_held3 (fun W => W.cell? ⟨p1, 0, none⟩ = some (.string m) ∧ W.cell? ⟨p1, 1, none⟩ = some (.string t) ∧ W.cell? ⟨p1, 2, none⟩ = some (.int .i64 mi) ∧ W.cell? ⟨p1, 3, none⟩ = some (.slice fa fl fc) ∧ W.cell? ⟨p1, 4, none⟩ = some (.slice ba xl bc) ∧ W.cell? ⟨p2, 0, none⟩ = some (.string m) ∧ W.cell? ⟨p2, 1, none⟩ = some (.string t) ∧ W.cell? ⟨p2, 2, none⟩ = some (.int .i64 mi) ∧ W.cell? ⟨p2, 3, none⟩ = some (.slice ga fl gc) ∧ W.cell? ⟨p2, 4, none⟩ = some (.slice da xl dc)) (go_keep) (first | (go_at_call 12; refine (T1.out _ (by first | assumption | exact Below.drew I0 | exact Below.drew (by assumption))).mono ?_; rintro e w' ⟨rfl, hI, k0, k1, k2, k3, k4, k5, k6, k7, k8, k9⟩) | (go_at_call 13; refine (T2.out _ (by first | assumption | exact Below.drew I0 | exact Below.drew (by assumption))).mono ?_; rintro e w' ⟨rfl, hI, k0, k1, k2, k3, k4, k5, k6, k7, k8, k9⟩) | (go_at_call 14; refine (T3.out _ (by first | assumption | exact Below.drew I0 | exact Below.drew (by assumption))).mono ?_; rintro e w' ⟨rfl, hI, k0, k1, k2, k3, k4, k5, k6, k7, k8, k9⟩) | (go_at_call 15; refine (T4.out _ (by first | assumption | exact Below.drew I0 | exact Below.drew (by assumption))).mono ?_; rintro e w' ⟨rfl, hI, k0, k1, k2, k3, k4, k5, k6, k7, k8, k9⟩) | (go_at_call 16; refine (T5.out _ (by first | assumption | exact Below.drew I0 | exact Below.drew (by assumption))).mono ?_; rintro e w' ⟨rfl, hI, k0, k1, k2, k3, k4, k5, k6, k7, k8, k9⟩))
  go_wp2
  go_ret
  exact ⟨rfl, HC10.out.trans (hI.mono HC10.out.size)⟩
end Go.Proofs.YtkdnckkdofoaoaaGreatDoor

/- Whatever the bytes, HttpRequests answers true: Request, Head, Waits and Host tell of all bytes what the document tells, line by line; no condition. -/
namespace Go.Proofs.YtkdnckkdofoaoaaGreatDoor.httpRequests
open Go.ChangeShapes Go.WideShapes Go.ChangeAt Go.RowKit
open Go.ChangeMaps (open_string shut_string)
set_option linter.unusedVariables false

theorem own : ownKnob Tryz.prog.godebug = none := by kernel_rfl
theorem laidOut : laidOutB Tryz.prog = true := by kernel_rfl
theorem maxL_of {W : World} (hsh : W.ShapedOpen Tryz.prog) : MaxL W :=
  cell_of_shapedOpen_int (P := Tryz.prog) (g := 1) (t := 3) (zero := #[.int .i64 0]) hsh (of_decide_eq_true (by kernel_rfl)) (by kernel_rfl) rfl (by kernel_rfl) (by kernel_rfl) Tryz.underlying3
noncomputable def laidWorld (os : Os) : World := World.laidAll Tryz.prog os Rows.httpRequestsRow.laid
theorem laid_met (os : Os) : laidMetH Tryz.prog Rows.httpRequestsRow.laid ((laidWorld os).forCall (fun _ _ => 0) ⟨#[], #[.slice none 0 0], []⟩).memory := by
  rw [MakeChecks.laidMetH_plain _ _ _ (by kernel_rfl)]
  exact laidMet_laidAll _ (by kernel_rfl) (by kernel_rfl)
set_option maxRecDepth 100000 in
theorem lifted (os : Os) (started : os.Started) (H : Type) (enc : TypeId × Value → H) (F : Stop.Interp) :
    ReturnsInHanded {} Tryz.checked os 3 .any ((OpenSpec.ofChange Rows.httpRequestsSpec).preRow enc Tryz.prog Tryz.f3 Rows.httpRequestsRow.domain false Rows.httpRequestsRow.laid) (((OpenSpec.ofChange Rows.httpRequestsSpec).at F).post enc Tryz.prog Tryz.f3 false true false false) := by
  obtain ⟨places, hx⟩ := (⟨[], by kernel_rfl⟩ : ∃ places, DataW.whole enc Tryz.prog ((laidWorld os).forCall (fun _ _ => 0) ⟨#[], #[.slice none 0 0], []⟩).memory Tryz.f3.params.toList Rows.httpRequestsSpec.vars false (#[.slice none 0 0] : Array Value).toList 8 = some ([.nil], [], places))
  refine returnsInHanded_of_row (C := Tryz.checked) (s := OpenSpec.ofChange Rows.httpRequestsSpec) own started (by kernel_rfl) Tryz.func3
    (witness_row_atRef (enc := enc) (C := Tryz.checked) false (laidWorld os) #[.slice none 0 0] rfl (by kernel_rfl) (by kernel_rfl) (by kernel_rfl)
      (OpenSpec.preRow_of_cond 8 hx (by kernel_rfl) (fun k hk => by cases hk) (by kernel_rfl) (laid_met os))) ?_
  intro W base args ds gs before hval0 hW _ hcond hsz hlaid hsh _
  have hM := maxL_of hsh
  clear hsh
  have hval : ∀ (j : Nat) t v, Tryz.f3.params[j]? = some t → args[j]? = some v → Value.okWide Tryz.prog W .any base t v := hval0
  have hW' := hW
  obtain ⟨p, q, hA0, hV, rfl, hfz, hnd⟩ := hW
  have hA : DataW.TrodAll enc Tryz.prog W 0 (fun _ => true) true Tryz.f3.params.toList args.toList ds p := hA0
  rw [Tryz.params3] at hA hval
  obtain ⟨v0, vs0, d0, ds0, p0, q0, hargs, rfl, rfl, h0, r0⟩ := trodAll_cons hA
  obtain ⟨rfl, rfl, rfl⟩ := trodAll_nil r0
  obtain rfl : args = #[v0] := by cases args; simp_all
  obtain ⟨rfl, rfl⟩ := trodVars_none hV
  obtain ⟨a0, len0, cap0, rfl⟩ := okWide_slice Tryz.underlying22 (hval 0 22 v0 rfl rfl)
  have k0 := h0
  have lt0 : ∀ x ∈ p0, x.block < W.heap.size := by obtain ⟨m, hm⟩ := k0; exact DataW.trod_lt m _ _ _ hm
  obtain ⟨kb0, b0, w0, hk0, hn0⟩ := open_bytes h0
  clear hA0 hval0
  have hP := pow_of (l := Rows.httpRequestsRow.laid) (by kernel_rfl) hlaid
  refine (requests8_walk kb0 len0 cap0 a0 b0 W w0 hk0 ⟨hM, hP⟩).mono fun e W' ⟨he, bel⟩ => ?_
  subst he
  exact ⟨_, rfl, _, _, _, [], _, [], hW', trodAll_mk1 (shut_bool Tryz.underlying4 _), (trodAll_cons_mk (Below.trod laidOut (by kernel_rfl) (of_decide_eq_true (by kernel_rfl)) k0 bel lt0) trodAll_mk0), rfl, bel.frame _, fun h => by cases h⟩

theorem over : Rows.HttpRequestsSaid :=
  OpenClaim.holds_of_cond 3 Tryz.f3 rfl rfl rfl rfl rfl rfl rfl ⟨rfl, rfl, rfl, rfl, rfl⟩ rfl rfl rfl rfl rfl (by kernel_rfl) Tryz.func3 (by kernel_rfl)
    (of_decide_eq_true (by kernel_rfl)) (by unfold Func.isWrapper; first | (rw [if_pos (by decide +kernel)]; kernel_rfl) | (rw [if_neg (by decide +kernel)]; exact ⟨rfl, rfl⟩))
    (fun os started H enc _ F => by rw [OpenClaim.pre_eq_preRow]; exact lifted os started H enc F)

end Go.Proofs.YtkdnckkdofoaoaaGreatDoor.httpRequests
namespace Go.Proofs.YtkdnckkdofoaoaaGreatDoor
/-- The statement: the tied card. -/
theorem httpRequests_holds : Rows.HttpRequestsCardSaid :=
  Claim7.holds_tied_plain_at .later [] _ _ _ _
    httpRequests.over (fun _ h => by cases h) (by kernel_rfl) (fun _ h => by cases h) httpRequests_row_tie rfl ⟨rfl, rfl⟩ (by kernel_rfl) rfl
    (fun f fn hf hfn => by
      obtain rfl : f = 3 := Option.some.inj ((show Tryz.prog.funcNamed "tollbar/tollbarlaw08.HttpRequests" = some 3 by kernel_rfl).symm.trans hf) |>.symm
      obtain rfl : fn = Tryz.f3 := (Option.some.inj (Tryz.func3.symm.trans hfn)).symm
      exact ⟨by kernel_rfl, fun j t ht => by
        rw [Tryz.params3] at ht
        have hm : t ∈ [22] := by simpa using Array.mem_of_getElem? ht
        have hall : ([22].all fun u => !Tryz.prog.wantsStandIn u) = true := by kernel_rfl
        exact (show Tryz.prog.wantsStandIn t = false by simpa using List.all_eq_true.1 hall t hm)⟩)
    (by kernel_rfl)
#print axioms httpRequests_holds
end Go.Proofs.YtkdnckkdofoaoaaGreatDoor
