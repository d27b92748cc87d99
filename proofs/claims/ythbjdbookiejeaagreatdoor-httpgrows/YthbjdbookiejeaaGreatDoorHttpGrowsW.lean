/- Whatever the bytes and what stands behind them, HttpGrows answers true: what is told of a beginning is told of more, and what is taken is a beginning; no condition. -/
import Derived.Test.YthbjdbookiejeaaGreatDoorKj
import Derived.Test.YthbjdbookiejeaaGreatDoorKi
import Derived.Test.YthbjdbookiejeaaGreatDoorKh
import Derived.Test.YthbjdbookiejeaaGreatDoorRows
import Derived.Test.YthbjdbookiejeaaGreatDoorCards
import Derived.Test.YthbjdbookiejeaaGreatDoorTie
import Derived.Test.YthbjdbookiejeaaGreatDoorKf
import Derived.WalkKit
import Derived.ProofKit
import Derived.OpenShut
import Derived.ShutString
import Derived.ChangeOld
import Derived.Below
import Derived.LaidMore
import Derived.Lay
import Derived.Stop.Joined
import Derived.SevenTiedAt
import Derived.Shelf.Vars
import Derived.Deep.DeepHandedRow
import Derived.Deep.DeepWitnessRowRef
/- HttpGrows walked. -/
namespace Go.Proofs.YthbjdbookiejeaaGreatDoor
open Go.RowKit
set_option linter.unusedVariables false

/-- Requests and responses in memory. -/
def reqO (r : Rd) (fa ba : Option Addr) (fc bc : Nat) : Obj := .cells #[.string r.m, .string r.t, .int .i64 r.minor, .slice fa r.fs.length fc, .slice ba r.body.length bc] 26
theorem samereq_own {B C : Nat} (m t : ByteArray) (mi : Int) (fs : Fs) (x : List UInt8) (W : World) (a1 a2 b1 b2 : Option Addr) (c1 c2 d1 d2 : Nat) (f1 : OwnF B W (.slice a1 fs.length c1) fs) (f2 : OwnF C W (.slice a2 fs.length c2) fs) (s1 : Own B W (.slice b1 x.length d1) x) (s2 : Own C W (.slice b2 x.length d2) x) :
    Calls Tryz.prog 13 #[.agg #[.string m, .string t, .int .i64 mi, .slice a1 fs.length c1, .slice b1 x.length d1], .agg #[.string m, .string t, .int .i64 mi, .slice a2 fs.length c2, .slice b2 x.length d2]] W fun e w' => e = .returned (.bool true) ∧ Below W.heap.size W w' := by
  obtain ⟨k1, S1, K1⟩ := s1.src
  obtain ⟨k2, S2, K2⟩ := s2.src
  exact samereq_eq m t mi fs x a1 a2 b1 b2 c1 c2 d1 d2 k1 k2 W f1.fds f2.fds S1 (fun q => (K1 q).2) S2 (fun q => (K2 q).2)
theorem sameresp_own {B C : Nat} (m : Int) (t : ByteArray) (mi : Int) (fs : Fs) (x : List UInt8) (W : World) (a1 a2 b1 b2 : Option Addr) (c1 c2 d1 d2 : Nat) (f1 : OwnF B W (.slice a1 fs.length c1) fs) (f2 : OwnF C W (.slice a2 fs.length c2) fs) (s1 : Own B W (.slice b1 x.length d1) x) (s2 : Own C W (.slice b2 x.length d2) x) :
    Calls Tryz.prog 21 #[.agg #[.int .i64 m, .string t, .int .i64 mi, .slice a1 fs.length c1, .slice b1 x.length d1], .agg #[.int .i64 m, .string t, .int .i64 mi, .slice a2 fs.length c2, .slice b2 x.length d2]] W fun e w' => e = .returned (.bool true) ∧ Below W.heap.size W w' := by
  obtain ⟨k1, S1, K1⟩ := s1.src
  obtain ⟨k2, S2, K2⟩ := s2.src
  exact sameresp_eq m t mi fs x a1 a2 b1 b2 c1 c2 d1 d2 k1 k2 W f1.fds f2.fds S1 (fun q => (K1 q).2) S2 (fun q => (K2 q).2)

set_option maxRecDepth 100000 in
set_option maxHeartbeats 16000000 in
theorem grows8_walk (kb len cap : Nat) (a : Option Addr) (b : List UInt8) (kc lenc capc : Nat) (ac : Option Addr) (c : List UInt8) (w : World) (hb : Src w kb (.slice a len cap) b) (hkb : 0 < b.length → kb < w.heap.size) (hnb : a = none → cap = 0) (hc : Src w kc (.slice ac lenc capc) c) (hkc : 0 < c.length → kc < w.heap.size) (hnc : ac = none → capc = 0) (hL : Lv w) :
    Calls Tryz.prog 5 #[.slice a len cap, .slice ac lenc capc] w fun e w' => e = .returned (.bool true) ∧ Below w.heap.size w w' := by
  have HA : Hid (Calls Tryz.prog 8 #[] w fun e w' => e = .returned (.bool true) ∧ Below w.heap.size w w') := asking_any w hL
  have HAN : Hid (∀ W, Below w.heap.size w W → Calls Tryz.prog 18 #[] W fun e w' => e = .returned (.bool true) ∧ Below W.heap.size W w') := fun W B => answering_any W (hL.below B)
  have hlb := hb.len
  have hlc := hc.len
  by_cases hbig : 4000 < len
  · have h1 : (4000 : Int) < (len : Int) := by omega
    clear hb hkb hnb hc hkc hnc hL hlb hlc
    go_enter Tryz.func5, Tryz.ntmps5
    go_wp2_with fail
    refine HA.out.mono ?_
    rintro e w1 ⟨rfl, B1⟩
    go_wp2_with fail
    refine (HAN.out _ B1).mono ?_
    rintro e w2 ⟨rfl, B2⟩
    have C2 := B1.trans (B2.mono B1.size)
    clear B1 B2 HA HAN
    go_wp2
    go_ret
    exact ⟨rfl, C2⟩
  by_cases hbig2 : 4000 < lenc
  · have h1 : ¬ (4000 : Int) < (len : Int) := by omega
    have h2 : (4000 : Int) < (lenc : Int) := by omega
    clear hb hkb hnb hc hkc hnc hL hlb hlc
    go_enter Tryz.func5, Tryz.ntmps5
    go_wp2_with fail
    refine HA.out.mono ?_
    rintro e w1 ⟨rfl, B1⟩
    go_wp2_with fail
    refine (HAN.out _ B1).mono ?_
    rintro e w2 ⟨rfl, B2⟩
    have C2 := B1.trans (B2.mono B1.size)
    clear B1 B2 HA HAN
    go_wp2
    go_ret
    exact ⟨rfl, C2⟩
  have h1 : ¬ (4000 : Int) < (len : Int) := by omega
  have h2 : ¬ (4000 : Int) < (lenc : Int) := by omega
  obtain ⟨hb1, hb2, hb3⟩ := hlb
  obtain ⟨hc1, hc2, hc3⟩ := hlc
  subst hb1 hc1
  have HT : Hid (∀ W, Below w.heap.size w W → ∃ v2 w2 g3 n3 c3 w3, (Builtin.append_ #[22, 22] 22 #[.slice (some ⟨W.heap.size, 0, none⟩) 0 0, .slice a b.length cap]).run Tryz.prog (W.alloc (.cells #[] 5)) = .ok v2 w2 ∧ (Builtin.append_ #[22, 22] 22 #[v2, .slice ac c.length capc]).run Tryz.prog w2 = .ok (.slice (some ⟨g3, 0, none⟩) n3 c3) w3 ∧ Src w3 g3 (.slice (some ⟨g3, 0, none⟩) n3 c3) (b ++ c) ∧ W.heap.size ≤ g3 ∧ g3 < w3.heap.size ∧ Below W.heap.size W w3) := fun W B => two_src (hb.keep hkb B) (fun q => Nat.lt_of_lt_of_le (hkb q) B.size) (hc.keep hkc B) (fun q => Nat.lt_of_lt_of_le (hkc q) B.size) hnb hnc (by omega)
  have HR1 : Hid (∀ W, Below w.heap.size w W → Calls Tryz.prog 9 #[.slice a b.length cap] W (ReqR W (reqQ b))) := fun W B => hreq_any b kb cap a W (hb.keep hkb B) (fun q => Nat.lt_of_lt_of_le (hkb q) B.size) (hL.below B).max (by omega)
  have HR2 : Hid (∀ (W : World) (g n d : Nat), Below w.heap.size w W → Src W g (.slice (some ⟨g, 0, none⟩) n d) (b ++ c) → g < W.heap.size → Calls Tryz.prog 9 #[.slice (some ⟨g, 0, none⟩) n d] W (ReqR W (reqQ (b ++ c)))) := fun W g n d B S hg => by
    have e := S.len.1
    subst e
    exact hreq_any (b ++ c) g d _ W S (fun _ => hg) (hL.below B).max (by rw [List.length_append]; omega)
  have HP1 : Hid (∀ W, Below w.heap.size w W → Calls Tryz.prog 19 #[.slice a b.length cap, .string ⟨#[71, 69, 84]⟩, .bool false] W (RespR W (respQ b tGet false))) := fun W B => hresp_any b tGet false kb cap a W (hb.keep hkb B) (fun q => Nat.lt_of_lt_of_le (hkb q) B.size) (hL.below B).max (by omega)
  have HP2 : Hid (∀ (W : World) (g n d : Nat), Below w.heap.size w W → Src W g (.slice (some ⟨g, 0, none⟩) n d) (b ++ c) → g < W.heap.size → Calls Tryz.prog 19 #[.slice (some ⟨g, 0, none⟩) n d, .string ⟨#[71, 69, 84]⟩, .bool false] W (RespR W (respQ (b ++ c) tGet false))) := fun W g n d B S hg => by
    have e := S.len.1
    subst e
    exact hresp_any (b ++ c) tGet false g d _ W S (fun _ => hg) (hL.below B).max (by rw [List.length_append]; omega)
  have hq3 := reqQ_three b
  have hqa := reqQ_app b c
  have hp3 := respQ_three b tGet false
  have hpa := respQ_app b c tGet
  clear hb hkb hnb hc hkc hnc hL hb2 hb3 hc2 hc3
  generalize reqQ (b ++ c) = Q2 at *
  generalize respQ (b ++ c) tGet false = R2 at *
  generalize respQ b tGet false = R1 at *
  generalize reqQ b = Q1 at *
  have HBC : Hid (∀ (W W' : World) (g n d : Nat), Src W g (.slice (some ⟨g, 0, none⟩) n d) (b ++ c) → g < W.heap.size → Below W.heap.size W W' → Src W' g (.slice (some ⟨g, 0, none⟩) n d) (b ++ c)) := fun W W' g n d S hg B => S.keep (fun _ => hg) B
  generalize b ++ c = BC at *
  generalize b.length = bl at *
  generalize c.length = cl at *
  rcases hq3 with hq | ⟨s, hq, hs⟩ | ⟨m, t, mi, fs, x, n, hq, hn, hnl⟩
  · subst hq
    unfold ReqR rdV rdNo at HR1
    simp only at HR1
    clear HR2 hqa
    go_enter Tryz.func5, Tryz.ntmps5
    go_wp2_with fail
    refine HA.out.mono ?_
    rintro e w1 ⟨rfl, B1⟩
    go_wp2_with fail
    refine (HAN.out _ B1).mono ?_
    rintro e w2 ⟨rfl, B2⟩
    have C2 := B1.trans (B2.mono B1.size)
    clear B1 B2 HA HAN
    obtain ⟨v3, w3, g4, n4, c4, w4, r3, r4, S4, hg4, hl4, B4⟩ := HT.out _ C2
    have HA3 : Hid _ := r3
    have HA4 : Hid _ := r4
    have C4 := C2.trans (B4.mono C2.size)
    clear HT r3 r4 B4
    go_wp2_with (at_builtin; first | refine wpList_append_run2 rfl _ _ 22 22 rfl _ _ _ w3 rfl rfl HA3.out ?_ | refine wpList_append_run2 rfl _ _ 22 22 rfl _ _ _ w4 rfl rfl HA4.out ?_)
    refine (HR1.out _ C4).mono ?_
    rintro e w5 ⟨fa, ba, fc, bc, rfl, F5, O5, B5⟩
    clear HR1 HA3 HA4 C2 hg4
    have U6 : Below w4.heap.size w4 (w5.alloc (.cells #[.string ⟨#[]⟩, .string ⟨#[]⟩, .int .i64 0, .slice fa 0 fc, .slice ba 0 bc] 26)) := B5.alloc B5.size _
    have C6 := C4.trans (U6.mono C4.size)
    have S6 := HBC.out _ _ _ _ _ S4 hl4 U6
    have hl6 : g4 < (w5.alloc (.cells #[.string ⟨#[]⟩, .string ⟨#[]⟩, .int .i64 0, .slice fa 0 fc, .slice ba 0 bc] 26)).heap.size := Nat.lt_of_lt_of_le hl4 U6.size
    clear F5 O5 B5 S4 hl4 C4 U6
    rcases hp3 with ⟨ok, hp⟩ | ⟨code, rs, pmi, pfs, px, pn, hp, hpn, hpl⟩
    · subst hp
      cases ok
      · have e3 := hpa (.inr rfl)
        subst e3
        unfold RespR rpV rpNo at HP1 HP2
        simp only at HP1 HP2
        clear hpa
        go_wp2_with fail
        generalize w5.alloc (.cells #[.string ⟨#[]⟩, .string ⟨#[]⟩, .int .i64 0, .slice fa 0 fc, .slice ba 0 bc] 26) = W10 at *
        refine (HP1.out _ C6).mono ?_
        rintro e w11 ⟨pa, qa, pc, qc, rfl, F11, O11, B11⟩
        have U12 : Below w11.heap.size w11 (w11.alloc (.cells #[.int .i64 0, .string ⟨#[]⟩, .int .i64 0, .slice pa 0 pc, .slice qa 0 qc] 33)) := (Below.refl _ _).alloc (Nat.le_refl _) _
        have V12 : Below W10.heap.size W10 (w11.alloc (.cells #[.int .i64 0, .string ⟨#[]⟩, .int .i64 0, .slice pa 0 pc, .slice qa 0 qc] 33)) := B11.alloc B11.size _
        have C12 := C6.trans (V12.mono C6.size)
        have S12 := HBC.out _ _ _ _ _ S6 hl6 V12
        have hl12 : g4 < (w11.alloc (.cells #[.int .i64 0, .string ⟨#[]⟩, .int .i64 0, .slice pa 0 pc, .slice qa 0 qc] 33)).heap.size := Nat.lt_of_lt_of_le hl6 V12.size
        have hr12 := tblk_new w11 (.cells #[.int .i64 0, .string ⟨#[]⟩, .int .i64 0, .slice pa 0 pc, .slice qa 0 qc] 33)
        have HF12 : Hid (OwnF W10.heap.size (w11.alloc (.cells #[.int .i64 0, .string ⟨#[]⟩, .int .i64 0, .slice pa 0 pc, .slice qa 0 qc] 33)) (.slice pa 0 pc) []) := F11.keep U12
        have HO12 : Hid (Own W10.heap.size (w11.alloc (.cells #[.int .i64 0, .string ⟨#[]⟩, .int .i64 0, .slice pa 0 pc, .slice qa 0 qc] 33)) (.slice qa 0 qc) []) := O11.keep U12
        clear F11 O11 B11 S6 hl6 C6 U12 V12 HP1
        go_wp2_with fail
        generalize w11.alloc (.cells #[.int .i64 0, .string ⟨#[]⟩, .int .i64 0, .slice pa 0 pc, .slice qa 0 qc] 33) = w12 at *
        generalize w11.heap.size = p12 at *
        refine (HP2.out _ _ _ _ C12 S12 hl12).mono ?_
        rintro e w13 ⟨pb, qb, pd, qd, rfl, F13, O13, B13⟩
        have U14 : Below w13.heap.size w13 (w13.alloc (.cells #[.int .i64 0, .string ⟨#[]⟩, .int .i64 0, .slice pb 0 pd, .slice qb 0 qd] 33)) := (Below.refl _ _).alloc (Nat.le_refl _) _
        have V14 : Below w12.heap.size w12 (w13.alloc (.cells #[.int .i64 0, .string ⟨#[]⟩, .int .i64 0, .slice pb 0 pd, .slice qb 0 qd] 33)) := B13.alloc B13.size _
        have C14 := C12.trans (V14.mono C12.size)
        have hr14 := tblk_below hr12 V14
        have hq14 := tblk_new w13 (.cells #[.int .i64 0, .string ⟨#[]⟩, .int .i64 0, .slice pb 0 pd, .slice qb 0 qd] 33)
        have HSM : Hid (Calls Tryz.prog 21 #[.agg #[.int .i64 0, .string ⟨#[]⟩, .int .i64 0, .slice pa 0 pc, .slice qa 0 qc], .agg #[.int .i64 0, .string ⟨#[]⟩, .int .i64 0, .slice pb 0 pd, .slice qb 0 qd]] (w13.alloc (.cells #[.int .i64 0, .string ⟨#[]⟩, .int .i64 0, .slice pb 0 pd, .slice qb 0 qd] 33)) fun e w' => e = .returned (.bool true) ∧ Below (w13.alloc (.cells #[.int .i64 0, .string ⟨#[]⟩, .int .i64 0, .slice pb 0 pd, .slice qb 0 qd] 33)).heap.size (w13.alloc (.cells #[.int .i64 0, .string ⟨#[]⟩, .int .i64 0, .slice pb 0 pd, .slice qb 0 qd] 33)) w') := sameresp_own 0 ⟨#[]⟩ 0 [] [] _ pa pb qa qb pc pd qc qd (OwnF.keep HF12.out V14) (F13.keep U14) (Own.keep HO12.out V14) (O13.keep U14)
        clear F13 O13 B13 U14 V14 S12 hl12 C12 hr12 HF12 HO12 HP2
        have a0 := tblk_cell (i := 0) hr14 rfl
        have a1 := tblk_cell (i := 1) hr14 rfl
        have a2 := tblk_cell (i := 2) hr14 rfl
        have a3 := tblk_cell (i := 3) hr14 rfl
        have a4 := tblk_cell (i := 4) hr14 rfl
        have b0 := tblk_cell (i := 0) hq14 rfl
        have b1 := tblk_cell (i := 1) hq14 rfl
        have b2 := tblk_cell (i := 2) hq14 rfl
        have b3 := tblk_cell (i := 3) hq14 rfl
        have b4 := tblk_cell (i := 4) hq14 rfl
        clear hr14 hq14
        go_wp2_with fail
        clear a0 a1 a2 a3 a4 b0 b1 b2 b3 b4
        generalize w13.alloc (.cells #[.int .i64 0, .string ⟨#[]⟩, .int .i64 0, .slice pb 0 pd, .slice qb 0 qd] 33) = w14 at *
        refine HSM.out.mono ?_
        rintro e w15 ⟨rfl, B15⟩
        have C16 := C14.trans (B15.mono C14.size)
        clear B15 C14 HSM
        go_wp2
        go_ret
        exact ⟨rfl, C16⟩
      · unfold RespR rpV rpNo at HP1
        simp only at HP1
        clear HP2 hpa
        go_wp2_with fail
        generalize w5.alloc (.cells #[.string ⟨#[]⟩, .string ⟨#[]⟩, .int .i64 0, .slice fa 0 fc, .slice ba 0 bc] 26) = W10 at *
        refine (HP1.out _ C6).mono ?_
        rintro e w11 ⟨pa, qa, pc, qc, rfl, _, _, B11⟩
        have V12 : Below W10.heap.size W10 (w11.alloc (.cells #[.int .i64 0, .string ⟨#[]⟩, .int .i64 0, .slice pa 0 pc, .slice qa 0 qc] 33)) := B11.alloc B11.size _
        have C12 := C6.trans (V12.mono C6.size)
        clear B11 V12 C6 S6 hl6 HP1
        go_wp2
        go_ret
        exact ⟨rfl, C12⟩
    · subst hp
      have hpn' : (0 : Int) < ((pn : Nat) : Int) := by omega
      have hpl' : ¬ ((bl : Nat) : Int) < ((pn : Nat) : Int) := by omega
      have e3 := hpa (.inl hpn)
      subst e3
      unfold RespR rpV at HP1 HP2
      simp only at HP1 HP2
      clear hpa
      go_wp2_with fail
      generalize w5.alloc (.cells #[.string ⟨#[]⟩, .string ⟨#[]⟩, .int .i64 0, .slice fa 0 fc, .slice ba 0 bc] 26) = W10 at *
      refine (HP1.out _ C6).mono ?_
      rintro e w11 ⟨pa, qa, pc, qc, rfl, F11, O11, B11⟩
      have U12 : Below w11.heap.size w11 (w11.alloc (.cells #[.int .i64 code, .string rs, .int .i64 pmi, .slice pa pfs.length pc, .slice qa px.length qc] 33)) := (Below.refl _ _).alloc (Nat.le_refl _) _
      have V12 : Below W10.heap.size W10 (w11.alloc (.cells #[.int .i64 code, .string rs, .int .i64 pmi, .slice pa pfs.length pc, .slice qa px.length qc] 33)) := B11.alloc B11.size _
      have C12 := C6.trans (V12.mono C6.size)
      have S12 := HBC.out _ _ _ _ _ S6 hl6 V12
      have hl12 : g4 < (w11.alloc (.cells #[.int .i64 code, .string rs, .int .i64 pmi, .slice pa pfs.length pc, .slice qa px.length qc] 33)).heap.size := Nat.lt_of_lt_of_le hl6 V12.size
      have hr12 := tblk_new w11 (.cells #[.int .i64 code, .string rs, .int .i64 pmi, .slice pa pfs.length pc, .slice qa px.length qc] 33)
      have HF12 : Hid (OwnF W10.heap.size (w11.alloc (.cells #[.int .i64 code, .string rs, .int .i64 pmi, .slice pa pfs.length pc, .slice qa px.length qc] 33)) (.slice pa pfs.length pc) pfs) := F11.keep U12
      have HO12 : Hid (Own W10.heap.size (w11.alloc (.cells #[.int .i64 code, .string rs, .int .i64 pmi, .slice pa pfs.length pc, .slice qa px.length qc] 33)) (.slice qa px.length qc) px) := O11.keep U12
      clear F11 O11 B11 S6 hl6 C6 U12 V12 HP1
      go_wp2_with fail
      generalize w11.alloc (.cells #[.int .i64 code, .string rs, .int .i64 pmi, .slice pa pfs.length pc, .slice qa px.length qc] 33) = w12 at *
      generalize w11.heap.size = p12 at *
      refine (HP2.out _ _ _ _ C12 S12 hl12).mono ?_
      rintro e w13 ⟨pb, qb, pd, qd, rfl, F13, O13, B13⟩
      have U14 : Below w13.heap.size w13 (w13.alloc (.cells #[.int .i64 code, .string rs, .int .i64 pmi, .slice pb pfs.length pd, .slice qb px.length qd] 33)) := (Below.refl _ _).alloc (Nat.le_refl _) _
      have V14 : Below w12.heap.size w12 (w13.alloc (.cells #[.int .i64 code, .string rs, .int .i64 pmi, .slice pb pfs.length pd, .slice qb px.length qd] 33)) := B13.alloc B13.size _
      have C14 := C12.trans (V14.mono C12.size)
      have hr14 := tblk_below hr12 V14
      have hq14 := tblk_new w13 (.cells #[.int .i64 code, .string rs, .int .i64 pmi, .slice pb pfs.length pd, .slice qb px.length qd] 33)
      have HSM : Hid (Calls Tryz.prog 21 #[.agg #[.int .i64 code, .string rs, .int .i64 pmi, .slice pa pfs.length pc, .slice qa px.length qc], .agg #[.int .i64 code, .string rs, .int .i64 pmi, .slice pb pfs.length pd, .slice qb px.length qd]] (w13.alloc (.cells #[.int .i64 code, .string rs, .int .i64 pmi, .slice pb pfs.length pd, .slice qb px.length qd] 33)) fun e w' => e = .returned (.bool true) ∧ Below (w13.alloc (.cells #[.int .i64 code, .string rs, .int .i64 pmi, .slice pb pfs.length pd, .slice qb px.length qd] 33)).heap.size (w13.alloc (.cells #[.int .i64 code, .string rs, .int .i64 pmi, .slice pb pfs.length pd, .slice qb px.length qd] 33)) w') := sameresp_own code rs pmi pfs px _ pa pb qa qb pc pd qc qd (OwnF.keep HF12.out V14) (F13.keep U14) (Own.keep HO12.out V14) (O13.keep U14)
      clear F13 O13 B13 U14 V14 S12 hl12 C12 hr12 HF12 HO12 HP2
      have a0 := tblk_cell (i := 0) hr14 rfl
      have a1 := tblk_cell (i := 1) hr14 rfl
      have a2 := tblk_cell (i := 2) hr14 rfl
      have a3 := tblk_cell (i := 3) hr14 rfl
      have a4 := tblk_cell (i := 4) hr14 rfl
      have b0 := tblk_cell (i := 0) hq14 rfl
      have b1 := tblk_cell (i := 1) hq14 rfl
      have b2 := tblk_cell (i := 2) hq14 rfl
      have b3 := tblk_cell (i := 3) hq14 rfl
      have b4 := tblk_cell (i := 4) hq14 rfl
      clear hr14 hq14
      go_wp2_with fail
      clear a0 a1 a2 a3 a4 b0 b1 b2 b3 b4
      generalize w13.alloc (.cells #[.int .i64 code, .string rs, .int .i64 pmi, .slice pb pfs.length pd, .slice qb px.length qd] 33) = w14 at *
      refine HSM.out.mono ?_
      rintro e w15 ⟨rfl, B15⟩
      have C16 := C14.trans (B15.mono C14.size)
      clear B15 C14 HSM
      go_wp2
      go_ret
      exact ⟨rfl, C16⟩
  · subst hq
    have hs' : (s != 0) = true := by simpa using hs
    have e2 := hqa (.inr hs)
    subst e2
    unfold ReqR rdV rdNo at HR1 HR2
    simp only at HR1 HR2
    clear hqa
    go_enter Tryz.func5, Tryz.ntmps5
    go_wp2_with fail
    refine HA.out.mono ?_
    rintro e w1 ⟨rfl, B1⟩
    go_wp2_with fail
    refine (HAN.out _ B1).mono ?_
    rintro e w2 ⟨rfl, B2⟩
    have C2 := B1.trans (B2.mono B1.size)
    clear B1 B2 HA HAN
    obtain ⟨v3, w3, g4, n4, c4, w4, r3, r4, S4, hg4, hl4, B4⟩ := HT.out _ C2
    have HA3 : Hid _ := r3
    have HA4 : Hid _ := r4
    have C4 := C2.trans (B4.mono C2.size)
    clear HT r3 r4 B4
    go_wp2_with (at_builtin; first | refine wpList_append_run2 rfl _ _ 22 22 rfl _ _ _ w3 rfl rfl HA3.out ?_ | refine wpList_append_run2 rfl _ _ 22 22 rfl _ _ _ w4 rfl rfl HA4.out ?_)
    refine (HR1.out _ C4).mono ?_
    rintro e w5 ⟨fa, ba, fc, bc, rfl, F5, O5, B5⟩
    clear HR1 HA3 HA4 C2 hg4
    have U5 : Below w5.heap.size w5 (w5.alloc (.cells #[.string ⟨#[]⟩, .string ⟨#[]⟩, .int .i64 0, .slice fa 0 fc, .slice ba 0 bc] 26)) := (Below.refl _ _).alloc (Nat.le_refl _) _
    have U6 : Below w4.heap.size w4 (w5.alloc (.cells #[.string ⟨#[]⟩, .string ⟨#[]⟩, .int .i64 0, .slice fa 0 fc, .slice ba 0 bc] 26)) := B5.alloc B5.size _
    have C6 := C4.trans (U6.mono C4.size)
    have S6 := HBC.out _ _ _ _ _ S4 hl4 U6
    have hl6 : g4 < (w5.alloc (.cells #[.string ⟨#[]⟩, .string ⟨#[]⟩, .int .i64 0, .slice fa 0 fc, .slice ba 0 bc] 26)).heap.size := Nat.lt_of_lt_of_le hl4 U6.size
    have hr6 := tblk_new w5 (.cells #[.string ⟨#[]⟩, .string ⟨#[]⟩, .int .i64 0, .slice fa 0 fc, .slice ba 0 bc] 26)
    have HF6 : Hid (OwnF w4.heap.size (w5.alloc (.cells #[.string ⟨#[]⟩, .string ⟨#[]⟩, .int .i64 0, .slice fa 0 fc, .slice ba 0 bc] 26)) (.slice fa 0 fc) []) := F5.keep U5
    have HO6 : Hid (Own w4.heap.size (w5.alloc (.cells #[.string ⟨#[]⟩, .string ⟨#[]⟩, .int .i64 0, .slice fa 0 fc, .slice ba 0 bc] 26)) (.slice ba 0 bc) []) := O5.keep U5
    clear F5 O5 B5 S4 hl4 C4 U5 U6
    go_wp2_with fail
    generalize w5.alloc (.cells #[.string ⟨#[]⟩, .string ⟨#[]⟩, .int .i64 0, .slice fa 0 fc, .slice ba 0 bc] 26) = w6 at *
    generalize w5.heap.size = p6 at *
    refine (HR2.out _ _ _ _ C6 S6 hl6).mono ?_
    rintro e w7 ⟨fb, bb, fd, bd, rfl, F7, O7, B7⟩
    have U8 : Below w7.heap.size w7 (w7.alloc (.cells #[.string ⟨#[]⟩, .string ⟨#[]⟩, .int .i64 0, .slice fb 0 fd, .slice bb 0 bd] 26)) := (Below.refl _ _).alloc (Nat.le_refl _) _
    have V8 : Below w6.heap.size w6 (w7.alloc (.cells #[.string ⟨#[]⟩, .string ⟨#[]⟩, .int .i64 0, .slice fb 0 fd, .slice bb 0 bd] 26)) := B7.alloc B7.size _
    have C8 := C6.trans (V8.mono C6.size)
    have S8 := HBC.out _ _ _ _ _ S6 hl6 V8
    have hl8 : g4 < (w7.alloc (.cells #[.string ⟨#[]⟩, .string ⟨#[]⟩, .int .i64 0, .slice fb 0 fd, .slice bb 0 bd] 26)).heap.size := Nat.lt_of_lt_of_le hl6 V8.size
    have hr8 := tblk_below hr6 V8
    have hq8 := tblk_new w7 (.cells #[.string ⟨#[]⟩, .string ⟨#[]⟩, .int .i64 0, .slice fb 0 fd, .slice bb 0 bd] 26)
    have HF8 : Hid (OwnF w4.heap.size (w7.alloc (.cells #[.string ⟨#[]⟩, .string ⟨#[]⟩, .int .i64 0, .slice fb 0 fd, .slice bb 0 bd] 26)) (.slice fa 0 fc) []) := OwnF.keep HF6.out V8
    have HO8 : Hid (Own w4.heap.size (w7.alloc (.cells #[.string ⟨#[]⟩, .string ⟨#[]⟩, .int .i64 0, .slice fb 0 fd, .slice bb 0 bd] 26)) (.slice ba 0 bc) []) := Own.keep HO6.out V8
    have HF9 : Hid (OwnF w6.heap.size (w7.alloc (.cells #[.string ⟨#[]⟩, .string ⟨#[]⟩, .int .i64 0, .slice fb 0 fd, .slice bb 0 bd] 26)) (.slice fb 0 fd) []) := F7.keep U8
    have HO9 : Hid (Own w6.heap.size (w7.alloc (.cells #[.string ⟨#[]⟩, .string ⟨#[]⟩, .int .i64 0, .slice fb 0 fd, .slice bb 0 bd] 26)) (.slice bb 0 bd) []) := O7.keep U8
    clear F7 O7 B7 U8 V8 S6 hl6 C6 hr6 HF6 HO6 HR2
    have a0 := tblk_cell (i := 0) hr8 rfl
    have a1 := tblk_cell (i := 1) hr8 rfl
    have a2 := tblk_cell (i := 2) hr8 rfl
    have a3 := tblk_cell (i := 3) hr8 rfl
    have a4 := tblk_cell (i := 4) hr8 rfl
    have b0 := tblk_cell (i := 0) hq8 rfl
    have b1 := tblk_cell (i := 1) hq8 rfl
    have b2 := tblk_cell (i := 2) hq8 rfl
    have b3 := tblk_cell (i := 3) hq8 rfl
    have b4 := tblk_cell (i := 4) hq8 rfl
    have HSM : Hid (Calls Tryz.prog 13 #[.agg #[.string ⟨#[]⟩, .string ⟨#[]⟩, .int .i64 0, .slice fa 0 fc, .slice ba 0 bc], .agg #[.string ⟨#[]⟩, .string ⟨#[]⟩, .int .i64 0, .slice fb 0 fd, .slice bb 0 bd]] (w7.alloc (.cells #[.string ⟨#[]⟩, .string ⟨#[]⟩, .int .i64 0, .slice fb 0 fd, .slice bb 0 bd] 26)) fun e w' => e = .returned (.bool true) ∧ Below (w7.alloc (.cells #[.string ⟨#[]⟩, .string ⟨#[]⟩, .int .i64 0, .slice fb 0 fd, .slice bb 0 bd] 26)).heap.size (w7.alloc (.cells #[.string ⟨#[]⟩, .string ⟨#[]⟩, .int .i64 0, .slice fb 0 fd, .slice bb 0 bd] 26)) w') := samereq_own ⟨#[]⟩ ⟨#[]⟩ 0 [] [] _ fa fb ba bb fc fd bc bd HF8.out HF9.out HO8.out HO9.out
    clear hr8 hq8 HF8 HO8 HF9 HO9
    go_wp2_with fail
    clear a0 a1 a2 a3 a4 b0 b1 b2 b3 b4
    generalize w7.alloc (.cells #[.string ⟨#[]⟩, .string ⟨#[]⟩, .int .i64 0, .slice fb 0 fd, .slice bb 0 bd] 26) = w8 at *
    refine HSM.out.mono ?_
    rintro e w9 ⟨rfl, B9⟩
    have C6 := C8.trans (B9.mono C8.size)
    have S6 := HBC.out _ _ _ _ _ S8 hl8 B9
    have hl6 : g4 < w9.heap.size := Nat.lt_of_lt_of_le hl8 B9.size
    clear B9 C8 S8 hl8 HSM
    rcases hp3 with ⟨ok, hp⟩ | ⟨code, rs, pmi, pfs, px, pn, hp, hpn, hpl⟩
    · subst hp
      cases ok
      · have e3 := hpa (.inr rfl)
        subst e3
        unfold RespR rpV rpNo at HP1 HP2
        simp only at HP1 HP2
        clear hpa
        go_wp2_with fail
        refine (HP1.out _ C6).mono ?_
        rintro e w11 ⟨pa, qa, pc, qc, rfl, F11, O11, B11⟩
        have U12 : Below w11.heap.size w11 (w11.alloc (.cells #[.int .i64 0, .string ⟨#[]⟩, .int .i64 0, .slice pa 0 pc, .slice qa 0 qc] 33)) := (Below.refl _ _).alloc (Nat.le_refl _) _
        have V12 : Below w9.heap.size w9 (w11.alloc (.cells #[.int .i64 0, .string ⟨#[]⟩, .int .i64 0, .slice pa 0 pc, .slice qa 0 qc] 33)) := B11.alloc B11.size _
        have C12 := C6.trans (V12.mono C6.size)
        have S12 := HBC.out _ _ _ _ _ S6 hl6 V12
        have hl12 : g4 < (w11.alloc (.cells #[.int .i64 0, .string ⟨#[]⟩, .int .i64 0, .slice pa 0 pc, .slice qa 0 qc] 33)).heap.size := Nat.lt_of_lt_of_le hl6 V12.size
        have hr12 := tblk_new w11 (.cells #[.int .i64 0, .string ⟨#[]⟩, .int .i64 0, .slice pa 0 pc, .slice qa 0 qc] 33)
        have HF12 : Hid (OwnF w9.heap.size (w11.alloc (.cells #[.int .i64 0, .string ⟨#[]⟩, .int .i64 0, .slice pa 0 pc, .slice qa 0 qc] 33)) (.slice pa 0 pc) []) := F11.keep U12
        have HO12 : Hid (Own w9.heap.size (w11.alloc (.cells #[.int .i64 0, .string ⟨#[]⟩, .int .i64 0, .slice pa 0 pc, .slice qa 0 qc] 33)) (.slice qa 0 qc) []) := O11.keep U12
        clear F11 O11 B11 S6 hl6 C6 U12 V12 HP1
        go_wp2_with fail
        generalize w11.alloc (.cells #[.int .i64 0, .string ⟨#[]⟩, .int .i64 0, .slice pa 0 pc, .slice qa 0 qc] 33) = w12 at *
        generalize w11.heap.size = p12 at *
        refine (HP2.out _ _ _ _ C12 S12 hl12).mono ?_
        rintro e w13 ⟨pb, qb, pd, qd, rfl, F13, O13, B13⟩
        have U14 : Below w13.heap.size w13 (w13.alloc (.cells #[.int .i64 0, .string ⟨#[]⟩, .int .i64 0, .slice pb 0 pd, .slice qb 0 qd] 33)) := (Below.refl _ _).alloc (Nat.le_refl _) _
        have V14 : Below w12.heap.size w12 (w13.alloc (.cells #[.int .i64 0, .string ⟨#[]⟩, .int .i64 0, .slice pb 0 pd, .slice qb 0 qd] 33)) := B13.alloc B13.size _
        have C14 := C12.trans (V14.mono C12.size)
        have hr14 := tblk_below hr12 V14
        have hq14 := tblk_new w13 (.cells #[.int .i64 0, .string ⟨#[]⟩, .int .i64 0, .slice pb 0 pd, .slice qb 0 qd] 33)
        have HSM : Hid (Calls Tryz.prog 21 #[.agg #[.int .i64 0, .string ⟨#[]⟩, .int .i64 0, .slice pa 0 pc, .slice qa 0 qc], .agg #[.int .i64 0, .string ⟨#[]⟩, .int .i64 0, .slice pb 0 pd, .slice qb 0 qd]] (w13.alloc (.cells #[.int .i64 0, .string ⟨#[]⟩, .int .i64 0, .slice pb 0 pd, .slice qb 0 qd] 33)) fun e w' => e = .returned (.bool true) ∧ Below (w13.alloc (.cells #[.int .i64 0, .string ⟨#[]⟩, .int .i64 0, .slice pb 0 pd, .slice qb 0 qd] 33)).heap.size (w13.alloc (.cells #[.int .i64 0, .string ⟨#[]⟩, .int .i64 0, .slice pb 0 pd, .slice qb 0 qd] 33)) w') := sameresp_own 0 ⟨#[]⟩ 0 [] [] _ pa pb qa qb pc pd qc qd (OwnF.keep HF12.out V14) (F13.keep U14) (Own.keep HO12.out V14) (O13.keep U14)
        clear F13 O13 B13 U14 V14 S12 hl12 C12 hr12 HF12 HO12 HP2
        have a0 := tblk_cell (i := 0) hr14 rfl
        have a1 := tblk_cell (i := 1) hr14 rfl
        have a2 := tblk_cell (i := 2) hr14 rfl
        have a3 := tblk_cell (i := 3) hr14 rfl
        have a4 := tblk_cell (i := 4) hr14 rfl
        have b0 := tblk_cell (i := 0) hq14 rfl
        have b1 := tblk_cell (i := 1) hq14 rfl
        have b2 := tblk_cell (i := 2) hq14 rfl
        have b3 := tblk_cell (i := 3) hq14 rfl
        have b4 := tblk_cell (i := 4) hq14 rfl
        clear hr14 hq14
        go_wp2_with fail
        clear a0 a1 a2 a3 a4 b0 b1 b2 b3 b4
        generalize w13.alloc (.cells #[.int .i64 0, .string ⟨#[]⟩, .int .i64 0, .slice pb 0 pd, .slice qb 0 qd] 33) = w14 at *
        refine HSM.out.mono ?_
        rintro e w15 ⟨rfl, B15⟩
        have C16 := C14.trans (B15.mono C14.size)
        clear B15 C14 HSM
        go_wp2
        go_ret
        exact ⟨rfl, C16⟩
      · unfold RespR rpV rpNo at HP1
        simp only at HP1
        clear HP2 hpa
        go_wp2_with fail
        refine (HP1.out _ C6).mono ?_
        rintro e w11 ⟨pa, qa, pc, qc, rfl, _, _, B11⟩
        have V12 : Below w9.heap.size w9 (w11.alloc (.cells #[.int .i64 0, .string ⟨#[]⟩, .int .i64 0, .slice pa 0 pc, .slice qa 0 qc] 33)) := B11.alloc B11.size _
        have C12 := C6.trans (V12.mono C6.size)
        clear B11 V12 C6 S6 hl6 HP1
        go_wp2
        go_ret
        exact ⟨rfl, C12⟩
    · subst hp
      have hpn' : (0 : Int) < ((pn : Nat) : Int) := by omega
      have hpl' : ¬ ((bl : Nat) : Int) < ((pn : Nat) : Int) := by omega
      have e3 := hpa (.inl hpn)
      subst e3
      unfold RespR rpV at HP1 HP2
      simp only at HP1 HP2
      clear hpa
      go_wp2_with fail
      refine (HP1.out _ C6).mono ?_
      rintro e w11 ⟨pa, qa, pc, qc, rfl, F11, O11, B11⟩
      have U12 : Below w11.heap.size w11 (w11.alloc (.cells #[.int .i64 code, .string rs, .int .i64 pmi, .slice pa pfs.length pc, .slice qa px.length qc] 33)) := (Below.refl _ _).alloc (Nat.le_refl _) _
      have V12 : Below w9.heap.size w9 (w11.alloc (.cells #[.int .i64 code, .string rs, .int .i64 pmi, .slice pa pfs.length pc, .slice qa px.length qc] 33)) := B11.alloc B11.size _
      have C12 := C6.trans (V12.mono C6.size)
      have S12 := HBC.out _ _ _ _ _ S6 hl6 V12
      have hl12 : g4 < (w11.alloc (.cells #[.int .i64 code, .string rs, .int .i64 pmi, .slice pa pfs.length pc, .slice qa px.length qc] 33)).heap.size := Nat.lt_of_lt_of_le hl6 V12.size
      have hr12 := tblk_new w11 (.cells #[.int .i64 code, .string rs, .int .i64 pmi, .slice pa pfs.length pc, .slice qa px.length qc] 33)
      have HF12 : Hid (OwnF w9.heap.size (w11.alloc (.cells #[.int .i64 code, .string rs, .int .i64 pmi, .slice pa pfs.length pc, .slice qa px.length qc] 33)) (.slice pa pfs.length pc) pfs) := F11.keep U12
      have HO12 : Hid (Own w9.heap.size (w11.alloc (.cells #[.int .i64 code, .string rs, .int .i64 pmi, .slice pa pfs.length pc, .slice qa px.length qc] 33)) (.slice qa px.length qc) px) := O11.keep U12
      clear F11 O11 B11 S6 hl6 C6 U12 V12 HP1
      go_wp2_with fail
      generalize w11.alloc (.cells #[.int .i64 code, .string rs, .int .i64 pmi, .slice pa pfs.length pc, .slice qa px.length qc] 33) = w12 at *
      generalize w11.heap.size = p12 at *
      refine (HP2.out _ _ _ _ C12 S12 hl12).mono ?_
      rintro e w13 ⟨pb, qb, pd, qd, rfl, F13, O13, B13⟩
      have U14 : Below w13.heap.size w13 (w13.alloc (.cells #[.int .i64 code, .string rs, .int .i64 pmi, .slice pb pfs.length pd, .slice qb px.length qd] 33)) := (Below.refl _ _).alloc (Nat.le_refl _) _
      have V14 : Below w12.heap.size w12 (w13.alloc (.cells #[.int .i64 code, .string rs, .int .i64 pmi, .slice pb pfs.length pd, .slice qb px.length qd] 33)) := B13.alloc B13.size _
      have C14 := C12.trans (V14.mono C12.size)
      have hr14 := tblk_below hr12 V14
      have hq14 := tblk_new w13 (.cells #[.int .i64 code, .string rs, .int .i64 pmi, .slice pb pfs.length pd, .slice qb px.length qd] 33)
      have HSM : Hid (Calls Tryz.prog 21 #[.agg #[.int .i64 code, .string rs, .int .i64 pmi, .slice pa pfs.length pc, .slice qa px.length qc], .agg #[.int .i64 code, .string rs, .int .i64 pmi, .slice pb pfs.length pd, .slice qb px.length qd]] (w13.alloc (.cells #[.int .i64 code, .string rs, .int .i64 pmi, .slice pb pfs.length pd, .slice qb px.length qd] 33)) fun e w' => e = .returned (.bool true) ∧ Below (w13.alloc (.cells #[.int .i64 code, .string rs, .int .i64 pmi, .slice pb pfs.length pd, .slice qb px.length qd] 33)).heap.size (w13.alloc (.cells #[.int .i64 code, .string rs, .int .i64 pmi, .slice pb pfs.length pd, .slice qb px.length qd] 33)) w') := sameresp_own code rs pmi pfs px _ pa pb qa qb pc pd qc qd (OwnF.keep HF12.out V14) (F13.keep U14) (Own.keep HO12.out V14) (O13.keep U14)
      clear F13 O13 B13 U14 V14 S12 hl12 C12 hr12 HF12 HO12 HP2
      have a0 := tblk_cell (i := 0) hr14 rfl
      have a1 := tblk_cell (i := 1) hr14 rfl
      have a2 := tblk_cell (i := 2) hr14 rfl
      have a3 := tblk_cell (i := 3) hr14 rfl
      have a4 := tblk_cell (i := 4) hr14 rfl
      have b0 := tblk_cell (i := 0) hq14 rfl
      have b1 := tblk_cell (i := 1) hq14 rfl
      have b2 := tblk_cell (i := 2) hq14 rfl
      have b3 := tblk_cell (i := 3) hq14 rfl
      have b4 := tblk_cell (i := 4) hq14 rfl
      clear hr14 hq14
      go_wp2_with fail
      clear a0 a1 a2 a3 a4 b0 b1 b2 b3 b4
      generalize w13.alloc (.cells #[.int .i64 code, .string rs, .int .i64 pmi, .slice pb pfs.length pd, .slice qb px.length qd] 33) = w14 at *
      refine HSM.out.mono ?_
      rintro e w15 ⟨rfl, B15⟩
      have C16 := C14.trans (B15.mono C14.size)
      clear B15 C14 HSM
      go_wp2
      go_ret
      exact ⟨rfl, C16⟩
  · subst hq
    have hn' : (0 : Int) < ((n : Nat) : Int) := by omega
    have hnl' : ¬ ((bl : Nat) : Int) < ((n : Nat) : Int) := by omega
    have e2 := hqa (.inl hn)
    subst e2
    unfold ReqR rdV at HR1 HR2
    simp only at HR1 HR2
    clear hqa
    go_enter Tryz.func5, Tryz.ntmps5
    go_wp2_with fail
    refine HA.out.mono ?_
    rintro e w1 ⟨rfl, B1⟩
    go_wp2_with fail
    refine (HAN.out _ B1).mono ?_
    rintro e w2 ⟨rfl, B2⟩
    have C2 := B1.trans (B2.mono B1.size)
    clear B1 B2 HA HAN
    obtain ⟨v3, w3, g4, n4, c4, w4, r3, r4, S4, hg4, hl4, B4⟩ := HT.out _ C2
    have HA3 : Hid _ := r3
    have HA4 : Hid _ := r4
    have C4 := C2.trans (B4.mono C2.size)
    clear HT r3 r4 B4
    go_wp2_with (at_builtin; first | refine wpList_append_run2 rfl _ _ 22 22 rfl _ _ _ w3 rfl rfl HA3.out ?_ | refine wpList_append_run2 rfl _ _ 22 22 rfl _ _ _ w4 rfl rfl HA4.out ?_)
    refine (HR1.out _ C4).mono ?_
    rintro e w5 ⟨fa, ba, fc, bc, rfl, F5, O5, B5⟩
    clear HR1 HA3 HA4 C2 hg4
    have U5 : Below w5.heap.size w5 (w5.alloc (.cells #[.string m, .string t, .int .i64 mi, .slice fa fs.length fc, .slice ba x.length bc] 26)) := (Below.refl _ _).alloc (Nat.le_refl _) _
    have U6 : Below w4.heap.size w4 (w5.alloc (.cells #[.string m, .string t, .int .i64 mi, .slice fa fs.length fc, .slice ba x.length bc] 26)) := B5.alloc B5.size _
    have C6 := C4.trans (U6.mono C4.size)
    have S6 := HBC.out _ _ _ _ _ S4 hl4 U6
    have hl6 : g4 < (w5.alloc (.cells #[.string m, .string t, .int .i64 mi, .slice fa fs.length fc, .slice ba x.length bc] 26)).heap.size := Nat.lt_of_lt_of_le hl4 U6.size
    have hr6 := tblk_new w5 (.cells #[.string m, .string t, .int .i64 mi, .slice fa fs.length fc, .slice ba x.length bc] 26)
    have HF6 : Hid (OwnF w4.heap.size (w5.alloc (.cells #[.string m, .string t, .int .i64 mi, .slice fa fs.length fc, .slice ba x.length bc] 26)) (.slice fa fs.length fc) fs) := F5.keep U5
    have HO6 : Hid (Own w4.heap.size (w5.alloc (.cells #[.string m, .string t, .int .i64 mi, .slice fa fs.length fc, .slice ba x.length bc] 26)) (.slice ba x.length bc) x) := O5.keep U5
    clear F5 O5 B5 S4 hl4 C4 U5 U6
    go_wp2_with fail
    generalize w5.alloc (.cells #[.string m, .string t, .int .i64 mi, .slice fa fs.length fc, .slice ba x.length bc] 26) = w6 at *
    generalize w5.heap.size = p6 at *
    refine (HR2.out _ _ _ _ C6 S6 hl6).mono ?_
    rintro e w7 ⟨fb, bb, fd, bd, rfl, F7, O7, B7⟩
    have U8 : Below w7.heap.size w7 (w7.alloc (.cells #[.string m, .string t, .int .i64 mi, .slice fb fs.length fd, .slice bb x.length bd] 26)) := (Below.refl _ _).alloc (Nat.le_refl _) _
    have V8 : Below w6.heap.size w6 (w7.alloc (.cells #[.string m, .string t, .int .i64 mi, .slice fb fs.length fd, .slice bb x.length bd] 26)) := B7.alloc B7.size _
    have C8 := C6.trans (V8.mono C6.size)
    have S8 := HBC.out _ _ _ _ _ S6 hl6 V8
    have hl8 : g4 < (w7.alloc (.cells #[.string m, .string t, .int .i64 mi, .slice fb fs.length fd, .slice bb x.length bd] 26)).heap.size := Nat.lt_of_lt_of_le hl6 V8.size
    have hr8 := tblk_below hr6 V8
    have hq8 := tblk_new w7 (.cells #[.string m, .string t, .int .i64 mi, .slice fb fs.length fd, .slice bb x.length bd] 26)
    have HF8 : Hid (OwnF w4.heap.size (w7.alloc (.cells #[.string m, .string t, .int .i64 mi, .slice fb fs.length fd, .slice bb x.length bd] 26)) (.slice fa fs.length fc) fs) := OwnF.keep HF6.out V8
    have HO8 : Hid (Own w4.heap.size (w7.alloc (.cells #[.string m, .string t, .int .i64 mi, .slice fb fs.length fd, .slice bb x.length bd] 26)) (.slice ba x.length bc) x) := Own.keep HO6.out V8
    have HF9 : Hid (OwnF w6.heap.size (w7.alloc (.cells #[.string m, .string t, .int .i64 mi, .slice fb fs.length fd, .slice bb x.length bd] 26)) (.slice fb fs.length fd) fs) := F7.keep U8
    have HO9 : Hid (Own w6.heap.size (w7.alloc (.cells #[.string m, .string t, .int .i64 mi, .slice fb fs.length fd, .slice bb x.length bd] 26)) (.slice bb x.length bd) x) := O7.keep U8
    clear F7 O7 B7 U8 V8 S6 hl6 C6 hr6 HF6 HO6 HR2
    have a0 := tblk_cell (i := 0) hr8 rfl
    have a1 := tblk_cell (i := 1) hr8 rfl
    have a2 := tblk_cell (i := 2) hr8 rfl
    have a3 := tblk_cell (i := 3) hr8 rfl
    have a4 := tblk_cell (i := 4) hr8 rfl
    have b0 := tblk_cell (i := 0) hq8 rfl
    have b1 := tblk_cell (i := 1) hq8 rfl
    have b2 := tblk_cell (i := 2) hq8 rfl
    have b3 := tblk_cell (i := 3) hq8 rfl
    have b4 := tblk_cell (i := 4) hq8 rfl
    have HSM : Hid (Calls Tryz.prog 13 #[.agg #[.string m, .string t, .int .i64 mi, .slice fa fs.length fc, .slice ba x.length bc], .agg #[.string m, .string t, .int .i64 mi, .slice fb fs.length fd, .slice bb x.length bd]] (w7.alloc (.cells #[.string m, .string t, .int .i64 mi, .slice fb fs.length fd, .slice bb x.length bd] 26)) fun e w' => e = .returned (.bool true) ∧ Below (w7.alloc (.cells #[.string m, .string t, .int .i64 mi, .slice fb fs.length fd, .slice bb x.length bd] 26)).heap.size (w7.alloc (.cells #[.string m, .string t, .int .i64 mi, .slice fb fs.length fd, .slice bb x.length bd] 26)) w') := samereq_own m t mi fs x _ fa fb ba bb fc fd bc bd HF8.out HF9.out HO8.out HO9.out
    clear hr8 hq8 HF8 HO8 HF9 HO9
    go_wp2_with fail
    clear a0 a1 a2 a3 a4 b0 b1 b2 b3 b4
    generalize w7.alloc (.cells #[.string m, .string t, .int .i64 mi, .slice fb fs.length fd, .slice bb x.length bd] 26) = w8 at *
    refine HSM.out.mono ?_
    rintro e w9 ⟨rfl, B9⟩
    have C6 := C8.trans (B9.mono C8.size)
    have S6 := HBC.out _ _ _ _ _ S8 hl8 B9
    have hl6 : g4 < w9.heap.size := Nat.lt_of_lt_of_le hl8 B9.size
    clear B9 C8 S8 hl8 HSM
    rcases hp3 with ⟨ok, hp⟩ | ⟨code, rs, pmi, pfs, px, pn, hp, hpn, hpl⟩
    · subst hp
      cases ok
      · have e3 := hpa (.inr rfl)
        subst e3
        unfold RespR rpV rpNo at HP1 HP2
        simp only at HP1 HP2
        clear hpa
        go_wp2_with fail
        refine (HP1.out _ C6).mono ?_
        rintro e w11 ⟨pa, qa, pc, qc, rfl, F11, O11, B11⟩
        have U12 : Below w11.heap.size w11 (w11.alloc (.cells #[.int .i64 0, .string ⟨#[]⟩, .int .i64 0, .slice pa 0 pc, .slice qa 0 qc] 33)) := (Below.refl _ _).alloc (Nat.le_refl _) _
        have V12 : Below w9.heap.size w9 (w11.alloc (.cells #[.int .i64 0, .string ⟨#[]⟩, .int .i64 0, .slice pa 0 pc, .slice qa 0 qc] 33)) := B11.alloc B11.size _
        have C12 := C6.trans (V12.mono C6.size)
        have S12 := HBC.out _ _ _ _ _ S6 hl6 V12
        have hl12 : g4 < (w11.alloc (.cells #[.int .i64 0, .string ⟨#[]⟩, .int .i64 0, .slice pa 0 pc, .slice qa 0 qc] 33)).heap.size := Nat.lt_of_lt_of_le hl6 V12.size
        have hr12 := tblk_new w11 (.cells #[.int .i64 0, .string ⟨#[]⟩, .int .i64 0, .slice pa 0 pc, .slice qa 0 qc] 33)
        have HF12 : Hid (OwnF w9.heap.size (w11.alloc (.cells #[.int .i64 0, .string ⟨#[]⟩, .int .i64 0, .slice pa 0 pc, .slice qa 0 qc] 33)) (.slice pa 0 pc) []) := F11.keep U12
        have HO12 : Hid (Own w9.heap.size (w11.alloc (.cells #[.int .i64 0, .string ⟨#[]⟩, .int .i64 0, .slice pa 0 pc, .slice qa 0 qc] 33)) (.slice qa 0 qc) []) := O11.keep U12
        clear F11 O11 B11 S6 hl6 C6 U12 V12 HP1
        go_wp2_with fail
        generalize w11.alloc (.cells #[.int .i64 0, .string ⟨#[]⟩, .int .i64 0, .slice pa 0 pc, .slice qa 0 qc] 33) = w12 at *
        generalize w11.heap.size = p12 at *
        refine (HP2.out _ _ _ _ C12 S12 hl12).mono ?_
        rintro e w13 ⟨pb, qb, pd, qd, rfl, F13, O13, B13⟩
        have U14 : Below w13.heap.size w13 (w13.alloc (.cells #[.int .i64 0, .string ⟨#[]⟩, .int .i64 0, .slice pb 0 pd, .slice qb 0 qd] 33)) := (Below.refl _ _).alloc (Nat.le_refl _) _
        have V14 : Below w12.heap.size w12 (w13.alloc (.cells #[.int .i64 0, .string ⟨#[]⟩, .int .i64 0, .slice pb 0 pd, .slice qb 0 qd] 33)) := B13.alloc B13.size _
        have C14 := C12.trans (V14.mono C12.size)
        have hr14 := tblk_below hr12 V14
        have hq14 := tblk_new w13 (.cells #[.int .i64 0, .string ⟨#[]⟩, .int .i64 0, .slice pb 0 pd, .slice qb 0 qd] 33)
        have HSM : Hid (Calls Tryz.prog 21 #[.agg #[.int .i64 0, .string ⟨#[]⟩, .int .i64 0, .slice pa 0 pc, .slice qa 0 qc], .agg #[.int .i64 0, .string ⟨#[]⟩, .int .i64 0, .slice pb 0 pd, .slice qb 0 qd]] (w13.alloc (.cells #[.int .i64 0, .string ⟨#[]⟩, .int .i64 0, .slice pb 0 pd, .slice qb 0 qd] 33)) fun e w' => e = .returned (.bool true) ∧ Below (w13.alloc (.cells #[.int .i64 0, .string ⟨#[]⟩, .int .i64 0, .slice pb 0 pd, .slice qb 0 qd] 33)).heap.size (w13.alloc (.cells #[.int .i64 0, .string ⟨#[]⟩, .int .i64 0, .slice pb 0 pd, .slice qb 0 qd] 33)) w') := sameresp_own 0 ⟨#[]⟩ 0 [] [] _ pa pb qa qb pc pd qc qd (OwnF.keep HF12.out V14) (F13.keep U14) (Own.keep HO12.out V14) (O13.keep U14)
        clear F13 O13 B13 U14 V14 S12 hl12 C12 hr12 HF12 HO12 HP2
        have a0 := tblk_cell (i := 0) hr14 rfl
        have a1 := tblk_cell (i := 1) hr14 rfl
        have a2 := tblk_cell (i := 2) hr14 rfl
        have a3 := tblk_cell (i := 3) hr14 rfl
        have a4 := tblk_cell (i := 4) hr14 rfl
        have b0 := tblk_cell (i := 0) hq14 rfl
        have b1 := tblk_cell (i := 1) hq14 rfl
        have b2 := tblk_cell (i := 2) hq14 rfl
        have b3 := tblk_cell (i := 3) hq14 rfl
        have b4 := tblk_cell (i := 4) hq14 rfl
        clear hr14 hq14
        go_wp2_with fail
        clear a0 a1 a2 a3 a4 b0 b1 b2 b3 b4
        generalize w13.alloc (.cells #[.int .i64 0, .string ⟨#[]⟩, .int .i64 0, .slice pb 0 pd, .slice qb 0 qd] 33) = w14 at *
        refine HSM.out.mono ?_
        rintro e w15 ⟨rfl, B15⟩
        have C16 := C14.trans (B15.mono C14.size)
        clear B15 C14 HSM
        go_wp2
        go_ret
        exact ⟨rfl, C16⟩
      · unfold RespR rpV rpNo at HP1
        simp only at HP1
        clear HP2 hpa
        go_wp2_with fail
        refine (HP1.out _ C6).mono ?_
        rintro e w11 ⟨pa, qa, pc, qc, rfl, _, _, B11⟩
        have V12 : Below w9.heap.size w9 (w11.alloc (.cells #[.int .i64 0, .string ⟨#[]⟩, .int .i64 0, .slice pa 0 pc, .slice qa 0 qc] 33)) := B11.alloc B11.size _
        have C12 := C6.trans (V12.mono C6.size)
        clear B11 V12 C6 S6 hl6 HP1
        go_wp2
        go_ret
        exact ⟨rfl, C12⟩
    · subst hp
      have hpn' : (0 : Int) < ((pn : Nat) : Int) := by omega
      have hpl' : ¬ ((bl : Nat) : Int) < ((pn : Nat) : Int) := by omega
      have e3 := hpa (.inl hpn)
      subst e3
      unfold RespR rpV at HP1 HP2
      simp only at HP1 HP2
      clear hpa
      go_wp2_with fail
      refine (HP1.out _ C6).mono ?_
      rintro e w11 ⟨pa, qa, pc, qc, rfl, F11, O11, B11⟩
      have U12 : Below w11.heap.size w11 (w11.alloc (.cells #[.int .i64 code, .string rs, .int .i64 pmi, .slice pa pfs.length pc, .slice qa px.length qc] 33)) := (Below.refl _ _).alloc (Nat.le_refl _) _
      have V12 : Below w9.heap.size w9 (w11.alloc (.cells #[.int .i64 code, .string rs, .int .i64 pmi, .slice pa pfs.length pc, .slice qa px.length qc] 33)) := B11.alloc B11.size _
      have C12 := C6.trans (V12.mono C6.size)
      have S12 := HBC.out _ _ _ _ _ S6 hl6 V12
      have hl12 : g4 < (w11.alloc (.cells #[.int .i64 code, .string rs, .int .i64 pmi, .slice pa pfs.length pc, .slice qa px.length qc] 33)).heap.size := Nat.lt_of_lt_of_le hl6 V12.size
      have hr12 := tblk_new w11 (.cells #[.int .i64 code, .string rs, .int .i64 pmi, .slice pa pfs.length pc, .slice qa px.length qc] 33)
      have HF12 : Hid (OwnF w9.heap.size (w11.alloc (.cells #[.int .i64 code, .string rs, .int .i64 pmi, .slice pa pfs.length pc, .slice qa px.length qc] 33)) (.slice pa pfs.length pc) pfs) := F11.keep U12
      have HO12 : Hid (Own w9.heap.size (w11.alloc (.cells #[.int .i64 code, .string rs, .int .i64 pmi, .slice pa pfs.length pc, .slice qa px.length qc] 33)) (.slice qa px.length qc) px) := O11.keep U12
      clear F11 O11 B11 S6 hl6 C6 U12 V12 HP1
      go_wp2_with fail
      generalize w11.alloc (.cells #[.int .i64 code, .string rs, .int .i64 pmi, .slice pa pfs.length pc, .slice qa px.length qc] 33) = w12 at *
      generalize w11.heap.size = p12 at *
      refine (HP2.out _ _ _ _ C12 S12 hl12).mono ?_
      rintro e w13 ⟨pb, qb, pd, qd, rfl, F13, O13, B13⟩
      have U14 : Below w13.heap.size w13 (w13.alloc (.cells #[.int .i64 code, .string rs, .int .i64 pmi, .slice pb pfs.length pd, .slice qb px.length qd] 33)) := (Below.refl _ _).alloc (Nat.le_refl _) _
      have V14 : Below w12.heap.size w12 (w13.alloc (.cells #[.int .i64 code, .string rs, .int .i64 pmi, .slice pb pfs.length pd, .slice qb px.length qd] 33)) := B13.alloc B13.size _
      have C14 := C12.trans (V14.mono C12.size)
      have hr14 := tblk_below hr12 V14
      have hq14 := tblk_new w13 (.cells #[.int .i64 code, .string rs, .int .i64 pmi, .slice pb pfs.length pd, .slice qb px.length qd] 33)
      have HSM : Hid (Calls Tryz.prog 21 #[.agg #[.int .i64 code, .string rs, .int .i64 pmi, .slice pa pfs.length pc, .slice qa px.length qc], .agg #[.int .i64 code, .string rs, .int .i64 pmi, .slice pb pfs.length pd, .slice qb px.length qd]] (w13.alloc (.cells #[.int .i64 code, .string rs, .int .i64 pmi, .slice pb pfs.length pd, .slice qb px.length qd] 33)) fun e w' => e = .returned (.bool true) ∧ Below (w13.alloc (.cells #[.int .i64 code, .string rs, .int .i64 pmi, .slice pb pfs.length pd, .slice qb px.length qd] 33)).heap.size (w13.alloc (.cells #[.int .i64 code, .string rs, .int .i64 pmi, .slice pb pfs.length pd, .slice qb px.length qd] 33)) w') := sameresp_own code rs pmi pfs px _ pa pb qa qb pc pd qc qd (OwnF.keep HF12.out V14) (F13.keep U14) (Own.keep HO12.out V14) (O13.keep U14)
      clear F13 O13 B13 U14 V14 S12 hl12 C12 hr12 HF12 HO12 HP2
      have a0 := tblk_cell (i := 0) hr14 rfl
      have a1 := tblk_cell (i := 1) hr14 rfl
      have a2 := tblk_cell (i := 2) hr14 rfl
      have a3 := tblk_cell (i := 3) hr14 rfl
      have a4 := tblk_cell (i := 4) hr14 rfl
      have b0 := tblk_cell (i := 0) hq14 rfl
      have b1 := tblk_cell (i := 1) hq14 rfl
      have b2 := tblk_cell (i := 2) hq14 rfl
      have b3 := tblk_cell (i := 3) hq14 rfl
      have b4 := tblk_cell (i := 4) hq14 rfl
      clear hr14 hq14
      go_wp2_with fail
      clear a0 a1 a2 a3 a4 b0 b1 b2 b3 b4
      generalize w13.alloc (.cells #[.int .i64 code, .string rs, .int .i64 pmi, .slice pb pfs.length pd, .slice qb px.length qd] 33) = w14 at *
      refine HSM.out.mono ?_
      rintro e w15 ⟨rfl, B15⟩
      have C16 := C14.trans (B15.mono C14.size)
      clear B15 C14 HSM
      go_wp2
      go_ret
      exact ⟨rfl, C16⟩
end Go.Proofs.YthbjdbookiejeaaGreatDoor

/- Whatever the bytes and what stands behind them, HttpGrows answers true: what is told of a beginning is told of more, and what is taken is a beginning; no condition. -/
namespace Go.Proofs.YthbjdbookiejeaaGreatDoor.httpGrows
open Go.ChangeShapes Go.WideShapes Go.ChangeAt Go.RowKit
open Go.ChangeMaps (open_string shut_string)
set_option linter.unusedVariables false

theorem own : ownKnob Tryz.prog.godebug = none := by kernel_rfl
theorem laidOut : laidOutB Tryz.prog = true := by kernel_rfl
theorem maxL_of {W : World} (hsh : W.ShapedOpen Tryz.prog) : MaxL W :=
  cell_of_shapedOpen_int (P := Tryz.prog) (g := 1) (t := 3) (zero := #[.int .i64 0]) hsh (of_decide_eq_true (by kernel_rfl)) (by kernel_rfl) rfl (by kernel_rfl) (by kernel_rfl) Tryz.underlying3
noncomputable def laidWorld (os : Os) : World := World.laidAll Tryz.prog os Rows.httpGrowsRow.laid
theorem laid_met (os : Os) : laidMetH Tryz.prog Rows.httpGrowsRow.laid ((laidWorld os).forCall (fun _ _ => 0) ⟨#[], #[.slice none 0 0, .slice none 0 0], []⟩).memory := by
  rw [MakeChecks.laidMetH_plain _ _ _ (by kernel_rfl)]
  exact laidMet_laidAll _ (by kernel_rfl) (by kernel_rfl)
set_option maxRecDepth 100000 in
theorem lifted (os : Os) (started : os.Started) (H : Type) (enc : TypeId × Value → H) (F : Stop.Interp) :
    ReturnsInHanded {} Tryz.checked os 5 .any ((OpenSpec.ofChange Rows.httpGrowsSpec).preRow enc Tryz.prog Tryz.f5 Rows.httpGrowsRow.domain false Rows.httpGrowsRow.laid) (((OpenSpec.ofChange Rows.httpGrowsSpec).at F).post enc Tryz.prog Tryz.f5 false true false false) := by
  obtain ⟨places, hx⟩ := (⟨[], by kernel_rfl⟩ : ∃ places, DataW.whole enc Tryz.prog ((laidWorld os).forCall (fun _ _ => 0) ⟨#[], #[.slice none 0 0, .slice none 0 0], []⟩).memory Tryz.f5.params.toList Rows.httpGrowsSpec.vars false (#[.slice none 0 0, .slice none 0 0] : Array Value).toList 8 = some ([.nil, .nil], [], places))
  refine returnsInHanded_of_row (C := Tryz.checked) (s := OpenSpec.ofChange Rows.httpGrowsSpec) own started (by kernel_rfl) Tryz.func5
    (witness_row_atRef (enc := enc) (C := Tryz.checked) false (laidWorld os) #[.slice none 0 0, .slice none 0 0] rfl (by kernel_rfl) (by kernel_rfl) (by kernel_rfl)
      (OpenSpec.preRow_of_cond 8 hx (by kernel_rfl) (fun k hk => by cases hk) (by kernel_rfl) (laid_met os))) ?_
  intro W base args ds gs before hval0 hW _ hcond hsz hlaid hsh _
  have hM := maxL_of hsh
  clear hsh
  have hval : ∀ (j : Nat) t v, Tryz.f5.params[j]? = some t → args[j]? = some v → Value.okWide Tryz.prog W .any base t v := hval0
  have hW' := hW
  obtain ⟨p, q, hA0, hV, rfl, hfz, hnd⟩ := hW
  have hA : DataW.TrodAll enc Tryz.prog W 0 (fun _ => true) true Tryz.f5.params.toList args.toList ds p := hA0
  rw [Tryz.params5] at hA hval
  obtain ⟨v0, vs0, d0, ds0, p0, q0, hargs, rfl, rfl, h0, r0⟩ := trodAll_cons hA
  obtain ⟨v1, vs1, d1, ds1, p1, q1, rfl, rfl, rfl, h1, r1⟩ := trodAll_cons r0
  obtain ⟨rfl, rfl, rfl⟩ := trodAll_nil r1
  obtain rfl : args = #[v0, v1] := by cases args; simp_all
  obtain ⟨rfl, rfl⟩ := trodVars_none hV
  obtain ⟨a0, len0, cap0, rfl⟩ := okWide_slice Tryz.underlying22 (hval 0 22 v0 rfl rfl)
  have k0 := h0
  have lt0 : ∀ x ∈ p0, x.block < W.heap.size := by obtain ⟨m, hm⟩ := k0; exact DataW.trod_lt m _ _ _ hm
  obtain ⟨kb0, b0, w0, hk0, hn0⟩ := open_bytes h0
  obtain ⟨a1, len1, cap1, rfl⟩ := okWide_slice Tryz.underlying22 (hval 1 22 v1 rfl rfl)
  have k1 := h1
  have lt1 : ∀ x ∈ p1, x.block < W.heap.size := by obtain ⟨m, hm⟩ := k1; exact DataW.trod_lt m _ _ _ hm
  obtain ⟨kb1, b1, w1, hk1, hn1⟩ := open_bytes h1
  clear hA0 hval0
  have hP := pow_of (l := Rows.httpGrowsRow.laid) (by kernel_rfl) hlaid
  refine (grows8_walk kb0 len0 cap0 a0 b0 kb1 len1 cap1 a1 b1 W w0 hk0 hn0 w1 hk1 hn1 ⟨hM, hP⟩).mono fun e W' ⟨he, bel⟩ => ?_
  subst he
  exact ⟨_, rfl, _, _, _, [], _, [], hW', trodAll_mk1 (shut_bool Tryz.underlying4 _), (trodAll_cons_mk (Below.trod laidOut (by kernel_rfl) (of_decide_eq_true (by kernel_rfl)) k0 bel lt0) (trodAll_cons_mk (Below.trod laidOut (by kernel_rfl) (of_decide_eq_true (by kernel_rfl)) k1 bel lt1) trodAll_mk0)), rfl, bel.frame _, fun h => by cases h⟩

theorem over : Rows.HttpGrowsSaid :=
  OpenClaim.holds_of_cond 5 Tryz.f5 rfl rfl rfl rfl rfl rfl rfl ⟨rfl, rfl, rfl, rfl, rfl⟩ rfl rfl rfl rfl rfl (by kernel_rfl) Tryz.func5 (by kernel_rfl)
    (of_decide_eq_true (by kernel_rfl)) (by unfold Func.isWrapper; first | (rw [if_pos (by decide +kernel)]; kernel_rfl) | (rw [if_neg (by decide +kernel)]; exact ⟨rfl, rfl⟩))
    (fun os started H enc _ F => by rw [OpenClaim.pre_eq_preRow]; exact lifted os started H enc F)

end Go.Proofs.YthbjdbookiejeaaGreatDoor.httpGrows
namespace Go.Proofs.YthbjdbookiejeaaGreatDoor
/-- The statement: the tied card. -/
theorem httpGrows_holds : Rows.HttpGrowsCardSaid :=
  Claim7.holds_tied_plain_at .later [] _ _ _ _
    httpGrows.over (fun _ h => by cases h) (by kernel_rfl) (fun _ h => by cases h) httpGrows_row_tie rfl ⟨rfl, rfl⟩ (by kernel_rfl) rfl
    (fun f fn hf hfn => by
      obtain rfl : f = 5 := Option.some.inj ((show Tryz.prog.funcNamed "tollbar/tollbarlaw08.HttpGrows" = some 5 by kernel_rfl).symm.trans hf) |>.symm
      obtain rfl : fn = Tryz.f5 := (Option.some.inj (Tryz.func5.symm.trans hfn)).symm
      exact ⟨by kernel_rfl, fun j t ht => by
        rw [Tryz.params5] at ht
        have hm : t ∈ [22, 22] := by simpa using Array.mem_of_getElem? ht
        have hall : ([22, 22].all fun u => !Tryz.prog.wantsStandIn u) = true := by kernel_rfl
        exact (show Tryz.prog.wantsStandIn t = false by simpa using List.all_eq_true.1 hall t hm)⟩)
    (by kernel_rfl)
#print axioms httpGrows_holds
end Go.Proofs.YthbjdbookiejeaaGreatDoor
