/- Package http: Request. -/
import Derived.Test.YthbjdbookiejeabGreatDoorHtE
import Derived.Test.YthbjdbookiejeabGreatDoorHtF
namespace Go.Proofs.YthbjdbookiejeabGreatDoor
open Go.RowKit
set_option linter.unusedVariables false

/-- A request's value. -/
def rdV (r : Rd) (fa ba : Option Addr) (fc bc : Nat) : Value := .tuple #[.agg #[.string r.m, .string r.t, .int .i64 r.minor, .slice fa r.fs.length fc, .slice ba r.body.length bc], .int .i64 (r.n : Nat), .int .i64 r.st]
def ReqR (w : World) (r : Rd) (e : Ending) (w' : World) : Prop := ∃ fa ba fc bc, e = .returned (rdV r fa ba fc bc) ∧ OwnF w.heap.size w' (.slice fa r.fs.length fc) r.fs ∧ Own w.heap.size w' (.slice ba r.body.length bc) r.body ∧ Below w.heap.size w w'

set_option maxRecDepth 100000 in
set_option maxHeartbeats 4000000 in
theorem hreq_any (b : List UInt8) (kb c : Nat) (a : Option Addr) (w : World) (hs : Src w kb (.slice a b.length c) b) (hk : 0 < b.length → kb < w.heap.size) (hM : MaxL w) (hlen : b.length ≤ 1048576) :
    Calls Tryz.prog 11 #[.slice a b.length c] w (ReqR w (reqQ b)) := by
  have U0 : Below w.heap.size w (w.alloc (.cells #[.string ⟨#[]⟩, .string ⟨#[]⟩, .int .i64 0, .slice none 0 0, .slice none 0 0] 26)) := (Below.refl _ _).alloc (Nat.le_refl _) _
  have HOK : Hid (HdOk b.length (headQ b)) := headQ_ok b
  have HH : Hid (Calls Tryz.prog 10 #[.slice a b.length c] (w.alloc (.cells #[.string ⟨#[]⟩, .string ⟨#[]⟩, .int .i64 0, .slice none 0 0, .slice none 0 0] 26)) fun e w' => ∃ fa fc, e = .returned (hdV (headQ b) fa fc) ∧ OwnF (w.heap.size + 1) w' (.slice fa (headQ b).fs.length fc) (headQ b).fs ∧ w.heap.size + 1 ≤ w'.heap.size ∧ Below w.heap.size w w' ∧ w'.heap[w.heap.size]? = some (.cells #[.string ⟨#[]⟩, .string ⟨#[]⟩, .int .i64 0, .slice none 0 0, .slice none 0 0] 26)) := by
    refine (head_any b kb c a _ (hs.keep hk U0) (fun q => Nat.lt_of_lt_of_le (hk q) U0.size) (hM.below U0)).mono ?_
    rintro e w' ⟨fa, fc, he, hO, hB⟩
    have e1 : (w.alloc (.cells #[.string ⟨#[]⟩, .string ⟨#[]⟩, .int .i64 0, .slice none 0 0, .slice none 0 0] 26)).heap.size = w.heap.size + 1 := by simp
    rw [e1] at hO
    have hsz := hB.size
    rw [e1] at hsz
    exact ⟨fa, fc, he, hO, hsz, U0.trans (hB.mono (by simp)), tblk_below (tblk_new _ _) hB⟩
  have HF : Hid (∀ (W : World) (fa : Option Addr) (fc : Nat), Below w.heap.size w W → Fds W.heap.size W (.slice fa (headQ b).fs.length fc) (headQ b).fs → Calls Tryz.prog 31 #[.slice fa (headQ b).fs.length fc, .int .i64 (headQ b).minor] W fun e w' => e = .returned (.tuple #[.int .i64 (reqF (headQ b).fs (headQ b).minor).1, .bool (reqF (headQ b).fs (headQ b).minor).2.1, .int .i64 (reqF (headQ b).fs (headQ b).minor).2.2]) ∧ Below W.heap.size W w') := fun W fa fc B F => request_any _ fa fc _ W F (bd_big HOK.out.bd) (by have := HOK.out.len; omega) (hM.below B)
  obtain ⟨sz, hsz⟩ : ∃ sz : Nat, (reqF (headQ b).fs (headQ b).minor).1 = (sz : Int) := ⟨(reqF (headQ b).fs (headQ b).minor).1.toNat, by have := (told_nn (headQ b).fs (headQ b).minor).1; unfold reqF; simp only; omega⟩
  have hszb : sz ≤ 4096 := by have k := (told_nn (headQ b).fs (headQ b).minor).2; unfold reqF at hsz; simp only at hsz; omega
  have HB : Hid (∀ W, Below w.heap.size w W → Calls Tryz.prog 32 #[.slice a b.length c, .int .i64 ((headQ b).n : Nat), .int .i64 (sz : Nat), .bool (reqF (headQ b).fs (headQ b).minor).2.1] W (DecQ W (bodyOf (headQ b) b))) := fun W B => by
    have k := body_any b kb c a (headQ b).n sz (reqF (headQ b).fs (headQ b).minor).2.1 W (hs.keep hk B) (fun q => Nat.lt_of_lt_of_le (hk q) B.size) (hM.below B) HOK.out.le.1 hlen (by omega)
    unfold bodyOf
    rw [hsz]
    exact k
  have hQ : reqQ b = if (headQ b).n = 0 then rdNo (headQ b).st else rdOf (headQ b) (bodyOf (headQ b) b) := rfl
  rw [hsz] at HF
  have HQ : Hid _ := hQ
  clear hQ hs hk hM U0 hsz hszb hlen HOK
  generalize reqQ b = Q at *
  generalize bodyOf (headQ b) b = X at *
  obtain ⟨X1, X2, X3⟩ := X
  generalize headQ b = H at *
  obtain ⟨m, t, mi, fs, n, st⟩ := H
  simp only at HF HB HQ
  unfold hdV at HH
  simp only at HH
  generalize (reqF fs mi).2.1 = cd at *
  generalize (reqF fs mi).2.2 = s3 at *
  generalize b.length = bl at *
  by_cases h0 : n = 0
  · subst h0
    have HE : Hid (Q = rdNo st) := by rw [Hid, HQ.out, if_pos rfl]
    clear HQ HF HB
    go_enter Tryz.func11, Tryz.ntmps11
    go_wp2_with fail
    refine HH.out.mono ?_
    rintro e w1 ⟨fa, fc, rfl, O1, hs1, B1, hg1⟩
    clear HH O1 hs1
    have B2 := B1.alloc B1.size (.cells #[.string m, .string t, .int .i64 mi, .slice fa fs.length fc, .slice none 0 0] 26)
    have hg2 := tblk_below hg1 ((Below.refl _ _).alloc (Nat.le_refl _) (.cells #[.string m, .string t, .int .i64 mi, .slice fa fs.length fc, .slice none 0 0] 26))
    have HB2 : Hid _ := five_below (.string ⟨#[]⟩) (.string ⟨#[]⟩) (.int .i64 0) (.slice none 0 0) (.slice none 0 0) B2 (Nat.le_refl _)
    unfold five at HB2
    clear B1 B2 hg1
    have HW := five_cells hg2 (.string ⟨#[]⟩) (.string ⟨#[]⟩) (.int .i64 0) (.slice none 0 0) (.slice none 0 0)
    have a0 := tblk_cell (i := 0) hg2 rfl
    have z0 := lblk_z (i := 0) hg2
    have a1 := tblk_cell (i := 1) hg2 rfl
    have z1 := lblk_z (i := 1) hg2
    have a2 := tblk_cell (i := 2) hg2 rfl
    have z2 := lblk_z (i := 2) hg2
    have a3 := tblk_cell (i := 3) hg2 rfl
    have z3 := lblk_z (i := 3) hg2
    have a4 := tblk_cell (i := 4) hg2 rfl
    have z4 := lblk_z (i := 4) hg2
    have r0 := tblk_cell (i := 0) HW rfl
    have r1 := tblk_cell (i := 1) HW rfl
    have r2 := tblk_cell (i := 2) HW rfl
    have r3 := tblk_cell (i := 3) HW rfl
    have r4 := tblk_cell (i := 4) HW rfl
    unfold five at r0 r1 r2 r3 r4
    clear HW hg2
    go_wp2
    refine bodyPost_ret (v := .tuple #[.agg #[.string ⟨#[]⟩, .string ⟨#[]⟩, .int .i64 0, .slice none 0 0, .slice none 0 0], .int .i64 0, .int .i64 st]) (by simp [results, Tryz.results11, go_sem, r0, r1, r2, r3, r4]) rfl ?_
    rw [HE.out]
    exact ⟨none, none, 0, 0, rfl, OwnF.nil _ _, Own.nil _ _, HB2.out⟩
  · have h0' : ¬ ((n : Nat) : Int) = 0 := by omega
    have h0'' : (((n : Nat) : Int) == 0) = false := by simpa using h0'
    rw [if_neg h0] at HQ
    clear h0
    by_cases hx : X2 = 0
    · subst hx
      have HE : Hid (Q = rdNo (bodySt X3)) := HQ.out
      clear HQ
      go_enter Tryz.func11, Tryz.ntmps11
      go_wp2_with fail
      refine HH.out.mono ?_
      rintro e w1 ⟨fa, fc, rfl, O1, hs1, B1, hg1⟩
      clear HH
      have B2 := B1.alloc B1.size (.cells #[.string m, .string t, .int .i64 mi, .slice fa fs.length fc, .slice none 0 0] 26)
      have U2 : Below w1.heap.size w1 (w1.alloc (.cells #[.string m, .string t, .int .i64 mi, .slice fa fs.length fc, .slice none 0 0] 26)) := (Below.refl _ _).alloc (Nat.le_refl _) _
      have hg2 := tblk_below hg1 U2
      have hr2 := tblk_new w1 (.cells #[.string m, .string t, .int .i64 mi, .slice fa fs.length fc, .slice none 0 0] 26)
      have O2 := O1.keep U2
      have d2 := tblk_cell (i := 2) hr2 rfl
      have d3 := tblk_cell (i := 3) hr2 rfl
      have hsp : w.heap.size < w1.heap.size := by omega
      clear B1 hg1 O1 U2 hs1
      go_wp2_with fail
      clear d2 d3
      generalize w1.alloc (.cells #[.string m, .string t, .int .i64 mi, .slice fa fs.length fc, .slice none 0 0] 26) = w2 at *
      generalize w1.heap.size = p at *
      refine (HF.out w2 fa fc B2 O2.fds).mono ?_
      rintro e w3 ⟨rfl, B3⟩
      have D3 := B2.trans (B3.mono B2.size)
      have hg3 := tblk_below hg2 B3
      have hr3 := tblk_below hr2 B3
      have O3 := O2.keep B3
      clear B2 B3 hg2 hr2 O2 HF
      go_wp2_with fail
      refine (HB.out w3 D3).mono ?_
      rintro e w4 ⟨v4, rfl, P4, B4⟩
      obtain ⟨ad4, c4, rfl, _⟩ := P4.form
      have D4 := D3.trans (B4.mono D3.size)
      have hg4 := tblk_below hg3 B4
      have hr4 := tblk_below hr3 B4
      have O4 := O3.keep B4
      have hp3 : p < w3.heap.size := heap_lt hr3
      clear D3 hg3 hr3 O3 HB
      clear hp3 B4
      generalize X1.length = xl at *
      go_wp2_with fail
      refine (bstat_any X3 _).mono ?_
      rintro e w5 ⟨rfl, rfl⟩
      generalize bodySt X3 = bst at *
      have HB5 : Hid _ := five_below (.string ⟨#[]⟩) (.string ⟨#[]⟩) (.int .i64 0) (.slice none 0 0) (.slice none 0 0) D4 (Nat.le_refl _)
      unfold five at HB5
      clear D4 O4 P4 hr4
      have HW := five_cells hg4 (.string ⟨#[]⟩) (.string ⟨#[]⟩) (.int .i64 0) (.slice none 0 0) (.slice none 0 0)
      have a0 := tblk_cell (i := 0) hg4 rfl
      have z0 := lblk_z (i := 0) hg4
      have a1 := tblk_cell (i := 1) hg4 rfl
      have z1 := lblk_z (i := 1) hg4
      have a2 := tblk_cell (i := 2) hg4 rfl
      have z2 := lblk_z (i := 2) hg4
      have a3 := tblk_cell (i := 3) hg4 rfl
      have z3 := lblk_z (i := 3) hg4
      have a4 := tblk_cell (i := 4) hg4 rfl
      have z4 := lblk_z (i := 4) hg4
      have r0 := tblk_cell (i := 0) HW rfl
      have r1 := tblk_cell (i := 1) HW rfl
      have r2 := tblk_cell (i := 2) HW rfl
      have r3 := tblk_cell (i := 3) HW rfl
      have r4 := tblk_cell (i := 4) HW rfl
      unfold five at r0 r1 r2 r3 r4
      clear HW hg4
      go_wp2
      refine bodyPost_ret (v := .tuple #[.agg #[.string ⟨#[]⟩, .string ⟨#[]⟩, .int .i64 0, .slice none 0 0, .slice none 0 0], .int .i64 0, .int .i64 bst]) (by simp [results, Tryz.results11, go_sem, r0, r1, r2, r3, r4]) rfl ?_
      rw [HE.out]
      exact ⟨none, none, 0, 0, rfl, OwnF.nil _ _, Own.nil _ _, HB5.out⟩
    · have hx' : ¬ ((X2 : Nat) : Int) = 0 := by omega
      have hx'' : (((X2 : Nat) : Int) == 0) = false := by simpa using hx'
      have HE : Hid (Q = ⟨m, t, mi, fs, X1, X2, 0⟩) := by
        rw [Hid, HQ.out]
        unfold rdOf
        rw [if_neg hx]
      clear HQ hx
      go_enter Tryz.func11, Tryz.ntmps11
      go_wp2_with fail
      refine HH.out.mono ?_
      rintro e w1 ⟨fa, fc, rfl, O1, hs1, B1, hg1⟩
      clear HH
      have B2 := B1.alloc B1.size (.cells #[.string m, .string t, .int .i64 mi, .slice fa fs.length fc, .slice none 0 0] 26)
      have U2 : Below w1.heap.size w1 (w1.alloc (.cells #[.string m, .string t, .int .i64 mi, .slice fa fs.length fc, .slice none 0 0] 26)) := (Below.refl _ _).alloc (Nat.le_refl _) _
      have hg2 := tblk_below hg1 U2
      have hr2 := tblk_new w1 (.cells #[.string m, .string t, .int .i64 mi, .slice fa fs.length fc, .slice none 0 0] 26)
      have O2 := O1.keep U2
      have O4w := O1
      have hkw0 : ∀ k, k < w1.heap.size → (w1.alloc (.cells #[.string m, .string t, .int .i64 mi, .slice fa fs.length fc, .slice none 0 0] 26)).heap[k]? = w1.heap[k]? := fun k hk => U2.block k hk
      have hpw : w1.heap.size ≤ w1.heap.size := Nat.le_refl _
      have d2 := tblk_cell (i := 2) hr2 rfl
      have d3 := tblk_cell (i := 3) hr2 rfl
      have hsp : w.heap.size < w1.heap.size := by omega
      clear B1 hg1 O1 U2 hs1
      go_wp2_with fail
      clear d2 d3
      generalize w1.alloc (.cells #[.string m, .string t, .int .i64 mi, .slice fa fs.length fc, .slice none 0 0] 26) = w2 at *
      generalize hpd : w1.heap.size = p at *
      have HPD : Hid (w1.heap.size = p) := hpd
      clear hpd
      refine (HF.out w2 fa fc B2 O2.fds).mono ?_
      rintro e w3 ⟨rfl, B3⟩
      have D3 := B2.trans (B3.mono B2.size)
      have hp2 : p < w2.heap.size := heap_lt hr2
      have hkw3 : ∀ k, k < w2.heap.size → w3.heap[k]? = w2.heap[k]? := fun k hk => B3.block k hk
      have hsz3 : w2.heap.size ≤ w3.heap.size := B3.size
      have hg3 := tblk_below hg2 B3
      have hr3 := tblk_below hr2 B3
      have O3 := O2.keep B3
      clear B2 B3 hg2 hr2 O2 HF
      go_wp2_with fail
      refine (HB.out w3 D3).mono ?_
      rintro e w4 ⟨v4, rfl, P4, B4⟩
      obtain ⟨ad4, c4, rfl, _⟩ := P4.form
      have D4 := D3.trans (B4.mono D3.size)
      have hkw : ∀ k, w.heap.size + 1 ≤ k → k < w1.heap.size → w4.heap[k]? = w1.heap[k]? := fun k h1 h2 => ((B4.block k (by have := HPD.out; omega)).trans (hkw3 k (by have := HPD.out; omega))).trans (hkw0 k (by have := HPD.out; omega))
      have hg4 := tblk_below hg3 B4
      have hr4 := tblk_below hr3 B4
      have O4 := O3.keep B4
      have hp3 : p < w3.heap.size := heap_lt hr3
      clear D3 hg3 hr3 O3 HB
      have hr5 := field4 (v := .slice ad4 X1.length c4) hr4
      have hg5 : (w4.setCell ⟨p, 4, none⟩ (.slice ad4 X1.length c4)).heap[w.heap.size]? = some (.cells #[.string ⟨#[]⟩, .string ⟨#[]⟩, .int .i64 0, .slice none 0 0, .slice none 0 0] 26) := (set_away (by omega)).trans hg4
      have D5 : Below w.heap.size w (w4.setCell ⟨p, 4, none⟩ (.slice ad4 X1.length c4)) := D4.setCell (p := ⟨p, 4, none⟩) (Nat.le_of_lt hsp) _
      have HB5 : Hid _ := five_below (.string m) (.string t) (.int .i64 mi) (.slice fa fs.length fc) (.slice ad4 X1.length c4) D5 (Nat.le_refl _)
      have HO5 : Hid (OwnF w.heap.size (five (w4.setCell ⟨p, 4, none⟩ (.slice ad4 X1.length c4)) w.heap.size (.string m) (.string t) (.int .i64 mi) (.slice fa fs.length fc) (.slice ad4 X1.length c4)) (.slice fa fs.length fc) fs) := (O4w.kept (fun k h1 h2 => (five_away (by omega)).trans ((set_away (by have := HPD.out; omega)).trans (hkw k h1 h2)))).mono (by omega)
      have HP5 : Hid (Own w.heap.size (five (w4.setCell ⟨p, 4, none⟩ (.slice ad4 X1.length c4)) w.heap.size (.string m) (.string t) (.int .i64 mi) (.slice fa fs.length fc) (.slice ad4 X1.length c4)) (.slice ad4 X1.length c4) X1) := (P4.kept (fun k h1 h2 => (five_away (by omega)).trans (set_away (by omega)))).mono (by have := heap_lt hg4; have := D4.size; omega)
      unfold five at HB5 HO5 HP5
      have y4 := tblk_cell (i := 4) hr4 rfl
      have x4 := lblk_z (i := 4) hr4
      have d0 := tblk_cell (i := 0) hr5 rfl
      have d1 := tblk_cell (i := 1) hr5 rfl
      have d2 := tblk_cell (i := 2) hr5 rfl
      have d3 := tblk_cell (i := 3) hr5 rfl
      have d4 := tblk_cell (i := 4) hr5 rfl
      clear hr4 hr5 hg4 D4 D5 O4 P4 B4 hp3 hkw0 hkw3 hkw hsz3 hp2 hsp O4w hpw
      generalize hxl : X1.length = xl at *
      have HXL : Hid (X1.length = xl) := hxl
      clear hxl
      have HW := five_cells hg5 (.string m) (.string t) (.int .i64 mi) (.slice fa fs.length fc) (.slice ad4 xl c4)
      have a0 := tblk_cell (i := 0) hg5 rfl
      have z0 := lblk_z (i := 0) hg5
      have a1 := tblk_cell (i := 1) hg5 rfl
      have z1 := lblk_z (i := 1) hg5
      have a2 := tblk_cell (i := 2) hg5 rfl
      have z2 := lblk_z (i := 2) hg5
      have a3 := tblk_cell (i := 3) hg5 rfl
      have z3 := lblk_z (i := 3) hg5
      have a4 := tblk_cell (i := 4) hg5 rfl
      have z4 := lblk_z (i := 4) hg5
      have r0 := tblk_cell (i := 0) HW rfl
      have r1 := tblk_cell (i := 1) HW rfl
      have r2 := tblk_cell (i := 2) HW rfl
      have r3 := tblk_cell (i := 3) HW rfl
      have r4 := tblk_cell (i := 4) HW rfl
      unfold five at r0 r1 r2 r3 r4
      clear HW hg5
      go_wp2
      refine bodyPost_ret (v := .tuple #[.agg #[.string m, .string t, .int .i64 mi, .slice fa fs.length fc, .slice ad4 xl c4], .int .i64 (X2 : Nat), .int .i64 0]) (by simp [results, Tryz.results11, go_sem, r0, r1, r2, r3, r4]) rfl ?_
      rw [HE.out]
      obtain rfl := HXL.out
      exact ⟨fa, ad4, fc, c4, rfl, HO5.out, HP5.out, HB5.out⟩
end Go.Proofs.YthbjdbookiejeabGreatDoor
