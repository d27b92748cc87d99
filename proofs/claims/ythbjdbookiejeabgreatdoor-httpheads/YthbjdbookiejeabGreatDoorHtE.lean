/- Package http: Head. -/
import Derived.Test.YthbjdbookiejeabGreatDoorHtC
import Derived.Test.YthbjdbookiejeabGreatDoorHtD
namespace Go.Proofs.YthbjdbookiejeabGreatDoor
open Go.RowKit
set_option linter.unusedVariables false

theorem OwnF.away {B : Nat} {w w' : World} {v : Value} {fs : Fs} (h : OwnF B w v fs) (hk : ∀ k, B ≤ k → w'.heap[k]? = w.heap[k]?) : OwnF B w' v fs := by
  obtain ⟨h1, h2 | ⟨g, cap, cur, hv, hg, hh, r⟩⟩ := h
  · exact ⟨h1, .inl h2⟩
  · exact ⟨h1, .inr ⟨g, cap, cur, hv, hg, (hk g hg).trans hh, r⟩⟩
theorem set_away {w : World} {b i : Nat} {v : Value} {k : Nat} (h : ¬ k = b) : (w.setCell ⟨b, i, none⟩ v).heap[k]? = w.heap[k]? := by
  simp only [World.setCell, Array.getElem?_modify]
  rw [if_neg (fun e => h e.symm)]
theorem five_away {w : World} {b : Nat} {v0 v1 v2 v3 v4 : Value} {k : Nat} (h : ¬ k = b) : (five w b v0 v1 v2 v3 v4).heap[k]? = w.heap[k]? := by
  unfold five
  rw [set_away h, set_away h, set_away h, set_away h, set_away h]
theorem set_size (w : World) (p : Addr) (v : Value) : (w.setCell p v).heap.size = w.heap.size := by simp [World.setCell]
theorem five_size (w : World) (b : Nat) (v0 v1 v2 v3 v4 : Value) : (five w b v0 v1 v2 v3 v4).heap.size = w.heap.size := by
  unfold five
  rw [set_size, set_size, set_size, set_size, set_size]
theorem field3 {w : World} {b : Nat} {y0 y1 y2 y3 y4 v : Value} {t : TypeId} (h : w.heap[b]? = some (.cells #[y0, y1, y2, y3, y4] t)) : (w.setCell ⟨b, 3, none⟩ v).heap[b]? = some (.cells #[y0, y1, y2, v, y4] t) := by
  simp [World.setCell, Array.getElem?_modify, h]
theorem field4 {w : World} {b : Nat} {y0 y1 y2 y3 y4 v : Value} {t : TypeId} (h : w.heap[b]? = some (.cells #[y0, y1, y2, y3, y4] t)) : (w.setCell ⟨b, 4, none⟩ v).heap[b]? = some (.cells #[y0, y1, y2, y3, v] t) := by
  simp [World.setCell, Array.getElem?_modify, h]
/-- A head's value. -/
def hdV (h : Hd) (fa : Option Addr) (fc : Nat) : Value := .tuple #[.agg #[.string h.m, .string h.t, .int .i64 h.minor, .slice fa h.fs.length fc, .slice none 0 0], .int .i64 (h.n : Nat), .int .i64 h.st]
def HeadR (w : World) (h : Hd) (e : Ending) (w' : World) : Prop := ∃ fa fc, e = .returned (hdV h fa fc) ∧ OwnF w.heap.size w' (.slice fa h.fs.length fc) h.fs ∧ Below w.heap.size w w'

set_option maxRecDepth 100000 in
set_option maxHeartbeats 4000000 in
theorem head_any (b : List UInt8) (kb c : Nat) (a : Option Addr) (w : World) (hs : Src w kb (.slice a b.length c) b) (hk : 0 < b.length → kb < w.heap.size) (hM : MaxL w) :
    Calls Tryz.prog 10 #[.slice a b.length c] w (HeadR w (headQ b)) := by
  have U0 : Below w.heap.size w (w.alloc (.cells #[.string ⟨#[]⟩, .string ⟨#[]⟩, .int .i64 0, .slice none 0 0, .slice none 0 0] 26)) := (Below.refl _ _).alloc (Nat.le_refl _) _
  have HRD : Hid (Calls Tryz.prog 28 #[.slice a b.length c, .func (.func 29) #[] #[.pointer (some ⟨w.heap.size + 1, 0, none⟩)]] ((w.alloc (.cells #[.string ⟨#[]⟩, .string ⟨#[]⟩, .int .i64 0, .slice none 0 0, .slice none 0 0] 26)).alloc (.cells #[.string ⟨#[]⟩, .string ⟨#[]⟩, .int .i64 0, .slice none 0 0, .slice none 0 0] 26)) fun e w' => ∃ fa fc, e = .returned (.tuple #[.slice fa (headL rqSt b).1.length fc, .int .i64 ((headL rqSt b).2.1 : Nat), .int .i64 (headL rqSt b).2.2]) ∧ OwnF (w.heap.size + 2) w' (.slice fa (headL rqSt b).1.length fc) (headL rqSt b).1 ∧ w.heap.size + 2 ≤ w'.heap.size ∧ Below w.heap.size w w' ∧ w'.heap[w.heap.size]? = some (.cells #[.string ⟨#[]⟩, .string ⟨#[]⟩, .int .i64 0, .slice none 0 0, .slice none 0 0] 26) ∧ (¬ (headL rqSt b).2.1 = 0 → w'.heap[w.heap.size + 1]? = some (.cells #[.string (rqP (firstL b)).method, .string (rqP (firstL b)).target, .int .i64 (rqP (firstL b)).minor, .slice none 0 0, .slice none 0 0] 26))) := by
    have k := readA_any b kb c a (.string ⟨#[]⟩) (.string ⟨#[]⟩) (.int .i64 0) (.slice none 0 0) (.slice none 0 0) (w.alloc (.cells #[.string ⟨#[]⟩, .string ⟨#[]⟩, .int .i64 0, .slice none 0 0, .slice none 0 0] 26)) ((w.alloc (.cells #[.string ⟨#[]⟩, .string ⟨#[]⟩, .int .i64 0, .slice none 0 0, .slice none 0 0] 26)).alloc (.cells #[.string ⟨#[]⟩, .string ⟨#[]⟩, .int .i64 0, .slice none 0 0, .slice none 0 0] 26)) (PI.new _ _) (hs.keep hk U0) (fun q => Nat.lt_of_lt_of_le (hk q) U0.size) (hM.below U0)
    have e1 : (w.alloc (.cells #[.string ⟨#[]⟩, .string ⟨#[]⟩, .int .i64 0, .slice none 0 0, .slice none 0 0] 26)).heap.size = w.heap.size + 1 := by simp
    have e2 : ((w.alloc (.cells #[.string ⟨#[]⟩, .string ⟨#[]⟩, .int .i64 0, .slice none 0 0, .slice none 0 0] 26)).alloc (.cells #[.string ⟨#[]⟩, .string ⟨#[]⟩, .int .i64 0, .slice none 0 0, .slice none 0 0] 26)).heap.size = w.heap.size + 2 := by simp
    rw [e1, e2] at k
    refine k.mono ?_
    rintro e w' ⟨fa, fc, he, hO, o, hP, ho⟩
    have hb := hP.below
    have hw := hP.own
    rw [e1] at hb hw
    refine ⟨fa, fc, he, hO, ?_, U0.trans (hb.mono (by simp)), ?_, fun q => ?_⟩
    · have q := heap_lt hw; omega
    · rw [hb.block w.heap.size (by simp), tblk_new]
    · rw [hw, ho q]
  have HOK : Hid (HdOk b.length (headQ b)) := headQ_ok b
  have HLO : Hid (FlOk 40 (min 2048 b.length) (headL rqSt b)) := headL_ok _ _
  have HS : Hid (∀ (W : World) (m t : ByteArray) (mi : Int) (fa : Option Addr) (fc : Nat), Below w.heap.size w W → Fds W.heap.size W (.slice fa (headL rqSt b).1.length fc) (headL rqSt b).1 → Calls Tryz.prog 30 #[.agg #[.string m, .string t, .int .i64 mi, .slice fa (headL rqSt b).1.length fc, .slice none 0 0]] W fun e w' => e = .returned (.int .i64 (headSt (headL rqSt b).1 mi)) ∧ Below W.heap.size W w') := fun W m t mi fa fc B F => hstatus_any m t mi _ fa none fc 0 0 W F HLO.out.bd (by have := HLO.out.len; omega) (hM.below B)
  clear hs hk hM U0
  have hQ : headQ b = if (headL rqSt b).2.1 = 0 then hdNo (headL rqSt b).2.2 else if headSt (headL rqSt b).1 (rqP (firstL b)).minor = 0 then ⟨(rqP (firstL b)).method, (rqP (firstL b)).target, (rqP (firstL b)).minor, (headL rqSt b).1, (headL rqSt b).2.1, 0⟩ else hdNo (headSt (headL rqSt b).1 (rqP (firstL b)).minor) := rfl
  have HQ : Hid _ := hQ
  clear hQ HLO
  generalize headQ b = Q at *
  generalize headL rqSt b = H at *
  obtain ⟨fs, n, st⟩ := H
  simp only at HRD HQ HS
  have hnb : Hid (n = 0 ∨ ¬ n = 0) := Classical.em _
  generalize (rqP (firstL b)).method = m at *
  generalize (rqP (firstL b)).target = t at *
  generalize (rqP (firstL b)).minor = mi at *
  generalize b.length = bl at *
  by_cases h0 : n = 0
  · subst h0
    have HE : Hid (Q = hdNo st) := by rw [Hid, HQ.out, if_pos rfl]
    clear HQ HOK hnb
    go_enter Tryz.func10, Tryz.ntmps10
    go_wp2_with fail
    refine HRD.out.mono ?_
    rintro e w1 ⟨fa, fc, rfl, hO, hsz, B1, hg, _⟩
    have HB1 : Hid _ := five_below (.string ⟨#[]⟩) (.string ⟨#[]⟩) (.int .i64 0) (.slice none 0 0) (.slice none 0 0) B1 (Nat.le_refl _)
    unfold five at HB1
    clear HRD hO hsz B1
    have HW := five_cells hg (.string ⟨#[]⟩) (.string ⟨#[]⟩) (.int .i64 0) (.slice none 0 0) (.slice none 0 0)
    have a0 := tblk_cell (i := 0) hg rfl
    have z0 := lblk_z (i := 0) hg
    have a1 := tblk_cell (i := 1) hg rfl
    have z1 := lblk_z (i := 1) hg
    have a2 := tblk_cell (i := 2) hg rfl
    have z2 := lblk_z (i := 2) hg
    have a3 := tblk_cell (i := 3) hg rfl
    have z3 := lblk_z (i := 3) hg
    have a4 := tblk_cell (i := 4) hg rfl
    have z4 := lblk_z (i := 4) hg
    have r0 := tblk_cell (i := 0) HW rfl
    have r1 := tblk_cell (i := 1) HW rfl
    have r2 := tblk_cell (i := 2) HW rfl
    have r3 := tblk_cell (i := 3) HW rfl
    have r4 := tblk_cell (i := 4) HW rfl
    unfold five at r0 r1 r2 r3 r4
    clear HW hg
    go_wp2
    refine bodyPost_ret (v := .tuple #[.agg #[.string ⟨#[]⟩, .string ⟨#[]⟩, .int .i64 0, .slice none 0 0, .slice none 0 0], .int .i64 0, .int .i64 st]) (by simp [results, Tryz.results10, go_sem, r0, r1, r2, r3, r4]) rfl ?_
    rw [HE.out]
    exact ⟨none, 0, rfl, OwnF.nil _ _, HB1.out⟩
  · have hn' : ¬ ((n : Nat) : Int) = 0 := by omega
    have hn'' : (((n : Nat) : Int) == 0) = false := by simpa using hn'
    have HS0 : Hid (∀ (W : World) (m t : ByteArray) (mi : Int) (fa : Option Addr) (fc : Nat), Below w.heap.size w W → Fds W.heap.size W (.slice fa fs.length fc) fs → Calls Tryz.prog 30 #[.agg #[.string m, .string t, .int .i64 mi, .slice fa fs.length fc, .slice none 0 0]] W fun e w' => e = .returned (.int .i64 (headSt fs mi)) ∧ Below W.heap.size W w') := HS.out
    clear HS
    by_cases hst : headSt fs mi = 0
    · have HE : Hid (Q = ⟨m, t, mi, fs, n, 0⟩) := by rw [Hid, HQ.out, if_neg h0, if_pos hst]
      have HS1 : Hid (∀ (W : World) (m t : ByteArray) (fa : Option Addr) (fc : Nat), Below w.heap.size w W → Fds W.heap.size W (.slice fa fs.length fc) fs → Calls Tryz.prog 30 #[.agg #[.string m, .string t, .int .i64 mi, .slice fa fs.length fc, .slice none 0 0]] W fun e w' => e = .returned (.int .i64 0) ∧ Below W.heap.size W w') := fun W m t fa fc B F => by have k := HS0.out W m t mi fa fc B F; rw [hst] at k; exact k
      clear HQ HOK hnb hst HS0
      go_enter Tryz.func10, Tryz.ntmps10
      go_wp2_with fail
      refine HRD.out.mono ?_
      rintro e w1 ⟨fa, fc, rfl, hO, hsz, B1, hg, hr⟩
      have hr1 := hr h0
      have hr2 := field3 (v := .slice fa fs.length fc) hr1
      have hg2 : (w1.setCell ⟨w.heap.size + 1, 3, none⟩ (.slice fa fs.length fc)).heap[w.heap.size]? = some (.cells #[.string ⟨#[]⟩, .string ⟨#[]⟩, .int .i64 0, .slice none 0 0, .slice none 0 0] 26) := (set_away (by omega)).trans hg
      have hO2 : OwnF (w.heap.size + 2) (w1.setCell ⟨w.heap.size + 1, 3, none⟩ (.slice fa fs.length fc)) (.slice fa fs.length fc) fs := hO.away (fun k hk => set_away (by omega))
      have B2 : Below w.heap.size w (w1.setCell ⟨w.heap.size + 1, 3, none⟩ (.slice fa fs.length fc)) := B1.setCell (p := ⟨w.heap.size + 1, 3, none⟩) (Nat.le_succ _) _
      have y3 := tblk_cell (i := 3) hr1 rfl
      have x3 := lblk_z (i := 3) hr1
      have d0 := tblk_cell (i := 0) hr2 rfl
      have d1 := tblk_cell (i := 1) hr2 rfl
      have d2 := tblk_cell (i := 2) hr2 rfl
      have d3 := tblk_cell (i := 3) hr2 rfl
      have d4 := tblk_cell (i := 4) hr2 rfl
      clear hr1 hg hO B1 HRD hr
      go_wp2_with fail
      clear y3 x3 d0 d1 d2 d3 d4
      generalize w1.setCell ⟨w.heap.size + 1, 3, none⟩ (.slice fa fs.length fc) = w2 at *
      refine (HS1.out w2 m t fa fc B2 hO2.fds).mono ?_
      rintro e w3 ⟨rfl, B3⟩
      have C3 := B2.trans (B3.mono B2.size)
      have hg3 := tblk_below hg2 B3
      have hr3 := tblk_below hr2 B3
      have O3 := hO2.keep B3
      have HB1 : Hid _ := five_below (.string m) (.string t) (.int .i64 mi) (.slice fa fs.length fc) (.slice none 0 0) C3 (Nat.le_refl _)
      have HO3 : Hid (OwnF w.heap.size (five w3 w.heap.size (.string m) (.string t) (.int .i64 mi) (.slice fa fs.length fc) (.slice none 0 0)) (.slice fa fs.length fc) fs) := (O3.away (fun k hk => five_away (by omega))).mono (by omega)
      unfold five at HB1 HO3
      have b0 := tblk_cell (i := 0) hr3 rfl
      have b1 := tblk_cell (i := 1) hr3 rfl
      have b2 := tblk_cell (i := 2) hr3 rfl
      have b3 := tblk_cell (i := 3) hr3 rfl
      have b4 := tblk_cell (i := 4) hr3 rfl
      clear hr3 hg2 hr2 hO2 B2 B3 C3 O3
      have HW := five_cells hg3 (.string m) (.string t) (.int .i64 mi) (.slice fa fs.length fc) (.slice none 0 0)
      have a0 := tblk_cell (i := 0) hg3 rfl
      have z0 := lblk_z (i := 0) hg3
      have a1 := tblk_cell (i := 1) hg3 rfl
      have z1 := lblk_z (i := 1) hg3
      have a2 := tblk_cell (i := 2) hg3 rfl
      have z2 := lblk_z (i := 2) hg3
      have a3 := tblk_cell (i := 3) hg3 rfl
      have z3 := lblk_z (i := 3) hg3
      have a4 := tblk_cell (i := 4) hg3 rfl
      have z4 := lblk_z (i := 4) hg3
      have r0 := tblk_cell (i := 0) HW rfl
      have r1 := tblk_cell (i := 1) HW rfl
      have r2 := tblk_cell (i := 2) HW rfl
      have r3 := tblk_cell (i := 3) HW rfl
      have r4 := tblk_cell (i := 4) HW rfl
      unfold five at r0 r1 r2 r3 r4
      clear HW hg3
      go_wp2
      refine bodyPost_ret (v := .tuple #[.agg #[.string m, .string t, .int .i64 mi, .slice fa fs.length fc, .slice none 0 0], .int .i64 (n : Nat), .int .i64 0]) (by simp [results, Tryz.results10, go_sem, r0, r1, r2, r3, r4]) rfl ?_
      rw [HE.out]
      exact ⟨fa, fc, rfl, HO3.out, HB1.out⟩
    · have HE : Hid (Q = hdNo (headSt fs mi)) := by rw [Hid, HQ.out, if_neg h0, if_neg hst]
      have hst' : (headSt fs mi != 0) = true := by simpa using hst
      have HS1 : Hid (∀ (W : World) (m t : ByteArray) (fa : Option Addr) (fc : Nat), Below w.heap.size w W → Fds W.heap.size W (.slice fa fs.length fc) fs → Calls Tryz.prog 30 #[.agg #[.string m, .string t, .int .i64 mi, .slice fa fs.length fc, .slice none 0 0]] W fun e w' => e = .returned (.int .i64 (headSt fs mi)) ∧ Below W.heap.size W w') := fun W m t fa fc B F => HS0.out W m t mi fa fc B F
      clear HS0
      generalize headSt fs mi = sst at *
      clear HQ HOK hnb hst
      go_enter Tryz.func10, Tryz.ntmps10
      go_wp2_with fail
      refine HRD.out.mono ?_
      rintro e w1 ⟨fa, fc, rfl, hO, hsz, B1, hg, hr⟩
      have hr1 := hr h0
      have hr2 := field3 (v := .slice fa fs.length fc) hr1
      have hg2 : (w1.setCell ⟨w.heap.size + 1, 3, none⟩ (.slice fa fs.length fc)).heap[w.heap.size]? = some (.cells #[.string ⟨#[]⟩, .string ⟨#[]⟩, .int .i64 0, .slice none 0 0, .slice none 0 0] 26) := (set_away (by omega)).trans hg
      have hO2 : OwnF (w.heap.size + 2) (w1.setCell ⟨w.heap.size + 1, 3, none⟩ (.slice fa fs.length fc)) (.slice fa fs.length fc) fs := hO.away (fun k hk => set_away (by omega))
      have B2 : Below w.heap.size w (w1.setCell ⟨w.heap.size + 1, 3, none⟩ (.slice fa fs.length fc)) := B1.setCell (p := ⟨w.heap.size + 1, 3, none⟩) (Nat.le_succ _) _
      have y3 := tblk_cell (i := 3) hr1 rfl
      have x3 := lblk_z (i := 3) hr1
      have d0 := tblk_cell (i := 0) hr2 rfl
      have d1 := tblk_cell (i := 1) hr2 rfl
      have d2 := tblk_cell (i := 2) hr2 rfl
      have d3 := tblk_cell (i := 3) hr2 rfl
      have d4 := tblk_cell (i := 4) hr2 rfl
      clear hr1 hg hO B1 HRD hr
      go_wp2_with fail
      clear y3 x3 d0 d1 d2 d3 d4
      generalize w1.setCell ⟨w.heap.size + 1, 3, none⟩ (.slice fa fs.length fc) = w2 at *
      refine (HS1.out w2 m t fa fc B2 hO2.fds).mono ?_
      rintro e w3 ⟨rfl, B3⟩
      have C3 := B2.trans (B3.mono B2.size)
      have hg3 := tblk_below hg2 B3
      have HB1 : Hid _ := five_below (.string ⟨#[]⟩) (.string ⟨#[]⟩) (.int .i64 0) (.slice none 0 0) (.slice none 0 0) C3 (Nat.le_refl _)
      unfold five at HB1
      clear hg2 hr2 hO2 B2 B3 C3
      have HW := five_cells hg3 (.string ⟨#[]⟩) (.string ⟨#[]⟩) (.int .i64 0) (.slice none 0 0) (.slice none 0 0)
      have a0 := tblk_cell (i := 0) hg3 rfl
      have z0 := lblk_z (i := 0) hg3
      have a1 := tblk_cell (i := 1) hg3 rfl
      have z1 := lblk_z (i := 1) hg3
      have a2 := tblk_cell (i := 2) hg3 rfl
      have z2 := lblk_z (i := 2) hg3
      have a3 := tblk_cell (i := 3) hg3 rfl
      have z3 := lblk_z (i := 3) hg3
      have a4 := tblk_cell (i := 4) hg3 rfl
      have z4 := lblk_z (i := 4) hg3
      have r0 := tblk_cell (i := 0) HW rfl
      have r1 := tblk_cell (i := 1) HW rfl
      have r2 := tblk_cell (i := 2) HW rfl
      have r3 := tblk_cell (i := 3) HW rfl
      have r4 := tblk_cell (i := 4) HW rfl
      unfold five at r0 r1 r2 r3 r4
      clear HW hg3
      go_wp2
      refine bodyPost_ret (v := .tuple #[.agg #[.string ⟨#[]⟩, .string ⟨#[]⟩, .int .i64 0, .slice none 0 0, .slice none 0 0], .int .i64 0, .int .i64 sst]) (by simp [results, Tryz.results10, go_sem, r0, r1, r2, r3, r4]) rfl ?_
      rw [HE.out]
      exact ⟨none, 0, rfl, OwnF.nil _ _, HB1.out⟩
end Go.Proofs.YthbjdbookiejeabGreatDoor
