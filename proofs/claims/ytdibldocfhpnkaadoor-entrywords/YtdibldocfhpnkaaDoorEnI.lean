/- Read: the right record of just a line. -/
import Derived.Test.YtdibldocfhpnkaaDoorEnH
import Derived.Test.YtdibldocfhpnkaaDoorShTSuf
import Derived.Deep.DeepCutAuto
namespace Go.Proofs.YtdibldocfhpnkaaDoor
open Go.RowKit
set_option linter.unusedVariables false

theorem bytes_eqR {a b : ByteArray} (h : a.data.toList = b.data.toList) : a = b := by
  cases a; cases b; congr 1; exact Array.toList_inj.1 h
theorem conv_empty (w : World) (a : Option Addr) (c : Nat) : (convert 25 9 (.slice a 0 c)).run Tryd.prog w = .ok (.string ⟨#[]⟩) w := by
  cases a with
  | some ad => exact run_convert_bytes_back (P := Tryd.prog) w 25 9 5 ad c [] Tryd.underlying25 Tryd.underlying5 Tryd.underlying9 (fun j hj => absurd hj (Nat.not_lt_zero _))
  | none => simp [convert, run_underlying Tryd.underlying25, run_underlying Tryd.underlying9, run_underlying Tryd.underlying5, Conv.bytesToString, go_sem]; rfl
theorem conv_all {w : World} {k : Nat} {a : Option Addr} {n c : Nat} {b : List UInt8} (h : Src w k (.slice a n c) b) : (convert 25 9 (.slice a n c)).run Tryd.prog w = .ok (.string ⟨b.toArray⟩) w := by
  rcases Nat.eq_zero_or_pos n with hn | hn
  · subst hn
    have hl := h.len.1
    have : b = [] := List.eq_nil_of_length_eq_zero hl
    subst this
    exact conv_empty w a c
  · exact conv_back h hn
def trimR (s : ByteArray) : ByteArray := ⟨(Lib.trimSuffix s.data.toList [10]).toArray⟩
theorem trimR_size (x : ByteArray) : (trimR x).size ≤ x.size := by
  show (Lib.trimSuffix x.data.toList [10]).toArray.size ≤ x.data.toList.length
  rw [List.size_toArray]
  unfold Lib.trimSuffix
  split
  · rw [List.length_take]; omega
  · exact Nat.le_refl _
/-- Is a line a right record's, and whose? -/
def okR (s : ByteArray) : Bool := parE (trimR s) && (rightE (parV (trimR s)) && (lineL (parV (trimR s)) == s.data.toList))
def valR (s : ByteArray) : EntP := if okR s = true then parV (trimR s) else zeroE
def codR (s : ByteArray) : Int := if okR s = true then 0 else 20
theorem parV_size (s : ByteArray) : (parV s).m.size ≤ s.size ∧ (parV s).t.size ≤ s.size := by
  unfold parV
  have key : ∀ i, ((p10 s).getD i ⟨#[]⟩).size ≤ s.size := fun i => by
    rcases Nat.lt_or_ge i (p10 s).length with c | c
    · rw [List.getD, List.getElem?_eq_getElem c, Option.getD_some]
      exact p10_size s _ (List.getElem_mem c)
    · rw [List.getD, List.getElem?_eq_none c, Option.getD_none]; exact Nat.zero_le _
  split
  · exact ⟨key 4, key 5⟩
  · exact ⟨Nat.zero_le _, Nat.zero_le _⟩
set_option maxRecDepth 100000 in
set_option maxHeartbeats 800000 in
theorem enread_any (b : List UInt8) (k : Nat) (a : Option Addr) (n c : Nat) (w : World) (hS : Src w k (.slice a n c) b) (hk : 0 < b.length → k < w.heap.size) (hn : b.length < 4294967281) (hM : MaxL w) (hL : LmT w) (hP : PowT w) :
    Calls Tryd.prog 11 #[.slice a n c] w fun r w' => r = .returned (.tuple #[.agg (entV (valR ⟨b.toArray⟩)), .int .i64 (codR ⟨b.toArray⟩)]) ∧ Below w.heap.size w w' := by
  have BA : Below w.heap.size w (w.alloc (.cells #[.int .i64 0, .int .i64 0, .int .i64 0, .int .i64 0, .string ⟨#[]⟩, .string ⟨#[]⟩, .int .i64 0, .int .i64 0, .int .i64 0] 23)) := (Below.refl _ _).alloc (Nat.le_refl _) _
  have NA := tblk_new w (.cells #[.int .i64 0, .int .i64 0, .int .i64 0, .int .i64 0, .string ⟨#[]⟩, .string ⟨#[]⟩, .int .i64 0, .int .i64 0, .int .i64 0] 23)
  have HCV : Hid ((convert 25 9 (.slice a n c)).run Tryd.prog (w.alloc (.cells #[.int .i64 0, .int .i64 0, .int .i64 0, .int .i64 0, .string ⟨#[]⟩, .string ⟨#[]⟩, .int .i64 0, .int .i64 0, .int .i64 0] 23)) = .ok (.string ⟨b.toArray⟩) (w.alloc (.cells #[.int .i64 0, .int .i64 0, .int .i64 0, .int .i64 0, .string ⟨#[]⟩, .string ⟨#[]⟩, .int .i64 0, .int .i64 0, .int .i64 0] 23))) := conv_all (hS.keep hk BA)
  have hcv := HCV.out
  obtain ⟨s, hs⟩ : ∃ s : ByteArray, (⟨b.toArray⟩ : ByteArray) = s := ⟨_, rfl⟩
  have hsz : s.size < 4294967281 := by rw [← hs]; show b.toArray.size < _; rw [List.size_toArray]; exact hn
  rw [hs] at hcv ⊢
  have htz := trimR_size s
  have hpz := parV_size (trimR s)
  have HT : Hid (∀ W, Calls Tryd.prog 27 #[.string s, .string ⟨#[10]⟩] W fun e w' => e = .returned (.string (trimR s)) ∧ W = w') := fun W => (Tryd.strings_TrimSuffix s ⟨#[10]⟩ W (by omega)).mono fun e w' h => ⟨h.1, h.2.symm⟩
  have HPA : Hid (∀ W, Below w.heap.size w W → Calls Tryd.prog 26 #[.string (trimR s)] W fun r w' => r = .returned (.tuple #[.agg (entV (parV (trimR s))), .bool (parE (trimR s))]) ∧ Below W.heap.size W w') := fun W hW => enparse_any (trimR s) W (by omega) (hM.below hW)
  have HR : Hid (∀ W, Below w.heap.size w W → Calls Tryd.prog 9 #[.agg (entV (parV (trimR s)))] W fun r w' => r = .returned (.bool (rightE (parV (trimR s)))) ∧ Below W.heap.size W w') := fun W hW => enright_any _ W (by unfold maxLen; omega) (by unfold maxLen; omega) (hL.below hW)
  have HTL : Hid (rightE (parV (trimR s)) = true → ∀ W, Below w.heap.size w W → Calls Tryd.prog 18 #[.agg (entV (parV (trimR s)))] W fun r w' => r = .returned (.string (lineB (parV (trimR s)))) ∧ Below W.heap.size W w') := fun h W hW => entell_any _ W h (hP.below hW)
  have HOK : Hid (okR s = (parE (trimR s) && (rightE (parV (trimR s)) && (lineL (parV (trimR s)) == s.data.toList)))) := rfl
  have HV0 : Hid (okR s = false → Ending.returned (.tuple #[.agg #[.int .i64 0, .int .i64 0, .int .i64 0, .int .i64 0, .string ⟨#[]⟩, .string ⟨#[]⟩, .int .i64 0, .int .i64 0, .int .i64 0], .int .i64 20]) = .returned (.tuple #[.agg (entV (valR s)), .int .i64 (codR s)])) := fun h => by
    unfold valR codR; rw [h]; rfl
  have HV1 : Hid (okR s = true → Ending.returned (.tuple #[.agg (entV (parV (trimR s))), .int .i64 0]) = .returned (.tuple #[.agg (entV (valR s)), .int .i64 (codR s)])) := fun h => by
    unfold valR codR; rw [h]; rfl
  generalize valR s = VR at *
  generalize codR s = CR at *
  generalize okR s = OK at *
  generalize parE (trimR s) = b0 at *
  generalize parV (trimR s) = pv at *
  generalize trimR s = ts at *
  generalize rightE pv = b1 at *
  have HLB : Hid ((lineB pv).data.toList = lineL pv) := rfl
  generalize lineB pv = lb at *
  generalize lineL pv = ll at *
  obtain ⟨eq, ea, ek, en, em, et, ec, eu, ed⟩ := pv
  clear hS hk hn hM hL hP hs htz hpz HCV
  generalize entV VR = VA at *
  unfold entV at *
  simp only at *
  go_enter Tryd.func11, Tryd.ntmps11
  go_wp2_with fail
  refine (HT.out _).mono ?_
  rintro r w1 ⟨rfl, rfl⟩
  go_wp2_with fail
  refine (HPA.out _ BA).mono ?_
  rintro r w2 ⟨rfl, B2⟩
  have D2 := BA.trans (B2.mono BA.size)
  have N2 := tblk_below NA B2
  have B3 : Below w2.heap.size w2 (w2.alloc (.cells #[.int .i64 eq, .int .i64 ea, .int .i64 ek, .int .i64 en, .string em, .string et, .int .i64 ec, .int .i64 eu, .int .i64 ed] 23)) := (Below.refl _ _).alloc (Nat.le_refl _) _
  have M3 := tblk_new w2 (.cells #[.int .i64 eq, .int .i64 ea, .int .i64 ek, .int .i64 en, .string em, .string et, .int .i64 ec, .int .i64 eu, .int .i64 ed] 23)
  have N3 := tblk_below N2 B3
  have D3 := D2.trans (B3.mono D2.size)
  have hlt := (Array.getElem?_eq_some_iff.1 N2).1
  clear BA NA B2 B3 N2 D2
  go_upto_region 3 with fail
  generalize (w2.alloc (.cells #[.int .i64 eq, .int .i64 ea, .int .i64 ek, .int .i64 en, .string em, .string et, .int .i64 ec, .int .i64 eu, .int .i64 ed] 23)) = w3 at *
  cases b0 with
  | false =>
    have hO : Hid (OK = false) := HOK.out
    clear HTL HR HPA HT M3
    obtain ⟨f0, f1, f2, f3, f4, f5, f6, f7, f8⟩ := cells9 N3
    have g0 : w3.frozen? ⟨w.heap.size, 0, none⟩ = false := ring_z N3
    have g1 : w3.frozen? ⟨w.heap.size, 1, none⟩ = false := ring_z N3
    have g2 : w3.frozen? ⟨w.heap.size, 2, none⟩ = false := ring_z N3
    have g3 : w3.frozen? ⟨w.heap.size, 3, none⟩ = false := ring_z N3
    have g4 : w3.frozen? ⟨w.heap.size, 4, none⟩ = false := ring_z N3
    have g5 : w3.frozen? ⟨w.heap.size, 5, none⟩ = false := ring_z N3
    have g6 : w3.frozen? ⟨w.heap.size, 6, none⟩ = false := ring_z N3
    have g7 : w3.frozen? ⟨w.heap.size, 7, none⟩ = false := ring_z N3
    have g8 : w3.frozen? ⟨w.heap.size, 8, none⟩ = false := ring_z N3
    have HD3 : Hid (Below w.heap.size w w3) := D3
    have HN3 : Hid (w3.heap[w.heap.size]? = some (.cells #[.int .i64 0, .int .i64 0, .int .i64 0, .int .i64 0, .string ⟨#[]⟩, .string ⟨#[]⟩, .int .i64 0, .int .i64 0, .int .i64 0] 23)) := N3
    clear D3 N3
    go_wp2
    have HFB : Hid ((((((((((w3.setCell ⟨w.heap.size, 0, none⟩ (.int .i64 0)).setCell ⟨w.heap.size, 1, none⟩ (.int .i64 0)).setCell ⟨w.heap.size, 2, none⟩ (.int .i64 0)).setCell ⟨w.heap.size, 3, none⟩ (.int .i64 0)).setCell ⟨w.heap.size, 4, none⟩ (.string ⟨#[]⟩)).setCell ⟨w.heap.size, 5, none⟩ (.string ⟨#[]⟩)).setCell ⟨w.heap.size, 6, none⟩ (.int .i64 0)).setCell ⟨w.heap.size, 7, none⟩ (.int .i64 0)).setCell ⟨w.heap.size, 8, none⟩ (.int .i64 0)).heap[w.heap.size]? = some (.cells #[.int .i64 0, .int .i64 0, .int .i64 0, .int .i64 0, .string ⟨#[]⟩, .string ⟨#[]⟩, .int .i64 0, .int .i64 0, .int .i64 0] 23)) := set9_blk HN3.out (.int .i64 0) (.int .i64 0) (.int .i64 0) (.int .i64 0) (.string ⟨#[]⟩) (.string ⟨#[]⟩) (.int .i64 0) (.int .i64 0) (.int .i64 0)
    have HFD : Hid (Below w.heap.size w (((((((((w3.setCell ⟨w.heap.size, 0, none⟩ (.int .i64 0)).setCell ⟨w.heap.size, 1, none⟩ (.int .i64 0)).setCell ⟨w.heap.size, 2, none⟩ (.int .i64 0)).setCell ⟨w.heap.size, 3, none⟩ (.int .i64 0)).setCell ⟨w.heap.size, 4, none⟩ (.string ⟨#[]⟩)).setCell ⟨w.heap.size, 5, none⟩ (.string ⟨#[]⟩)).setCell ⟨w.heap.size, 6, none⟩ (.int .i64 0)).setCell ⟨w.heap.size, 7, none⟩ (.int .i64 0)).setCell ⟨w.heap.size, 8, none⟩ (.int .i64 0))) := set9_below HD3.out (Nat.le_refl _) (.int .i64 0) (.int .i64 0) (.int .i64 0) (.int .i64 0) (.string ⟨#[]⟩) (.string ⟨#[]⟩) (.int .i64 0) (.int .i64 0) (.int .i64 0)
    generalize (((((((((w3.setCell ⟨w.heap.size, 0, none⟩ (.int .i64 0)).setCell ⟨w.heap.size, 1, none⟩ (.int .i64 0)).setCell ⟨w.heap.size, 2, none⟩ (.int .i64 0)).setCell ⟨w.heap.size, 3, none⟩ (.int .i64 0)).setCell ⟨w.heap.size, 4, none⟩ (.string ⟨#[]⟩)).setCell ⟨w.heap.size, 5, none⟩ (.string ⟨#[]⟩)).setCell ⟨w.heap.size, 6, none⟩ (.int .i64 0)).setCell ⟨w.heap.size, 7, none⟩ (.int .i64 0)).setCell ⟨w.heap.size, 8, none⟩ (.int .i64 0)) = WF at *
    obtain ⟨h0, h1, h2, h3, h4, h5, h6, h7, h8⟩ := cells9 HFB.out
    refine bodyPost_ret (v := .tuple #[.agg #[.int .i64 0, .int .i64 0, .int .i64 0, .int .i64 0, .string ⟨#[]⟩, .string ⟨#[]⟩, .int .i64 0, .int .i64 0, .int .i64 0], .int .i64 20]) (by simp [results, Tryd.results11, go_sem, h0, h1, h2, h3, h4, h5, h6, h7, h8]) rfl ⟨HV0.out hO.out, HFD.out⟩
  | true =>
    have HO2 : Hid (OK = (b1 && (ll == s.data.toList))) := HOK.out
    clear HOK
    obtain ⟨m0, m1, m2, m3, m4, m5, m6, m7, m8⟩ := cells9 M3
    go_wp2_with fail
    refine (HR.out _ D3).mono ?_
    rintro r w4 ⟨rfl, B4⟩
    have D4 := D3.trans (B4.mono D3.size)
    have N4 := tblk_below N3 B4
    have M4 := tblk_below M3 B4
    clear D3 N3 M3 B4 m0 m1 m2 m3 m4 m5 m6 m7 m8
    cases b1 with
    | false =>
      have hO : Hid (OK = false) := HO2.out
      clear HTL HR HPA HT M4
      obtain ⟨f0, f1, f2, f3, f4, f5, f6, f7, f8⟩ := cells9 N4
      have g0 : w4.frozen? ⟨w.heap.size, 0, none⟩ = false := ring_z N4
      have g1 : w4.frozen? ⟨w.heap.size, 1, none⟩ = false := ring_z N4
      have g2 : w4.frozen? ⟨w.heap.size, 2, none⟩ = false := ring_z N4
      have g3 : w4.frozen? ⟨w.heap.size, 3, none⟩ = false := ring_z N4
      have g4 : w4.frozen? ⟨w.heap.size, 4, none⟩ = false := ring_z N4
      have g5 : w4.frozen? ⟨w.heap.size, 5, none⟩ = false := ring_z N4
      have g6 : w4.frozen? ⟨w.heap.size, 6, none⟩ = false := ring_z N4
      have g7 : w4.frozen? ⟨w.heap.size, 7, none⟩ = false := ring_z N4
      have g8 : w4.frozen? ⟨w.heap.size, 8, none⟩ = false := ring_z N4
      have HD3 : Hid (Below w.heap.size w w4) := D4
      have HN3 : Hid (w4.heap[w.heap.size]? = some (.cells #[.int .i64 0, .int .i64 0, .int .i64 0, .int .i64 0, .string ⟨#[]⟩, .string ⟨#[]⟩, .int .i64 0, .int .i64 0, .int .i64 0] 23)) := N4
      clear D4 N4
      go_wp2
      have HFB : Hid ((((((((((w4.setCell ⟨w.heap.size, 0, none⟩ (.int .i64 0)).setCell ⟨w.heap.size, 1, none⟩ (.int .i64 0)).setCell ⟨w.heap.size, 2, none⟩ (.int .i64 0)).setCell ⟨w.heap.size, 3, none⟩ (.int .i64 0)).setCell ⟨w.heap.size, 4, none⟩ (.string ⟨#[]⟩)).setCell ⟨w.heap.size, 5, none⟩ (.string ⟨#[]⟩)).setCell ⟨w.heap.size, 6, none⟩ (.int .i64 0)).setCell ⟨w.heap.size, 7, none⟩ (.int .i64 0)).setCell ⟨w.heap.size, 8, none⟩ (.int .i64 0)).heap[w.heap.size]? = some (.cells #[.int .i64 0, .int .i64 0, .int .i64 0, .int .i64 0, .string ⟨#[]⟩, .string ⟨#[]⟩, .int .i64 0, .int .i64 0, .int .i64 0] 23)) := set9_blk HN3.out (.int .i64 0) (.int .i64 0) (.int .i64 0) (.int .i64 0) (.string ⟨#[]⟩) (.string ⟨#[]⟩) (.int .i64 0) (.int .i64 0) (.int .i64 0)
      have HFD : Hid (Below w.heap.size w (((((((((w4.setCell ⟨w.heap.size, 0, none⟩ (.int .i64 0)).setCell ⟨w.heap.size, 1, none⟩ (.int .i64 0)).setCell ⟨w.heap.size, 2, none⟩ (.int .i64 0)).setCell ⟨w.heap.size, 3, none⟩ (.int .i64 0)).setCell ⟨w.heap.size, 4, none⟩ (.string ⟨#[]⟩)).setCell ⟨w.heap.size, 5, none⟩ (.string ⟨#[]⟩)).setCell ⟨w.heap.size, 6, none⟩ (.int .i64 0)).setCell ⟨w.heap.size, 7, none⟩ (.int .i64 0)).setCell ⟨w.heap.size, 8, none⟩ (.int .i64 0))) := set9_below HD3.out (Nat.le_refl _) (.int .i64 0) (.int .i64 0) (.int .i64 0) (.int .i64 0) (.string ⟨#[]⟩) (.string ⟨#[]⟩) (.int .i64 0) (.int .i64 0) (.int .i64 0)
      generalize (((((((((w4.setCell ⟨w.heap.size, 0, none⟩ (.int .i64 0)).setCell ⟨w.heap.size, 1, none⟩ (.int .i64 0)).setCell ⟨w.heap.size, 2, none⟩ (.int .i64 0)).setCell ⟨w.heap.size, 3, none⟩ (.int .i64 0)).setCell ⟨w.heap.size, 4, none⟩ (.string ⟨#[]⟩)).setCell ⟨w.heap.size, 5, none⟩ (.string ⟨#[]⟩)).setCell ⟨w.heap.size, 6, none⟩ (.int .i64 0)).setCell ⟨w.heap.size, 7, none⟩ (.int .i64 0)).setCell ⟨w.heap.size, 8, none⟩ (.int .i64 0)) = WF at *
      obtain ⟨h0, h1, h2, h3, h4, h5, h6, h7, h8⟩ := cells9 HFB.out
      refine bodyPost_ret (v := .tuple #[.agg #[.int .i64 0, .int .i64 0, .int .i64 0, .int .i64 0, .string ⟨#[]⟩, .string ⟨#[]⟩, .int .i64 0, .int .i64 0, .int .i64 0], .int .i64 20]) (by simp [results, Tryd.results11, go_sem, h0, h1, h2, h3, h4, h5, h6, h7, h8]) rfl ⟨HV0.out hO.out, HFD.out⟩
    | true =>
      have HO3 : Hid (OK = (ll == s.data.toList)) := HO2.out
      obtain ⟨m0, m1, m2, m3, m4, m5, m6, m7, m8⟩ := cells9 M4
      clear HO2
      go_wp2_with fail
      refine (HTL.out (by first | rfl | trivial) _ D4).mono ?_
      rintro r w5 ⟨rfl, B5⟩
      have D5 := D4.trans (B5.mono D4.size)
      have N5 := tblk_below N4 B5
      have M5 := tblk_below M4 B5
      clear D4 N4 M4 B5 m0 m1 m2 m3 m4 m5 m6 m7 m8 HTL HR HPA HT
      obtain ⟨f0, f1, f2, f3, f4, f5, f6, f7, f8⟩ := cells9 N5
      have g0 : w5.frozen? ⟨w.heap.size, 0, none⟩ = false := ring_z N5
      have g1 : w5.frozen? ⟨w.heap.size, 1, none⟩ = false := ring_z N5
      have g2 : w5.frozen? ⟨w.heap.size, 2, none⟩ = false := ring_z N5
      have g3 : w5.frozen? ⟨w.heap.size, 3, none⟩ = false := ring_z N5
      have g4 : w5.frozen? ⟨w.heap.size, 4, none⟩ = false := ring_z N5
      have g5 : w5.frozen? ⟨w.heap.size, 5, none⟩ = false := ring_z N5
      have g6 : w5.frozen? ⟨w.heap.size, 6, none⟩ = false := ring_z N5
      have g7 : w5.frozen? ⟨w.heap.size, 7, none⟩ = false := ring_z N5
      have g8 : w5.frozen? ⟨w.heap.size, 8, none⟩ = false := ring_z N5
      have HD3 : Hid (Below w.heap.size w w5) := D5
      have HN3 : Hid (w5.heap[w.heap.size]? = some (.cells #[.int .i64 0, .int .i64 0, .int .i64 0, .int .i64 0, .string ⟨#[]⟩, .string ⟨#[]⟩, .int .i64 0, .int .i64 0, .int .i64 0] 23)) := N5
      obtain ⟨m0, m1, m2, m3, m4, m5, m6, m7, m8⟩ := cells9 M5
      clear D5 N5 M5
      by_cases he : lb = s
      · have hO : Hid (OK = true) := by rw [Hid, HO3.out, ← HLB.out, he]; exact beq_self_eq_true _
        subst he
        go_wp2
        have HFB : Hid ((((((((((w5.setCell ⟨w.heap.size, 0, none⟩ (.int .i64 eq)).setCell ⟨w.heap.size, 1, none⟩ (.int .i64 ea)).setCell ⟨w.heap.size, 2, none⟩ (.int .i64 ek)).setCell ⟨w.heap.size, 3, none⟩ (.int .i64 en)).setCell ⟨w.heap.size, 4, none⟩ (.string em)).setCell ⟨w.heap.size, 5, none⟩ (.string et)).setCell ⟨w.heap.size, 6, none⟩ (.int .i64 ec)).setCell ⟨w.heap.size, 7, none⟩ (.int .i64 eu)).setCell ⟨w.heap.size, 8, none⟩ (.int .i64 ed)).heap[w.heap.size]? = some (.cells #[.int .i64 eq, .int .i64 ea, .int .i64 ek, .int .i64 en, .string em, .string et, .int .i64 ec, .int .i64 eu, .int .i64 ed] 23)) := set9_blk HN3.out (.int .i64 eq) (.int .i64 ea) (.int .i64 ek) (.int .i64 en) (.string em) (.string et) (.int .i64 ec) (.int .i64 eu) (.int .i64 ed)
        have HFD : Hid (Below w.heap.size w (((((((((w5.setCell ⟨w.heap.size, 0, none⟩ (.int .i64 eq)).setCell ⟨w.heap.size, 1, none⟩ (.int .i64 ea)).setCell ⟨w.heap.size, 2, none⟩ (.int .i64 ek)).setCell ⟨w.heap.size, 3, none⟩ (.int .i64 en)).setCell ⟨w.heap.size, 4, none⟩ (.string em)).setCell ⟨w.heap.size, 5, none⟩ (.string et)).setCell ⟨w.heap.size, 6, none⟩ (.int .i64 ec)).setCell ⟨w.heap.size, 7, none⟩ (.int .i64 eu)).setCell ⟨w.heap.size, 8, none⟩ (.int .i64 ed))) := set9_below HD3.out (Nat.le_refl _) (.int .i64 eq) (.int .i64 ea) (.int .i64 ek) (.int .i64 en) (.string em) (.string et) (.int .i64 ec) (.int .i64 eu) (.int .i64 ed)
        generalize (((((((((w5.setCell ⟨w.heap.size, 0, none⟩ (.int .i64 eq)).setCell ⟨w.heap.size, 1, none⟩ (.int .i64 ea)).setCell ⟨w.heap.size, 2, none⟩ (.int .i64 ek)).setCell ⟨w.heap.size, 3, none⟩ (.int .i64 en)).setCell ⟨w.heap.size, 4, none⟩ (.string em)).setCell ⟨w.heap.size, 5, none⟩ (.string et)).setCell ⟨w.heap.size, 6, none⟩ (.int .i64 ec)).setCell ⟨w.heap.size, 7, none⟩ (.int .i64 eu)).setCell ⟨w.heap.size, 8, none⟩ (.int .i64 ed)) = WF at *
        obtain ⟨h0, h1, h2, h3, h4, h5, h6, h7, h8⟩ := cells9 HFB.out
        refine bodyPost_ret (v := .tuple #[.agg #[.int .i64 eq, .int .i64 ea, .int .i64 ek, .int .i64 en, .string em, .string et, .int .i64 ec, .int .i64 eu, .int .i64 ed], .int .i64 0]) (by simp [results, Tryd.results11, go_sem, h0, h1, h2, h3, h4, h5, h6, h7, h8]) rfl ⟨HV1.out hO.out, HFD.out⟩
      · have hO : Hid (OK = false) := by rw [Hid, HO3.out, ← HLB.out, beq_eq_false_iff_ne]; exact fun h => he (bytes_eqR h)
        have he2 : (lb.toList == s.toList) = false := by
          rw [beq_eq_false_iff_ne]
          intro h
          exact he (by rw [ByteArray.toList_eq, ByteArray.toList_eq] at h; exact bytes_eqR h)
        have he3 : ¬ lb.toList = s.toList := by simpa using he2
        clear he
        go_wp2
        have HFB : Hid ((((((((((w5.setCell ⟨w.heap.size, 0, none⟩ (.int .i64 0)).setCell ⟨w.heap.size, 1, none⟩ (.int .i64 0)).setCell ⟨w.heap.size, 2, none⟩ (.int .i64 0)).setCell ⟨w.heap.size, 3, none⟩ (.int .i64 0)).setCell ⟨w.heap.size, 4, none⟩ (.string ⟨#[]⟩)).setCell ⟨w.heap.size, 5, none⟩ (.string ⟨#[]⟩)).setCell ⟨w.heap.size, 6, none⟩ (.int .i64 0)).setCell ⟨w.heap.size, 7, none⟩ (.int .i64 0)).setCell ⟨w.heap.size, 8, none⟩ (.int .i64 0)).heap[w.heap.size]? = some (.cells #[.int .i64 0, .int .i64 0, .int .i64 0, .int .i64 0, .string ⟨#[]⟩, .string ⟨#[]⟩, .int .i64 0, .int .i64 0, .int .i64 0] 23)) := set9_blk HN3.out (.int .i64 0) (.int .i64 0) (.int .i64 0) (.int .i64 0) (.string ⟨#[]⟩) (.string ⟨#[]⟩) (.int .i64 0) (.int .i64 0) (.int .i64 0)
        have HFD : Hid (Below w.heap.size w (((((((((w5.setCell ⟨w.heap.size, 0, none⟩ (.int .i64 0)).setCell ⟨w.heap.size, 1, none⟩ (.int .i64 0)).setCell ⟨w.heap.size, 2, none⟩ (.int .i64 0)).setCell ⟨w.heap.size, 3, none⟩ (.int .i64 0)).setCell ⟨w.heap.size, 4, none⟩ (.string ⟨#[]⟩)).setCell ⟨w.heap.size, 5, none⟩ (.string ⟨#[]⟩)).setCell ⟨w.heap.size, 6, none⟩ (.int .i64 0)).setCell ⟨w.heap.size, 7, none⟩ (.int .i64 0)).setCell ⟨w.heap.size, 8, none⟩ (.int .i64 0))) := set9_below HD3.out (Nat.le_refl _) (.int .i64 0) (.int .i64 0) (.int .i64 0) (.int .i64 0) (.string ⟨#[]⟩) (.string ⟨#[]⟩) (.int .i64 0) (.int .i64 0) (.int .i64 0)
        generalize (((((((((w5.setCell ⟨w.heap.size, 0, none⟩ (.int .i64 0)).setCell ⟨w.heap.size, 1, none⟩ (.int .i64 0)).setCell ⟨w.heap.size, 2, none⟩ (.int .i64 0)).setCell ⟨w.heap.size, 3, none⟩ (.int .i64 0)).setCell ⟨w.heap.size, 4, none⟩ (.string ⟨#[]⟩)).setCell ⟨w.heap.size, 5, none⟩ (.string ⟨#[]⟩)).setCell ⟨w.heap.size, 6, none⟩ (.int .i64 0)).setCell ⟨w.heap.size, 7, none⟩ (.int .i64 0)).setCell ⟨w.heap.size, 8, none⟩ (.int .i64 0)) = WF at *
        obtain ⟨h0, h1, h2, h3, h4, h5, h6, h7, h8⟩ := cells9 HFB.out
        refine bodyPost_ret (v := .tuple #[.agg #[.int .i64 0, .int .i64 0, .int .i64 0, .int .i64 0, .string ⟨#[]⟩, .string ⟨#[]⟩, .int .i64 0, .int .i64 0, .int .i64 0], .int .i64 20]) (by simp [results, Tryd.results11, go_sem, h0, h1, h2, h3, h4, h5, h6, h7, h8]) rfl ⟨HV0.out hO.out, HFD.out⟩
end Go.Proofs.YtdibldocfhpnkaaDoor
