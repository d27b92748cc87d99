/- Whatever the response (of bulk at most 1048576), the method and the way, ScrubResponses answers true: what is handed on of a response, and what the server answers of its own, are as the document says. -/
import Derived.Test.YtajfjjmabncldaaGreatDoorSk6
import Derived.Test.YtajfjjmabncldaaGreatDoorSk4
import Derived.Test.YtajfjjmabncldaaGreatDoorSk2
import Derived.Lib.SmallJoins
import Derived.Test.YtajfjjmabncldaaGreatDoorRows
import Derived.Test.YtajfjjmabncldaaGreatDoorCards
import Derived.Test.YtajfjjmabncldaaGreatDoorTie
import Derived.WalkKit
import Derived.ProofKit
import Derived.OpenShut
import Derived.ShutString
import Derived.ChangeOld
import Derived.Below
import Derived.LaidMore
import Derived.Lay
import Derived.Stop.Joined
import Derived.SevenTiedAt
import Derived.Shelf.Vars
import Derived.Deep.DeepHandedRow
import Derived.Deep.DeepWitnessRowRef
/- ScrubResponses: the walk. -/
namespace Go.Proofs.YtajfjjmabncldaaGreatDoor
open Go.ChangeShapes Go.WideShapes Go.ChangeAt Go.RowKit
set_option linter.unusedVariables false

theorem few12_any (a : Option Addr) (n c : Nat) (b : Option Addr) (m d : Nat) (w : World) (hn : n ≤ 9223372036854775807) (hm : m ≤ 9223372036854775807) :
    Calls Tryz.prog 10 #[.slice a n c, .slice b m d] w fun e w' => e = .returned (.bool (decide (n ≤ 60) && decide (m ≤ 60))) ∧ w' = w := by
  by_cases h1 : n ≤ 60
  · have h1' : (n : Int) ≤ 60 := by omega
    by_cases h2 : m ≤ 60
    · have h2' : (m : Int) ≤ 60 := by omega
      go_enter Tryz.func10, Tryz.ntmps10
      go_wp2
      go_ret
      first | exact ⟨ret_b rfl, rfl⟩ | exact ⟨ret_b (by rw [decide_eq_true h1, decide_eq_true h2]; rfl), rfl⟩ | (rw [decide_eq_true h1, decide_eq_true h2]; exact ⟨rfl, rfl⟩)
    · have h2' : ¬ (m : Int) ≤ 60 := by omega
      go_enter Tryz.func10, Tryz.ntmps10
      go_wp2
      go_ret
      first | exact ⟨ret_b rfl, rfl⟩ | exact ⟨ret_b (by rw [decide_eq_false h2, Bool.and_false]), rfl⟩ | (rw [decide_eq_false h2, Bool.and_false]; exact ⟨rfl, rfl⟩)
  · have h1' : ¬ (n : Int) ≤ 60 := by omega
    go_enter Tryz.func10, Tryz.ntmps10
    go_wp2
    go_ret
    first | exact ⟨ret_b rfl, rfl⟩ | exact ⟨ret_b (by rw [decide_eq_false h1, Bool.false_and]), rfl⟩ | (rw [decide_eq_false h1, Bool.false_and]; exact ⟨rfl, rfl⟩)
theorem sameresp_s {B C : Nat} (m : Int) (t : ByteArray) (mi : Int) (fs : Fs) (x : List UInt8) (W : World) (a1 a2 b1 b2 : Option Addr) (c1 c2 d1 d2 : Nat) (f1 : OwnF B W (.slice a1 fs.length c1) fs) (f2 : OwnF C W (.slice a2 fs.length c2) fs) (s1 : Own B W (.slice b1 x.length d1) x) (s2 : Own C W (.slice b2 x.length d2) x) :
    Calls Tryz.prog 16 #[.agg #[.int .i64 m, .string t, .int .i64 mi, .slice a1 fs.length c1, .slice b1 x.length d1], .agg #[.int .i64 m, .string t, .int .i64 mi, .slice a2 fs.length c2, .slice b2 x.length d2]] W fun e w' => e = .returned (.bool true) ∧ Below W.heap.size W w' := by
  obtain ⟨k1, S1, K1⟩ := s1.src
  obtain ⟨k2, S2, K2⟩ := s2.src
  exact sameresp_eq m t mi fs x a1 a2 b1 b2 c1 c2 d1 d2 k1 k2 W f1.fds f2.fds S1 (fun q => (K1 q).2) S2 (fun q => (K2 q).2)
set_option maxRecDepth 100000 in
set_option maxHeartbeats 4000000 in
theorem responses12_walk (m reason : ByteArray) (code minor : Int) (fs : Fs) (body : List UInt8) (fa ba : Option Addr) (fc bc kb : Nat) (t : Bool) (w : World)
    (hf : Fds w.heap.size w (.slice fa fs.length fc) fs) (hb : Src w kb (.slice ba body.length bc) body) (hkb : 0 < body.length → kb < w.heap.size)
    (bf : FBd 1048576 fs) (br : reason.size ≤ 1048576) (hM : MaxL w) (hP : PowT w) :
    Calls Tryz.prog 4 #[.agg #[.int .i64 code, .string reason, .int .i64 minor, .slice fa fs.length fc, .slice ba body.length bc], .string m, .bool t] w fun e w' => e = .returned (.bool true) ∧ Below w.heap.size w w' := by
  have hlf := hf.len.2
  have hlb := hb.len.2
  unfold maxLen at hlf hlb
  have U : Below w.heap.size w (w.alloc (.cells #[.int .i64 code, .string reason, .int .i64 minor, .slice fa fs.length fc, .slice ba body.length bc] 40)) := (Below.refl _ _).alloc (Nat.le_refl _) _
  have k0 := tblk_new w (.cells #[.int .i64 code, .string reason, .int .i64 minor, .slice fa fs.length fc, .slice ba body.length bc] 40)
  have HAL := hidS (alive12_any (w.alloc (.cells #[.int .i64 code, .string reason, .int .i64 minor, .slice fa fs.length fc, .slice ba body.length bc] 40)) (hM.below U) (hP.below U))
  have HF := hidS hf
  have HSB := hidS hb
  have HM := hidS hM
  have HP := hidS hP
  have BF := hidS bf
  have HKB := hidS hkb
  clear hf hb hM hP bf hkb
  go_enter Tryz.func4, Tryz.ntmps4
  go_upto_region 1 with fail
  generalize (w.alloc (.cells #[.int .i64 code, .string reason, .int .i64 minor, .slice fa fs.length fc, .slice ba body.length bc] 40)) = w1 at *
  go_wp2_with fail
  refine HAL.out.mono ?_
  rintro e w2 ⟨rfl, B2⟩
  have k2 := tblk_below k0 B2
  have W2 := hidS (U.trans (B2.mono U.size))
  have HFE := hidS (few12_any fa fs.length fc none 0 0 w2 (by omega) (by omega))
  clear HAL B2 U k0
  obtain ⟨c0, c1, c2, c3, c4⟩ : w2.cell? ⟨w.heap.size, 0, none⟩ = some (.int .i64 code) ∧ w2.cell? ⟨w.heap.size, 1, none⟩ = some (.string reason) ∧ w2.cell? ⟨w.heap.size, 2, none⟩ = some (.int .i64 minor) ∧ w2.cell? ⟨w.heap.size, 3, none⟩ = some (.slice fa fs.length fc) ∧ w2.cell? ⟨w.heap.size, 4, none⟩ = some (.slice ba body.length bc) := ⟨tblk_cell k2 rfl, tblk_cell k2 rfl, tblk_cell k2 rfl, tblk_cell k2 rfl, tblk_cell k2 rfl⟩
  go_wp2_with fail
  refine HFE.out.mono ?_
  rintro e w3 ⟨rfl, h3⟩
  rw [h3]
  clear h3 HFE
  by_cases hfew : fs.length ≤ 60
  · rw [decide_eq_true hfew]
    by_cases hbig : body.length ≤ 5000
    · have hb1 : ¬ (5000 : Int) < (body.length : Int) := by omega
      have HSC : Hid (∀ W, Below w2.heap.size w2 W → W.cell? ⟨w.heap.size, 0, none⟩ = some (.int .i64 code) ∧ W.cell? ⟨w.heap.size, 1, none⟩ = some (.string reason) ∧ W.cell? ⟨w.heap.size, 2, none⟩ = some (.int .i64 minor) ∧ W.cell? ⟨w.heap.size, 3, none⟩ = some (.slice fa fs.length fc) ∧ W.cell? ⟨w.heap.size, 4, none⟩ = some (.slice ba body.length bc)) := fun W B => ⟨tblk_cell (tblk_below k2 B) rfl, tblk_cell (tblk_below k2 B) rfl, tblk_cell (tblk_below k2 B) rfl, tblk_cell (tblk_below k2 B) rfl, tblk_cell (tblk_below k2 B) rfl⟩
      obtain ⟨F1, hF1⟩ : ∃ x, backF m code minor fs body.length t = x := ⟨_, rfl⟩
      obtain ⟨D1, hD1⟩ : ∃ x, backB m code minor fs body = x := ⟨_, rfl⟩
      have H1 : Hid (∀ W, Below w2.heap.size w2 W → Calls Tryz.prog 17 #[.agg #[.int .i64 code, .string reason, .int .i64 minor, .slice fa fs.length fc, .slice ba body.length bc], .string m, .bool t] W fun e w' => ∃ ao co bo cb, e = .returned (.agg #[.int .i64 code, .string reason, .int .i64 1, .slice ao F1.length co, .slice bo D1.length cb]) ∧ OwnF W.heap.size w' (.slice ao F1.length co) F1 ∧ Own W.heap.size w' (.slice bo D1.length cb) D1 ∧ Below W.heap.size W w') := fun W B => by
        have BW := W2.out.trans (B.mono W2.out.size)
        have k := scresp_any m reason code minor fs body fa ba fc bc kb t W ((HF.out.keep BW).mono BW.size) (HSB.out.keep HKB.out BW) (fun q => Nat.lt_of_lt_of_le (HKB.out q) BW.size) BF.out br (by omega) (by omega) (HM.out.below BW) (HP.out.below BW)
        rw [hF1, hD1] at k
        exact k
      have H2 : Hid (∀ W, Below w2.heap.size w2 W → Calls Tryz.prog 18 #[.agg #[.int .i64 code, .string reason, .int .i64 minor, .slice fa fs.length fc, .slice ba body.length bc], .string m, .bool t] W fun e w' => ∃ ao co bo cb, e = .returned (.agg #[.int .i64 code, .string reason, .int .i64 1, .slice ao F1.length co, .slice bo D1.length cb]) ∧ OwnF W.heap.size w' (.slice ao F1.length co) F1 ∧ Own W.heap.size w' (.slice bo D1.length cb) D1 ∧ Below W.heap.size W w') := fun W B => by
        have BW := W2.out.trans (B.mono W2.out.size)
        have k := r12resp_any m reason code minor fs body fa ba fc bc kb t W ((HF.out.keep BW).mono BW.size) (HSB.out.keep HKB.out BW) (fun q => Nat.lt_of_lt_of_le (HKB.out q) BW.size) BF.out (by omega) (by omega)
        rw [hF1, hD1] at k
        exact k
      have HP2 : Hid (∀ W, Below w2.heap.size w2 W → PowT W) := fun W B => HP.out.below (W2.out.trans (B.mono W2.out.size))
      clear hF1 hD1 HF HSB HM HP BF HKB
      have HD := (Below.refl w2.heap.size w2).drew
      obtain ⟨s0, s1, s2, s3, s4⟩ := HSC.out _ HD
      go_upto_region 5 with fail
      go_region_held3 (fun W => W.cell? ⟨w.heap.size, 0, none⟩ = some (.int .i64 code) ∧ W.cell? ⟨w.heap.size, 1, none⟩ = some (.string reason) ∧ W.cell? ⟨w.heap.size, 2, none⟩ = some (.int .i64 minor) ∧ W.cell? ⟨w.heap.size, 3, none⟩ = some (.slice fa fs.length fc) ∧ W.cell? ⟨w.heap.size, 4, none⟩ = some (.slice ba body.length bc)) (go_keep) (first | (go_at_call 17; refine (H1.out _ HD).mono ?_; rintro e w5 ⟨a5, c5, b5, d5, rfl, O5, P5, B5⟩; have B5' := HD.trans (B5.mono HD.size); have hS := HSC.out _ B5') | (go_at_call 18; refine (H2.out _ B5').mono ?_; rintro e w6 ⟨a6, c6, b6, d6, rfl, O6, P6, B6⟩; have B6' := B5'.trans (B6.mono B5'.size); have hS := HSC.out _ B6'; have HS7 := hidS (sameresp_s code reason 1 F1 D1 w6 a5 a6 b5 b6 c5 c6 d5 d6 (O5.keep B6) (O6.mono (Nat.le_trans (Nat.le_of_eq rfl) B5.size)) (P5.keep B6) (P6.mono (Nat.le_trans (Nat.le_of_eq rfl) B5.size)))) | (go_at_call 16; refine HS10.out.mono ?_; rintro e w10 ⟨rfl, B10⟩; have B10' := B9'.trans (B10.mono B9'.size); have hS := HSC.out _ B10') | (go_at_call 16; refine HS7.out.mono ?_; rintro e w7 ⟨rfl, B7⟩; have B7' := B6'.trans (B7.mono B6'.size); have hS := HSC.out _ B7') | (go_at_call 19; refine (scown_any code t w7 (HP2.out _ B7')).mono ?_; rintro e w8 ⟨a8, c8, rfl, O8, B8⟩; have B8' := B7'.trans (B8.mono B7'.size); have hS := HSC.out _ B8') | (go_at_call 20; refine (r12own_any code t w8).mono ?_; rintro e w9 ⟨a9, c9, rfl, O9, B9⟩; have B9' := B8'.trans (B9.mono B8'.size); have hS := HSC.out _ B9'; have HS10 := hidS (sameresp_s code (reasonS code) 1 (ownFs t) [] w9 a8 a9 none none c8 c9 0 0 (O8.keep B9) (O9.mono (C := w7.heap.size + 1) (by have := B8.size; omega)) (Own.nil _ _) (Own.nil _ _))))
      have HB := hidS (W2.out.trans (B10'.mono W2.out.size))
      clear H1 H2 HP2 HSC HD B5 B5' B6 B6' B7 B7' B8 B8' B9 B9' B10 B10' O5 P5 O6 P6 O8 O9 HS7 HS10
      go_wp2
      go_ret
      exact ⟨rfl, HB.out⟩
    · have hb1 : (5000 : Int) < (body.length : Int) := by omega
      clear HF HSB HM HP BF HKB
      go_wp2
      go_ret
      exact ⟨rfl, W2.out⟩
  · rw [decide_eq_false hfew]
    clear HF HSB HM HP BF HKB
    go_wp2
    go_ret
    exact ⟨rfl, W2.out⟩
end Go.Proofs.YtajfjjmabncldaaGreatDoor

/- How large texts of fields are that a bounded reading holds. -/
namespace Go.Proofs.YtajfjjmabncldaaGreatDoor
set_option linter.unusedVariables false

theorem bulk_fs {H : Type} : ∀ (fs : Fs) (N : Nat), Rows.uptoBulkAll (H := H) (fs.map datF) ≤ N → FBd N fs
  | [], _, _ => fun f hf => by cases hf
  | f :: l, N, h => by
    simp only [List.map_cons, Rows.uptoBulkAll, datF, Rows.uptoBulk] at h
    have e1 : f.1.data.toList.length = f.1.size := rfl
    have e2 : f.2.data.toList.length = f.2.size := rfl
    intro x hx
    rcases List.mem_cons.1 hx with rfl | hx
    · omega
    · exact bulk_fs (H := H) l N (by show Rows.uptoBulkAll (l.map datF) ≤ N; omega) x hx
theorem bulk_slice {H : Type} {d : DataW H} {fs : Fs} {N : Nat} (hx : (d = .nil ∧ fs = []) ∨ ∃ sp, d = .slice (fs.map datF) sp) (h : Rows.uptoBulk d ≤ N) : FBd N fs := by
  rcases hx with ⟨_, rfl⟩ | ⟨sp, e⟩
  · intro f hf; cases hf
  · rw [e] at h
    simp only [Rows.uptoBulk] at h
    exact bulk_fs (H := H) fs N (by omega)
end Go.Proofs.YtajfjjmabncldaaGreatDoor

/- Out of the row's condition: the table of the powers of ten. -/
namespace Go.Proofs.YtajfjjmabncldaaGreatDoor
open Go.RowKit
set_option linter.unusedVariables false

theorem pow_of {l : List (String × DataW Unit)} {W : World} (hl : l.filter (fun x => x.1 == "internal/strconv.uint64pow10") = [("internal/strconv.uint64pow10", Lib.tabData .u64 Lib.pow10Tab)]) (h : laidMetH Tryz.prog l W) : PowT W := by
  have h1 := laidMetH.filter (fun x => x.1 == "internal/strconv.uint64pow10") h
  rw [hl, MakeChecks.laidMetH_plain _ _ _ (by kernel_rfl)] at h1
  have p1 := Lib.tabIs_of_head gPow (by kernel_rfl) Tryz.underlying210 Tryz.underlying190 (by kernel_rfl) (by kernel_rfl) h1
  have c : W.cell? ⟨0, 0, none⟩ = some (.int .u64 1) := p1.cell gPow 0 (by decide)
  exact ⟨p1, cell_lt c⟩
end Go.Proofs.YtajfjjmabncldaaGreatDoor

/- A response that came in, with its reason's and its body's bytes. -/
namespace Go.Proofs.YtajfjjmabncldaaGreatDoor
open Go.ChangeShapes Go.WideShapes Go.ChangeAt Go.RowKit
set_option linter.unusedVariables false

theorem array5s {α : Type} {a : Array α} (h : a.size = 5) : ∃ x0 x1 x2 x3 x4, a = #[x0, x1, x2, x3, x4] := by
  obtain ⟨l⟩ := a
  match l, h with
  | [x0, x1, x2, x3, x4], _ => exact ⟨x0, x1, x2, x3, x4, rfl⟩
theorem slice_ofs {H : Type} {enc : TypeId × Value → H} {w : World} {base : Nat} {held : Bool} {n : Nat} {v : Value} {t e : TypeId} {y : DataW H × List MemPlace} (ht : Tryz.prog.underlying t = some (.slice e))
    (h : DataW.trod enc Tryz.prog w base (fun _ => true) held n t [v] = some y) : ∃ a x c, v = .slice a x c := by
  rcases Go.Deep.open_slice ht h with ⟨hcs, _⟩ | ⟨a, len, cap, _, _, _, _, hcs, _⟩
  · exact ⟨none, 0, 0, by simpa using hcs⟩
  · exact ⟨some a, len, cap, by simpa using hcs⟩
set_option maxRecDepth 100000 in
set_option linter.constructorNameAsVariable false in
theorem open_resp2 {H : Type} {enc : TypeId × Value → H} {w : World} {r : Reach} {b0 base : Nat} {held : Bool} {v : Value} {d : DataW H} {p : List MemPlace}
    (hv : Value.okWide Tryz.prog w r b0 40 v) (h : DataW.Trod enc Tryz.prog w base (fun _ => true) held 40 v d p) :
    ∃ (code minor : Int) (reason : ByteArray) (a b : Option Addr) (c y kb : Nat) (fs : Fs) (bs : List UInt8), v = .agg #[.int .i64 code, .string reason, .int .i64 minor, .slice a fs.length c, .slice b bs.length y] ∧ Fds w.heap.size w (.slice a fs.length c) fs ∧
      Src w kb (.slice b bs.length y) bs ∧ (0 < bs.length → kb < w.heap.size) ∧ ∃ d0 d2 d3 d4, d = .agg [d0, .lit (.string reason.data.toList), d2, d3, d4] ∧ ((d3 = .nil ∧ fs = []) ∨ ∃ sp, d3 = .slice (fs.map datF) sp) := by
  have ki : Tryz.prog.cellsOf 3 = 1 := by kernel_rfl
  have ks : Tryz.prog.cellsOf 9 = 1 := by kernel_rfl
  have kf : Tryz.prog.cellsOf 22 = 1 := by kernel_rfl
  have kb : Tryz.prog.cellsOf 23 = 1 := by kernel_rfl
  obtain ⟨cs, rfl, hsz⟩ := okWide_struct Tryz.underlying40 hv
  obtain ⟨c0, c1, c2, c3, c4, rfl⟩ := array5s (hsz.trans (show Tryz.prog.cellsOf 40 = 5 by kernel_rfl))
  obtain ⟨fuel, hf⟩ := h
  obtain ⟨xs, n, _, hx, _, hxl, hg⟩ := DataW.trod_struct Tryz.underlying40 hf
  match xs, hxl, hx, hg with
  | [y0, y1, y2, y3, y4], _, hx, hg =>
    have g0 := hg 0 _ rfl
    have g1 := hg 1 _ rfl
    have g2 := hg 2 _ rfl
    have g3 := hg 3 _ rfl
    have g4 := hg 4 _ rfl
    simp [Value.cells, ki] at g0
    simp [Value.cells, ks] at g1
    simp [Value.cells, ki] at g2
    simp [Value.cells, kf] at g3
    simp [Value.cells, kb] at g4
    obtain ⟨code, e0, _, _⟩ := DataW.trod_int Tryz.underlying3 g0
    obtain ⟨reason, e1, f1, _⟩ := DataW.trod_string Tryz.underlying9 g1
    obtain ⟨minor, e2, _, _⟩ := DataW.trod_int Tryz.underlying3 g2
    obtain ⟨a3, n3, x3, e3⟩ := slice_ofs Tryz.underlying22 g3
    obtain ⟨a4, n4, x4, e4⟩ := slice_ofs Tryz.underlying23 g4
    subst e3 e4
    obtain ⟨fs, q1, q2, q3⟩ := open_fields (w := w) (a := a3) (len := n3) (cap := x3) (x := y3) ⟨_, by simpa [Value.cells] using g3⟩
    obtain ⟨k, bs, s1, s2, s3⟩ := open_bytes (w := w) (a := a4) (len := n4) (cap := x4) (x := y4) ⟨_, by simpa [Value.cells] using g4⟩
    obtain rfl : n3 = fs.length := by
      obtain ⟨_, _, e, _⟩ := q1
      simp only [Value.slice.injEq] at e
      exact e.2.1
    obtain rfl : n4 = bs.length := by
      obtain ⟨_, _, e, _⟩ := s1
      simp only [Value.slice.injEq] at e
      exact e.2.1
    simp only [Prod.mk.injEq] at hx
    have e0' : c0 = .int .i64 code := by simpa using e0
    have e1' : c1 = .string reason := by simpa using e1
    have e2' : c2 = .int .i64 minor := by simpa using e2
    subst e0' e1' e2'
    refine ⟨code, minor, reason, a3, a4, x3, x4, k, fs, bs, rfl, q1, s1, s2, y0.1, y2.1, y3.1, y4.1, ?_, q3⟩
    rw [hx.1, f1]
    rfl
end Go.Proofs.YtajfjjmabncldaaGreatDoor

/- Whatever the response (of bulk at most 1048576), the method and the way, ScrubResponses answers true: what is handed on of a response, and what the server answers of its own, are as the document says. -/
namespace Go.Proofs.YtajfjjmabncldaaGreatDoor.scrubResponses
open Go.ChangeShapes Go.WideShapes Go.ChangeAt Go.RowKit
open Go.ChangeMaps (open_string shut_string)
set_option linter.unusedVariables false

theorem own : ownKnob Tryz.prog.godebug = none := by kernel_rfl
theorem laidOut : laidOutB Tryz.prog = true := by kernel_rfl
theorem maxL_of {W : World} (hsh : W.ShapedOpen Tryz.prog) : MaxL W :=
  cell_of_shapedOpen_int (P := Tryz.prog) (g := 1) (t := 3) (zero := #[.int .i64 0]) hsh (of_decide_eq_true (by kernel_rfl)) (by kernel_rfl) rfl (by kernel_rfl) (by kernel_rfl) Tryz.underlying3
noncomputable def laidWorld (os : Os) : World := World.laidAll Tryz.prog os Rows.scrubResponsesUptoRow.laid
theorem laid_met (os : Os) : laidMetH Tryz.prog Rows.scrubResponsesUptoRow.laid ((laidWorld os).forCall (fun _ _ => 0) ⟨#[], #[.agg #[.int .i64 0, .string ⟨#[]⟩, .int .i64 0, .slice none 0 0, .slice none 0 0], .string ⟨#[]⟩, .bool false], []⟩).memory := by
  rw [MakeChecks.laidMetH_plain _ _ _ (by kernel_rfl)]
  exact laidMet_laidAll _ (by kernel_rfl) (by kernel_rfl)
set_option maxRecDepth 100000 in
theorem lifted (os : Os) (started : os.Started) (H : Type) (enc : TypeId × Value → H) (F : Stop.Interp) :
    ReturnsInHanded {} Tryz.checked os 4 .any ((Rows.OpenSpec.upto Rows.scrubResponsesSpec).preRow enc Tryz.prog Tryz.f4 Rows.scrubResponsesUptoRow.domain false Rows.scrubResponsesUptoRow.laid) (((Rows.OpenSpec.upto Rows.scrubResponsesSpec).at F).post enc Tryz.prog Tryz.f4 false true false false) := by
  obtain ⟨places, hx⟩ := (⟨[], by kernel_rfl⟩ : ∃ places, DataW.whole enc Tryz.prog ((laidWorld os).forCall (fun _ _ => 0) ⟨#[], #[.agg #[.int .i64 0, .string ⟨#[]⟩, .int .i64 0, .slice none 0 0, .slice none 0 0], .string ⟨#[]⟩, .bool false], []⟩).memory Tryz.f4.params.toList Rows.scrubResponsesSpec.vars false (#[.agg #[.int .i64 0, .string ⟨#[]⟩, .int .i64 0, .slice none 0 0, .slice none 0 0], .string ⟨#[]⟩, .bool false] : Array Value).toList 8 = some ([.agg [.lit (.int .i64 0), .lit (.string []), .lit (.int .i64 0), .nil, .nil], .lit (.string []), .lit (.bool false)], [], places))
  refine returnsInHanded_of_row (C := Tryz.checked) (s := Rows.OpenSpec.upto Rows.scrubResponsesSpec) own started (by kernel_rfl) Tryz.func4
    (witness_row_atRef (enc := enc) (C := Tryz.checked) false (laidWorld os) #[.agg #[.int .i64 0, .string ⟨#[]⟩, .int .i64 0, .slice none 0 0, .slice none 0 0], .string ⟨#[]⟩, .bool false] rfl (by kernel_rfl) (by kernel_rfl) (by kernel_rfl)
      (OpenSpec.preRow_of_cond 8 hx (by kernel_rfl) (fun k hk => by cases hk; kernel_rfl) (by kernel_rfl) (laid_met os))) ?_
  intro W base args ds gs before hval0 hW _ hcond hsz hlaid hsh _
  have hM := maxL_of hsh
  clear hsh
  have hval : ∀ (j : Nat) t v, Tryz.f4.params[j]? = some t → args[j]? = some v → Value.okWide Tryz.prog W .any base t v := hval0
  have hW' := hW
  obtain ⟨p, q, hA0, hV, rfl, hfz, hnd⟩ := hW
  have hA : DataW.TrodAll enc Tryz.prog W 0 (fun _ => true) true Tryz.f4.params.toList args.toList ds p := hA0
  rw [Tryz.params4] at hA hval
  obtain ⟨v0, vs0, d0, ds0, p0, q0, hargs, rfl, rfl, h0, r0⟩ := trodAll_cons hA
  obtain ⟨v1, vs1, d1, ds1, p1, q1, rfl, rfl, rfl, h1, r1⟩ := trodAll_cons r0
  obtain ⟨v2, vs2, d2, ds2, p2, q2, rfl, rfl, rfl, h2, r2⟩ := trodAll_cons r1
  obtain ⟨rfl, rfl, rfl⟩ := trodAll_nil r2
  obtain rfl : args = #[v0, v1, v2] := by cases args; simp_all
  obtain ⟨rfl, rfl⟩ := trodVars_none hV
  have k0 := h0
  have lt0 : ∀ x ∈ p0, x.block < W.heap.size := by obtain ⟨m, hm⟩ := k0; exact DataW.trod_lt m _ _ _ hm
  obtain ⟨code0, minor0, reason0, a0, b0, cap0, cb0, kb0, fs0, bs0, rfl, w0, u0, hk0, e00, e20, e30, e40, hd0, x0⟩ := open_resp2 (hval 0 40 v0 rfl rfl) h0
  obtain ⟨a1, rfl, rfl, rfl, w1⟩ := open_string Tryz.underlying9 (hval 1 9 v1 rfl rfl) h1
  obtain ⟨a2, rfl, rfl, rfl⟩ := open_bool Tryz.underlying4 (hval 2 4 v2 rfl rfl) h2
  clear hA0 hval0
  have s0 := u0
  have hP := pow_of (l := Rows.scrubResponsesUptoRow.laid) (by kernel_rfl) hlaid
  have hbb : FBd 1048576 fs0 ∧ reason0.size ≤ 1048576 := by
    have k := hcond _ rfl
    have k1 := of_decide_eq_true k
    rw [hd0] at k1
    simp only [Rows.uptoBulkAll, Rows.uptoBulk, List.append_nil] at k1
    have er : reason0.size = reason0.data.toList.length := rfl
    exact ⟨bulk_slice x0 (by omega), by omega⟩
  obtain ⟨hbd, hbr⟩ := hbb
  refine (responses12_walk a1 reason0 code0 minor0 fs0 bs0 a0 b0 cap0 cb0 kb0 a2 W w0 s0 hk0 hbd hbr hM hP).mono fun e W' ⟨he, bel⟩ => ?_
  subst he
  exact ⟨_, rfl, _, _, _, [], _, [], hW', trodAll_mk1 (shut_bool Tryz.underlying4 _), (trodAll_cons_mk (Below.trod laidOut (by kernel_rfl) (of_decide_eq_true (by kernel_rfl)) k0 bel lt0) (trodAll_cons_mk (shut_string Tryz.underlying9 w1) (trodAll_cons_mk (shut_bool Tryz.underlying4 a2) trodAll_mk0))), rfl, bel.frame _, fun h => by cases h⟩

theorem over : Rows.ScrubResponsesUptoSaid :=
  OpenClaim.holds_of_cond 4 Tryz.f4 rfl rfl rfl rfl rfl rfl rfl ⟨rfl, rfl, rfl, rfl, rfl⟩ rfl rfl rfl rfl rfl (by kernel_rfl) Tryz.func4 (by kernel_rfl)
    (of_decide_eq_true (by kernel_rfl)) (by unfold Func.isWrapper; first | (rw [if_pos (by decide +kernel)]; kernel_rfl) | (rw [if_neg (by decide +kernel)]; exact ⟨rfl, rfl⟩))
    (fun os started H enc _ F => by rw [OpenClaim.pre_eq_preRow]; exact lifted os started H enc F)

end Go.Proofs.YtajfjjmabncldaaGreatDoor.scrubResponses
namespace Go.Proofs.YtajfjjmabncldaaGreatDoor
/-- The statement: the tied card. -/
theorem scrubResponsesUpto_holds : Rows.ScrubResponsesUptoCardSaid :=
  Claim7.holds_tied_plain_at .later [] _ _ _ _
    scrubResponses.over (fun _ h => by cases h) (by kernel_rfl) (fun _ h => by cases h) scrubResponsesUpto_row_tie rfl ⟨rfl, rfl⟩ (by kernel_rfl) rfl
    (fun f fn hf hfn => by
      obtain rfl : f = 4 := Option.some.inj ((show Tryz.prog.funcNamed "tollbar/tollbarlaw12.ScrubResponses" = some 4 by kernel_rfl).symm.trans hf) |>.symm
      obtain rfl : fn = Tryz.f4 := (Option.some.inj (Tryz.func4.symm.trans hfn)).symm
      exact ⟨by kernel_rfl, fun j t ht => by
        rw [Tryz.params4] at ht
        have hm : t ∈ [40, 9, 4] := by simpa using Array.mem_of_getElem? ht
        have hall : ([40, 9, 4].all fun u => !Tryz.prog.wantsStandIn u) = true := by kernel_rfl
        exact (show Tryz.prog.wantsStandIn t = false by simpa using List.all_eq_true.1 hall t hm)⟩)
    (by kernel_rfl)
#print axioms scrubResponsesUpto_holds
end Go.Proofs.YtajfjjmabncldaaGreatDoor
