/- Whatever the requests (of bulk at most 1048576 together) and the cut, WholeRequests answers true: right requests, written one behind the other, each with its body in chunks or by its length, are read as just these, in their order, and what is not whole is not read. -/
import Derived.Test.YtkdnckkdofoaoaaGreatDoorKh
import Derived.Test.YtkdnckkdofoaoaaGreatDoorKf
import Derived.Test.YtkdnckkdofoaoaaGreatDoorKx
import Derived.Test.YtkdnckkdofoaoaaGreatDoorKo
import Derived.Test.YtkdnckkdofoaoaaGreatDoorKn
import Derived.Test.YtkdnckkdofoaoaaGreatDoorKd
import Derived.Deep.RegionHeld3
import Derived.Deep.QuietTactic
import Derived.BigQuiet
import Derived.Test.YtkdnckkdofoaoaaGreatDoorKg
import Derived.Deep.RegionLaw
import Derived.Test.YtkdnckkdofoaoaaGreatDoorKb
import Derived.Deep.Slices
import Derived.Deep.SlicePairs
import Derived.Test.YtkdnckkdofoaoaaGreatDoorRows
import Derived.Test.YtkdnckkdofoaoaaGreatDoorCards
import Derived.Test.YtkdnckkdofoaoaaGreatDoorTie
import Derived.WalkKit
import Derived.ProofKit
import Derived.OpenShut
import Derived.ShutString
import Derived.ChangeOld
import Derived.Below
import Derived.LaidMore
import Derived.Lay
import Derived.Stop.Joined
import Derived.SevenTiedAt
import Derived.Shelf.Vars
import Derived.Deep.DeepHandedRow
import Derived.Deep.DeepWitnessRowRef
/- soundHttp. -/
namespace Go.Proofs.YtkdnckkdofoaoaaGreatDoor
open Go.RowKit
set_option linter.unusedVariables false

def l68 : List UInt8 := [80, 85, 84, 32, 47, 97, 32, 72, 84, 84, 80, 47, 49, 46, 49, 13, 10, 72, 111, 115, 116, 58, 32, 104, 13, 10, 84, 114, 97, 110, 115, 102, 101, 114, 45, 69, 110, 99, 111, 100, 105, 110, 103, 58, 32, 99, 104, 117, 110, 107, 101, 100, 13, 10, 13, 10, 50, 13, 10, 97, 98, 13, 10, 48, 13, 10, 13, 10]
def o68 : Obj := .cells #[.int .u8 80, .int .u8 85, .int .u8 84, .int .u8 32, .int .u8 47, .int .u8 97, .int .u8 32, .int .u8 72, .int .u8 84, .int .u8 84, .int .u8 80, .int .u8 47, .int .u8 49, .int .u8 46, .int .u8 49, .int .u8 13, .int .u8 10, .int .u8 72, .int .u8 111, .int .u8 115, .int .u8 116, .int .u8 58, .int .u8 32, .int .u8 104, .int .u8 13, .int .u8 10, .int .u8 84, .int .u8 114, .int .u8 97, .int .u8 110, .int .u8 115, .int .u8 102, .int .u8 101, .int .u8 114, .int .u8 45, .int .u8 69, .int .u8 110, .int .u8 99, .int .u8 111, .int .u8 100, .int .u8 105, .int .u8 110, .int .u8 103, .int .u8 58, .int .u8 32, .int .u8 99, .int .u8 104, .int .u8 117, .int .u8 110, .int .u8 107, .int .u8 101, .int .u8 100, .int .u8 13, .int .u8 10, .int .u8 13, .int .u8 10, .int .u8 50, .int .u8 13, .int .u8 10, .int .u8 97, .int .u8 98, .int .u8 13, .int .u8 10, .int .u8 48, .int .u8 13, .int .u8 10, .int .u8 13, .int .u8 10] 5 (68, 69)
theorem snd1 : reqQ l68 = ⟨⟨#[80, 85, 84]⟩, ⟨#[47, 97]⟩, 1, [(⟨#[72, 111, 115, 116]⟩, ⟨#[104]⟩), (⟨#[84, 114, 97, 110, 115, 102, 101, 114, 45, 69, 110, 99, 111, 100, 105, 110, 103]⟩, ⟨#[99, 104, 117, 110, 107, 101, 100]⟩)], [97, 98], 68, 0⟩ := by kernel_rfl
theorem snd2 : prs ⟨#[97, 58, 32, 98]⟩ = (⟨#[97]⟩, ⟨#[98]⟩, 0) := by kernel_rfl
theorem snd3 : rqP ⟨#[71, 69, 84, 32, 47, 32, 72, 84, 84, 80, 47, 49, 46, 49]⟩ = ⟨⟨#[71, 69, 84]⟩, ⟨#[47]⟩, 1, 0⟩ := by kernel_rfl
theorem snd4 : itoaS 7 = ⟨#[55]⟩ := by kernel_rfl

set_option maxRecDepth 100000 in
set_option maxHeartbeats 4000000 in
theorem sound5_any (w : World) (hL : Lv w) : Calls Tryz.prog 27 #[] w fun e w' => e = .returned (.bool true) ∧ Below w.heap.size w w' := by
  have hcs := conv_same
  have P0 := PI.new w o68
  have HQ1 : Hid (Calls Tryz.prog 8 #[.slice (some ⟨w.heap.size, 0, none⟩) 68 68] (w.alloc (.cells #[.int .u8 80, .int .u8 85, .int .u8 84, .int .u8 32, .int .u8 47, .int .u8 97, .int .u8 32, .int .u8 72, .int .u8 84, .int .u8 84, .int .u8 80, .int .u8 47, .int .u8 49, .int .u8 46, .int .u8 49, .int .u8 13, .int .u8 10, .int .u8 72, .int .u8 111, .int .u8 115, .int .u8 116, .int .u8 58, .int .u8 32, .int .u8 104, .int .u8 13, .int .u8 10, .int .u8 84, .int .u8 114, .int .u8 97, .int .u8 110, .int .u8 115, .int .u8 102, .int .u8 101, .int .u8 114, .int .u8 45, .int .u8 69, .int .u8 110, .int .u8 99, .int .u8 111, .int .u8 100, .int .u8 105, .int .u8 110, .int .u8 103, .int .u8 58, .int .u8 32, .int .u8 99, .int .u8 104, .int .u8 117, .int .u8 110, .int .u8 107, .int .u8 101, .int .u8 100, .int .u8 13, .int .u8 10, .int .u8 13, .int .u8 10, .int .u8 50, .int .u8 13, .int .u8 10, .int .u8 97, .int .u8 98, .int .u8 13, .int .u8 10, .int .u8 48, .int .u8 13, .int .u8 10, .int .u8 13, .int .u8 10] 5 (68, 69))) fun e w' => ∃ fa ba fc bc, e = .returned (.tuple #[.agg #[.string ⟨#[80, 85, 84]⟩, .string ⟨#[47, 97]⟩, .int .i64 1, .slice fa 2 fc, .slice ba 2 bc], .int .i64 68, .int .i64 0]) ∧ Own (w.heap.size + 1) w' (.slice ba 2 bc) [97, 98] ∧ Below w.heap.size w w') := by
    have k := hreq_any l68 w.heap.size 68 (some ⟨w.heap.size, 0, none⟩) (w.alloc o68) (src_blk (l := l68) P0.own rfl (by decide) rfl) (fun _ => by simp) (hL.below P0.below).max (by decide)
    rw [snd1] at k
    refine k.mono ?_
    rintro e w' ⟨fa, ba, fc, bc, he, _, hO, hB⟩
    exact ⟨fa, ba, fc, bc, he, by simpa using hO, (P0.next hB).below⟩
  have HPA : Hid (∀ W, Below w.heap.size w W → Calls Tryz.prog 55 #[.string ⟨#[97, 58, 32, 98]⟩] W fun e w' => e = .returned (.tuple #[.agg #[.string ⟨#[97]⟩, .string ⟨#[98]⟩], .int .i64 0]) ∧ Below W.heap.size W w') := fun W B => by
    have k := parse_any ⟨#[97, 58, 32, 98]⟩ W (by decide) (hL.below B).max
    rw [snd2] at k
    exact k
  have HRQ : Hid (∀ W, Below w.heap.size w W → Calls Tryz.prog 36 #[.string ⟨#[71, 69, 84, 32, 47, 32, 72, 84, 84, 80, 47, 49, 46, 49]⟩] W fun e w' => e = .returned (.tuple #[.agg #[.string ⟨#[71, 69, 84]⟩, .string ⟨#[47]⟩, .int .i64 1, .slice none 0 0, .slice none 0 0], .int .i64 0]) ∧ Below W.heap.size W w') := fun W B => by
    have k := lreq_any ⟨#[71, 69, 84, 32, 47, 32, 72, 84, 84, 80, 47, 49, 46, 49]⟩ W (by decide) (hL.below B).max
    rw [snd3] at k
    exact k
  have HTX : Hid (∀ W, Below w.heap.size w W → Calls Tryz.prog 56 #[.int .i64 7] W fun e w' => e = .returned (.string ⟨#[55]⟩) ∧ Below W.heap.size W w') := fun W B => by
    have k := text_any 7 (by decide) (by decide) W (hL.below B).pow
    rw [snd4] at k
    exact k
  clear hL P0
  go_enter Tryz.func27, Tryz.ntmps27
  go_wp2_with fail
  refine HQ1.out.mono ?_
  rintro e w1 ⟨fa, ba, fc, bc, rfl, O1, B1⟩
  have U2 : Below w1.heap.size w1 (w1.alloc (.cells #[.string ⟨#[80, 85, 84]⟩, .string ⟨#[47, 97]⟩, .int .i64 1, .slice fa 2 fc, .slice ba 2 bc] 26)) := (Below.refl _ _).alloc (Nat.le_refl _) _
  have C2 := B1.trans (U2.mono B1.size)
  have hr2 := tblk_new w1 (.cells #[.string ⟨#[80, 85, 84]⟩, .string ⟨#[47, 97]⟩, .int .i64 1, .slice fa 2 fc, .slice ba 2 bc] 26)
  have O2 := O1.keep U2
  clear HQ1 O1 B1 U2
  go_wp2_with fail
  generalize w1.alloc (.cells #[.string ⟨#[80, 85, 84]⟩, .string ⟨#[47, 97]⟩, .int .i64 1, .slice fa 2 fc, .slice ba 2 bc] 26) = w2 at *
  generalize w1.heap.size = p1 at *
  refine (HPA.out _ C2).mono ?_
  rintro e w3 ⟨rfl, B3⟩
  have U4 : Below w2.heap.size w2 (w3.alloc (.cells #[.string ⟨#[97]⟩, .string ⟨#[98]⟩] 41)) := B3.alloc B3.size _
  have C4 := C2.trans (U4.mono C2.size)
  have hr4 := tblk_below hr2 U4
  have hs4 := tblk_new w3 (.cells #[.string ⟨#[97]⟩, .string ⟨#[98]⟩] 41)
  have O4 := O2.keep U4
  clear HPA O2 C2 U4 hr2 B3
  go_wp2_with fail
  generalize w3.alloc (.cells #[.string ⟨#[97]⟩, .string ⟨#[98]⟩] 41) = w4 at *
  generalize w3.heap.size = p2 at *
  refine (HRQ.out _ C4).mono ?_
  rintro e w5 ⟨rfl, B5⟩
  have U6 : Below w4.heap.size w4 (w5.alloc (.cells #[.string ⟨#[71, 69, 84]⟩, .string ⟨#[47]⟩, .int .i64 1, .slice none 0 0, .slice none 0 0] 26)) := B5.alloc B5.size _
  have C6 := C4.trans (U6.mono C4.size)
  have hr6 := tblk_below hr4 U6
  have hs6 := tblk_below hs4 U6
  have ht6 := tblk_new w5 (.cells #[.string ⟨#[71, 69, 84]⟩, .string ⟨#[47]⟩, .int .i64 1, .slice none 0 0, .slice none 0 0] 26)
  have O6 := O4.keep U6
  have hcv : (convert 22 9 (.slice ba 2 bc)).run Tryz.prog (w5.alloc (.cells #[.string ⟨#[71, 69, 84]⟩, .string ⟨#[47]⟩, .int .i64 1, .slice none 0 0, .slice none 0 0] 26)) = .ok (.string ⟨#[97, 98]⟩) (w5.alloc (.cells #[.string ⟨#[71, 69, 84]⟩, .string ⟨#[47]⟩, .int .i64 1, .slice none 0 0, .slice none 0 0] 26)) := by
    obtain ⟨k, S, _⟩ := Own.src O6
    exact conv_back S (by decide)
  have a4 := tblk_cell (i := 4) hr6 rfl
  have b1 := tblk_cell (i := 1) hs6 rfl
  have c0 := tblk_cell (i := 0) ht6 rfl
  clear HRQ O4 C4 U6 hr4 hs4 B5 O6 hr6 hs6 ht6
  go_wp2_with fail
  refine (HTX.out _ C6).mono ?_
  rintro e w7 ⟨rfl, B7⟩
  have C7 := C6.trans (B7.mono C6.size)
  clear a4 b1 c0 hcv HTX B7 C6
  go_wp2
  go_ret
  exact ⟨rfl, C7⟩
end Go.Proofs.YtkdnckkdofoaoaaGreatDoor

/- Requests that are written are read: plain. -/
namespace Go.Proofs.YtkdnckkdofoaoaaGreatDoor
open Go.RowKit
set_option linter.unusedVariables false

/-- A request to be written. -/
structure AskP where
  m : ByteArray
  p : ByteArray
  n : ByteArray
  v : ByteArray
  x : List UInt8
  z : Int
def sHost : ByteArray := ⟨#[104, 111, 115, 116]⟩
def sH : ByteArray := ⟨#[104]⟩
def pathT (p : ByteArray) : ByteArray := ⟨#[47]⟩ ++ p
def tokT (m : ByteArray) : Bool := allB tokP m.data.toList && decide (0 < m.size)
/-- May it be? -/
def askOk (a : AskP) : Bool :=
  tokT a.m && decide (a.m.size ≤ 20) && tgtP (pathT a.p) && decide (a.p.size ≤ 300) && decide (a.x.length ≤ 1000) && okF a.n a.v && decide (a.n.size + a.v.size ≤ 1000) && !(eqS (foldS a.n) sHost || eqS (foldS a.n) lCLn || eqS (foldS a.n) lTEn)
def askF (a : AskP) : Fs := [(sHost, sH), (a.n, a.v)] ++ [if 0 < a.z then (tTE, tCh) else (tCL, itoaS (a.x.length : Int))]
def askX (a : AskP) : List UInt8 := if 0 < a.z then encR a.z a.x else a.x
def askW (a : AskP) : List UInt8 := writeB (reqT a.m (pathT a.p) (verT 1)) (askF a) (askX a)

structure AskI (a : AskP) : Prop where
  tk : allB tokP a.m.data.toList = true
  mp : 0 < a.m.size
  ms : a.m.size ≤ 20
  tg : tgtP (pathT a.p) = true
  ps : a.p.size ≤ 300
  xs : a.x.length ≤ 1000
  ok : okF a.n a.v = true
  nv : a.n.size + a.v.size ≤ 1000
  h1 : ¬ foldS a.n = sHost
  h2 : ¬ foldS a.n = lCLn
  h3 : ¬ foldS a.n = lTEn
theorem eqS_refl (a : ByteArray) : eqS a a = true := by unfold eqS; exact beq_self_eq_true _
theorem askI_of {a : AskP} (h : askOk a = true) : AskI a := by
  unfold askOk tokT at h
  simp only [Bool.and_eq_true, decide_eq_true_eq, Bool.not_eq_true', Bool.or_eq_false_iff] at h
  obtain ⟨⟨⟨⟨⟨⟨⟨⟨k1, k2⟩, k3⟩, k4⟩, k5⟩, k6⟩, k7⟩, k8⟩, ⟨k9, k10⟩, k11⟩ := h
  refine ⟨k1, k2, k3, k4, k5, k6, k7, k8, ?_, ?_, ?_⟩
  · intro e; rw [e, eqS_refl] at k9; cases k9
  · intro e; rw [e, eqS_refl] at k10; cases k10
  · intro e; rw [e, eqS_refl] at k11; cases k11
/-- Its first line. -/
def askL (a : AskP) : List UInt8 := a.m.data.toList ++ 32 :: ((pathT a.p).data.toList ++ 32 :: v11.data.toList)
theorem path_size (p : ByteArray) : (pathT p).size = p.size + 1 := by unfold pathT; rw [ByteArray.size_append]; show 1 + p.size = _; omega
theorem path_head (p : ByteArray) : (pathT p).data.toList.head? = some 47 := by unfold pathT; rw [ByteArray.data_append, Array.toList_append]; rfl
theorem tok_nob (b : UInt8) (h : tokP (b.toNat : Int) = true) : b ≠ 32 := by rintro rfl; revert h; decide +kernel
theorem tgt_nob (b : UInt8) (h : spanP 33 126 (b.toNat : Int) = true) : b ≠ 32 ∧ b ≠ 13 ∧ b ≠ 10 := by
  refine ⟨?_, ?_, ?_⟩ <;> (rintro rfl; revert h; decide +kernel)
theorem ask_line {a : AskP} (h : AskI a) : rqP (tx (askL a)) = ⟨a.m, pathT a.p, 1, 0⟩ ∧ plain (askL a) = true ∧ (askL a).length ≤ 400 := by
  have hm : ∀ b ∈ a.m.data.toList, tokP (b.toNat : Int) = true := by
    have k := h.tk; unfold allB at k; rw [List.all_eq_true] at k; exact k
  have htg := h.tg
  unfold tgtP at htg
  rw [Bool.and_eq_true] at htg
  have hp : ∀ b ∈ (pathT a.p).data.toList, spanP 33 126 (b.toNat : Int) = true := by
    have k := htg.1; unfold allB at k; rw [List.all_eq_true] at k; exact k
  have e1 : pl (askL a) = [a.m.data.toList, (pathT a.p).data.toList, v11.data.toList] := by
    unfold askL
    rw [pl_hit _ _ (fun b hb => tok_nob b (hm b hb)), pl_hit _ _ (fun b hb => (tgt_nob b (hp b hb)).1), pl_no v11.data.toList (show ∀ b ∈ v11.data.toList, b ≠ 32 by decide +kernel)]
  have e2 : partsB (tx (askL a)) = [a.m, pathT a.p, v11] := by
    unfold partsB
    show (pl (askL a)).map _ = _
    rw [e1]
    rfl
  have e3 : part4 (tx (askL a)) = [a.m, pathT a.p, v11] := by
    rcases four_parts (tx (askL a)) with k | ⟨_, k⟩
    · rw [k, e2]
    · rw [e2] at k; exact absurd k (show ¬ 4 < 3 by decide)
  have hps := path_size a.p
  have hms := h.ms
  have hpl := h.ps
  have sm : a.m.data.toList.length = a.m.size := rfl
  have sp : (pathT a.p).data.toList.length = (pathT a.p).size := rfl
  have sv : v11.data.toList.length = 8 := rfl
  refine ⟨?_, ?_, ?_⟩
  · unfold rqP
    rw [e3]
    simp only
    unfold rq3
    have q1 : mthP a.m = true := by unfold mthP; rw [h.tk, decide_eq_true h.ms, decide_eq_true h.mp]; rfl
    have q2 : tarP (pathT a.p) a.m = true := by unfold tarP; rw [h.tg, path_head]; rfl
    have q3 : verP v11 = true := by decide +kernel
    have q4 : minP v11 = (1, true) := by decide +kernel
    rw [q1, q2, q3, q4, if_neg (by decide), if_neg (by decide), if_neg (by omega), if_neg (by decide), if_neg (by decide)]
  · refine plain_of fun b hb => ?_
    unfold askL at hb
    rcases List.mem_append.1 hb with k | k
    · exact (tok_no b (hm b k)).2
    · rcases List.mem_cons.1 k with k | k
      · subst k; exact ⟨by decide, by decide⟩
      · rcases List.mem_append.1 k with k | k
        · exact (tgt_nob b (hp b k)).2
        · rcases List.mem_cons.1 k with k | k
          · subst k; exact ⟨by decide, by decide⟩
          · have q : ∀ b ∈ v11.data.toList, b ≠ 13 ∧ b ≠ 10 := by decide +kernel
            exact q b k
  · unfold askL
    simp only [List.length_append, List.length_cons]
    omega
theorem itoa_dgs : ∀ a : Fin 32, ∀ b : Fin 32, 0 < (Lib.itoa ((32 * a.val + b.val : Nat) : Int)).length ∧ (Lib.itoa ((32 * a.val + b.val : Nat) : Int)).length ≤ 18 ∧ (Lib.itoa ((32 * a.val + b.val : Nat) : Int)).all (fun b => decide (48 ≤ b.toNat) && decide (b.toNat ≤ 57)) = true ∧ vN 10 (Lib.itoa ((32 * a.val + b.val : Nat) : Int)) = some (32 * a.val + b.val) := by decide +kernel
theorem dgs_itoa (n : Nat) (h : n ≤ 1000) : Dgs (Lib.itoa (n : Int)) n := by
  have k := itoa_dgs ⟨n / 32, by omega⟩ ⟨n % 32, by omega⟩
  simp only at k
  rw [show 32 * (n / 32) + n % 32 = n by omega] at k
  obtain ⟨h1, h2, h3, h4⟩ := k
  refine ⟨h1, h2, fun b hb => ?_, h4⟩
  have k := List.all_eq_true.1 h3 b hb
  simpa using k
theorem sm_fold {n k : ByteArray} (h : ¬ foldS n = foldS k) : smT n k = false := by
  unfold smT
  rw [ByteArray.toList_eq, ByteArray.toList_eq]
  cases q : (foldS n).data.toList == (foldS k).data.toList
  · rfl
  · exact absurd (ba_eq (eq_of_beq q)) h
theorem ask_none {a : AskP} (h : AskI a) : getF [(sHost, sH), (a.n, a.v)] tCL = [] ∧ getF [(sHost, sH), (a.n, a.v)] tTE = [] ∧ getF [(sHost, sH), (a.n, a.v)] tHost = [sH] := by
  have s1 : smT a.n tCL = false := sm_fold (fun k => h.h2 (k.trans (by decide +kernel)))
  have s2 : smT a.n tTE = false := sm_fold (fun k => h.h3 (k.trans (by decide +kernel)))
  have s3 : smT a.n tHost = false := sm_fold (fun k => h.h1 (k.trans (by decide +kernel)))
  have t1 : smT sHost tCL = false := by decide +kernel
  have t2 : smT sHost tTE = false := by decide +kernel
  have t3 : smT sHost tHost = true := by decide +kernel
  unfold getF
  refine ⟨?_, ?_, ?_⟩
  · simp [s1, t1]
  · simp [s2, t2]
  · simp [s3, t3]
theorem app_coded {fs : Fs} (h1 : getF fs tCL = []) (h2 : getF fs tTE = []) : reqF (fs ++ [(tTE, tCh)]) 1 = (0, true, 0) := by
  have g1 : getF (fs ++ [(tTE, tCh)]) tTE = [tCh] := by rw [getF_app, h2]; decide +kernel
  have g2 : getF (fs ++ [(tTE, tCh)]) tCL = [] := by rw [getF_app, h1]; decide +kernel
  have t1 : thereF (fs ++ [(tTE, tCh)]) tTE = true := by unfold thereF; rw [g1]; rfl
  have t2 : thereF (fs ++ [(tTE, tCh)]) tCL = false := by unfold thereF; rw [g2]; rfl
  have t3 : chunkedF (fs ++ [(tTE, tCh)]) = true := by
    unfold chunkedF listF
    rw [g1]
    decide +kernel
  have t4 : toldF (fs ++ [(tTE, tCh)]) 1 = (2, 0, 0) := by
    unfold toldF
    rw [t1, t2, t3]
    rfl
  unfold reqF
  rw [t4]
  rfl
theorem app_sized {fs : Fs} {X : List UInt8} {n : Nat} (D : Dgs X n) (hn : n ≤ 4096) (h1 : getF fs tCL = []) (h2 : getF fs tTE = []) (mi : Int) : reqF (fs ++ [(tCL, tx X)]) mi = ((n : Int), false, 0) := by
  have g1 : getF (fs ++ [(tCL, tx X)]) tTE = [] := by
    rw [getF_app, h2]
    have : smT tCL tTE = false := by decide +kernel
    unfold getF
    simp [this]
  have g2 : getF (fs ++ [(tCL, tx X)]) tCL = [tx X] := by
    rw [getF_app, h1]
    have : smT tCL tCL = true := by decide +kernel
    unfold getF
    simp [this]
  have t1 : thereF (fs ++ [(tCL, tx X)]) tTE = false := by unfold thereF; rw [g1]; rfl
  have t2 : thereF (fs ++ [(tCL, tx X)]) tCL = true := by unfold thereF; rw [g2]; rfl
  have t3 : lengthF (fs ++ [(tCL, tx X)]) = ((n : Int), true) := by
    unfold lengthF listF splA
    rw [g2]
    have e : [tx X].flatMap splT = List.replicate 1 ⟨X.toArray⟩ := by
      rw [List.flatMap_cons, List.flatMap_nil, List.append_nil]
      exact D.spl
    rw [e]
    exact lenL_rep D 0
  have t4 : toldF (fs ++ [(tCL, tx X)]) mi = (1, (n : Int), 0) := by
    unfold toldF
    rw [t1, t2, t3]
    simp only [Bool.false_and, Bool.false_eq_true, if_false, Bool.true_eq_false]
    rw [if_neg (by omega)]
  unfold reqF
  rw [t4]
  rfl
theorem len_size (s : ByteArray) : s.data.toList.length = s.size := rfl
theorem askX_len (a : AskP) : 0 < a.z → (askX a) = encR a.z a.x := fun h => by unfold askX; rw [if_pos h]
theorem ask_okf {a : AskP} (h : AskI a) : OkFs (askF a) := by
  intro f hf
  rcases List.mem_append.1 hf with k | k
  · rcases List.mem_cons.1 k with k | k
    · rw [k]; decide +kernel
    · rw [List.mem_singleton.1 k]; exact h.ok
  · rw [List.mem_singleton.1 k]
    by_cases hz : 0 < a.z
    · rw [if_pos hz]; decide +kernel
    · rw [if_neg hz]; exact (dgs_itoa a.x.length h.xs).ok
theorem ask_bytes {a : AskP} (h : AskI a) : askW a = askL a ++ 13 :: 10 :: (flatL (fLines (askF a)) ++ 13 :: 10 :: askX a) := by
  have k := (ask_line h).1
  have e := (req_back (s := tx (askL a)) (by rw [k])).1
  rw [k] at e
  simp only at e
  unfold askW
  rw [e, write_lines]
  rfl
theorem ask_head {a : AskP} (h : AskI a) : (askL a).length + 2 + ((flatL (fLines (askF a))).length + 2) ≤ 2048 := by
  have k := (ask_line h).2.2
  have e : flatL (fLines (askF a)) = linesB (askF a) := (linesB_flat _).symm
  have hl : (linesB (askF a)).length ≤ 1200 := by
    unfold askF linesB
    rw [List.flatMap_append, List.flatMap_cons, List.flatMap_cons, List.flatMap_nil, List.flatMap_cons, List.flatMap_nil]
    simp only [List.length_append, List.length_nil]
    have s1 : (lineT sHost sH).data.toList.length = sHost.size + sH.size + 4 := by rw [len_size, line_size]
    have s2 : (lineT a.n a.v).data.toList.length = a.n.size + a.v.size + 4 := by rw [len_size, line_size]
    have s0 : sHost.size = 4 ∧ sH.size = 1 := ⟨rfl, rfl⟩
    have hnv := h.nv
    by_cases hz : 0 < a.z
    · simp only [if_pos hz]
      have s3 : (lineT tTE tCh).data.toList.length = tTE.size + tCh.size + 4 := by rw [len_size, line_size]
      have s4 : tTE.size = 17 ∧ tCh.size = 7 := ⟨rfl, rfl⟩
      omega
    · simp only [if_neg hz]
      have s3 : (lineT tCL (itoaS (a.x.length : Int))).data.toList.length = tCL.size + (itoaS (a.x.length : Int)).size + 4 := by rw [len_size, line_size]
      have s4 : tCL.size = 14 := rfl
      have s5 : (itoaS (a.x.length : Int)).size ≤ 18 := (dgs_itoa a.x.length h.xs).len
      omega
  rw [e]
  omega
/-- A request that is written is read, whatever stands behind it. -/
theorem ask_read {a : AskP} (h : AskI a) (more : List UInt8) : reqQ (askW a ++ more) = ⟨a.m, pathT a.p, 1, askF a, a.x, (askW a).length, 0⟩ := by
  obtain ⟨k1, k2, k3⟩ := ask_line h
  obtain ⟨g1, g2⟩ := fLines_good (ask_okf h)
  obtain ⟨n1, n2, n3⟩ := ask_none h
  have hb := ask_bytes h
  have e2 : askW a ++ more = askL a ++ 13 :: 10 :: (flatL (fLines (askF a)) ++ 13 :: 10 :: (askX a ++ more)) := by rw [hb]; simp
  have e3 : (askW a).length = (askL a).length + 2 + ((flatL (fLines (askF a))).length + 2) + (askX a).length := by
    rw [hb]; simp only [List.length_append, List.length_cons]; omega
  have h41 : (fLines (askF a)).length ≤ 40 := by unfold fLines askF; rw [List.length_map]; simp
  have hh : hostsOk (getF ((fLines (askF a)).map fOf) tHost) (rqP (tx (askL a))).minor = true := by
    rw [g2, k1]
    have e : getF (askF a) tHost = [sH] := by
      unfold askF
      rw [getF_app, n3]
      have q : getF [if 0 < a.z then (tTE, tCh) else (tCL, itoaS (a.x.length : Int))] tHost = [] := by
        have q1 : smT tTE tHost = false := by decide +kernel
        have q2 : smT tCL tHost = false := by decide +kernel
        unfold getF
        by_cases hz : 0 < a.z
        · simp [hz, q1]
        · simp [hz, q2]
      rw [q, List.append_nil]
    rw [e]
    show hostsOk [sH] 1 = true
    decide +kernel
  rw [e2]
  by_cases hz : 0 < a.z
  · have hr : reqF ((fLines (askF a)).map fOf) (rqP (tx (askL a))).minor = (0, true, 0) := by
      rw [g2, k1]
      unfold askF
      rw [if_pos hz]
      exact app_coded n1 n2
    rw [reqQ_gen _ _ _ _ _ k2 (by omega) (by unfold rqSt; rw [k1]) g1 (ask_head h) h41 hr hh, g2, e3, askX_len a hz, body_coded _ _ _ _ _ (by have := h.xs; omega), k1]
    unfold rdOf
    rw [if_neg (by simp only; omega)]
  · have ex : askX a = a.x := by unfold askX; rw [if_neg hz]
    have hr : reqF ((fLines (askF a)).map fOf) (rqP (tx (askL a))).minor = ((a.x.length : Int), false, 0) := by
      rw [g2, k1]
      unfold askF
      rw [if_neg hz]
      exact app_sized (dgs_itoa a.x.length h.xs) (by have := h.xs; omega) n1 n2 _
    rw [reqQ_gen _ _ _ _ _ k2 (by omega) (by unfold rqSt; rw [k1]) g1 (ask_head h) h41 hr hh, g2, e3, ex, body_sized, k1]
    unfold rdOf
    rw [if_neg (by simp only; omega)]
/-- What isn't whole isn't read. -/
theorem ask_short {a : AskP} (h : AskI a) (more : List UInt8) (k : Nat) (hk : k < (askW a).length) : reqQ ((askW a ++ more).take k) = rdNo 0 := by
  have hr := ask_read h more
  rcases reqQ_three ((askW a ++ more).take k) with q | ⟨s, q, hs⟩ | ⟨m, t, mi, fs, x, n, q, hn, hl⟩
  · exact q
  · have e := reqQ_app ((askW a ++ more).take k) ((askW a ++ more).drop k) (Or.inr (by rw [q]; exact hs))
    rw [List.take_append_drop, hr, q] at e
    have := congrArg Rd.st e
    exact absurd this.symm hs
  · have e := reqQ_app ((askW a ++ more).take k) ((askW a ++ more).drop k) (Or.inl (by rw [q]; exact hn))
    rw [List.take_append_drop, hr, q] at e
    have e2 := congrArg Rd.n e
    simp only at e2
    rw [List.length_take] at hl
    omega
theorem req_nil : reqQ [] = rdNo 0 := by kernel_rfl
end Go.Proofs.YtkdnckkdofoaoaaGreatDoor

/- Right: what it answers of fields. -/
namespace Go.Proofs.YtkdnckkdofoaoaaGreatDoor
open Go.ChangeShapes Go.WideShapes Go.ChangeAt Go.RowKit
set_option linter.unusedVariables false

set_option maxRecDepth 100000 in
set_option maxHeartbeats 1000000 in
theorem idxF_any (fs : Fs) (a : Option Addr) (c : Nat) (w : World) (hf : Fds w.heap.size w (.slice a fs.length c) fs) (hb : FBd 140737488355328 fs) :
    Calls Tryz.prog 142 #[.slice a fs.length c, .func (.func 100) #[] #[]] w fun e w' => ∃ i : Int, e = .returned (.int .i64 i) ∧ -1 ≤ i ∧ (decide (0 ≤ i) = anyW fs) ∧ Below w.heap.size w w' := by
  have hlm := hf.len
  unfold maxLen at hlm
  rcases Nat.eq_zero_or_pos fs.length with h0 | hp
  · have he : fs = [] := List.eq_nil_of_length_eq_zero h0
    subst he
    clear hf hb h0 hlm
    go_enter Tryz.func142, Tryz.ntmps142
    go_wp2_with fail
    refine wp_loop_rounds 1 ?_
    rw [rounds_succ]
    go_wp2
    go_ret
    exact ⟨-1, rfl, Int.le_refl _, rfl, Below.refl _ _⟩
  · obtain ⟨a', c', e, hnil, q1, q2, q3⟩ := hf
    obtain ⟨rfl, _, rfl⟩ := slice_inj e
    obtain ⟨g, off, rfl, hg, hc⟩ := q3 hp
    have HC : Hid (∀ (j : Nat) (hj : j < fs.length), w.cell? ⟨g, off + j * 2, none⟩ = some (.string fs[j].1) ∧ w.cell? ⟨g, off + j * 2 + 1, none⟩ = some (.string fs[j].2)) := hc
    have HBD : Hid (FBd 140737488355328 fs) := hb
    have hln : fs.length ≤ 9223372036854775807 := by omega
    clear e hnil q1 q2 q3 hlm hc hb
    go_enter Tryz.func142, Tryz.ntmps142
    go_wp2_with fail
    go_loopw [8] (fun vi wr => ∃ k : Nat, k ≤ fs.length ∧ vi = .int .i64 k ∧ Hid (anyW (fs.take k) = false) ∧ Below w.heap.size w wr) (fun vi _ => fs.length - (intOf vi).toNat)
    case atStart => exact ⟨0, Nat.zero_le _, rfl, rfl, Below.refl _ _⟩
    case round =>
      obtain ⟨k, hk, rfl, hA, hB⟩ := hrel
      by_cases hlt : k < fs.length
      · have hc1 := (hB.cell (p := ⟨g, off + k * 2, none⟩) hg).trans (HC.out k hlt).1
        have hc2 := (hB.cell (p := ⟨g, off + k * 2 + 1, none⟩) hg).trans (HC.out k hlt).2
        have hsz := HBD.out fs[k] (List.getElem_mem hlt)
        have HA : Hid (∀ W, Calls Tryz.prog 100 #[.agg #[.string fs[k].1, .string fs[k].2]] W fun e w' => e = .returned (.bool (wrF fs[k])) ∧ Below W.heap.size W w') := fun W => wrong_any _ _ W hsz.1 hsz.2
        have hY : Hid (wrF fs[k] = true → anyW fs = true) := fun q => anyW_at k hlt q
        have hN : Hid (wrF fs[k] = false → anyW (fs.take (k + 1)) = false) := fun q => anyW_snoc hlt hA.out q
        generalize wrF fs[k] = b at *
        clear hsz
        generalize fs[k] = f at *
        obtain ⟨fn, fv⟩ := f
        simp only at hc1 hc2 HA
        go_wp2_with fail
        refine (HA.out _).mono ?_
        rintro e w2 ⟨rfl, B2⟩
        have hB2 := hB.trans (B2.mono hB.size)
        clear HA hB B2 hc1 hc2
        cases b
        · have hN2 : Hid (anyW (fs.take (k + 1)) = false) := hN.out rfl
          clear hN hY
          go_wp2
          go_roundw
          case rel => exact ⟨k + 1, by omega, by go_num, hN2, hB2⟩
          case measure => simp [intOf]; omega
        · have hY2 : Hid (anyW fs = true) := hY.out rfl
          clear hN hY
          go_wp2
          go_ret
          exact ⟨k, rfl, by omega, by rw [hY2.out]; simp, hB2⟩
      · go_wp2
        go_ret
        have hk' : k = fs.length := by omega
        subst hk'
        have h := hA.out
        rw [List.take_length] at h
        exact ⟨-1, rfl, Int.le_refl _, by rw [h]; rfl, hB⟩

set_option maxHeartbeats 1000000 in
theorem contF_any (fs : Fs) (a : Option Addr) (c : Nat) (w : World) (hf : Fds w.heap.size w (.slice a fs.length c) fs) (hb : FBd 140737488355328 fs) :
    Calls Tryz.prog 105 #[.slice a fs.length c, .func (.func 100) #[] #[]] w fun e w' => e = .returned (.bool (anyW fs)) ∧ Below w.heap.size w w' := by
  have HI : Hid (Calls Tryz.prog 142 #[.slice a fs.length c, .func (.func 100) #[] #[]] w fun e w' => ∃ i : Int, e = .returned (.int .i64 i) ∧ -1 ≤ i ∧ (decide (0 ≤ i) = anyW fs) ∧ Below w.heap.size w w') := idxF_any fs a c w hf hb
  clear hf hb
  generalize anyW fs = t at *
  go_enter Tryz.func105, Tryz.ntmps105
  go_wp2_with fail
  refine HI.out.mono ?_
  rintro e w2 ⟨i, rfl, hi, hd, B2⟩
  have HD : Hid (decide (0 ≤ i) = t) := hd
  clear hd HI
  go_wp2
  go_ret
  exact ⟨ret_bool HD.out, B2⟩

set_option maxHeartbeats 1000000 in
theorem right_any (fs : Fs) (a : Option Addr) (c : Nat) (w : World) (hf : Fds w.heap.size w (.slice a fs.length c) fs) (hb : FBd 140737488355328 fs) :
    Calls Tryz.prog 59 #[.slice a fs.length c] w fun e w' => e = .returned (.bool (rightF fs)) ∧ Below w.heap.size w w' := by
  have hlm := hf.len
  unfold maxLen at hlm
  have HI : Hid (Calls Tryz.prog 105 #[.slice a fs.length c, .func (.func 100) #[] #[]] w fun e w' => e = .returned (.bool (anyW fs)) ∧ Below w.heap.size w w') := contF_any fs a c w hf hb
  unfold rightF
  clear hf hb
  generalize anyW fs = t at *
  by_cases h : fs.length ≤ 40
  · have h' : (fs.length : Int) ≤ 40 := by omega
    rw [decide_eq_true h, Bool.true_and]
    clear h
    go_enter Tryz.func59, Tryz.ntmps59
    go_wp2_with fail
    refine HI.out.mono ?_
    rintro e w1 ⟨rfl, B1⟩
    go_wp2
    go_ret
    exact ⟨rfl, B1⟩
  · have h' : ¬ (fs.length : Int) ≤ 40 := by omega
    rw [decide_eq_false h, Bool.false_and]
    clear h HI
    go_enter Tryz.func59, Tryz.ntmps59
    go_wp2
    go_ret
    exact ⟨rfl, Below.refl _ _⟩

end Go.Proofs.YtkdnckkdofoaoaaGreatDoor

/- (Ask).bytes. -/
namespace Go.Proofs.YtkdnckkdofoaoaaGreatDoor
open Go.ChangeShapes Go.WideShapes Go.ChangeAt Go.RowKit
set_option linter.unusedVariables false

def AskR (w : World) (a : AskP) (e : Ending) (w' : World) : Prop :=
  if askOk a = true then ∃ v, e = .returned (.tuple #[v, .bool true]) ∧ OwnG w.heap.size w' v (askW a) ∧ Below w.heap.size w w'
  else e = .returned (.tuple #[.slice none 0 0, .bool false]) ∧ Below w.heap.size w w'
theorem askNo {w w' : World} {a : AskP} (h : askOk a = false) (B : Below w.heap.size w w') : AskR w a (.returned (.tuple #[.slice none 0 0, .bool false])) w' := by
  unfold AskR
  rw [if_neg (by rw [h]; decide)]
  exact ⟨rfl, B⟩
theorem eqS_of (s : ByteArray) (l : List UInt8) : eqS s ⟨l.toArray⟩ = (s.toList == l) := by
  unfold eqS
  rw [ByteArray.toList_eq (⟨l.toArray⟩ : ByteArray)]
theorem right_one (n v : ByteArray) : rightF [(n, v)] = okF n v := by
  unfold rightF anyW wrF
  simp
theorem ownF_frame {B C : Nat} {w : World} {v : Value} {X Y : Fs} {ad : Addr} {n c : Nat} (h : OwnF B w v X) (hs : Fds C w (.slice (some ad) n c) Y) (hy : 0 < Y.length) (hmax : X.length + Y.length ≤ 4294967296) (hB : B ≤ w.heap.size) :
    ∃ g' c' w', (Builtin.append_ #[24, 24] 24 #[v, .slice (some ad) n c]).run Tryz.prog w = .ok (.slice (some ⟨g', 0, none⟩) (X ++ Y).length c') w' ∧ OwnF B w' (.slice (some ⟨g', 0, none⟩) (X ++ Y).length c') (X ++ Y) ∧ Below B w w' ∧ (∀ k, k < w.heap.size → v.ownBlock ≠ some k → w'.heap[k]? = w.heap[k]?) ∧ w.heap.size ≤ w'.heap.size ∧ (v.ownBlock = some g' ∨ w.heap.size ≤ g') := by
  obtain ⟨i, hi, hz0, hz1, hz2⟩ := info_parts infoF
  obtain ⟨a', c', e, hnil, h1, h2, h3⟩ := hs
  obtain ⟨e1, e2, e3⟩ := slice_inj e
  subst e1 e2 e3
  have hmx : X.length + Y.length ≤ maxLen := by unfold maxLen; omega
  obtain ⟨v', w', hr, q1, q2, q3, q4⟩ := run_append_own_at (P := Tryz.prog) w B 24 24 41 i (.agg #[.string ByteArray.empty, .string ByteArray.empty]) 2 32 Tryz.underlying24 hi hz0 hz1 hz2 rfl (by decide) v X.length (rowF X) h ad Y.length c (rowF Y) (rowF_len Y)
      (fun j u hj => by
        have hjl := (List.getElem?_eq_some_iff.1 hj).1
        rw [rowF_len] at hjl
        obtain ⟨k, off, ha, _, hc⟩ := h3 (by omega)
        have : ad = ⟨k, off, none⟩ := by simpa using ha
        subst this
        rw [addr_add]
        have r := rowF_at Y (j / 2) (by omega)
        have q := hc (j / 2) (by omega)
        rcases Nat.mod_two_eq_zero_or_one j with m | m
        · have e1 : j / 2 * 2 = j := by omega
          rw [e1] at r q
          rw [q.1, ← r.1, hj]
        · have e1 : j / 2 * 2 + 1 = j := by omega
          have e2 : off + j / 2 * 2 + 1 = off + j := by omega
          rw [e1] at r
          rw [e2] at q
          rw [q.2, ← r.2, hj]) (rowF_one _) hmx (by omega) hB
  have hO : OwnF B w' v' (X ++ Y) := by
    unfold OwnF
    rw [List.length_append, rowF_app]; exact q1
  have hO2 := hO
  rcases hO2.2 with ⟨_, hz⟩ | ⟨g', d', cur, hv, _⟩
  · rw [List.length_append] at hz
    omega
  · subst hv
    refine ⟨g', d', w', hr, hO, (Below.refl _ _).grown q2 hB (fun q hq => (h.lt q hq).1), fun k hk hn => q2.block k hk (fun e => hn e.symm), q2.size, ?_⟩
    rcases q4 with q4 | q4
    · exact .inl (q4.symm.trans rfl)
    · have : g' = w.heap.size := by simpa [Value.ownBlock] using q4
      exact .inr (by omega)
theorem ownF_off {B : Nat} {w w' : World} {g n c : Nat} {X : Fs} (h : OwnF B w (.slice (some ⟨g, 0, none⟩) n c) X) (hk : w'.heap[g]? = w.heap[g]?) : OwnF B w' (.slice (some ⟨g, 0, none⟩) n c) X := by
  obtain ⟨h1, h2⟩ := h
  refine ⟨h1, ?_⟩
  rcases h2 with h2 | ⟨g', d', cur, hv, hB, hh, r⟩
  · exact .inl h2
  · have hv2 := hv
    have e : g = g' := by
      have k := (slice_inj hv).1
      simpa using k
    subst e
    exact .inr ⟨g, d', cur, hv2, hB, hk.trans hh, r⟩
theorem own_two4 {W : World} {r : Nat} {a b c d : ByteArray} (h : W.heap[r]? = some (.cells #[.string a, .string b, .string c, .string d] 41)) : OwnF r W (.slice (some ⟨r, 0, none⟩) 2 2) [(a, b), (c, d)] :=
  ⟨rfl, .inr ⟨r, 2, _, rfl, Nat.le_refl _, h, Nat.le_refl _, by decide, rfl, rfl⟩⟩
theorem step_ownFf {ops : Array Oper} {o : Oper} {a : Act} {K : Act → World → Prop} {Q : Exit → Act → World → Prop} {E : Prop} {w : World} (hgd : o.guard = none) (s x : Operand)
    (ho : o.op = .call { callee := .builtin .append, args := #[s, x], argTypes := #[24, 24] }) (hty : o.type = 24)
    (B : Nat) (v : Value) (X : Fs) (hs : a.eval s = v) (hown : OwnF B w v X) (C : Nat) (ad : Addr) (n c : Nat) (Y : Fs) (hx : a.eval x = .slice (some ad) n c) (hsrc : Fds C w (.slice (some ad) n c) Y) (hy : 0 < Y.length) (hmax : X.length + Y.length ≤ 4294967296) (hB : B ≤ w.heap.size) (L : Nat) (hLL : (X ++ Y).length = L)
    (h : ∀ g' c' w', OwnF B w' (.slice (some ⟨g', 0, none⟩) L c') (X ++ Y) → Below B w w' → (∀ k, k < w.heap.size → v.ownBlock ≠ some k → w'.heap[k]? = w.heap[k]?) → w.heap.size ≤ w'.heap.size → (v.ownBlock = some g' ∨ w.heap.size ≤ g') → K (a.put o.dst (.slice (some ⟨g', 0, none⟩) L c')) w') :
    if Region.wanted o (yielded ops a.tmps) = true then Oper.wp Tryz.prog o a w K Q else E := by
  have hw : Region.wanted o (yielded ops a.tmps) = true := by simp [Region.wanted, hgd]
  rw [if_pos hw]
  obtain ⟨g', c', w', hr, O, Bl, q1, q2, q3⟩ := ownF_frame hown hsrc hy hmax hB
  rw [hLL] at hr O
  unfold Oper.wp execOp
  simp only [ho, hty, resolve, invoke, builtin, Sem.run_bind, Sem.run_pure, Result.andThen_ok, List.map_toArray, List.map_cons, List.map_nil, hs, hx, hr]
  exact h g' c' w' O Bl q1 q2 q3
theorem ask_blk {W : World} {q : Nat} {v0 v1 v2 v3 v4 v5 : Value} (h : W.heap[q]? = some (.cells #[v0, v1, v2, v3, v4, v5] 51)) : W.cell? ⟨q, 0, none⟩ = some v0 ∧ W.cell? ⟨q, 1, none⟩ = some v1 ∧ W.cell? ⟨q, 2, none⟩ = some v2 ∧ W.cell? ⟨q, 3, none⟩ = some v3 ∧ W.cell? ⟨q, 4, none⟩ = some v4 ∧ W.cell? ⟨q, 5, none⟩ = some v5 :=
  ⟨tblk_cell h rfl, tblk_cell h rfl, tblk_cell h rfl, tblk_cell h rfl, tblk_cell h rfl, tblk_cell h rfl⟩

set_option maxRecDepth 100000 in
set_option maxHeartbeats 16000000 in
theorem abytes_any (m p n v : ByteArray) (x : List UInt8) (z : Int) (kx xc : Nat) (xa : Option Addr) (w : World) (hs : Src w kx (.slice xa x.length xc) x) (hk : 0 < x.length → kx < w.heap.size) (hnil : xa = none → xc = 0) (hm : m.size ≤ 1048576) (hp : p.size ≤ 1048576) (hn : n.size ≤ 1048576) (hv : v.size ≤ 1048576) (hxl : x.length ≤ maxLen) (hz : z ≤ 9223372036854775807) (hL : Lv w) (hT : TzOk w) :
    Calls Tryz.prog 28 #[.agg #[.string m, .string p, .string n, .string v, .slice xa x.length xc, .int .i64 z]] w (AskR w ⟨m, p, n, v, x, z⟩) := by
  unfold maxLen at hxl
  have HTK : Hid (∀ W, Calls Tryz.prog 57 #[.string m] W fun e w' => e = .returned (.bool (tokT m)) ∧ Below W.heap.size W w') := fun W => token_any m W (by unfold maxLen; omega)
  have hps := path_size p
  have HTG : Hid (∀ W, Calls Tryz.prog 58 #[.string (pathT p)] W fun e w' => e = .returned (.bool (tgtP (pathT p))) ∧ Below W.heap.size W w') := fun W => starget_any _ W (by unfold maxLen; omega)
  have HRT : Hid (∀ W : World, Calls Tryz.prog 59 #[.slice (some ⟨W.heap.size, 0, none⟩) 1 1] (W.alloc (.cells #[.string n, .string v] 41)) fun e w' => e = .returned (.bool (okF n v)) ∧ Below W.heap.size W w') := fun W => by
    have U : Below W.heap.size W (W.alloc (.cells #[.string n, .string v] 41)) := (Below.refl _ _).alloc (Nat.le_refl _) _
    have k := right_any [(n, v)] (some ⟨W.heap.size, 0, none⟩) 1 _ (fds_new W n v) (fun f hf => by rw [List.mem_singleton.1 hf]; exact ⟨by simp only; omega, by simp only; omega⟩)
    rw [right_one] at k
    refine k.mono ?_
    rintro e w' ⟨he, hB⟩
    exact ⟨he, U.trans (hB.mono U.size)⟩
  have HFD : Hid (∀ W, Calls Tryz.prog 60 #[.string n] W fun e w' => e = .returned (.string (foldS n)) ∧ Below W.heap.size W w') := fun W => fold_any n W (by unfold maxLen; omega)
  have hcat : ∀ W : World, (Op.stringOp .add ⟨#[47]⟩ p).run Tryz.prog W = .ok (.string (pathT p)) W := fun W => sum_run W ⟨#[47]⟩ p (by show 1 + p.size ≤ _; omega)
  have HOK : Hid (askOk ⟨m, p, n, v, x, z⟩ = (tokT m && decide (m.size ≤ 20) && tgtP (pathT p) && decide (p.size ≤ 300) && decide (x.length ≤ 1000) && okF n v && decide (n.size + v.size ≤ 1000) && !(eqS (foldS n) sHost || eqS (foldS n) lCLn || eqS (foldS n) lTEn))) := rfl
  have HAB : Hid (∀ W, Below w.heap.size w W → Src W kx (.slice xa x.length xc) x ∧ (0 < x.length → kx < W.heap.size)) := fun W B => ⟨hs.keep hk B, fun q => Nat.lt_of_lt_of_le (hk q) B.size⟩
  have HL : Hid (Lv w) := hL
  have HTZ : Hid (∀ W, Below w.heap.size w W → TzOk W) := fun W B => hT.below B
  have HNX : Hid (xa = none → xc = 0) := hnil
  have HI0 : Hid (askOk ⟨m, p, n, v, x, z⟩ = true → AskI ⟨m, p, n, v, x, z⟩) := fun h => askI_of h
  have e0 : (w.alloc (.cells #[.string m, .string p, .string n, .string v, .slice xa x.length xc, .int .i64 z] 51)).heap.size = w.heap.size + 1 := by simp
  have U1 : Below w.heap.size w (w.alloc (.cells #[.string m, .string p, .string n, .string v, .slice xa x.length xc, .int .i64 z] 51)) := (Below.refl _ _).alloc (Nat.le_refl _) _
  have hA0 := tblk_new w (.cells #[.string m, .string p, .string n, .string v, .slice xa x.length xc, .int .i64 z] 51)
  have V1 : Below (w.alloc (.cells #[.string m, .string p, .string n, .string v, .slice xa x.length xc, .int .i64 z] 51)).heap.size (w.alloc (.cells #[.string m, .string p, .string n, .string v, .slice xa x.length xc, .int .i64 z] 51)) ((w.alloc (.cells #[.string m, .string p, .string n, .string v, .slice xa x.length xc, .int .i64 z] 51)).alloc (.cells #[.string n, .string v] 41)) := (Below.refl _ _).alloc (Nat.le_refl _) _
  have hA1 := tblk_below hA0 V1
  have hF1 : ((w.alloc (.cells #[.string m, .string p, .string n, .string v, .slice xa x.length xc, .int .i64 z] 51)).alloc (.cells #[.string n, .string v] 41)).heap[w.heap.size + 1]? = some (.cells #[.string n, .string v] 41) := by have k := tblk_new (w.alloc (.cells #[.string m, .string p, .string n, .string v, .slice xa x.length xc, .int .i64 z] 51)) (.cells #[.string n, .string v] 41); rw [e0] at k; exact k
  have C1 : Below w.heap.size w ((w.alloc (.cells #[.string m, .string p, .string n, .string v, .slice xa x.length xc, .int .i64 z] 51)).alloc (.cells #[.string n, .string v] 41)) := U1.trans (V1.mono U1.size)
  clear hs hk hnil hL hT e0 U1 V1
  obtain ⟨c0a, c1a, c2a, c3a, c4a, c5a⟩ := ask_blk hA0
  obtain ⟨c0b, c1b, c2b, c3b, c4b, c5b⟩ := ask_blk hA1
  clear hA0
  generalize tokT m = tk at *
  generalize tgtP (pathT p) = tg at *
  generalize okF n v = ok at *
  generalize hpt : pathT p = pt at *
  have HPT : Hid (pathT p = pt) := hpt
  clear hpt
  generalize hfn : foldS n = fn at *
  clear hfn
  go_enter Tryz.func28, Tryz.ntmps28
  go_wp2_with fail
  refine (HTK.out _).mono ?_
  rintro e w2 ⟨rfl, B2⟩
  have C2 := C1.trans (B2.mono C1.size)
  have hA2 := tblk_below hA1 B2
  have hF2 := tblk_below hF1 B2
  clear c0a c1a c2a c3a c4a c5a
  clear c0b c1b c2b c3b c4b c5b
  clear C1 B2 hA1 hF1 HTK
  obtain ⟨c0c, c1c, c2c, c3c, c4c, c5c⟩ := ask_blk hA2
  cases tk
  · have HE : Hid (askOk ⟨m, p, n, v, x, z⟩ = false) := by rw [Hid, HOK.out]; rfl
    clear hA2 hF2
    go_wp2
    refine bodyPost_ret (v := .tuple #[.slice none 0 0, .bool false]) (by simp [results, Tryz.results28, go_sem]) rfl ?_
    exact askNo HE.out C2
  by_cases h20 : 20 < m.size
  · have HE : Hid (askOk ⟨m, p, n, v, x, z⟩ = false) := by rw [Hid, HOK.out, decide_eq_false (show ¬ m.size ≤ 20 by omega)]; rfl
    have h20i : (20 : Int) < (m.size : Int) := by omega
    clear hA2 hF2
    go_wp2
    refine bodyPost_ret (v := .tuple #[.slice none 0 0, .bool false]) (by simp [results, Tryz.results28, go_sem]) rfl ?_
    exact askNo HE.out C2
  have h20i : ¬ (20 : Int) < (m.size : Int) := by omega
  have h20b : decide ((20 : Int) < (m.size : Int)) = false := decide_eq_false h20i
  go_wp2_with fail
  refine (HTG.out _).mono ?_
  rintro e w3 ⟨rfl, B3⟩
  have C3 := C2.trans (B3.mono C2.size)
  have hA3 := tblk_below hA2 B3
  have hF3 := tblk_below hF2 B3
  clear c0c c1c c2c c3c c4c c5c
  clear C2 B3 hA2 hF2 HTG
  obtain ⟨c0d, c1d, c2d, c3d, c4d, c5d⟩ := ask_blk hA3
  cases tg
  · have HE : Hid (askOk ⟨m, p, n, v, x, z⟩ = false) := by rw [Hid, HOK.out]; simp
    clear hA3 hF3
    go_wp2
    refine bodyPost_ret (v := .tuple #[.slice none 0 0, .bool false]) (by simp [results, Tryz.results28, go_sem]) rfl ?_
    exact askNo HE.out C3
  by_cases h300 : 300 < p.size
  · have HE : Hid (askOk ⟨m, p, n, v, x, z⟩ = false) := by rw [Hid, HOK.out, decide_eq_false (show ¬ p.size ≤ 300 by omega)]; simp
    have h300i : (300 : Int) < (p.size : Int) := by omega
    clear hA3 hF3
    go_wp2
    refine bodyPost_ret (v := .tuple #[.slice none 0 0, .bool false]) (by simp [results, Tryz.results28, go_sem]) rfl ?_
    exact askNo HE.out C3
  have h300i : ¬ (300 : Int) < (p.size : Int) := by omega
  have h300b : decide ((300 : Int) < (p.size : Int)) = false := decide_eq_false h300i
  by_cases h1000 : 1000 < x.length
  · have HE : Hid (askOk ⟨m, p, n, v, x, z⟩ = false) := by rw [Hid, HOK.out, decide_eq_false (show ¬ x.length ≤ 1000 by omega)]; simp
    have h1000i : (1000 : Int) < (x.length : Int) := by omega
    clear hA3 hF3
    go_wp2
    refine bodyPost_ret (v := .tuple #[.slice none 0 0, .bool false]) (by simp [results, Tryz.results28, go_sem]) rfl ?_
    exact askNo HE.out C3
  have h1000i : ¬ (1000 : Int) < (x.length : Int) := by omega
  have h1000b : decide ((1000 : Int) < (x.length : Int)) = false := decide_eq_false h1000i
  have f0 := tblk_cell (i := 0) hF3 rfl
  have f1 := tblk_cell (i := 1) hF3 rfl
  go_wp2_with fail
  refine (HRT.out _).mono ?_
  rintro e w5 ⟨rfl, B5⟩
  have C5 := C3.trans (B5.mono C3.size)
  have hA5 := tblk_below hA3 B5
  have hF5 := tblk_below hF3 B5
  clear c0d c1d c2d c3d c4d c5d
  clear C3 B5 hA3 hF3 HRT f0 f1
  obtain ⟨c0e, c1e, c2e, c3e, c4e, c5e⟩ := ask_blk hA5
  cases ok
  · have HE : Hid (askOk ⟨m, p, n, v, x, z⟩ = false) := by rw [Hid, HOK.out]; simp
    clear hA5 hF5
    go_wp2
    refine bodyPost_ret (v := .tuple #[.slice none 0 0, .bool false]) (by simp [results, Tryz.results28, go_sem]) rfl ?_
    exact askNo HE.out C5
  by_cases hnv : 1000 < n.size + v.size
  · have HE : Hid (askOk ⟨m, p, n, v, x, z⟩ = false) := by rw [Hid, HOK.out, decide_eq_false (show ¬ n.size + v.size ≤ 1000 by omega)]; simp
    have hnvi : (1000 : Int) < (n.size : Int) + (v.size : Int) := by omega
    clear hA5 hF5
    go_wp2
    refine bodyPost_ret (v := .tuple #[.slice none 0 0, .bool false]) (by simp [results, Tryz.results28, go_sem]) rfl ?_
    exact askNo HE.out C5
  have hnvi : ¬ (1000 : Int) < (n.size : Int) + (v.size : Int) := by omega
  have hnvb : decide ((1000 : Int) < (n.size : Int) + (v.size : Int)) = false := decide_eq_false hnvi
  go_wp2_with fail
  refine (HFD.out _).mono ?_
  rintro e w6 ⟨rfl, B6⟩
  have C6 := C5.trans (B6.mono C5.size)
  have hA6 := tblk_below hA5 B6
  have hF6 := tblk_below hF5 B6
  clear c0e c1e c2e c3e c4e c5e
  clear C5 B6 hA5 hF5 HFD
  have q1 : eqS fn sHost = (fn.toList == [104, 111, 115, 116]) := eqS_of fn _
  have q2 : eqS fn lCLn = (fn.toList == [99, 111, 110, 116, 101, 110, 116, 45, 108, 101, 110, 103, 116, 104]) := eqS_of fn _
  have q3 : eqS fn lTEn = (fn.toList == [116, 114, 97, 110, 115, 102, 101, 114, 45, 101, 110, 99, 111, 100, 105, 110, 103]) := eqS_of fn _
  rw [q1, q2, q3] at HOK
  clear q1 q2 q3
  cases b1 : (fn.toList == [104, 111, 115, 116])
  case true =>
    have HE : Hid (askOk ⟨m, p, n, v, x, z⟩ = false) := by rw [Hid, HOK.out, b1]; simp
    clear hA6 hF6
    go_wp2
    refine bodyPost_ret (v := .tuple #[.slice none 0 0, .bool false]) (by simp [results, Tryz.results28, go_sem]) rfl ?_
    exact askNo HE.out C6
  cases b2 : (fn.toList == [99, 111, 110, 116, 101, 110, 116, 45, 108, 101, 110, 103, 116, 104])
  case true =>
    have HE : Hid (askOk ⟨m, p, n, v, x, z⟩ = false) := by rw [Hid, HOK.out, b1, b2]; simp
    clear hA6 hF6
    go_wp2
    refine bodyPost_ret (v := .tuple #[.slice none 0 0, .bool false]) (by simp [results, Tryz.results28, go_sem]) rfl ?_
    exact askNo HE.out C6
  cases b3 : (fn.toList == [116, 114, 97, 110, 115, 102, 101, 114, 45, 101, 110, 99, 111, 100, 105, 110, 103])
  case true =>
    have HE : Hid (askOk ⟨m, p, n, v, x, z⟩ = false) := by rw [Hid, HOK.out, b1, b2, b3]; simp
    clear hA6 hF6
    go_wp2
    refine bodyPost_ret (v := .tuple #[.slice none 0 0, .bool false]) (by simp [results, Tryz.results28, go_sem]) rfl ?_
    exact askNo HE.out C6
  have HAI : Hid (AskI ⟨m, p, n, v, x, z⟩) := HI0.out (by
    rw [HOK.out, b1, b2, b3, decide_eq_true (show m.size ≤ 20 by omega), decide_eq_true (show p.size ≤ 300 by omega), decide_eq_true (show x.length ≤ 1000 by omega), decide_eq_true (show n.size + v.size ≤ 1000 by omega)]
    rfl)
  have HYES : Hid (askOk ⟨m, p, n, v, x, z⟩ = true) := by
    rw [Hid, HOK.out, b1, b2, b3, decide_eq_true (show m.size ≤ 20 by omega), decide_eq_true (show p.size ≤ 300 by omega), decide_eq_true (show x.length ≤ 1000 by omega), decide_eq_true (show n.size + v.size ≤ 1000 by omega)]
    rfl
  clear HOK HI0
  have hqr : w.heap.size + 1 < w6.heap.size := by have := heap_lt hF6; omega
  have e7 : (w6.alloc (.cells #[.string ⟨#[104, 111, 115, 116]⟩, .string ⟨#[104]⟩, .string n, .string v] 41)).heap.size = w6.heap.size + 1 := by simp
  have U7 : Below w6.heap.size w6 (w6.alloc (.cells #[.string ⟨#[104, 111, 115, 116]⟩, .string ⟨#[104]⟩, .string n, .string v] 41)) := (Below.refl _ _).alloc (Nat.le_refl _) _
  have hG7 := tblk_new w6 (.cells #[.string ⟨#[104, 111, 115, 116]⟩, .string ⟨#[104]⟩, .string n, .string v] 41)
  have hA7 := tblk_below hA6 U7
  have U8 : Below (w6.alloc (.cells #[.string ⟨#[104, 111, 115, 116]⟩, .string ⟨#[104]⟩, .string n, .string v] 41)).heap.size (w6.alloc (.cells #[.string ⟨#[104, 111, 115, 116]⟩, .string ⟨#[104]⟩, .string n, .string v] 41)) ((w6.alloc (.cells #[.string ⟨#[104, 111, 115, 116]⟩, .string ⟨#[104]⟩, .string n, .string v] 41)).alloc (.cells #[.string m, .string pt, .int .i64 1, .slice (some ⟨w6.heap.size, 0, none⟩) 2 2, .slice xa x.length xc] 26)) := (Below.refl _ _).alloc (Nat.le_refl _) _
  have hR8 := tblk_new (w6.alloc (.cells #[.string ⟨#[104, 111, 115, 116]⟩, .string ⟨#[104]⟩, .string n, .string v] 41)) (.cells #[.string m, .string pt, .int .i64 1, .slice (some ⟨w6.heap.size, 0, none⟩) 2 2, .slice xa x.length xc] 26)
  rw [e7] at hR8
  have hG8 := tblk_below hG7 U8
  have hA8 := tblk_below hA7 U8
  have C8 : Below w.heap.size w ((w6.alloc (.cells #[.string ⟨#[104, 111, 115, 116]⟩, .string ⟨#[104]⟩, .string n, .string v] 41)).alloc (.cells #[.string m, .string pt, .int .i64 1, .slice (some ⟨w6.heap.size, 0, none⟩) 2 2, .slice xa x.length xc] 26)) := (C6.trans (U7.mono C6.size)).trans (U8.mono (by omega))
  have e8 : ((w6.alloc (.cells #[.string ⟨#[104, 111, 115, 116]⟩, .string ⟨#[104]⟩, .string n, .string v] 41)).alloc (.cells #[.string m, .string pt, .int .i64 1, .slice (some ⟨w6.heap.size, 0, none⟩) 2 2, .slice xa x.length xc] 26)).heap.size = w6.heap.size + 2 := by simp
  obtain ⟨c0f, c1f, c2f, c3f, c4f, c5f⟩ := ask_blk hA6
  obtain ⟨c0g, c1g, c2g, c3g, c4g, c5g⟩ := ask_blk hA7
  obtain ⟨c0h, c1h, c2h, c3h, c4h, c5h⟩ := ask_blk hA8
  have f0 := tblk_cell (i := 0) hF6 rfl
  have f1 := tblk_cell (i := 1) hF6 rfl
  have HFB : Hid (FBd 1000 (askF ⟨m, p, n, v, x, z⟩)) := by
    intro f hf
    have k := ask_okf HAI.out f hf
    obtain ⟨k1, k2, _⟩ := okF_parts k
    exact ⟨by omega, by omega⟩
  have HFL : Hid ((askF ⟨m, p, n, v, x, z⟩).length = 3) := rfl
  clear hA6 hF6 hA7 U7 U8 hG7 e7 C6
  by_cases hz0 : 0 < z
  · have hAF : askF ⟨m, p, n, v, x, z⟩ = [(⟨#[104, 111, 115, 116]⟩, ⟨#[104]⟩), (n, v)] ++ [(⟨#[84, 114, 97, 110, 115, 102, 101, 114, 45, 69, 110, 99, 111, 100, 105, 110, 103]⟩, ⟨#[99, 104, 117, 110, 107, 101, 100]⟩)] := by unfold askF; rw [if_pos hz0]; rfl
    have hAX : askX ⟨m, p, n, v, x, z⟩ = encR z x := by unfold askX; rw [if_pos hz0]
    have own8 : OwnF w6.heap.size ((w6.alloc (.cells #[.string ⟨#[104, 111, 115, 116]⟩, .string ⟨#[104]⟩, .string n, .string v] 41)).alloc (.cells #[.string m, .string pt, .int .i64 1, .slice (some ⟨w6.heap.size, 0, none⟩) 2 2, .slice xa x.length xc] 26)) (.slice (some ⟨w6.heap.size, 0, none⟩) 2 2) [(⟨#[104, 111, 115, 116]⟩, ⟨#[104]⟩), (n, v)] := own_two4 hG8
    have U9 : Below ((w6.alloc (.cells #[.string ⟨#[104, 111, 115, 116]⟩, .string ⟨#[104]⟩, .string n, .string v] 41)).alloc (.cells #[.string m, .string pt, .int .i64 1, .slice (some ⟨w6.heap.size, 0, none⟩) 2 2, .slice xa x.length xc] 26)).heap.size ((w6.alloc (.cells #[.string ⟨#[104, 111, 115, 116]⟩, .string ⟨#[104]⟩, .string n, .string v] 41)).alloc (.cells #[.string m, .string pt, .int .i64 1, .slice (some ⟨w6.heap.size, 0, none⟩) 2 2, .slice xa x.length xc] 26)) (((w6.alloc (.cells #[.string ⟨#[104, 111, 115, 116]⟩, .string ⟨#[104]⟩, .string n, .string v] 41)).alloc (.cells #[.string m, .string pt, .int .i64 1, .slice (some ⟨w6.heap.size, 0, none⟩) 2 2, .slice xa x.length xc] 26)).alloc (.cells #[.string ⟨#[84, 114, 97, 110, 115, 102, 101, 114, 45, 69, 110, 99, 111, 100, 105, 110, 103]⟩, .string ⟨#[99, 104, 117, 110, 107, 101, 100]⟩] 41)) := (Below.refl _ _).alloc (Nat.le_refl _) _
    obtain ⟨g10, c10, w10, r10, own10, B10, fr10, sz10, ob10⟩ := ownF_frame (own8.keep U9) (fds_new ((w6.alloc (.cells #[.string ⟨#[104, 111, 115, 116]⟩, .string ⟨#[104]⟩, .string n, .string v] 41)).alloc (.cells #[.string m, .string pt, .int .i64 1, .slice (some ⟨w6.heap.size, 0, none⟩) 2 2, .slice xa x.length xc] 26)) ⟨#[84, 114, 97, 110, 115, 102, 101, 114, 45, 69, 110, 99, 111, 100, 105, 110, 103]⟩ ⟨#[99, 104, 117, 110, 107, 101, 100]⟩) (by decide) (show 2 + 1 ≤ 4294967296 by decide) (by have := U9.size; omega)
    have hR10 := (fr10 (w6.heap.size + 1) (by have := U9.size; omega) (fun k => by simp [Value.ownBlock] at k)).trans (tblk_below hR8 U9)
    have hA10 := (B10.block w.heap.size (by omega)).trans (tblk_below hA8 U9)
    have hg10 : ¬ g10 = w6.heap.size + 1 := by
      rcases ob10 with k | k
      · simp [Value.ownBlock] at k; omega
      · have := U9.size; omega
    have C10 : Below w.heap.size w w10 := (C8.trans (U9.mono C8.size)).trans (B10.mono (by omega))
    rw [← hAF] at own10 r10
    rw [HFL.out] at own10 r10
    have e8b : ((w6.alloc (.cells #[.string ⟨#[104, 111, 115, 116]⟩, .string ⟨#[104]⟩, .string n, .string v] 41)).alloc (.cells #[.string m, .string pt, .int .i64 1, .slice (some ⟨w6.heap.size, 0, none⟩) 2 2, .slice xa x.length xc] 26)).heap.size = w6.heap.size + 2 := e8
    have HR10 : Hid ((Builtin.append_ #[24, 24] 24 #[.slice (some ⟨w6.heap.size, 0, none⟩) 2 2, .slice (some ⟨w6.heap.size + 2, 0, none⟩) 1 1]).run Tryz.prog (((w6.alloc (.cells #[.string ⟨#[104, 111, 115, 116]⟩, .string ⟨#[104]⟩, .string n, .string v] 41)).alloc (.cells #[.string m, .string pt, .int .i64 1, .slice (some ⟨w6.heap.size, 0, none⟩) 2 2, .slice xa x.length xc] 26)).alloc (.cells #[.string ⟨#[84, 114, 97, 110, 115, 102, 101, 114, 45, 69, 110, 99, 111, 100, 105, 110, 103]⟩, .string ⟨#[99, 104, 117, 110, 107, 101, 100]⟩] 41)) = .ok (.slice (some ⟨g10, 0, none⟩) 3 c10) w10) := by rw [Hid, ← e8b]; exact r10
    have hR11 := field3 (v := .slice (some ⟨g10, 0, none⟩) 3 c10) hR10
    have hA11 : (w10.setCell ⟨w6.heap.size + 1, 3, none⟩ (.slice (some ⟨g10, 0, none⟩) 3 c10)).heap[w.heap.size]? = some (.cells #[.string m, .string p, .string n, .string v, .slice xa x.length xc, .int .i64 z] 51) := (set_away (by omega)).trans hA10
    have own11 : OwnF w6.heap.size (w10.setCell ⟨w6.heap.size + 1, 3, none⟩ (.slice (some ⟨g10, 0, none⟩) 3 c10)) (.slice (some ⟨g10, 0, none⟩) 3 c10) (askF ⟨m, p, n, v, x, z⟩) := ownF_off own10 (set_away hg10)
    have C11 : Below w.heap.size w (w10.setCell ⟨w6.heap.size + 1, 3, none⟩ (.slice (some ⟨g10, 0, none⟩) 3 c10)) := C10.setCell (p := ⟨w6.heap.size + 1, 3, none⟩) (show w.heap.size ≤ w6.heap.size + 1 by omega) _
    have hz11 : w6.heap.size + 2 ≤ (w10.setCell ⟨w6.heap.size + 1, 3, none⟩ (.slice (some ⟨g10, 0, none⟩) 3 c10)).heap.size := by rw [set_size]; have := U9.size; omega
    have HEN : Hid (Calls Tryz.prog 22 #[.slice xa x.length xc, .int .i64 z] (w10.setCell ⟨w6.heap.size + 1, 3, none⟩ (.slice (some ⟨g10, 0, none⟩) 3 c10)) fun e w' => ∃ v', e = .returned v' ∧ Own (w10.setCell ⟨w6.heap.size + 1, 3, none⟩ (.slice (some ⟨g10, 0, none⟩) 3 c10)).heap.size w' v' (encR z x) ∧ Below (w10.setCell ⟨w6.heap.size + 1, 3, none⟩ (.slice (some ⟨g10, 0, none⟩) 3 c10)).heap.size (w10.setCell ⟨w6.heap.size + 1, 3, none⟩ (.slice (some ⟨g10, 0, none⟩) 3 c10)) w') := encode_any x kx _ z _ (HAB.out _ C11).1 (HAB.out _ C11).2 (HTZ.out _ C11) (by omega) hz
    have s3 := tblk_cell (i := 3) hR8 rfl
    have y3 := tblk_cell (i := 3) hR10 rfl
    have x3 := lblk_z (i := 3) hR10
    have k4 := tblk_cell (i := 4) hA11 rfl
    have k5 := tblk_cell (i := 5) hA11 rfl
    clear own8 U9 own10 B10 fr10 sz10 ob10 r10 hA10 hR10 C10 C8 e8 e8b hG8 hR8 hA8
    go_wp2_with (at_builtin; refine wpList_append_run2 rfl _ _ 24 24 rfl _ _ _ w10 rfl rfl HR10.out ?_)
    clear s3 y3 x3 k4 k5 HR10 f0 f1
    clear c0f c1f c2f c3f c4f c5f c0g c1g c2g c3g c4g c5g c0h c1h c2h c3h c4h c5h
    generalize (w10.setCell ⟨w6.heap.size + 1, 3, none⟩ (.slice (some ⟨g10, 0, none⟩) 3 c10)) = w11 at *
    refine HEN.out.mono ?_
    rintro e w12 ⟨v12, rfl, P12, B12⟩
    obtain ⟨ea, ec, hv12, hen⟩ := P12.form
    subst hv12
    have C12 := C11.trans (B12.mono C11.size)
    have hR12 := tblk_below hR11 B12
    have own12 := own11.keep B12
    have hR13 := field4 (v := .slice ea (encR z x).length ec) hR12
    have own13 : OwnF w6.heap.size (w12.setCell ⟨w6.heap.size + 1, 4, none⟩ (.slice ea (encR z x).length ec)) (.slice (some ⟨g10, 0, none⟩) 3 c10) (askF ⟨m, p, n, v, x, z⟩) := ownF_off own12 (set_away hg10)
    have P13 : Own w11.heap.size (w12.setCell ⟨w6.heap.size + 1, 4, none⟩ (.slice ea (encR z x).length ec)) (.slice ea (encR z x).length ec) (encR z x) := P12.kept (fun k h1 h2 => set_away (by omega))
    have C13 : Below w.heap.size w (w12.setCell ⟨w6.heap.size + 1, 4, none⟩ (.slice ea (encR z x).length ec)) := C12.setCell (p := ⟨w6.heap.size + 1, 4, none⟩) (show w.heap.size ≤ w6.heap.size + 1 by omega) _
    have HWQ : Hid (Calls Tryz.prog 24 #[.agg #[.string m, .string pt, .int .i64 1, .slice (some ⟨g10, 0, none⟩) 3 c10, .slice ea (encR z x).length ec]] (w12.setCell ⟨w6.heap.size + 1, 4, none⟩ (.slice ea (encR z x).length ec)) fun e w' => ∃ v', e = .returned v' ∧ OwnG (w12.setCell ⟨w6.heap.size + 1, 4, none⟩ (.slice ea (encR z x).length ec)).heap.size w' v' (askW ⟨m, p, n, v, x, z⟩) ∧ Below (w12.setCell ⟨w6.heap.size + 1, 4, none⟩ (.slice ea (encR z x).length ec)).heap.size (w12.setCell ⟨w6.heap.size + 1, 4, none⟩ (.slice ea (encR z x).length ec)) w') := by
      obtain ⟨ke, SE, hke⟩ := P13.src
      have k := wreq_any m pt 1 (askF ⟨m, p, n, v, x, z⟩) (encR z x) (some ⟨g10, 0, none⟩) ea ke c10 ec (by decide) (by decide) (by decide +kernel) (w12.setCell ⟨w6.heap.size + 1, 4, none⟩ (.slice ea (encR z x).length ec)) (HL.out.below C13).pow hm (by rw [hps]; omega) own13.fds (bd_big HFB.out) (by rw [HFL.out]; decide) SE (fun q => (hke q).2) hen (by have := (encR_len z x).2; omega)
      have eb : askW ⟨m, p, n, v, x, z⟩ = writeB (reqT m pt (verT 1)) (askF ⟨m, p, n, v, x, z⟩) (encR z x) := by
        unfold askW
        rw [hAX, ← HPT.out]
      rw [← eb] at k
      exact k
    have y4 := tblk_cell (i := 4) hR12 rfl
    have x4 := lblk_z (i := 4) hR12
    have s0 := tblk_cell (i := 0) hR13 rfl
    have s1 := tblk_cell (i := 1) hR13 rfl
    have s2 := tblk_cell (i := 2) hR13 rfl
    have s3 := tblk_cell (i := 3) hR13 rfl
    have s4 := tblk_cell (i := 4) hR13 rfl
    clear hR12 hR13 own12 own13 P13 P12 C12 C11 hR11 own11 HEN B12 hA11
    generalize (encR z x).length = el at *
    go_wp2_with fail
    refine HWQ.out.mono ?_
    rintro e w14 ⟨v14, rfl, G14, B14⟩
    have C14 := C13.trans (B14.mono C13.size)
    have hsz13 := C13.size
    clear y4 x4 s0 s1 s2 s3 s4 HWQ B14
    go_wp2
    refine bodyPost_ret (v := .tuple #[v14, .bool true]) (by simp [results, Tryz.results28, go_sem]) rfl ?_
    unfold AskR
    rw [if_pos HYES.out]
    exact ⟨v14, rfl, G14.mono hsz13, C14⟩
  · have hAF : askF ⟨m, p, n, v, x, z⟩ = [(⟨#[104, 111, 115, 116]⟩, ⟨#[104]⟩), (n, v)] ++ [(⟨#[67, 111, 110, 116, 101, 110, 116, 45, 76, 101, 110, 103, 116, 104]⟩, itoaS (x.length : Int))] := by unfold askF; rw [if_neg hz0]; rfl
    have hAX : askX ⟨m, p, n, v, x, z⟩ = x := by unfold askX; rw [if_neg hz0]
    have hz0b : decide (0 < z) = false := decide_eq_false hz0
    have own8 : OwnF w6.heap.size ((w6.alloc (.cells #[.string ⟨#[104, 111, 115, 116]⟩, .string ⟨#[104]⟩, .string n, .string v] 41)).alloc (.cells #[.string m, .string pt, .int .i64 1, .slice (some ⟨w6.heap.size, 0, none⟩) 2 2, .slice xa x.length xc] 26)) (.slice (some ⟨w6.heap.size, 0, none⟩) 2 2) [(⟨#[104, 111, 115, 116]⟩, ⟨#[104]⟩), (n, v)] := own_two4 hG8
    have HOXX : Hid (OwnF w6.heap.size ((w6.alloc (.cells #[.string ⟨#[104, 111, 115, 116]⟩, .string ⟨#[104]⟩, .string n, .string v] 41)).alloc (.cells #[.string m, .string pt, .int .i64 1, .slice (some ⟨w6.heap.size, 0, none⟩) 2 2, .slice xa x.length xc] 26)) (.slice (some ⟨w6.heap.size, 0, none⟩) 2 2) [(⟨#[104, 111, 115, 116]⟩, ⟨#[104]⟩), (n, v)]) := own8
    have s3 := tblk_cell (i := 3) hR8 rfl
    clear own8 hG8
    go_wp2_with fail
    clear f0 f1
    clear c0f c1f c2f c3f c4f c5f c0g c1g c2g c3g c4g c5g
    generalize ((w6.alloc (.cells #[.string ⟨#[104, 111, 115, 116]⟩, .string ⟨#[104]⟩, .string n, .string v] 41)).alloc (.cells #[.string m, .string pt, .int .i64 1, .slice (some ⟨w6.heap.size, 0, none⟩) 2 2, .slice xa x.length xc] 26)) = w8 at *
    have HOW : Hid (∀ W, Below w8.heap.size w8 W → OwnF w6.heap.size W (.slice (some ⟨w6.heap.size, 0, none⟩) 2 2) [(⟨#[104, 111, 115, 116]⟩, ⟨#[104]⟩), (n, v)]) := fun W B => HOXX.out.keep B
    have HTX : Hid (∀ W, Below w8.heap.size w8 W → Calls Tryz.prog 56 #[.int .i64 (x.length : Nat)] W fun e w' => e = .returned (.string (itoaS (x.length : Int))) ∧ Below w8.heap.size w8 w' ∧ w'.cell? ⟨w6.heap.size + 1, 3, none⟩ = some (.slice (some ⟨w6.heap.size, 0, none⟩) 2 2) ∧ w'.cell? ⟨w.heap.size, 4, none⟩ = some (.slice xa x.length xc) ∧ w'.heap[w6.heap.size + 1]? = some (.cells #[.string m, .string pt, .int .i64 1, .slice (some ⟨w6.heap.size, 0, none⟩) 2 2, .slice xa x.length xc] 26) ∧ w'.heap[w.heap.size]? = some (.cells #[.string m, .string p, .string n, .string v, .slice xa x.length xc, .int .i64 z] 51)) := fun W B => by
      refine (text_any (x.length : Int) (by omega) (by omega) W (HL.out.below (C8.trans (B.mono C8.size))).pow).mono ?_
      rintro e w' ⟨he, B'⟩
      have D := B.trans (B'.mono B.size)
      exact ⟨he, D, tblk_cell (tblk_below hR8 D) rfl, tblk_cell (tblk_below hA8 D) rfl, tblk_below hR8 D, tblk_below hA8 D⟩
    have I0 : Below w8.heap.size w8 w8 := Below.refl _ _
    clear HOXX
    go_region_law (first | (go_simp; go_at_call 56; refine (HTX.out _ (by first | assumption | exact Below.drew I0 | exact Below.drew (by assumption))).mono ?_; rintro e w9 ⟨rfl, hI, hS0, hS1, hSR, hSA⟩; have hS2 : (w9.alloc (.cells #[.string ⟨#[67, 111, 110, 116, 101, 110, 116, 45, 76, 101, 110, 103, 116, 104]⟩, .string (itoaS (x.length : Int))] 41)).cell? ⟨w6.heap.size + 1, 3, none⟩ = some (.slice (some ⟨w6.heap.size, 0, none⟩) 2 2) := tblk_cell (tblk_below hSR ((Below.refl _ _).alloc (Nat.le_refl _) (.cells #[.string ⟨#[67, 111, 110, 116, 101, 110, 116, 45, 76, 101, 110, 103, 116, 104]⟩, .string (itoaS (x.length : Int))] 41))) rfl) | (refine step_ownFf rfl _ _ rfl rfl w6.heap.size (.slice (some ⟨w6.heap.size, 0, none⟩) 2 2) [(⟨#[104, 111, 115, 116]⟩, ⟨#[104]⟩), (n, v)] rfl ((HOW.out _ hI).keep ((Below.refl _ _).alloc (Nat.le_refl _) _)) _ _ _ _ [(⟨#[67, 111, 110, 116, 101, 110, 116, 45, 76, 101, 110, 103, 116, 104]⟩, itoaS (x.length : Int))] rfl (fds_new w9 ⟨#[67, 111, 110, 116, 101, 110, 116, 45, 76, 101, 110, 103, 116, 104]⟩ (itoaS (x.length : Int))) (show 0 < 1 by decide) (show 2 + 1 ≤ 4294967296 by decide) (by have := hI.size; simp; omega) 3 rfl ?_; intro g10 c10 w10 own10 B10 fr10 sz10 ob10; have hR10 := (fr10 (w6.heap.size + 1) (by have := hI.size; simp; omega) (fun k => by simp [Value.ownBlock] at k)).trans (tblk_below hSR ((Below.refl _ _).alloc (Nat.le_refl _) (.cells #[.string ⟨#[67, 111, 110, 116, 101, 110, 116, 45, 76, 101, 110, 103, 116, 104]⟩, .string (itoaS (x.length : Int))] 41))); have y3 := tblk_cell (i := 3) hR10 rfl; have x3 := lblk_z (i := 3) hR10))
    all_goals
      have U9 : Below w9.heap.size w9 (w9.alloc (.cells #[.string ⟨#[67, 111, 110, 116, 101, 110, 116, 45, 76, 101, 110, 103, 116, 104]⟩, .string (itoaS (x.length : Int))] 41)) := (Below.refl _ _).alloc (Nat.le_refl _) _
      have D9 : Below w8.heap.size w8 (w9.alloc (.cells #[.string ⟨#[67, 111, 110, 116, 101, 110, 116, 45, 76, 101, 110, 103, 116, 104]⟩, .string (itoaS (x.length : Int))] 41)) := hI.alloc hI.size _
      have hg10 : ¬ g10 = w6.heap.size + 1 := by
        rcases ob10 with k | k
        · simp [Value.ownBlock] at k; omega
        · have := D9.size; omega
      have C10 : Below w.heap.size w w10 := (C8.trans (D9.mono C8.size)).trans (B10.mono (by omega))
      rw [← hAF] at own10
      have hR11 := field3 (v := .slice (some ⟨g10, 0, none⟩) 3 c10) hR10
      have own11 : OwnF w6.heap.size (w10.setCell ⟨w6.heap.size + 1, 3, none⟩ (.slice (some ⟨g10, 0, none⟩) 3 c10)) (.slice (some ⟨g10, 0, none⟩) 3 c10) (askF ⟨m, p, n, v, x, z⟩) := ownF_off own10 (set_away hg10)
      have C11 : Below w.heap.size w (w10.setCell ⟨w6.heap.size + 1, 3, none⟩ (.slice (some ⟨g10, 0, none⟩) 3 c10)) := C10.setCell (p := ⟨w6.heap.size + 1, 3, none⟩) (show w.heap.size ≤ w6.heap.size + 1 by omega) _
      have HWQ : Hid (Calls Tryz.prog 24 #[.agg #[.string m, .string pt, .int .i64 1, .slice (some ⟨g10, 0, none⟩) 3 c10, .slice xa x.length xc]] (w10.setCell ⟨w6.heap.size + 1, 3, none⟩ (.slice (some ⟨g10, 0, none⟩) 3 c10)) fun e w' => ∃ v', e = .returned v' ∧ OwnG (w10.setCell ⟨w6.heap.size + 1, 3, none⟩ (.slice (some ⟨g10, 0, none⟩) 3 c10)).heap.size w' v' (askW ⟨m, p, n, v, x, z⟩) ∧ Below (w10.setCell ⟨w6.heap.size + 1, 3, none⟩ (.slice (some ⟨g10, 0, none⟩) 3 c10)).heap.size (w10.setCell ⟨w6.heap.size + 1, 3, none⟩ (.slice (some ⟨g10, 0, none⟩) 3 c10)) w') := by
        have k := wreq_any m pt 1 (askF ⟨m, p, n, v, x, z⟩) x (some ⟨g10, 0, none⟩) xa kx c10 xc (by decide) (by decide) (by decide +kernel) (w10.setCell ⟨w6.heap.size + 1, 3, none⟩ (.slice (some ⟨g10, 0, none⟩) 3 c10)) (HL.out.below C11).pow hm (by rw [hps]; omega) own11.fds (bd_big HFB.out) (by rw [HFL.out]; decide) (HAB.out _ C11).1 (HAB.out _ C11).2 HNX.out (by omega)
        have eb : askW ⟨m, p, n, v, x, z⟩ = writeB (reqT m pt (verT 1)) (askF ⟨m, p, n, v, x, z⟩) x := by
          unfold askW
          rw [hAX, ← HPT.out]
        rw [← eb] at k
        exact k
      have s0 := tblk_cell (i := 0) hR11 rfl
      have s1 := tblk_cell (i := 1) hR11 rfl
      have s2 := tblk_cell (i := 2) hR11 rfl
      have s5 := tblk_cell (i := 3) hR11 rfl
      have s4 := tblk_cell (i := 4) hR11 rfl
      clear hR10 hR11 own10 own11 C10 U9 D9 B10 fr10 sz10 ob10 y3 x3 hI hS0 hS1 hSR hSA hS2 HTX HOW I0 s3 c0h c1h c2h c3h c4h c5h
      go_wp2_with fail
      refine HWQ.out.mono ?_
      rintro e w14 ⟨v14, rfl, G14, B14⟩
      have C14 := C11.trans (B14.mono C11.size)
      have hsz13 := C11.size
      clear s0 s1 s2 s4 s5 HWQ B14
      go_wp2
      refine bodyPost_ret (v := .tuple #[v14, .bool true]) (by simp [results, Tryz.results28, go_sem]) rfl ?_
      unfold AskR
      rw [if_pos HYES.out]
      exact ⟨v14, rfl, G14.mono hsz13, C14⟩
end Go.Proofs.YtkdnckkdofoaoaaGreatDoor

/- A row of numbers that grows, in memory of its own. -/
namespace Go.Proofs.YtkdnckkdofoaoaaGreatDoor
open Go.RowKit
set_option linter.unusedVariables false

def iv (n : Nat) : Value := .int .i64 (n : Int)
theorem ivs_one (l : List Nat) : ∀ v ∈ l.map iv, v.oneCell' = true := by
  intro v hv
  obtain ⟨x, _, rfl⟩ := List.mem_map.1 hv
  rfl
theorem infoI3 : (Tryz.prog.info? 3).map (fun i => (i.zero, i.size, i.bytes)) = some (some (.int .i64 0), 1, 8) := by kernel_rfl
def OwnI (B : Nat) (w : World) (v : Value) (l : List Nat) : Prop := w.ownsRow B 3 1 v l.length (l.map iv)
theorem OwnI.keep {B : Nat} {w w' : World} {v : Value} {X : List Nat} (h : OwnI B w v X) (b : Below w.heap.size w w') : OwnI B w' v X := by
  obtain ⟨h1, h2⟩ := h
  refine ⟨h1, ?_⟩
  rcases h2 with h2 | ⟨g, cap, cur, hv, hg, hh, r⟩
  · exact .inl h2
  · exact .inr ⟨g, cap, cur, hv, hg, (b.block g (Array.getElem?_eq_some_iff.1 hh).1).trans hh, r⟩
theorem OwnI.empty (B : Nat) (w : World) (hB : B ≤ w.heap.size) : OwnI B (w.alloc (.cells #[] 3)) (.slice (some ⟨w.heap.size, 0, none⟩) 0 0) [] :=
  ⟨rfl, .inr ⟨w.heap.size, 0, #[], rfl, hB, new_at _ _, Nat.le_refl _, by decide, rfl, rfl⟩⟩
theorem OwnI.at {B : Nat} {w : World} {v : Value} {l : List Nat} (h : OwnI B w v l) (hp : 0 < l.length) : ∃ g c, v = .slice (some ⟨g, 0, none⟩) l.length c ∧ ∀ (j : Nat) (hj : j < l.length), w.cell? ⟨g, j, none⟩ = some (iv l[j]) := by
  have h0 := h
  obtain ⟨h1, ⟨h2, h3⟩ | ⟨g, c, cur, hv, hB, hg, hl, hm, hs, ht⟩⟩ := h
  · omega
  · refine ⟨g, c, hv, fun j hj => ?_⟩
    have k := (hv ▸ h0 : w.ownsRow B 3 1 (.slice (some ⟨g, 0, none⟩) l.length c) l.length (l.map iv)).cellAt j (by omega)
    rw [k, List.getElem?_map, List.getElem?_eq_getElem hj]; rfl
theorem ownI_two {B : Nat} {w : World} {v : Value} {l : List Nat} (h : OwnI B w v l) (hB : B ≤ w.heap.size) (p q : Nat) (hmax : l.length + 2 ≤ 100000) :
    ∃ v' w', (Builtin.append_ #[49, 49] 49 #[v, .slice (some ⟨w.heap.size, 0, none⟩) 2 2]).run Tryz.prog (w.alloc (.cells #[.int .i64 (p : Int), .int .i64 (q : Int)] 3)) = .ok v' w' ∧ OwnI B w' v' (l ++ [p, q]) ∧ Below B w w' := by
  obtain ⟨i, hi, hz0, hz1, hz2⟩ := info_parts infoI3
  have BA : Below w.heap.size w (w.alloc (.cells #[.int .i64 (p : Int), .int .i64 (q : Int)] 3)) := (Below.refl _ _).alloc (Nat.le_refl _) _
  have h' := h.keep BA
  have hB' := Nat.le_trans hB BA.size
  have hnew := new_at w (.cells #[.int .i64 (p : Int), .int .i64 (q : Int)] 3)
  obtain ⟨v', w', hr, q1, q2, q3, q4⟩ := run_append_own_at (P := Tryz.prog) _ B 49 49 3 i (.int .i64 0) 1 8 Tryz.underlying49 hi hz0 hz1 hz2 rfl (by decide) v l.length (l.map iv) h' ⟨w.heap.size, 0, none⟩ 2 2 ([p, q].map iv) (by simp)
      (fun j u hj => by
        rw [addr_add, Nat.zero_add]
        refine ring_cell hnew ?_
        simpa [iv] using hj) (ivs_one _) (by unfold maxLen; omega) (by omega) hB'
  refine ⟨v', w', hr, ?_, (BA.mono hB).trans ((Below.refl _ _).grown q2 hB' (fun q hq => (h'.lt q hq).1))⟩
  unfold OwnI
  rw [List.length_append, List.map_append]; exact q1
end Go.Proofs.YtkdnckkdofoaoaaGreatDoor

/- Bytes and numbers that grow side by side; what is written of requests, plain. -/
namespace Go.Proofs.YtkdnckkdofoaoaaGreatDoor
open Go.RowKit
set_option linter.unusedVariables false

def AccI (w : World) (g : Nat) (v : Value) (l : List Nat) : Prop := v.ownBlock = some g ∧ OwnI 0 w v l
theorem AccI.parts {w : World} {g : Nat} {v : Value} {l : List Nat} (h : AccI w g v l) : ∃ c cur, v = .slice (some ⟨g, 0, none⟩) l.length c ∧ w.heap[g]? = some (.cells cur 3 (0, 0)) := by
  obtain ⟨h1, h2, h3 | ⟨g', c, cur, hv, _, hg, _⟩⟩ := h
  · rw [h3.1] at h1; cases h1
  · have h1' := h1
    rw [hv] at h1'
    have : g' = g := by simpa [Value.ownBlock] using h1'
    subst this
    exact ⟨c, cur, hv, hg⟩
theorem AccI.form {w : World} {g : Nat} {v : Value} {l : List Nat} (h : AccI w g v l) : ∃ c, v = .slice (some ⟨g, 0, none⟩) l.length c := by
  obtain ⟨c, _, hv, _⟩ := h.parts; exact ⟨c, hv⟩
theorem AccI.lt {w : World} {g : Nat} {v : Value} {l : List Nat} (h : AccI w g v l) : g < w.heap.size := by
  obtain ⟨_, _, _, hg⟩ := h.parts; exact heap_lt hg
theorem AccI.frame {w w' : World} {g : Nat} {v : Value} {l : List Nat} (h : AccI w g v l) (hk : w'.heap[g]? = w.heap[g]?) : AccI w' g v l := by
  obtain ⟨h1, h2, h3 | ⟨g', c, cur, hv, hb, hg, r⟩⟩ := h
  · rw [h3.1] at h1; cases h1
  · have h1' := h1
    rw [hv] at h1'
    have : g' = g := by simpa [Value.ownBlock] using h1'
    subst this
    exact ⟨h1, h2, .inr ⟨g', c, cur, hv, hb, hk.trans hg, r⟩⟩
theorem AccI.cell {w : World} {g : Nat} {v : Value} {l : List Nat} (h : AccI w g v l) (j : Nat) (hj : j < l.length) : w.cell? ⟨g, j, none⟩ = some (.int .i64 (l[j] : Int)) := by
  obtain ⟨g', c, hv, hc⟩ := OwnI.at h.2 (by omega)
  have h1 := h.1
  rw [hv] at h1
  have : g' = g := by simpa [Value.ownBlock] using h1
  subst this
  exact hc j hj
theorem AccI.empty (w : World) : AccI (w.alloc (.cells #[] 3)) w.heap.size (.slice (some ⟨w.heap.size, 0, none⟩) 0 0) [] := ⟨rfl, OwnI.empty 0 w (Nat.zero_le _)⟩
theorem acci_append {w : World} {g : Nat} {v : Value} {l : List Nat} (h : AccI w g v l) (n : Nat) (hmax : l.length + 1 ≤ 100000) :
    ∃ v' w' g', (Builtin.append_ #[49, 49] 49 #[v, .slice (some ⟨w.heap.size, 0, none⟩) 1 1]).run Tryz.prog (w.alloc (.cells #[.int .i64 (n : Int)] 3)) = .ok v' w' ∧ AccI w' g' v' (l ++ [n]) ∧ (g' = g ∨ w.heap.size ≤ g') ∧ Kp (fun k => k = g) w w' := by
  obtain ⟨i, hi, hz0, hz1, hz2⟩ := info_parts infoI3
  have BA : Below w.heap.size w (w.alloc (.cells #[.int .i64 (n : Int)] 3)) := (Below.refl _ _).alloc (Nat.le_refl _) _
  have h' := h.2.keep BA
  have hnew := new_at w (.cells #[.int .i64 (n : Int)] 3)
  obtain ⟨v', w', hr, q1, q2, q3, q4⟩ := run_append_own_at (P := Tryz.prog) _ 0 49 49 3 i (.int .i64 0) 1 8 Tryz.underlying49 hi hz0 hz1 hz2 rfl (by decide) v l.length (l.map iv) h' ⟨w.heap.size, 0, none⟩ 1 1 ([n].map iv) (by simp)
      (fun j u hj => by
        rw [addr_add, Nat.zero_add]
        refine ring_cell hnew ?_
        simpa [iv] using hj) (ivs_one _) (by unfold maxLen; omega) (by omega) (Nat.zero_le _)
  have hO : OwnI 0 w' v' (l ++ [n]) := by
    unfold OwnI
    rw [List.length_append, List.map_append]; exact q1
  have hk : Kp (fun k => k = g) (w.alloc (.cells #[.int .i64 (n : Int)] 3)) w' := ⟨q2.os, q2.tape, q2.output, q2.size, fun j hj hn => q2.block j hj (fun c => hn (by rw [h.1] at c; exact Option.some.inj c))⟩
  have hk2 : Kp (fun k => k = g) w w' := (Kp.alloc _ w _).then hk
  rcases q4 with q4 | q4
  · exact ⟨v', w', g, hr, ⟨q4.trans h.1, hO⟩, .inl rfl, hk2⟩
  · exact ⟨v', w', _, hr, ⟨q4, hO⟩, .inr (by simp), hk2⟩
/-- Bytes and numbers, in blocks of their own. -/
def TwoI (w wr : World) (vx vy : Value) (X : List UInt8) (Y : List Nat) : Prop := ∃ gx gy, Acc wr gx vx X ∧ AccI wr gy vy Y ∧ gx ≠ gy ∧ w.heap.size ≤ gx ∧ w.heap.size ≤ gy ∧ Below w.heap.size w wr
theorem TwoI.bel {w wr : World} {vx vy : Value} {X : List UInt8} {Y : List Nat} (h : TwoI w wr vx vy X Y) : Below w.heap.size w wr := by obtain ⟨_, _, _, _, _, _, _, b⟩ := h; exact b
theorem TwoI.keep {w wr wr' : World} {vx vy : Value} {X : List UInt8} {Y : List Nat} (h : TwoI w wr vx vy X Y) (b : Below wr.heap.size wr wr') : TwoI w wr' vx vy X Y := by
  obtain ⟨gx, gy, h1, h2, h3, h4, h5, h6⟩ := h
  exact ⟨gx, gy, h1.frame (b.block gx h1.lt), h2.frame (b.block gy h2.lt), h3, h4, h5, h6.trans (b.mono h6.size)⟩
theorem TwoI.appX {w wr : World} {vx vy : Value} {X Z : List UInt8} {Y : List Nat} {k : Nat} {a : Option Addr} {n c : Nat} (h : TwoI w wr vx vy X Y) (hs : Src wr k (.slice a n c) Z) (hnil : a = none → c = 0) (hmax : X.length + Z.length ≤ 140737488355328) :
    ∃ v' w', (Builtin.append_ #[22, 22] 22 #[vx, .slice a n c]).run Tryz.prog wr = .ok v' w' ∧ TwoI w w' v' vy (X ++ Z) Y := by
  obtain ⟨gx, gy, h1, h2, h3, h4, h5, h6⟩ := h
  obtain ⟨v', w', g', hr, ha, hg, hk⟩ := acc_append h1 hs hnil hmax
  have hl := h2.lt
  have hs := h6.size
  exact ⟨v', w', hr, g', gy, ha, h2.frame (hk.block gy hl (fun e => h3 e.symm)), by omega, by omega, h5, h6.trans (hk.below h6.size (fun k hk e => by omega))⟩
theorem TwoI.appY {w wr : World} {vx vy : Value} {X : List UInt8} {Y : List Nat} (h : TwoI w wr vx vy X Y) (n : Nat) (hmax : Y.length + 1 ≤ 100000) :
    ∃ v' w', (Builtin.append_ #[49, 49] 49 #[vy, .slice (some ⟨wr.heap.size, 0, none⟩) 1 1]).run Tryz.prog (wr.alloc (.cells #[.int .i64 (n : Int)] 3)) = .ok v' w' ∧ TwoI w w' vx v' X (Y ++ [n]) := by
  obtain ⟨gx, gy, h1, h2, h3, h4, h5, h6⟩ := h
  obtain ⟨v', w', g', hr, ha, hg, hk⟩ := acci_append h2 n hmax
  have hl := h1.lt
  have hs := h6.size
  exact ⟨v', w', hr, gx, g', h1.frame (hk.block gx hl (fun e => h3 e)), ha, by omega, h4, by omega, h6.trans (hk.below h6.size (fun k hk e => by omega))⟩
theorem TwoI.forms {w wr : World} {vx vy : Value} {X : List UInt8} {Y : List Nat} (h : TwoI w wr vx vy X Y) : ∃ gx cx gy cy, vx = .slice (some ⟨gx, 0, none⟩) X.length cx ∧ vy = .slice (some ⟨gy, 0, none⟩) Y.length cy := by
  obtain ⟨gx, gy, h1, h2, _⟩ := h
  obtain ⟨cx, e1⟩ := h1.form
  obtain ⟨cy, e2⟩ := h2.form
  exact ⟨gx, cx, gy, cy, e1, e2⟩
theorem TwoI.start (w : World) : TwoI w ((w.alloc (.cells #[] 5)).alloc (.cells #[] 3)) (.slice (some ⟨w.heap.size, 0, none⟩) 0 0) (.slice (some ⟨w.heap.size + 1, 0, none⟩) 0 0) [] [] := by
  have e : (w.alloc (.cells #[] 5)).heap.size = w.heap.size + 1 := by simp
  have a1 := Acc.empty w
  have a2 := AccI.empty (w.alloc (.cells #[] 5))
  rw [e] at a2
  have U1 : Below w.heap.size w (w.alloc (.cells #[] 5)) := (Below.refl _ _).alloc (Nat.le_refl _) _
  have U2 : Below (w.alloc (.cells #[] 5)).heap.size (w.alloc (.cells #[] 5)) ((w.alloc (.cells #[] 5)).alloc (.cells #[] 3)) := (Below.refl _ _).alloc (Nat.le_refl _) _
  exact ⟨w.heap.size, w.heap.size + 1, a1.frame (U2.block _ a1.lt), a2, by omega, Nat.le_refl _, by omega, U1.trans (U2.mono U1.size)⟩

def flatA (qs : List AskP) : List UInt8 := qs.flatMap askW
def endsA (qs : List AskP) : List Nat := (List.range qs.length).map fun i => (flatA (qs.take (i + 1))).length
theorem endsA_len (qs : List AskP) : (endsA qs).length = qs.length := by unfold endsA; simp
theorem endsA_at (qs : List AskP) (j : Nat) (h : j < (endsA qs).length) : (endsA qs)[j] = (flatA (qs.take (j + 1))).length := by simp only [endsA, List.getElem_map, List.getElem_range]
theorem flatA_snoc (qs : List AskP) (k : Nat) (h : k < qs.length) : flatA (qs.take (k + 1)) = flatA (qs.take k) ++ askW qs[k] := by
  unfold flatA
  rw [List.take_succ_eq_append_getElem h, List.flatMap_append]
  simp
theorem endsA_snoc (qs : List AskP) (k : Nat) (h : k < qs.length) : endsA (qs.take (k + 1)) = endsA (qs.take k) ++ [(flatA (qs.take (k + 1))).length] := by
  unfold endsA
  have e1 : (qs.take (k + 1)).length = k + 1 := by rw [List.length_take]; omega
  have e2 : (qs.take k).length = k := by rw [List.length_take]; omega
  rw [e1, e2, List.range_succ, List.map_append]
  congr 1
  · refine List.map_congr_left fun i hi => ?_
    have := List.mem_range.1 hi
    rw [List.take_take, List.take_take, show min (i + 1) (k + 1) = i + 1 by omega, show min (i + 1) k = i + 1 by omega]
  · simp only [List.map_cons, List.map_nil]
    rw [List.take_take, Nat.min_self]
theorem askW_len {a : AskP} (h : AskI a) : 0 < (askW a).length ∧ (askW a).length ≤ 25000 := by
  rw [ask_bytes h]
  have k := ask_head h
  have hx : (askX a).length ≤ 22005 := by
    unfold askX
    have hxs := h.xs
    split
    · have := (encR_len a.z a.x).2; omega
    · omega
  simp only [List.length_append, List.length_cons]
  omega
theorem flatA_len : ∀ qs : List AskP, (∀ a ∈ qs, askOk a = true) → (flatA qs).length ≤ qs.length * 25000
  | [], _ => Nat.zero_le _
  | a :: qs, h => by
    have k := flatA_len qs (fun x hx => h x (List.mem_cons_of_mem _ hx))
    have q := (askW_len (askI_of (h a (List.mem_cons_self ..)))).2
    have e : flatA (a :: qs) = askW a ++ flatA qs := by unfold flatA; rw [List.flatMap_cons]
    rw [e, List.length_append, List.length_cons, Nat.succ_mul]
    omega
theorem flatA_drop (qs : List AskP) (k : Nat) (h : k < qs.length) : (flatA qs).drop (flatA (qs.take k)).length = askW qs[k] ++ flatA (qs.drop (k + 1)) := by
  have e : flatA qs = flatA (qs.take k) ++ (askW qs[k] ++ flatA (qs.drop (k + 1))) := by
    have q : qs = qs.take k ++ qs[k] :: qs.drop (k + 1) := by rw [← List.drop_eq_getElem_cons h, List.take_append_drop]
    conv => lhs; rw [q]
    unfold flatA
    rw [List.flatMap_append, List.flatMap_cons]
  conv => lhs; rw [e]
  rw [List.drop_left]
theorem flatA_end (qs : List AskP) (k : Nat) (h : k < qs.length) : (flatA (qs.take k)).length + (askW qs[k]).length ≤ (flatA qs).length := by
  have k2 := congrArg List.length (flatA_drop qs k h)
  rw [List.length_drop, List.length_append] at k2
  have : (flatA (qs.take k)).length ≤ (flatA qs).length := by
    unfold flatA
    conv => rhs; rw [← List.take_append_drop k qs]
    rw [List.flatMap_append, List.length_append]; omega
  omega
end Go.Proofs.YtkdnckkdofoaoaaGreatDoor

/- Asks that came in. -/
namespace Go.Proofs.YtkdnckkdofoaoaaGreatDoor
open Go.ChangeShapes Go.WideShapes Go.ChangeAt Go.RowKit
set_option linter.unusedVariables false

def AskAt (w : World) (b o : Nat) (a : AskP) : Prop := ∃ xa xc kx, w.cell? ⟨b, o, none⟩ = some (.string a.m) ∧ w.cell? ⟨b, o + 1, none⟩ = some (.string a.p) ∧ w.cell? ⟨b, o + 2, none⟩ = some (.string a.n) ∧ w.cell? ⟨b, o + 3, none⟩ = some (.string a.v) ∧ w.cell? ⟨b, o + 4, none⟩ = some (.slice xa a.x.length xc) ∧ w.cell? ⟨b, o + 5, none⟩ = some (.int .i64 a.z) ∧ Src w kx (.slice xa a.x.length xc) a.x ∧ (0 < a.x.length → kx < w.heap.size) ∧ (xa = none → xc = 0) ∧ a.z ≤ 9223372036854775807
def Aks (w : World) (a0 : Option Addr) (len : Nat) (qs : List AskP) : Prop := qs.length = len ∧ len ≤ maxLen ∧ (0 < len → ∃ b off, a0 = some ⟨b, off, none⟩ ∧ b < w.heap.size ∧ ∀ (j : Nat) (hj : j < qs.length), AskAt w b (off + j * 6) qs[j])
def datS {H : Type} (x : ByteArray) : DataW H := .lit (.string x.data.toList)
theorem cells_ask : Tryz.prog.cellsOf 51 = 6 := by kernel_rfl
theorem cells_str : Tryz.prog.cellsOf 9 = 1 := by kernel_rfl
theorem cells_bytes : Tryz.prog.cellsOf 22 = 1 := by kernel_rfl
theorem cells_int : Tryz.prog.cellsOf 3 = 1 := by kernel_rfl
set_option maxRecDepth 100000 in
theorem open_asks {H : Type} {enc : TypeId × Value → H} {w : World} {base : Nat} {held : Bool} {a : Option Addr} {len cap : Nat} {x : DataW H × List MemPlace}
    (h : ∃ fuel, DataW.trod enc Tryz.prog w base (fun _ => true) held fuel 48 (Value.slice a len cap).cells.toList = some x) :
    ∃ qs : List AskP, Aks w a len qs ∧ ((x.1 = .nil ∧ qs = []) ∨ ∃ (D : Nat → DataW H) (sp : List (DataW H)), x.1 = .slice ((List.range len).map D) sp ∧ ∀ (i : Nat) (hi : i < qs.length), ∃ dx dz, D i = .agg [datS qs[i].m, datS qs[i].p, datS qs[i].n, datS qs[i].v, dx, dz]) := by
  obtain ⟨fuel, hf⟩ := h
  rcases Go.Deep.open_slice Tryz.underlying48 hf with ⟨hcs, hx⟩ | ⟨ad, l, c, m, n, D, Pl, hcs, hb, hl, hm, hmm, hx, hc⟩
  · simp [Value.cells] at hcs
    obtain ⟨rfl, rfl, rfl⟩ := hcs
    exact ⟨[], ⟨rfl, Nat.zero_le _, fun h => absurd h (Nat.lt_irrefl _)⟩, .inl ⟨by rw [hx], rfl⟩⟩
  · simp [Value.cells] at hcs
    obtain ⟨rfl, rfl, rfl⟩ := hcs
    have hmm' : m = cap := by simpa using hmm
    subst hmm'
    have each : ∀ i, i < len → ∃ q : AskP, (∃ xa xc kx, w.cell? (ad.add (i * 6)) = some (.string q.m) ∧ w.cell? (ad.add (i * 6 + 1)) = some (.string q.p) ∧ w.cell? (ad.add (i * 6 + 2)) = some (.string q.n) ∧ w.cell? (ad.add (i * 6 + 3)) = some (.string q.v) ∧ w.cell? (ad.add (i * 6 + 4)) = some (.slice xa q.x.length xc) ∧ w.cell? (ad.add (i * 6 + 5)) = some (.int .i64 q.z) ∧ Src w kx (.slice xa q.x.length xc) q.x ∧ (0 < q.x.length → kx < w.heap.size) ∧ (xa = none → xc = 0) ∧ q.z ≤ 9223372036854775807) ∧ ∃ dx dz, D i = .agg [datS q.m, datS q.p, datS q.n, datS q.v, dx, dz] := by
      intro i hi
      obtain ⟨cs', h1, h2⟩ := hc i (by omega)
      rw [cells_ask] at h1
      obtain ⟨_, hlen, hcell⟩ := World.cells?_some h1
      obtain ⟨xs, k, hk, hxy, _, hxl, hf⟩ := DataW.trod_struct Tryz.underlying51 h2
      match xs, hxl, cs', hlen with
      | [y0, y1, y2, y3, y4, y5], _, [v0, v1, v2, v3, v4, v5], _ =>
        have g0 := hf 0 _ rfl
        have g1 := hf 1 _ rfl
        have g2 := hf 2 _ rfl
        have g3 := hf 3 _ rfl
        have g4 := hf 4 _ rfl
        have g5 := hf 5 _ rfl
        simp [cells_str, cells_bytes, cells_int] at g0 g1 g2 g3 g4 g5
        have e0 := hcell 0 (by omega)
        have e1 := hcell 1 (by omega)
        have e2 := hcell 2 (by omega)
        have e3 := hcell 3 (by omega)
        have e4 := hcell 4 (by omega)
        have e5 := hcell 5 (by omega)
        rw [Go.Deep.add_add] at e0 e1 e2 e3 e4 e5
        obtain ⟨s0, a0, b0, _⟩ := DataW.trod_string Tryz.underlying9 g0
        obtain ⟨s1, a1, b1, _⟩ := DataW.trod_string Tryz.underlying9 g1
        obtain ⟨s2, a2, b2, _⟩ := DataW.trod_string Tryz.underlying9 g2
        obtain ⟨s3, a3, b3, _⟩ := DataW.trod_string Tryz.underlying9 g3
        obtain ⟨z5, a5, b5, hz5⟩ := DataW.trod_int Tryz.underlying3 g5
        have a0' : v0 = .string s0 := by simpa using a0
        have a1' : v1 = .string s1 := by simpa using a1
        have a2' : v2 = .string s2 := by simpa using a2
        have a3' : v3 = .string s3 := by simpa using a3
        have a5' : v5 = .int .i64 z5 := by simpa using a5
        subst a0' a1' a2' a3' a5' b0 b1 b2 b3 b5
        obtain ⟨xa, xl, xc, hv4⟩ : ∃ xa xl xc, v4 = .slice xa xl xc := by
          rcases DataW.trod_slice Tryz.underlying22 g4 with ⟨hcs, _⟩ | ⟨a', l', c', _, _, _, _, hcs, _⟩
          · exact ⟨none, 0, 0, by simpa using hcs⟩
          · exact ⟨some a', l', c', by simpa using hcs⟩
        subst hv4
        obtain ⟨kb, bs, hS, hkS, hnS⟩ := open_bytes (a := xa) (len := xl) (cap := xc) ⟨_, g4⟩
        have hxl2 := hS.len.1
        subst hxl2
        simp only [Prod.mk.injEq] at hxy
        refine ⟨⟨s0, s1, s2, s3, bs, z5⟩, ⟨xa, xc, kb, by simpa using e0, by simpa using e1, by simpa using e2, by simpa using e3, by simpa using e4, by simpa using e5, hS, hkS, hnS, (bounds_i64 hz5).2⟩, y4.1, .lit (.int .i64 z5), ?_⟩
        rw [hxy.1]
        rfl
    haveI : Inhabited AskP := ⟨⟨⟨#[]⟩, ⟨#[]⟩, ⟨#[]⟩, ⟨#[]⟩, [], 0⟩⟩
    obtain ⟨q, hq⟩ := Go.Deep.choose_lt each
    have hln : ((List.range len).map q).length = len := by simp
    refine ⟨(List.range len).map q, ⟨hln, by omega, fun hp => ?_⟩, .inr ⟨D, _, by rw [hx], fun i hi => ?_⟩⟩
    · obtain ⟨b, off, spot⟩ := ad
      have h0 := (hq 0 hp).1
      obtain ⟨_, _, _, hc0, _⟩ := h0
      have hspot : spot = none := by simpa [Addr.add] using World.cell?_spot hc0
      subst hspot
      refine ⟨b, off, rfl, ?_, fun j hj => ?_⟩
      · have := cell_lt hc0
        rwa [addr_add] at this
      · have hj' : j < len := by rw [hln] at hj; exact hj
        have e : ((List.range len).map q)[j]'hj = q j := by simp
        rw [e]
        obtain ⟨xa, xc, kx, k0, k1, k2, k3, k4, k5, k6⟩ := (hq j hj').1
        rw [addr_add] at k0 k1 k2 k3 k4 k5
        exact ⟨xa, xc, kx, k0, by rw [Nat.add_assoc]; exact k1, by rw [Nat.add_assoc]; exact k2, by rw [Nat.add_assoc]; exact k3, by rw [Nat.add_assoc]; exact k4, by rw [Nat.add_assoc]; exact k5, k6⟩
    · have hi' : i < len := by rw [hln] at hi; exact hi
      have e : ((List.range len).map q)[i]'hi = q i := by simp
      rw [e]
      exact (hq i hi').2
theorem bulk_mem {H : Type} : ∀ (l : List (DataW H)) (d : DataW H), d ∈ l → Rows.uptoBulk d ≤ Rows.uptoBulkAll l
  | x :: l, d, h => by
    simp only [Rows.uptoBulkAll]
    rcases List.mem_cons.1 h with rfl | h
    · omega
    · have := bulk_mem l d h; omega
structure AskBd (a : AskP) : Prop where
  m : a.m.size ≤ 1048576
  p : a.p.size ≤ 1048576
  n : a.n.size ≤ 1048576
  v : a.v.size ≤ 1048576
theorem bulk_asks {H : Type} {d : DataW H} {len : Nat} {qs : List AskP} (hl : qs.length = len) (hx : (d = .nil ∧ qs = []) ∨ ∃ (D : Nat → DataW H) (sp : List (DataW H)), d = .slice ((List.range len).map D) sp ∧ ∀ (i : Nat) (hi : i < qs.length), ∃ dx dz, D i = .agg [datS qs[i].m, datS qs[i].p, datS qs[i].n, datS qs[i].v, dx, dz]) (h : Rows.uptoBulk d ≤ 1048576) : ∀ a ∈ qs, AskBd a := by
  rcases hx with ⟨_, rfl⟩ | ⟨D, sp, rfl, hD⟩
  · intro a ha; cases ha
  · intro a ha
    obtain ⟨i, hi, rfl⟩ := List.mem_iff_getElem.1 ha
    obtain ⟨dx, dz, e⟩ := hD i hi
    simp only [Rows.uptoBulk] at h
    have k := bulk_mem ((List.range len).map D) (D i) (List.mem_map.2 ⟨i, List.mem_range.2 (by omega), rfl⟩)
    rw [e] at k
    simp only [Rows.uptoBulk, Rows.uptoBulkAll, datS] at k
    have e0 := len_size qs[i].m
    have e1 := len_size qs[i].p
    have e2 := len_size qs[i].n
    have e3 := len_size qs[i].v
    exact ⟨by omega, by omega, by omega, by omega⟩
end Go.Proofs.YtkdnckkdofoaoaaGreatDoor

/- WholeRequests walked. -/
namespace Go.Proofs.YtkdnckkdofoaoaaGreatDoor
open Go.ChangeShapes Go.WideShapes Go.ChangeAt Go.RowKit
set_option linter.unusedVariables false

theorem req_at {W : World} {g : Nat} {l : List UInt8} (v : Value) (hS : Src W g v l) (hg : 0 < l.length → g < W.heap.size) (hM : MaxL W) (hl : l.length ≤ 1048576) : Calls Tryz.prog 8 #[v] W (ReqR W (reqQ l)) := by
  obtain ⟨a, c, rfl, _⟩ := id hS
  exact hreq_any l g c a W hS hg hM hl
theorem Fds.cells3 {B : Nat} {w : World} {g o c : Nat} {f0 f2 : ByteArray × ByteArray} {n v : ByteArray} (h : Fds B w (.slice (some ⟨g, o, none⟩) 3 c) [f0, (n, v), f2]) : w.cell? ⟨g, o + 3, none⟩ = some (.string v) := by
  obtain ⟨a', c', e, _, _, _, q⟩ := h
  obtain ⟨e1, _, _⟩ := slice_inj e
  obtain ⟨g', o', e2, _, hc⟩ := q (show 0 < 3 by decide)
  rw [e2] at e1
  have e3 : g = g' ∧ o = o' := by simpa using e1
  obtain ⟨rfl, rfl⟩ := e3
  exact (hc 1 (show 1 < 3 by decide)).2
theorem conv_back0 {w : World} {k : Nat} {a : Option Addr} {n c : Nat} {b : List UInt8} (h : Src w k (.slice a n c) b) : (convert 22 9 (.slice a n c)).run Tryz.prog w = .ok (.string ⟨b.toArray⟩) w := by
  rcases Nat.eq_zero_or_pos n with h0 | hp
  · obtain ⟨a', c', e, _⟩ := id h
    obtain ⟨e1, e2, e3⟩ := slice_inj e
    subst h0
    have hb : b = [] := List.length_eq_zero_iff.1 e2.symm
    subst hb
    cases a with
    | none =>
      rw [run_convert_bytes_string w 22 9 5 none 0 c Tryz.underlying22 Tryz.underlying5 Tryz.underlying9]
      rfl
    | some a => exact run_convert_bytes_back (P := Tryz.prog) w 22 9 5 a c [] Tryz.underlying22 Tryz.underlying5 Tryz.underlying9 (fun j hj => absurd hj (Nat.not_lt_zero j))
  · exact conv_back h hp
theorem asks_cap {H : Type} {enc : TypeId × Value → H} {w : World} {base : Nat} {held : Bool} {a : Option Addr} {len cap : Nat} {x : DataW H × List MemPlace}
    (h : ∃ fuel, DataW.trod enc Tryz.prog w base (fun _ => true) held fuel 48 (Value.slice a len cap).cells.toList = some x) : len ≤ cap ∧ cap ≤ maxLen := by
  obtain ⟨fuel, hf⟩ := h
  rcases Go.Deep.open_slice Tryz.underlying48 hf with ⟨hcs, hx⟩ | ⟨ad, l, c, m, n, D, Pl, hcs, hb, hl, hm, hmm, hx, hc⟩
  · simp [Value.cells] at hcs
    obtain ⟨rfl, rfl, rfl⟩ := hcs
    exact ⟨Nat.le_refl _, Nat.zero_le _⟩
  · simp [Value.cells] at hcs
    obtain ⟨rfl, rfl, rfl⟩ := hcs
    exact ⟨hl, hm⟩
theorem askAt_keep {w W : World} {b o : Nat} {a : AskP} (h : AskAt w b o a) (hb : b < w.heap.size) (B : Below w.heap.size w W) : AskAt W b o a := by
  obtain ⟨xa, xc, kx, c0, c1, c2, c3, c4, c5, hS, hk, hn, hz⟩ := h
  exact ⟨xa, xc, kx, (B.cell (p := ⟨b, o, none⟩) hb).trans c0, (B.cell (p := ⟨b, o + 1, none⟩) hb).trans c1, (B.cell (p := ⟨b, o + 2, none⟩) hb).trans c2, (B.cell (p := ⟨b, o + 3, none⟩) hb).trans c3, (B.cell (p := ⟨b, o + 4, none⟩) hb).trans c4, (B.cell (p := ⟨b, o + 5, none⟩) hb).trans c5, hS.keep hk B, fun q => Nat.lt_of_lt_of_le (hk q) B.size, hn, hz⟩

set_option maxRecDepth 100000 in
set_option maxHeartbeats 32000000 in
theorem whole5_walk (qs : List AskP) (a0 : Option Addr) (len cap : Nat) (cut : Int) (w : World) (hA : Aks w a0 len qs) (hlc : len ≤ cap) (hcm : cap ≤ maxLen) (hbd : ∀ a ∈ qs, AskBd a) (hL : Lv w) (hT : TzOk w) :
    Calls Tryz.prog 6 #[.slice a0 len cap, .int .i64 cut] w fun e w' => e = .returned (.bool true) ∧ Below w.heap.size w w' := by
  have HA : Hid (Calls Tryz.prog 27 #[] w fun e w' => e = .returned (.bool true) ∧ Below w.heap.size w w') := sound5_any w hL
  obtain ⟨hql, hlm, hcells⟩ := hA
  unfold maxLen at hlm hcm
  by_cases hbig : 12 < len
  · have h1 : (12 : Int) < (len : Int) := by omega
    clear hbd hL hT hcells hql
    go_enter Tryz.func6, Tryz.ntmps6
    go_wp2_with fail
    refine HA.out.mono ?_
    rintro e w1 ⟨rfl, B1⟩
    go_wp2
    go_ret
    exact ⟨rfl, B1⟩
  have h1 : ¬ (12 : Int) < (len : Int) := by omega
  have h1b : decide ((12 : Int) < (len : Int)) = false := decide_eq_false h1
  have HL : Hid (Lv w) := hL
  have HTZ : Hid (TzOk w) := hT
  have HBD : Hid (∀ a ∈ qs, AskBd a) := hbd
  rcases Nat.eq_zero_or_pos len with h0 | hp
  · subst h0
    have HRN : Hid (∀ (W : World) (v : Value) (g : Nat), Below w.heap.size w W → Src W g v [] → Calls Tryz.prog 8 #[v] W (ReqR W (rdNo 0))) := fun W v g B S => by
      have k := req_at v S (fun q => absurd q (Nat.lt_irrefl _)) (HL.out.below B).max (by decide)
      rw [req_nil] at k
      exact k
    clear hcells hbd hL hT hql HBD
    go_enter Tryz.func6, Tryz.ntmps6
    go_wp2_with fail
    refine HA.out.mono ?_
    rintro e w1 ⟨rfl, B1⟩
    go_wp2_with fail
    refine wp_loop_rounds 1 ?_
    rw [rounds_succ]
    go_wp2_with fail
    refine wp_loop_rounds 1 ?_
    rw [rounds_succ]
    have C3 : Below w.heap.size w ((w1.alloc (.cells #[] 5)).alloc (.cells #[] 3)) := (B1.alloc B1.size _).alloc (by have := B1.size; simp; omega) _
    go_wp2_with fail
    unfold ReqR rdV rdNo at HRN
    simp only at HRN
    refine (HRN.out _ _ 0 C3 ⟨_, _, rfl, Nat.le_refl _, Nat.zero_le _, fun h => absurd h (Nat.lt_irrefl _)⟩).mono ?_
    rintro e w4 ⟨fa, ba, fc, bc, rfl, _, _, B4⟩
    have C5 := (C3.trans (B4.mono C3.size)).alloc (C3.trans (B4.mono C3.size)).size (.cells #[.string ⟨#[]⟩, .string ⟨#[]⟩, .int .i64 0, .slice fa 0 fc, .slice ba 0 bc] 26)
    go_wp2
    go_ret
    exact ⟨rfl, C5⟩
  obtain ⟨b, off, rfl, hb, hAt⟩ := hcells hp
  subst hql
  have HAT : Hid (∀ (W : World) (j : Nat) (hj : j < qs.length), Below w.heap.size w W → AskAt W b (off + j * 6) qs[j]) := fun W j hj B => askAt_keep (hAt j hj) hb B
  clear hbd hL hT hcells hAt hbig hp
  go_enter Tryz.func6, Tryz.ntmps6
  go_wp2_with fail
  refine HA.out.mono ?_
  rintro e w1 ⟨rfl, B1⟩
  clear HA
  have HB1 : Hid (Below w.heap.size w w1) := B1
  clear B1
  have HS0 := TwoI.start w1
  go_wp2_with fail
  go_loopw [5, 6, 33] (fun va ve vi wr => ∃ (k gx cx gy cy : Nat), k ≤ qs.length ∧ va = .slice (some ⟨gx, 0, none⟩) (flatA (qs.take k)).length cx ∧ ve = .slice (some ⟨gy, 0, none⟩) k cy ∧ vi = .int .i64 k ∧ Hid (∀ a ∈ qs.take k, askOk a = true) ∧ Hid (TwoI w1 wr va ve (flatA (qs.take k)) (endsA (qs.take k)))) (fun _ _ vi _ => qs.length - (intOf vi).toNat)
  case atStart => exact ⟨0, _, 0, _, 0, Nat.zero_le _, rfl, rfl, rfl, (fun a ha => by simp at ha), HS0⟩
  case round =>
    obtain ⟨k, gx, cx, gy, cy, hk, rfl, rfl, rfl, hok, hT2⟩ := hrel
    clear HS0
    have hBr := hT2.out.bel
    have hBw := HB1.out.trans (hBr.mono HB1.out.size)
    by_cases hlt : k < qs.length
    · have hXb : (flatA (qs.take k)).length ≤ 300000 := by
        have q := flatA_len _ hok.out
        rw [List.length_take] at q
        omega
      have hok2 : Hid (askOk qs[k] = true → ∀ a ∈ qs.take (k + 1), askOk a = true) := fun h a ha => by
        rw [List.take_succ_eq_append_getElem hlt] at ha
        rcases List.mem_append.1 ha with q | q
        · exact hok.out a q
        · rw [List.mem_singleton.1 q]; exact h
      have hfs : Hid (flatA (qs.take (k + 1)) = flatA (qs.take k) ++ askW qs[k]) := flatA_snoc qs k hlt
      have hes : Hid (endsA (qs.take (k + 1)) = endsA (qs.take k) ++ [(flatA (qs.take (k + 1))).length]) := endsA_snoc qs k hlt
      have hel : Hid ((endsA (qs.take k)).length = k) := by rw [Hid, endsA_len, List.length_take]; omega
      have hbk := HBD.out qs[k] (List.getElem_mem hlt)
      obtain ⟨xa, xc, kx, c0, c1, c2, c3, c4, c5, hS, hkS, hnS, hzz⟩ := HAT.out wr k hlt hBw
      generalize qs[k] = a at *
      obtain ⟨m, p, n, v, x, z⟩ := a
      simp only at c0 c1 c2 c3 c4 c5 hS hkS hnS hzz
      have U : Below wr.heap.size wr (wr.alloc (.cells #[.string m, .string p, .string n, .string v, .slice xa x.length xc, .int .i64 z] 51)) := (Below.refl _ _).alloc (Nat.le_refl _) _
      have HAB : Hid (Calls Tryz.prog 28 #[.agg #[.string m, .string p, .string n, .string v, .slice xa x.length xc, .int .i64 z]] (wr.alloc (.cells #[.string m, .string p, .string n, .string v, .slice xa x.length xc, .int .i64 z] 51)) (AskR (wr.alloc (.cells #[.string m, .string p, .string n, .string v, .slice xa x.length xc, .int .i64 z] 51)) ⟨m, p, n, v, x, z⟩)) := by
        have D := hBw.trans (U.mono hBw.size)
        exact abytes_any m p n v x z kx xc xa _ (hS.keep hkS U) (fun q => Nat.lt_of_lt_of_le (hkS q) U.size) hnS hbk.m hbk.p hbk.n hbk.v (by have q := hS.len; omega) hzz (HL.out.below D) (HTZ.out.below D)
      have hr2 := tblk_new wr (.cells #[.string m, .string p, .string n, .string v, .slice xa x.length xc, .int .i64 z] 51)
      obtain ⟨k0, k1, k2, k3, k4, k5⟩ := ask_blk hr2
      have HXB : Hid ((flatA (qs.take k)).length ≤ 300000) := hXb
      clear hS hkS hbk hr2 hXb
      go_wp2_with fail
      refine HAB.out.mono ?_
      intro e w2 hR
      clear k0 k1 k2 k3 k4 k5 c0 c1 c2 c3 c4 c5 HAB
      cases hq : askOk ⟨m, p, n, v, x, z⟩
      · unfold AskR at hR
        rw [if_neg (by rw [hq]; decide)] at hR
        obtain ⟨rfl, B2⟩ := hR
        have D2 := hBw.trans ((U.trans (B2.mono U.size)).mono hBw.size)
        clear hq hok2 hfs hes hel HXB hT2 hok
        go_wp2
        go_ret
        exact ⟨rfl, D2⟩
      · unfold AskR at hR
        rw [if_pos hq] at hR
        obtain ⟨v2, rfl, G2, B2⟩ := hR
        obtain ⟨g2, c2, rfl, _, _⟩ := G2.form
        obtain ⟨kk, S2, _, _⟩ := G2.src
        have T3 := hT2.out.keep (U.trans (B2.mono U.size))
        have hab := askW_len (askI_of hq)
        obtain ⟨v4, w4, r4, T4⟩ := T3.appX S2 (fun e => by cases e) (by have := HXB.out; omega)
        obtain ⟨gx4, cx4, gy4, cy4, e4, e4y⟩ := T4.forms
        clear e4y
        rw [← hfs.out] at T4 e4
        subst e4
        obtain ⟨v5, w5, r5, T5⟩ := T4.appY (flatA (qs.take (k + 1))).length (by rw [hel.out]; omega)
        obtain ⟨gx5, cx5, gy5, cy5, e5x, e5⟩ := T5.forms
        clear e5x
        rw [← hes.out] at T5 e5
        have hel2 : (endsA (qs.take (k + 1))).length = k + 1 := by rw [endsA_len, List.length_take]; omega
        rw [hel2] at e5
        subst e5
        obtain ⟨L2, hL2⟩ : ∃ L2, L2 = (flatA (qs.take (k + 1))).length := ⟨_, rfl⟩
        rw [← hL2] at r4 r5 T5
        obtain ⟨zl, hzl⟩ : ∃ zl, zl = (askW ⟨m, p, n, v, x, z⟩).length := ⟨_, rfl⟩
        rw [← hzl] at r4
        obtain ⟨xl, hxl⟩ : ∃ xl, xl = (flatA (qs.take k)).length := ⟨_, rfl⟩
        rw [← hxl] at r4
        have HR4 : Hid ((Builtin.append_ #[22, 22] 22 #[.slice (some ⟨gx, 0, none⟩) xl cx, .slice (some ⟨g2, 0, none⟩) zl c2]).run Tryz.prog w2 = .ok (.slice (some ⟨gx4, 0, none⟩) L2 cx4) w4) := r4
        have HR5 : Hid ((Builtin.append_ #[49, 49] 49 #[.slice (some ⟨gy, 0, none⟩) k cy, .slice (some ⟨w4.heap.size, 0, none⟩) 1 1]).run Tryz.prog (w4.alloc (.cells #[.int .i64 (L2 : Int)] 3)) = .ok (.slice (some ⟨gy5, 0, none⟩) (k + 1) cy5) w5) := r5
        have HT5 : Hid (TwoI w1 w5 (.slice (some ⟨gx4, 0, none⟩) L2 cx4) (.slice (some ⟨gy5, 0, none⟩) (k + 1) cy5) (flatA (qs.take (k + 1))) (endsA (qs.take (k + 1)))) := T5
        have HOK : Hid (∀ a ∈ qs.take (k + 1), askOk a = true) := hok2.out hq
        have HL2 : Hid (L2 = (flatA (qs.take (k + 1))).length) := hL2
        rw [← hxl, ← hzl]
        have h2l : L2 ≤ 400000 := by
          have e := congrArg List.length hfs.out
          rw [List.length_append, ← hL2, ← hxl, ← hzl] at e
          have := HXB.out
          omega
        clear T3 T4 T5 r4 r5 S2 G2 B2 hT2 hok hok2 hes hel hfs U hq hab hel2 HXB hL2 hxl hzl
        go_wp2_with (at_builtin; first | refine wpList_append_run2 rfl _ _ 22 22 rfl _ _ _ w4 rfl rfl HR4.out ?_ | refine wpList_append_run2 rfl _ _ 49 49 rfl _ _ _ w5 rfl rfl HR5.out ?_)
        go_roundw
        case rel => exact ⟨k + 1, gx4, cx4, gy5, cy5, by omega, by rw [HL2.out], rfl, by go_num, HOK, HT5⟩
        case measure => simp [intOf]; omega
    · have hk' : k = qs.length := by omega
      subst hk'
      rw [List.take_length] at *
      clear hlt hk
      obtain ⟨wo, rfl⟩ : ∃ wo, wo = wr := ⟨_, rfl⟩
      have hXb : (flatA qs).length ≤ 300000 := by
        have q := flatA_len _ hok.out
        omega
      obtain ⟨gx', gy', hX, hY, _, _, _, _⟩ := hT2.out
      have eg : gx' = gx := by have k := hX.1; simpa [Value.ownBlock] using k.symm
      subst eg
      have eg2 : gy' = gy := by have k := hY.1; simpa [Value.ownBlock] using k.symm
      subst eg2
      have hXl := hX.src.len
      have hcx1 : (flatA qs).length ≤ cx := hXl.2.1
      have hcx2 : cx ≤ maxLen := hXl.2.2
      unfold maxLen at hcx2
      have HXS : Hid (∀ W, Below wo.heap.size wo W → Src W gx' (.slice (some ⟨gx', 0, none⟩) (flatA qs).length cx) (flatA qs) ∧ gx' < W.heap.size) := fun W B => ⟨hX.src.keep (fun _ => hX.lt) B, Nat.lt_of_lt_of_le hX.lt B.size⟩
      have HYC : Hid (∀ W, Below wo.heap.size wo W → ∀ (j : Nat) (hj : j < qs.length), W.cell? ⟨gy', j, none⟩ = some (.int .i64 ((flatA (qs.take (j + 1))).length : Nat))) := fun W B j hj => by
        have k := hY.cell j (by rw [endsA_len]; exact hj)
        rw [endsA_at] at k
        exact (B.cell (p := ⟨gy', j, none⟩) hY.lt).trans k
      have HOK : Hid (∀ a ∈ qs, askOk a = true) := hok.out
      have HBW : Hid (Below w.heap.size w wo) := hBw
      have hlen12 : qs.length ≤ 12 := by omega
      clear hX hY hXl hT2 hok hBr hBw
      go_wp2_with fail
      go_loopw [11, 55] (fun vat vi wr => ∃ k : Nat, k ≤ qs.length ∧ vat = .int .i64 ((flatA (qs.take k)).length : Nat) ∧ vi = .int .i64 k ∧ Below wo.heap.size wo wr) (fun _ vi _ => qs.length - (intOf vi).toNat)
      case atStart => exact ⟨0, Nat.zero_le _, rfl, rfl, Below.refl _ _⟩
      case round =>
        obtain ⟨k, hk, rfl, rfl, hB⟩ := hrel
        by_cases hlt : k < qs.length
        · have hI := askI_of (HOK.out qs[k] (List.getElem_mem hlt))
          have hfd := flatA_drop qs k hlt
          have hfe := flatA_end qs k hlt
          have hN := askW_len hI
          have hfs := congrArg List.length (flatA_snoc qs k hlt)
          rw [List.length_append] at hfs
          have hye : ∀ W, Below wo.heap.size wo W → W.cell? ⟨gy', k, none⟩ = some (.int .i64 ((flatA (qs.take k)).length + (askW qs[k]).length : Nat)) := fun W B => by
            have q := HYC.out W B k hlt
            rw [hfs] at q
            exact q
          have hrd : reqQ ((flatA qs).drop (flatA (qs.take k)).length) = ⟨qs[k].m, pathT qs[k].p, 1, askF qs[k], qs[k].x, (askW qs[k]).length, 0⟩ := by rw [hfd]; exact ask_read hI _
          have hsh : ∀ q, q < (askW qs[k]).length → reqQ (((flatA qs).drop (flatA (qs.take k)).length).take q) = rdNo 0 := fun q hq => by rw [hfd]; exact ask_short hI _ q hq
          have hfl : (askF qs[k]).length = 3 := rfl
          have hff : ∃ f0 f2, askF qs[k] = [f0, (qs[k].n, qs[k].v), f2] := ⟨_, _, rfl⟩
          obtain ⟨at_, hat⟩ : ∃ at_, at_ = (flatA (qs.take k)).length := ⟨_, rfl⟩
          obtain ⟨N, hNd⟩ : ∃ N, N = (askW qs[k]).length := ⟨_, rfl⟩
          rw [← hat, ← hNd] at hye hfe hfs
          rw [← hat] at hfd
          rw [← hat, ← hNd] at hrd
          rw [← hat, ← hNd] at hsh
          rw [← hNd] at hN
          have hx1000 := hI.xs
          have hbk2 := HBD.out qs[k] (List.getElem_mem hlt)
          obtain ⟨xa, xc, kx, c0, c1, c2, c3, c4, c5, hS, hkS, hnS, hzz⟩ := HAT.out wr k hlt (HBW.out.trans (hB.mono HBW.out.size))
          have HSN : Hid ((flatA (qs.take (k + 1))).length = at_ + N) := hfs
          have HSH : Hid (∀ q, q < N → reqQ (((flatA qs).drop at_).take q) = rdNo 0) := hsh
          have HFF : Hid (∃ f0 f2, askF qs[k] = [f0, (qs[k].n, qs[k].v), f2]) := hff
          generalize askF qs[k] = FS at *
          generalize qs[k] = a at *
          obtain ⟨m, p, n, v, x, z⟩ := a
          simp only at c0 c1 c2 c3 c4 c5 hS hkS hnS hzz hrd HFF hx1000
          rw [← hat]
          obtain ⟨f0, f2, rfl⟩ := HFF.out
          have U1 : Below wr.heap.size wr (wr.alloc (.cells #[.string m, .string p, .string n, .string v, .slice xa x.length xc, .int .i64 z] 51)) := (Below.refl _ _).alloc (Nat.le_refl _) _
          have D1 : Below wo.heap.size wo (wr.alloc (.cells #[.string m, .string p, .string n, .string v, .slice xa x.length xc, .int .i64 z] 51)) := hB.trans (U1.mono hB.size)
          have HCT : Hid (∀ W, Below wo.heap.size wo W → Src W gx' (.slice (some ⟨gx', at_, none⟩) ((flatA qs).length - at_) (cx - at_)) ((flatA qs).drop at_)) := fun W B => (HXS.out W B).1.cut (m := at_) (a' := some ⟨gx', at_, none⟩) (by omega) (fun _ => by rw [Option.map_some, addr_add, Nat.zero_add])
          have HDL : Hid (((flatA qs).drop at_).length ≤ 1048576) := by rw [Hid, List.length_drop]; omega
          have HQ1 : Hid (Calls Tryz.prog 8 #[.slice (some ⟨gx', at_, none⟩) ((flatA qs).length - at_) (cx - at_)] (wr.alloc (.cells #[.string m, .string p, .string n, .string v, .slice xa x.length xc, .int .i64 z] 51)) (ReqR (wr.alloc (.cells #[.string m, .string p, .string n, .string v, .slice xa x.length xc, .int .i64 z] 51)) ⟨m, pathT p, 1, [f0, (n, v), f2], x, N, 0⟩)) := by
            have k := req_at _ (HCT.out _ D1) (fun _ => (HXS.out _ D1).2) (HL.out.below (HBW.out.trans (D1.mono HBW.out.size))).max HDL.out
            rw [hrd] at k
            exact k
          have HQ2 : Hid (∀ W q, Below wo.heap.size wo W → q < N → Calls Tryz.prog 8 #[.slice (some ⟨gx', at_, none⟩) q (cx - at_)] W (ReqR W (rdNo 0))) := fun W q B hq => by
            have S := (HCT.out W B).take (m := q) (by rw [List.length_drop]; omega)
            have k := req_at _ S (fun _ => (HXS.out _ B).2) (HL.out.below (HBW.out.trans (B.mono HBW.out.size))).max (by have := HDL.out; rw [List.length_take]; omega)
            rw [HSH.out q hq] at k
            exact k
          unfold ReqR rdV at HQ1
          unfold ReqR rdV rdNo at HQ2
          simp only at HQ1 HQ2
          have hl3 : [f0, (n, v), f2].length = 3 := rfl
          rw [hl3] at HQ1
          have hr1 := tblk_new wr (.cells #[.string m, .string p, .string n, .string v, .slice xa x.length xc, .int .i64 z] 51)
          obtain ⟨k0, k1, k2, k3, k4, k5⟩ := ask_blk hr1
          have hatc : ¬ cx = at_ := by omega
          have hatl : at_ ≤ (flatA qs).length := by omega
          have hsum : at_ + N ≤ 300000 := by omega
          have hatc2 : at_ ≤ cx := by omega
          have HN : Hid (0 < N ∧ N ≤ 25000) := hN
          have HFE : Hid (at_ + N ≤ (flatA qs).length) := hfe
          have hcat : ∀ W : World, (Op.stringOp .add ⟨#[47]⟩ p).run Tryz.prog W = .ok (.string (pathT p)) W := fun W => sum_run W ⟨#[47]⟩ p (by have := hbk2.p; show 1 + p.size ≤ _; simp only at this; omega)
          have HSX : Hid (∀ W, Below wr.heap.size wr W → Src W kx (.slice xa x.length xc) x) := fun W B => hS.keep hkS B
          clear hS hkS hnS hzz hrd hfd hfs hsh hff HFF hfl hI HYC HAT hbk2 hl3 hfe hat hNd hN
          go_wp2_with fail
          refine HQ1.out.mono ?_
          rintro e w2 ⟨fa, ba, fc, bc, rfl, F2, O2, B2⟩
          obtain ⟨gf, of_, hfa⟩ : ∃ gf of_, fa = some ⟨gf, of_, none⟩ := by
            obtain ⟨af, cf, ef, _, _, _, qf⟩ := F2.fds
            obtain ⟨e1, _, _⟩ := slice_inj ef
            obtain ⟨gf, of_, e2, _⟩ := qf (show 0 < 3 by decide)
            exact ⟨gf, of_, e1.trans e2⟩
          subst hfa
          have U3 : Below w2.heap.size w2 (w2.alloc (.cells #[.string m, .string (pathT p), .int .i64 1, .slice (some ⟨gf, of_, none⟩) 3 fc, .slice ba x.length bc] 26)) := (Below.refl _ _).alloc (Nat.le_refl _) _
          have V3 : Below (wr.alloc (.cells #[.string m, .string p, .string n, .string v, .slice xa x.length xc, .int .i64 z] 51)).heap.size (wr.alloc (.cells #[.string m, .string p, .string n, .string v, .slice xa x.length xc, .int .i64 z] 51)) (w2.alloc (.cells #[.string m, .string (pathT p), .int .i64 1, .slice (some ⟨gf, of_, none⟩) 3 fc, .slice ba x.length bc] 26)) := B2.trans (U3.mono B2.size)
          have D3 := D1.trans (V3.mono D1.size)
          have hr3 := tblk_below hr1 V3
          obtain ⟨j0, j1, j2, j3, j4, j5⟩ := ask_blk hr3
          have ht3 := tblk_new w2 (.cells #[.string m, .string (pathT p), .int .i64 1, .slice (some ⟨gf, of_, none⟩) 3 fc, .slice ba x.length bc] 26)
          have r0 := tblk_cell (i := 0) ht3 rfl
          have r1 := tblk_cell (i := 1) ht3 rfl
          have r3 := tblk_cell (i := 3) ht3 rfl
          have r4 := tblk_cell (i := 4) ht3 rfl
          have ye := hye _ D3
          have hcf := (F2.keep U3).fds.cells3
          have f1v : (w2.alloc (.cells #[.string m, .string (pathT p), .int .i64 1, .slice (some ⟨gf, of_, none⟩) 3 fc, .slice ba x.length bc] 26)).cell? ⟨gf, of_ + 3, none⟩ = some (.string v) := by
            exact hcf
          have O3 := O2.keep U3
          have hcv1 : ∀ d, (convert 22 9 (.slice ba x.length bc)).run Tryz.prog ((w2.alloc (.cells #[.string m, .string (pathT p), .int .i64 1, .slice (some ⟨gf, of_, none⟩) 3 fc, .slice ba x.length bc] 26)).drewN d) = .ok (.string (tx x)) ((w2.alloc (.cells #[.string m, .string (pathT p), .int .i64 1, .slice (some ⟨gf, of_, none⟩) 3 fc, .slice ba x.length bc] 26)).drewN d) := fun d => by
            obtain ⟨kk, S, hkk⟩ := O3.src
            exact conv_back0 (S.keep (fun q => (hkk q).2) (lbelow_drewN _ _ d))
          have hcv2 : ∀ d, (convert 22 9 (.slice xa x.length xc)).run Tryz.prog ((w2.alloc (.cells #[.string m, .string (pathT p), .int .i64 1, .slice (some ⟨gf, of_, none⟩) 3 fc, .slice ba x.length bc] 26)).drewN d) = .ok (.string (tx x)) ((w2.alloc (.cells #[.string m, .string (pathT p), .int .i64 1, .slice (some ⟨gf, of_, none⟩) 3 fc, .slice ba x.length bc] 26)).drewN d) := fun d => by
            have W3 : Below wr.heap.size wr ((w2.alloc (.cells #[.string m, .string (pathT p), .int .i64 1, .slice (some ⟨gf, of_, none⟩) 3 fc, .slice ba x.length bc] 26)).drewN d) := (U1.trans (V3.mono U1.size)).trans (lbelow_drewN _ _ d)
            have S := HSX.out _ W3
            exact conv_back0 S
          clear hcf F2 O2 O3 B2 U3 V3 hr1 hr3 ht3 k0 k1 k2 k3 k4 k5 c0 c1 c2 c3 c4 c5 HQ1 hye D1 U1
          go_wp2_with fail
          have hN0 := HN.out.1
          have hNn : ¬ ((N : Int) = 0) := by omega
          obtain ⟨t, ht, hbt0⟩ := and_mask cut 1048575 (by decide)
          have hbt : bits BinOp.and IntKind.i64 cut 1048575 = (t : Int) := hbt0
          clear hbt0
          obtain ⟨q, hq⟩ : ∃ q, q = t % N := ⟨_, rfl⟩
          have hqN : q < N := by rw [hq]; exact Nat.mod_lt _ hN0
          have hrem : ((t : Int)).tmod (N : Int) = (q : Int) := by rw [Int.tmod_eq_emod_of_nonneg (by omega), hq, Int.natCast_emod]
          clear hq ht
          go_quiet (fail)
          have D4 := D3.trans (lbelow_drewN wo.heap.size (w2.alloc (.cells #[.string m, .string (pathT p), .int .i64 1, .slice (some ⟨gf, of_, none⟩) 3 fc, .slice ba x.length bc] 26)) nq)
          have hcq : at_ + q ≤ cx := by have := HFE.out; omega
          clear hcv1 hcv2 j0 j1 j2 j3 j4 j5 r0 r1 r3 r4 ye f1v hcat
          go_wp2_with fail
          refine (HQ2.out _ q D4 hqN).mono ?_
          rintro e w5 ⟨fa5, ba5, fc5, bc5, rfl, _, _, B5⟩
          have D5 := D4.trans (B5.mono D4.size)
          go_wp2_with fail
          go_roundw
          case rel => exact ⟨k + 1, by omega, by rw [HSN.out]; go_num, by go_num, (D5.alloc D5.size _)⟩
          case measure => simp [intOf]; omega
        · have hk' : k = qs.length := by omega
          subst hk'
          rw [List.take_length]
          have HRN : Hid (∀ (v : Value) (g : Nat), Src wr g v [] → Calls Tryz.prog 8 #[v] wr (ReqR wr (rdNo 0))) := fun v g S => by
            have D := HBW.out.trans (hB.mono HBW.out.size)
            have k := req_at v S (fun q => absurd q (Nat.lt_irrefl _)) (HL.out.below D).max (by decide)
            rw [req_nil] at k
            exact k
          unfold ReqR rdV rdNo at HRN
          simp only at HRN
          have HE : Hid (Below w.heap.size w wr) := HBW.out.trans (hB.mono HBW.out.size)
          obtain ⟨L, hL⟩ : ∃ L, L = (flatA qs).length := ⟨_, rfl⟩
          rw [← hL] at *
          have hLs : L - L = 0 := Nat.sub_self _
          clear hL hlt hk HXS HYC HAT HOK hB
          go_wp2_with fail
          all_goals (
            refine (HRN.out _ gx' ⟨_, _, rfl, Nat.zero_le _, (by unfold maxLen; omega), fun h => absurd h (Nat.lt_irrefl _)⟩).mono ?_
            rintro e w5 ⟨fa5, ba5, fc5, bc5, rfl, _, _, B5⟩
            have D5 := HE.out.trans (B5.mono HE.out.size)
            have D6 := D5.alloc D5.size (.cells #[.string ⟨#[]⟩, .string ⟨#[]⟩, .int .i64 0, .slice fa5 0 fc5, .slice ba5 0 bc5] 26)
            go_wp2
            go_ret
            exact ⟨rfl, D6⟩)
end Go.Proofs.YtkdnckkdofoaoaaGreatDoor

/- Whatever the requests (of bulk at most 1048576 together) and the cut, WholeRequests answers true: right requests, written one behind the other, each with its body in chunks or by its length, are read as just these, in their order, and what is not whole is not read. -/
namespace Go.Proofs.YtkdnckkdofoaoaaGreatDoor.wholeRequests
open Go.ChangeShapes Go.WideShapes Go.ChangeAt Go.RowKit
open Go.ChangeMaps (open_string shut_string)
set_option linter.unusedVariables false

theorem own : ownKnob Tryz.prog.godebug = none := by kernel_rfl
theorem laidOut : laidOutB Tryz.prog = true := by kernel_rfl
theorem maxL_of {W : World} (hsh : W.ShapedOpen Tryz.prog) : MaxL W :=
  cell_of_shapedOpen_int (P := Tryz.prog) (g := 1) (t := 3) (zero := #[.int .i64 0]) hsh (of_decide_eq_true (by kernel_rfl)) (by kernel_rfl) rfl (by kernel_rfl) (by kernel_rfl) Tryz.underlying3
theorem tz_of {W : World} (h : laidMetH Tryz.prog Rows.wholeRequestsUptoRow.laid W) : TzOk W := by
  have h2 := laidMetH.filter (fun x => x.1 == "math/bits.deBruijn64tab") h
  have e2 : Rows.wholeRequestsUptoRow.laid.filter (fun x => x.1 == "math/bits.deBruijn64tab") = [("math/bits.deBruijn64tab", Lib.tabData .u8 tzTab)] := by kernel_rfl
  rw [e2] at h2
  exact tz_of_head h2
noncomputable def laidWorld (os : Os) : World := World.laidAll Tryz.prog os Rows.wholeRequestsUptoRow.laid
theorem laid_met (os : Os) : laidMetH Tryz.prog Rows.wholeRequestsUptoRow.laid ((laidWorld os).forCall (fun _ _ => 0) ⟨#[], #[.slice none 0 0, .int .i64 0], []⟩).memory := by
  rw [MakeChecks.laidMetH_plain _ _ _ (by kernel_rfl)]
  exact laidMet_laidAll _ (by kernel_rfl) (by kernel_rfl)
set_option maxRecDepth 100000 in
theorem lifted (os : Os) (started : os.Started) (H : Type) (enc : TypeId × Value → H) (F : Stop.Interp) :
    ReturnsInHanded {} Tryz.checked os 6 .any ((Rows.OpenSpec.upto Rows.wholeRequestsSpec).preRow enc Tryz.prog Tryz.f6 Rows.wholeRequestsUptoRow.domain false Rows.wholeRequestsUptoRow.laid) (((Rows.OpenSpec.upto Rows.wholeRequestsSpec).at F).post enc Tryz.prog Tryz.f6 false true false false) := by
  obtain ⟨places, hx⟩ := (⟨[], by kernel_rfl⟩ : ∃ places, DataW.whole enc Tryz.prog ((laidWorld os).forCall (fun _ _ => 0) ⟨#[], #[.slice none 0 0, .int .i64 0], []⟩).memory Tryz.f6.params.toList Rows.wholeRequestsSpec.vars false (#[.slice none 0 0, .int .i64 0] : Array Value).toList 8 = some ([.nil, .lit (.int .i64 0)], [], places))
  refine returnsInHanded_of_row (C := Tryz.checked) (s := Rows.OpenSpec.upto Rows.wholeRequestsSpec) own started (by kernel_rfl) Tryz.func6
    (witness_row_atRef (enc := enc) (C := Tryz.checked) false (laidWorld os) #[.slice none 0 0, .int .i64 0] rfl (by kernel_rfl) (by kernel_rfl) (by kernel_rfl)
      (OpenSpec.preRow_of_cond 8 hx (by kernel_rfl) (fun k hk => by cases hk; kernel_rfl) (by kernel_rfl) (laid_met os))) ?_
  intro W base args ds gs before hval0 hW _ hcond hsz hlaid hsh _
  have hM := maxL_of hsh
  have hT := tz_of hlaid
  clear hsh
  have hval : ∀ (j : Nat) t v, Tryz.f6.params[j]? = some t → args[j]? = some v → Value.okWide Tryz.prog W .any base t v := hval0
  have hW' := hW
  obtain ⟨p, q, hA0, hV, rfl, hfz, hnd⟩ := hW
  have hA : DataW.TrodAll enc Tryz.prog W 0 (fun _ => true) true Tryz.f6.params.toList args.toList ds p := hA0
  rw [Tryz.params6] at hA hval
  obtain ⟨v0, vs0, d0, ds0, p0, q0, hargs, rfl, rfl, h0, r0⟩ := trodAll_cons hA
  obtain ⟨v1, vs1, d1, ds1, p1, q1, rfl, rfl, rfl, h1, r1⟩ := trodAll_cons r0
  obtain ⟨rfl, rfl, rfl⟩ := trodAll_nil r1
  obtain rfl : args = #[v0, v1] := by cases args; simp_all
  obtain ⟨rfl, rfl⟩ := trodVars_none hV
  obtain ⟨a0, len0, cap0, rfl⟩ := okWide_slice Tryz.underlying48 (hval 0 48 v0 rfl rfl)
  have k0 := h0
  have lt0 : ∀ x ∈ p0, x.block < W.heap.size := by obtain ⟨m, hm⟩ := k0; exact DataW.trod_lt m _ _ _ hm
  obtain ⟨qs0, w0, x0⟩ := open_asks h0
  obtain ⟨a1, rfl, rfl, rfl, w1⟩ := open_int Tryz.underlying3 (hval 1 3 v1 rfl rfl) h1
  clear hA0 hval0
  have hP := pow_of (l := Rows.wholeRequestsUptoRow.laid) (by kernel_rfl) hlaid
  have hc := asks_cap k0
  have kk := hcond _ rfl
  have kb1 := of_decide_eq_true kk
  simp only [Rows.uptoBulkAll, List.append_nil] at kb1
  clear kk
  have hbd : ∀ a ∈ qs0, AskBd a := bulk_asks (d := d0) w0.1 x0 (by omega)
  refine (whole5_walk qs0 a0 len0 cap0 a1 W w0 hc.1 hc.2 hbd ⟨hM, hP⟩ hT).mono fun e W' ⟨he, bel⟩ => ?_
  subst he
  exact ⟨_, rfl, _, _, _, [], _, [], hW', trodAll_mk1 (shut_bool Tryz.underlying4 _), (trodAll_cons_mk (Below.trod laidOut (by kernel_rfl) (of_decide_eq_true (by kernel_rfl)) k0 bel lt0) (trodAll_cons_mk (shut_int Tryz.underlying3 w1) trodAll_mk0)), rfl, bel.frame _, fun h => by cases h⟩

theorem over : Rows.WholeRequestsUptoSaid :=
  OpenClaim.holds_of_cond 6 Tryz.f6 rfl rfl rfl rfl rfl rfl rfl ⟨rfl, rfl, rfl, rfl, rfl⟩ rfl rfl rfl rfl rfl (by kernel_rfl) Tryz.func6 (by kernel_rfl)
    (of_decide_eq_true (by kernel_rfl)) (by unfold Func.isWrapper; first | (rw [if_pos (by decide +kernel)]; kernel_rfl) | (rw [if_neg (by decide +kernel)]; exact ⟨rfl, rfl⟩))
    (fun os started H enc _ F => by rw [OpenClaim.pre_eq_preRow]; exact lifted os started H enc F)

end Go.Proofs.YtkdnckkdofoaoaaGreatDoor.wholeRequests
namespace Go.Proofs.YtkdnckkdofoaoaaGreatDoor
/-- The statement: the tied card. -/
theorem wholeRequestsUpto_holds : Rows.WholeRequestsUptoCardSaid :=
  Claim7.holds_tied_plain_at .later [] _ _ _ _
    wholeRequests.over (fun _ h => by cases h) (by kernel_rfl) (fun _ h => by cases h) wholeRequestsUpto_row_tie rfl ⟨rfl, rfl⟩ (by kernel_rfl) rfl
    (fun f fn hf hfn => by
      obtain rfl : f = 6 := Option.some.inj ((show Tryz.prog.funcNamed "tollbar/tollbartop.WholeRequests" = some 6 by kernel_rfl).symm.trans hf) |>.symm
      obtain rfl : fn = Tryz.f6 := (Option.some.inj (Tryz.func6.symm.trans hfn)).symm
      exact ⟨by kernel_rfl, fun j t ht => by
        rw [Tryz.params6] at ht
        have hm : t ∈ [48, 3] := by simpa using Array.mem_of_getElem? ht
        have hall : ([48, 3].all fun u => !Tryz.prog.wantsStandIn u) = true := by kernel_rfl
        exact (show Tryz.prog.wantsStandIn t = false by simpa using List.all_eq_true.1 hall t hm)⟩)
    (by kernel_rfl)
#print axioms wholeRequestsUpto_holds
end Go.Proofs.YtkdnckkdofoaoaaGreatDoor
