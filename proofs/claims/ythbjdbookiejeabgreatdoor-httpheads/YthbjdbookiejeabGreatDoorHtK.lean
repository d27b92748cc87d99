/- The examples of requests. -/
import Derived.Test.YthbjdbookiejeabGreatDoorHtJ
import Derived.Test.YthbjdbookiejeabGreatDoorSamB
namespace Go.Proofs.YthbjdbookiejeabGreatDoor
open Go.RowKit
set_option linter.unusedVariables false

theorem src_blk {W : World} {g n : Nat} {l : List UInt8} {row : Array Value} {fz : Nat × Nat} (h : W.heap[g]? = some (.cells row 5 fz)) (hl : l.length = n) (hm : n ≤ maxLen) (hr : (rowB l).toArray = row) : Src W g (.slice (some ⟨g, 0, none⟩) n n) l := by
  subst hr hl
  refine ⟨_, _, rfl, Nat.le_refl _, hm, fun _ => ⟨0, rfl, fun j hj => ?_⟩⟩
  have e : (rowB l).toArray[0 + j]? = some (bv l[j]) := by
    rw [Nat.zero_add, List.getElem?_toArray]
    unfold rowB
    rw [List.getElem?_map, List.getElem?_eq_getElem hj]; rfl
  unfold World.cell?
  rw [h]
  exact e
def l27 : List UInt8 := [71, 69, 84, 32, 47, 32, 72, 84, 84, 80, 47, 49, 46, 49, 13, 10, 72, 111, 115, 116, 58, 32, 97, 13, 10, 13, 10]
def l26 : List UInt8 := [71, 69, 84, 32, 47, 32, 72, 84, 84, 80, 47, 49, 46, 49, 10, 72, 111, 115, 116, 58, 32, 97, 13, 10, 13, 10]
def l69 : List UInt8 := [80, 85, 84, 32, 47, 32, 72, 84, 84, 80, 47, 49, 46, 49, 13, 10, 72, 111, 115, 116, 58, 32, 97, 13, 10, 69, 120, 112, 101, 99, 116, 58, 32, 49, 48, 48, 45, 67, 111, 110, 116, 105, 110, 117, 101, 13, 10, 67, 111, 110, 116, 101, 110, 116, 45, 76, 101, 110, 103, 116, 104, 58, 32, 50, 13, 10, 13, 10, 97]
def l31 : List UInt8 := [71, 69, 84, 32, 47, 32, 72, 84, 84, 80, 47, 49, 46, 49, 13, 10, 72, 111, 115, 116, 58, 32, 97, 13, 10, 13, 10, 109, 111, 114, 101]
def o27 : Obj := .cells #[.int .u8 71, .int .u8 69, .int .u8 84, .int .u8 32, .int .u8 47, .int .u8 32, .int .u8 72, .int .u8 84, .int .u8 84, .int .u8 80, .int .u8 47, .int .u8 49, .int .u8 46, .int .u8 49, .int .u8 13, .int .u8 10, .int .u8 72, .int .u8 111, .int .u8 115, .int .u8 116, .int .u8 58, .int .u8 32, .int .u8 97, .int .u8 13, .int .u8 10, .int .u8 13, .int .u8 10] 5 (27, 28)
theorem ask1 : reqQ l31 = ⟨⟨#[71, 69, 84]⟩, ⟨#[47]⟩, 1, [(⟨#[72, 111, 115, 116]⟩, ⟨#[97]⟩)], [], 27, 0⟩ := by kernel_rfl
theorem ask2 : reqQ (l27.take 20) = rdNo 0 := by kernel_rfl
theorem ask3 : reqQ l26 = rdNo 400 := by kernel_rfl
theorem ask4 : hostQ [(⟨#[72, 111, 115, 116]⟩, ⟨#[97]⟩)] = ⟨#[97]⟩ := by kernel_rfl
theorem ask5 : writeB (reqT ⟨#[71, 69, 84]⟩ ⟨#[47]⟩ (verT 1)) [(⟨#[72, 111, 115, 116]⟩, ⟨#[97]⟩)] [] = l27 := by kernel_rfl
theorem ask6 : waitsQ l69 = true := by kernel_rfl
theorem ask7 : waitsQ l27 = false := by kernel_rfl
theorem askB (N : Nat) (h : 4 ≤ N) : FBd N [(⟨#[72, 111, 115, 116]⟩, ⟨#[97]⟩)] := fun f hf => by
  rw [List.mem_singleton.1 hf]
  exact ⟨Nat.le_trans (show 4 ≤ 4 by decide) h, Nat.le_trans (show 1 ≤ 4 by decide) h⟩
/-- A request that isn't one, at bytes that lie in a block. -/
theorem req_blk {W : World} {g n c : Nat} {l : List UInt8} {st : Int} (hs : Src W g (.slice (some ⟨g, 0, none⟩) n c) l) (hg : g < W.heap.size) (hM : MaxL W) (hl : l.length ≤ 1048576) (hq : reqQ l = rdNo st) :
    Calls Tryz.prog 11 #[.slice (some ⟨g, 0, none⟩) n c] W fun e w' => ∃ fa ba fc bc, e = .returned (.tuple #[.agg #[.string ⟨#[]⟩, .string ⟨#[]⟩, .int .i64 0, .slice fa 0 fc, .slice ba 0 bc], .int .i64 0, .int .i64 st]) ∧ Below W.heap.size W w' := by
  have e := hs.len.1
  subst e
  have k := hreq_any l g c (some ⟨g, 0, none⟩) W hs (fun _ => hg) hM hl
  rw [hq] at k
  refine k.mono ?_
  rintro e w' ⟨fa, ba, fc, bc, he, _, _, hB⟩
  exact ⟨fa, ba, fc, bc, he, hB⟩
theorem waits_blk {W : World} {g n : Nat} {l : List UInt8} {b : Bool} (hs : Src W g (.slice (some ⟨g, 0, none⟩) n n) l) (hg : g < W.heap.size) (hM : MaxL W) (hl : l.length ≤ 1048576) (hq : waitsQ l = b) :
    Calls Tryz.prog 27 #[.slice (some ⟨g, 0, none⟩) n n] W fun e w' => e = .returned (.bool b) ∧ Below W.heap.size W w' := by
  have e := hs.len.1
  have k := waits_any l g l.length (some ⟨g, 0, none⟩) W (by rw [e]; exact hs) (fun _ => hg) hM hl
  rw [hq, e] at k
  exact k

set_option maxRecDepth 100000 in
set_option maxHeartbeats 4000000 in
theorem asking_any (w : World) (hL : Lv w) : Calls Tryz.prog 9 #[] w fun e w' => e = .returned (.bool true) ∧ Below w.heap.size w w' := by
  have hcs := conv_same
  have P0 := PI.new w o27
  have e0 : (w.alloc o27).heap.size = w.heap.size + 1 := by simp
  have S0 : Src (w.alloc o27) w.heap.size (.slice (some ⟨w.heap.size, 0, none⟩) 27 27) l27 := src_blk P0.own rfl (by decide) rfl
  have U1 : Below (w.alloc o27).heap.size (w.alloc o27) ((w.alloc o27).alloc (.cells #[] 5)) := (Below.refl _ _).alloc (Nat.le_refl _) _
  obtain ⟨v1, w1, r1, O1, B1⟩ := own_append (Own.empty (w.alloc o27).heap.size (w.alloc o27) (Nat.le_refl _)) (S0.keep (fun _ => by rw [e0]; exact Nat.lt_succ_self _) U1) (fun e => by cases e) (by decide) (by simp)
  have C1 : Below (w.alloc o27).heap.size (w.alloc o27) w1 := U1.trans B1
  obtain ⟨v2, w2, r2, O2, B2⟩ := own_append_str (s := ⟨#[109, 111, 114, 101]⟩) O1 (by decide) C1.size
  have C2 : Below (w.alloc o27).heap.size (w.alloc o27) w2 := C1.trans B2
  have P2 : PI w o27 w2 := P0.next C2
  obtain ⟨a2, c2, rfl, _⟩ := O2.form
  have O2' : Own (w.alloc o27).heap.size w2 (.slice a2 31 c2) l31 := O2
  obtain ⟨k2, S2, K2⟩ := O2'.src
  rw [e0] at r1
  have HR1 : Hid ((Builtin.append_ #[22, 22] 22 #[.slice (some ⟨w.heap.size + 1, 0, none⟩) 0 0, .slice (some ⟨w.heap.size, 0, none⟩) 27 27]).run Tryz.prog ((w.alloc (.cells #[.int .u8 71, .int .u8 69, .int .u8 84, .int .u8 32, .int .u8 47, .int .u8 32, .int .u8 72, .int .u8 84, .int .u8 84, .int .u8 80, .int .u8 47, .int .u8 49, .int .u8 46, .int .u8 49, .int .u8 13, .int .u8 10, .int .u8 72, .int .u8 111, .int .u8 115, .int .u8 116, .int .u8 58, .int .u8 32, .int .u8 97, .int .u8 13, .int .u8 10, .int .u8 13, .int .u8 10] 5 (27, 28))).alloc (.cells #[] 5)) = .ok v1 w1) := r1
  have HR2 : Hid ((Builtin.append_ #[22, 9] 22 #[v1, .string ⟨#[109, 111, 114, 101]⟩]).run Tryz.prog w1 = .ok (.slice a2 31 c2) w2) := r2
  have HL : Hid (Lv w) := hL
  have HP2 : Hid (PI w o27 w2) := P2
  have HQ1 : Hid (Calls Tryz.prog 11 #[.slice a2 31 c2] w2 fun e w' => ∃ fa ba fc bc, e = .returned (.tuple #[.agg #[.string ⟨#[71, 69, 84]⟩, .string ⟨#[47]⟩, .int .i64 1, .slice fa 1 fc, .slice ba 0 bc], .int .i64 27, .int .i64 0]) ∧ OwnF w2.heap.size w' (.slice fa 1 fc) [(⟨#[72, 111, 115, 116]⟩, ⟨#[97]⟩)] ∧ Own w2.heap.size w' (.slice ba 0 bc) [] ∧ (ba = none → bc = 0) ∧ Below w2.heap.size w2 w') := by
    have k := hreq_any l31 k2 c2 a2 w2 S2 (fun q => (K2 q).2) (hL.below P2.below).max (by decide)
    rw [ask1] at k
    refine k.mono ?_
    rintro e w' ⟨fa, ba, fc, bc, he, hF, hO, hB⟩
    obtain ⟨x, y, hxy, hn⟩ := hO.form
    obtain ⟨rfl, _, rfl⟩ := slice_inj hxy
    exact ⟨fa, ba, fc, bc, he, hF, hO, hn, hB⟩
  clear hL P0 S0 U1 O1 B1 C1 O2 B2 C2 P2 O2' S2 K2 r1 r2 e0
  go_enter Tryz.func9, Tryz.ntmps9
  go_wp2_with (at_builtin; first | refine wpList_append_run2 rfl _ _ 22 22 rfl _ _ _ w1 rfl rfl HR1.out ?_ | refine wpList_append_run2 rfl _ _ 22 9 rfl _ _ _ w2 rfl rfl HR2.out ?_)
  refine HQ1.out.mono ?_
  rintro e w3 ⟨fa, ba, fc, bc, rfl, F3, O3, hnb, B3⟩
  have HNB : Hid (ba = none → bc = 0) := hnb
  have U4 : Below w3.heap.size w3 (w3.alloc (.cells #[.string ⟨#[71, 69, 84]⟩, .string ⟨#[47]⟩, .int .i64 1, .slice fa 1 fc, .slice ba 0 bc] 26)) := (Below.refl _ _).alloc (Nat.le_refl _) _
  have P4 : Hid (PI w o27 (w3.alloc (.cells #[.string ⟨#[71, 69, 84]⟩, .string ⟨#[47]⟩, .int .i64 1, .slice fa 1 fc, .slice ba 0 bc] 26))) := (HP2.out.next B3).next U4
  have hr4 := tblk_new w3 (.cells #[.string ⟨#[71, 69, 84]⟩, .string ⟨#[47]⟩, .int .i64 1, .slice fa 1 fc, .slice ba 0 bc] 26)
  have HF4 : Hid (OwnF w2.heap.size (w3.alloc (.cells #[.string ⟨#[71, 69, 84]⟩, .string ⟨#[47]⟩, .int .i64 1, .slice fa 1 fc, .slice ba 0 bc] 26)) (.slice fa 1 fc) [(⟨#[72, 111, 115, 116]⟩, ⟨#[97]⟩)]) := F3.keep U4
  have HO4 : Hid (Own w2.heap.size (w3.alloc (.cells #[.string ⟨#[71, 69, 84]⟩, .string ⟨#[47]⟩, .int .i64 1, .slice fa 1 fc, .slice ba 0 bc] 26)) (.slice ba 0 bc) []) := O3.keep U4
  clear HQ1 HR1 HR2 HP2 F3 O3 hnb B3 U4
  have HQ2 : Hid (∀ W, PI w o27 W → Calls Tryz.prog 11 #[.slice (some ⟨w.heap.size, 0, none⟩) 20 27] W fun e w' => ∃ fa ba fc bc, e = .returned (.tuple #[.agg #[.string ⟨#[]⟩, .string ⟨#[]⟩, .int .i64 0, .slice fa 0 fc, .slice ba 0 bc], .int .i64 0, .int .i64 0]) ∧ Below W.heap.size W w') := fun W i => req_blk ((src_blk (l := l27) (n := 27) i.own rfl (by decide) rfl).take (m := 20) (by decide)) (heap_lt i.own) (HL.out.below i.below).max (by decide) ask2
  have HQ3 : Hid (∀ W : World, MaxL W → Calls Tryz.prog 11 #[.slice (some ⟨W.heap.size, 0, none⟩) 26 26] (W.alloc (.cells #[.int .u8 71, .int .u8 69, .int .u8 84, .int .u8 32, .int .u8 47, .int .u8 32, .int .u8 72, .int .u8 84, .int .u8 84, .int .u8 80, .int .u8 47, .int .u8 49, .int .u8 46, .int .u8 49, .int .u8 10, .int .u8 72, .int .u8 111, .int .u8 115, .int .u8 116, .int .u8 58, .int .u8 32, .int .u8 97, .int .u8 13, .int .u8 10, .int .u8 13, .int .u8 10] 5 (26, 27))) fun e w' => ∃ fa ba fc bc, e = .returned (.tuple #[.agg #[.string ⟨#[]⟩, .string ⟨#[]⟩, .int .i64 0, .slice fa 0 fc, .slice ba 0 bc], .int .i64 0, .int .i64 400]) ∧ Below W.heap.size W w') := fun W hM => by
    have U : Below W.heap.size W (W.alloc (.cells #[.int .u8 71, .int .u8 69, .int .u8 84, .int .u8 32, .int .u8 47, .int .u8 32, .int .u8 72, .int .u8 84, .int .u8 84, .int .u8 80, .int .u8 47, .int .u8 49, .int .u8 46, .int .u8 49, .int .u8 10, .int .u8 72, .int .u8 111, .int .u8 115, .int .u8 116, .int .u8 58, .int .u8 32, .int .u8 97, .int .u8 13, .int .u8 10, .int .u8 13, .int .u8 10] 5 (26, 27))) := (Below.refl _ _).alloc (Nat.le_refl _) _
    refine (req_blk (src_blk (l := l26) (tblk_new W _) rfl (by decide) rfl) (by simp) (hM.below U) (by decide) ask3).mono ?_
    rintro e w' ⟨fa, ba, fc, bc, he, hB⟩
    exact ⟨fa, ba, fc, bc, he, U.trans (hB.mono U.size)⟩
  go_wp2_with fail
  generalize w3.heap.size = p at *
  generalize w3.alloc (.cells #[.string ⟨#[71, 69, 84]⟩, .string ⟨#[47]⟩, .int .i64 1, .slice fa 1 fc, .slice ba 0 bc] 26) = w4 at *
  refine (HQ2.out w4 P4.out).mono ?_
  rintro e w5 ⟨f5, b5, x5, y5, rfl, B5⟩
  have D6 : Below w4.heap.size w4 (w5.alloc (.cells #[.string ⟨#[]⟩, .string ⟨#[]⟩, .int .i64 0, .slice f5 0 x5, .slice b5 0 y5] 26)) := B5.alloc B5.size _
  have hr6 := tblk_below hr4 D6
  have P6 : Hid (PI w o27 (w5.alloc (.cells #[.string ⟨#[]⟩, .string ⟨#[]⟩, .int .i64 0, .slice f5 0 x5, .slice b5 0 y5] 26))) := P4.out.next D6
  have HF6 : Hid (OwnF w2.heap.size (w5.alloc (.cells #[.string ⟨#[]⟩, .string ⟨#[]⟩, .int .i64 0, .slice f5 0 x5, .slice b5 0 y5] 26)) (.slice fa 1 fc) [(⟨#[72, 111, 115, 116]⟩, ⟨#[97]⟩)]) := OwnF.keep HF4.out D6
  have HO6 : Hid (Own w2.heap.size (w5.alloc (.cells #[.string ⟨#[]⟩, .string ⟨#[]⟩, .int .i64 0, .slice f5 0 x5, .slice b5 0 y5] 26)) (.slice ba 0 bc) []) := Own.keep HO4.out D6
  clear B5 D6 hr4 P4 HF4 HO4 HQ2
  have e6 : (w5.alloc (.cells #[.string ⟨#[]⟩, .string ⟨#[]⟩, .int .i64 0, .slice f5 0 x5, .slice b5 0 y5] 26)).heap.size = w5.heap.size + 1 := by simp
  have HQ4 : Hid (Calls Tryz.prog 11 #[.slice (some ⟨w5.heap.size + 1, 0, none⟩) 26 26] ((w5.alloc (.cells #[.string ⟨#[]⟩, .string ⟨#[]⟩, .int .i64 0, .slice f5 0 x5, .slice b5 0 y5] 26)).alloc (.cells #[.int .u8 71, .int .u8 69, .int .u8 84, .int .u8 32, .int .u8 47, .int .u8 32, .int .u8 72, .int .u8 84, .int .u8 84, .int .u8 80, .int .u8 47, .int .u8 49, .int .u8 46, .int .u8 49, .int .u8 10, .int .u8 72, .int .u8 111, .int .u8 115, .int .u8 116, .int .u8 58, .int .u8 32, .int .u8 97, .int .u8 13, .int .u8 10, .int .u8 13, .int .u8 10] 5 (26, 27))) fun e w' => ∃ fa ba fc bc, e = .returned (.tuple #[.agg #[.string ⟨#[]⟩, .string ⟨#[]⟩, .int .i64 0, .slice fa 0 fc, .slice ba 0 bc], .int .i64 0, .int .i64 400]) ∧ Below (w5.alloc (.cells #[.string ⟨#[]⟩, .string ⟨#[]⟩, .int .i64 0, .slice f5 0 x5, .slice b5 0 y5] 26)).heap.size (w5.alloc (.cells #[.string ⟨#[]⟩, .string ⟨#[]⟩, .int .i64 0, .slice f5 0 x5, .slice b5 0 y5] 26)) w') := by
    rw [Hid, ← e6]
    exact HQ3.out _ (HL.out.below P6.out.below).max
  have hcs4 : (convert 22 22 (.slice (some ⟨w5.heap.size + 1, 0, none⟩) 26 26)).run Tryz.prog ((w5.alloc (.cells #[.string ⟨#[]⟩, .string ⟨#[]⟩, .int .i64 0, .slice f5 0 x5, .slice b5 0 y5] 26)).alloc (.cells #[.int .u8 71, .int .u8 69, .int .u8 84, .int .u8 32, .int .u8 47, .int .u8 32, .int .u8 72, .int .u8 84, .int .u8 84, .int .u8 80, .int .u8 47, .int .u8 49, .int .u8 46, .int .u8 49, .int .u8 10, .int .u8 72, .int .u8 111, .int .u8 115, .int .u8 116, .int .u8 58, .int .u8 32, .int .u8 97, .int .u8 13, .int .u8 10, .int .u8 13, .int .u8 10] 5)) = .ok (.slice (some ⟨w5.heap.size + 1, 0, none⟩) 26 26) ((w5.alloc (.cells #[.string ⟨#[]⟩, .string ⟨#[]⟩, .int .i64 0, .slice f5 0 x5, .slice b5 0 y5] 26)).alloc (.cells #[.int .u8 71, .int .u8 69, .int .u8 84, .int .u8 32, .int .u8 47, .int .u8 32, .int .u8 72, .int .u8 84, .int .u8 84, .int .u8 80, .int .u8 47, .int .u8 49, .int .u8 46, .int .u8 49, .int .u8 10, .int .u8 72, .int .u8 111, .int .u8 115, .int .u8 116, .int .u8 58, .int .u8 32, .int .u8 97, .int .u8 13, .int .u8 10, .int .u8 13, .int .u8 10] 5 (26, 27))) := by
    rw [← e6]
    exact conv_same (w5.alloc (.cells #[.string ⟨#[]⟩, .string ⟨#[]⟩, .int .i64 0, .slice f5 0 x5, .slice b5 0 y5] 26)) #[.int .u8 71, .int .u8 69, .int .u8 84, .int .u8 32, .int .u8 47, .int .u8 32, .int .u8 72, .int .u8 84, .int .u8 84, .int .u8 80, .int .u8 47, .int .u8 49, .int .u8 46, .int .u8 49, .int .u8 10, .int .u8 72, .int .u8 111, .int .u8 115, .int .u8 116, .int .u8 58, .int .u8 32, .int .u8 97, .int .u8 13, .int .u8 10, .int .u8 13, .int .u8 10] 26 26
  clear e6 HQ3
  go_wp2_with fail
  clear hcs4
  generalize w5.alloc (.cells #[.string ⟨#[]⟩, .string ⟨#[]⟩, .int .i64 0, .slice f5 0 x5, .slice b5 0 y5] 26) = w6 at *
  refine HQ4.out.mono ?_
  rintro e w7 ⟨f7, b7, x7, y7, rfl, B7⟩
  have D8 : Below w6.heap.size w6 (w7.alloc (.cells #[.string ⟨#[]⟩, .string ⟨#[]⟩, .int .i64 0, .slice f7 0 x7, .slice b7 0 y7] 26)) := B7.alloc B7.size _
  have hr8 := tblk_below hr6 D8
  have P8 : Hid (PI w o27 (w7.alloc (.cells #[.string ⟨#[]⟩, .string ⟨#[]⟩, .int .i64 0, .slice f7 0 x7, .slice b7 0 y7] 26))) := P6.out.next D8
  have HF8 : Hid (OwnF w2.heap.size (w7.alloc (.cells #[.string ⟨#[]⟩, .string ⟨#[]⟩, .int .i64 0, .slice f7 0 x7, .slice b7 0 y7] 26)) (.slice fa 1 fc) [(⟨#[72, 111, 115, 116]⟩, ⟨#[97]⟩)]) := OwnF.keep HF6.out D8
  have HO8 : Hid (Own w2.heap.size (w7.alloc (.cells #[.string ⟨#[]⟩, .string ⟨#[]⟩, .int .i64 0, .slice f7 0 x7, .slice b7 0 y7] 26)) (.slice ba 0 bc) []) := Own.keep HO6.out D8
  clear B7 D8 hr6 P6 HF6 HO6 HQ4
  have a0 := tblk_cell (i := 0) hr8 rfl
  have a1 := tblk_cell (i := 1) hr8 rfl
  have a2' := tblk_cell (i := 2) hr8 rfl
  have a3 := tblk_cell (i := 3) hr8 rfl
  have a4 := tblk_cell (i := 4) hr8 rfl
  go_wp2_with fail
  clear a0 a1 a2' a3 a4
  generalize w7.alloc (.cells #[.string ⟨#[]⟩, .string ⟨#[]⟩, .int .i64 0, .slice f7 0 x7, .slice b7 0 y7] 26) = w8 at *
  have HH8 : Hid (Calls Tryz.prog 20 #[.agg #[.string ⟨#[71, 69, 84]⟩, .string ⟨#[47]⟩, .int .i64 1, .slice fa 1 fc, .slice ba 0 bc]] w8 fun e w' => e = .returned (.string ⟨#[97]⟩) ∧ Below w8.heap.size w8 w') := by
    have k := hhost_any ⟨#[71, 69, 84]⟩ ⟨#[47]⟩ 1 [(⟨#[72, 111, 115, 116]⟩, ⟨#[97]⟩)] fa ba fc 0 bc w8 (OwnF.fds HF8.out) (askB _ (by decide)) (by decide)
    rw [ask4] at k
    exact k
  refine HH8.out.mono ?_
  rintro e w9 ⟨rfl, B9⟩
  have hr9 := tblk_below hr8 B9
  have P9 : Hid (PI w o27 w9) := P8.out.next B9
  have HF9 : Hid (OwnF w2.heap.size w9 (.slice fa 1 fc) [(⟨#[72, 111, 115, 116]⟩, ⟨#[97]⟩)]) := OwnF.keep HF8.out B9
  have HO9 : Hid (Own w2.heap.size w9 (.slice ba 0 bc) []) := Own.keep HO8.out B9
  clear B9 hr8 P8 HF8 HO8 HH8
  have a0 := tblk_cell (i := 0) hr9 rfl
  have a1 := tblk_cell (i := 1) hr9 rfl
  have a2' := tblk_cell (i := 2) hr9 rfl
  have a3 := tblk_cell (i := 3) hr9 rfl
  have a4 := tblk_cell (i := 4) hr9 rfl
  go_wp2_with fail
  clear a0 a1 a2' a3 a4 hr9
  have HW9 : Hid (Calls Tryz.prog 26 #[.agg #[.string ⟨#[71, 69, 84]⟩, .string ⟨#[47]⟩, .int .i64 1, .slice fa 1 fc, .slice ba 0 bc]] w9 fun e w' => ∃ g c, e = .returned (.slice (some ⟨g, 0, none⟩) 27 c) ∧ OwnG w9.heap.size w' (.slice (some ⟨g, 0, none⟩) 27 c) l27 ∧ Below w9.heap.size w9 w') := by
    obtain ⟨k9, S9, K9⟩ := Own.src HO9.out
    have k := wreq_any ⟨#[71, 69, 84]⟩ ⟨#[47]⟩ 1 [(⟨#[72, 111, 115, 116]⟩, ⟨#[97]⟩)] [] fa ba k9 fc bc (by decide) (by decide) (by decide +kernel) w9 (HL.out.below P9.out.below).pow (by decide) (by decide) (OwnF.fds HF9.out) (askB _ (by decide)) (by decide) S9 (fun q => absurd q (Nat.lt_irrefl _)) HNB.out (by decide)
    rw [ask5] at k
    refine k.mono ?_
    rintro e w' ⟨v, he, hO, hB⟩
    obtain ⟨g, c, rfl, _, _⟩ := hO.form
    exact ⟨g, c, he, hO, hB⟩
  refine HW9.out.mono ?_
  rintro e w10 ⟨gx, cx, rfl, O10, B10⟩
  have P10 : Hid (PI w o27 w10) := P9.out.next B10
  have HS10 : Hid (Calls Tryz.prog 16 #[.slice (some ⟨gx, 0, none⟩) 27 cx, .slice (some ⟨w.heap.size, 0, none⟩) 27 27] w10 fun e w' => e = .returned (.bool true) ∧ Below w10.heap.size w10 w') := by
    obtain ⟨k10, S10, _, _⟩ := O10.src
    exact sameBytes_eq l27 k10 w.heap.size _ _ w10 S10 (src_blk (l := l27) (n := 27) P10.out.own rfl (by decide) rfl)
  clear B10 O10 HF9 HO9 P9 HW9
  go_wp2_with fail
  refine HS10.out.mono ?_
  rintro e w11 ⟨rfl, B11⟩
  have P11 : Hid (PI w o27 w11) := P10.out.next B11
  clear B11 HS10 P10
  have HW11 : Hid (Calls Tryz.prog 27 #[.slice (some ⟨w11.heap.size, 0, none⟩) 69 69] (w11.alloc (.cells #[.int .u8 80, .int .u8 85, .int .u8 84, .int .u8 32, .int .u8 47, .int .u8 32, .int .u8 72, .int .u8 84, .int .u8 84, .int .u8 80, .int .u8 47, .int .u8 49, .int .u8 46, .int .u8 49, .int .u8 13, .int .u8 10, .int .u8 72, .int .u8 111, .int .u8 115, .int .u8 116, .int .u8 58, .int .u8 32, .int .u8 97, .int .u8 13, .int .u8 10, .int .u8 69, .int .u8 120, .int .u8 112, .int .u8 101, .int .u8 99, .int .u8 116, .int .u8 58, .int .u8 32, .int .u8 49, .int .u8 48, .int .u8 48, .int .u8 45, .int .u8 67, .int .u8 111, .int .u8 110, .int .u8 116, .int .u8 105, .int .u8 110, .int .u8 117, .int .u8 101, .int .u8 13, .int .u8 10, .int .u8 67, .int .u8 111, .int .u8 110, .int .u8 116, .int .u8 101, .int .u8 110, .int .u8 116, .int .u8 45, .int .u8 76, .int .u8 101, .int .u8 110, .int .u8 103, .int .u8 116, .int .u8 104, .int .u8 58, .int .u8 32, .int .u8 50, .int .u8 13, .int .u8 10, .int .u8 13, .int .u8 10, .int .u8 97] 5 (69, 70))) fun e w' => e = .returned (.bool true) ∧ Below w11.heap.size w11 w') := by
    have U : Below w11.heap.size w11 (w11.alloc (.cells #[.int .u8 80, .int .u8 85, .int .u8 84, .int .u8 32, .int .u8 47, .int .u8 32, .int .u8 72, .int .u8 84, .int .u8 84, .int .u8 80, .int .u8 47, .int .u8 49, .int .u8 46, .int .u8 49, .int .u8 13, .int .u8 10, .int .u8 72, .int .u8 111, .int .u8 115, .int .u8 116, .int .u8 58, .int .u8 32, .int .u8 97, .int .u8 13, .int .u8 10, .int .u8 69, .int .u8 120, .int .u8 112, .int .u8 101, .int .u8 99, .int .u8 116, .int .u8 58, .int .u8 32, .int .u8 49, .int .u8 48, .int .u8 48, .int .u8 45, .int .u8 67, .int .u8 111, .int .u8 110, .int .u8 116, .int .u8 105, .int .u8 110, .int .u8 117, .int .u8 101, .int .u8 13, .int .u8 10, .int .u8 67, .int .u8 111, .int .u8 110, .int .u8 116, .int .u8 101, .int .u8 110, .int .u8 116, .int .u8 45, .int .u8 76, .int .u8 101, .int .u8 110, .int .u8 103, .int .u8 116, .int .u8 104, .int .u8 58, .int .u8 32, .int .u8 50, .int .u8 13, .int .u8 10, .int .u8 13, .int .u8 10, .int .u8 97] 5 (69, 70))) := (Below.refl _ _).alloc (Nat.le_refl _) _
    refine (waits_blk (src_blk (l := l69) (tblk_new w11 _) rfl (by decide) rfl) (by simp) ((HL.out.below P11.out.below).max.below U) (by decide) ask6).mono ?_
    rintro e w' ⟨he, hB⟩
    exact ⟨he, U.trans (hB.mono U.size)⟩
  go_wp2_with fail
  refine HW11.out.mono ?_
  rintro e w12 ⟨rfl, B12⟩
  have P12 : Hid (PI w o27 w12) := P11.out.next B12
  clear B12 HW11 P11
  have HW12 : Hid (Calls Tryz.prog 27 #[.slice (some ⟨w.heap.size, 0, none⟩) 27 27] w12 fun e w' => e = .returned (.bool false) ∧ Below w12.heap.size w12 w') := waits_blk (src_blk (l := l27) (n := 27) P12.out.own rfl (by decide) rfl) (heap_lt P12.out.own) (HL.out.below P12.out.below).max (by decide) ask7
  go_wp2_with fail
  refine HW12.out.mono ?_
  rintro e w13 ⟨rfl, B13⟩
  have B14 : Below w.heap.size w w13 := P12.out.below.trans (B13.mono P12.out.below.size)
  clear B13 HW12 P12
  go_wp2
  go_ret
  exact ⟨rfl, B14⟩
end Go.Proofs.YthbjdbookiejeabGreatDoor
