/- The document's health: its rows (plain); mark, Sick. -/
import Derived.Test.YtlaigjapnmgjeaaHlC
import Derived.Test.YtlaigjapnmgjeaaGrA
namespace Go.Proofs.Ytlaigjapnmgjeaa
open Go.RowKit
set_option linter.unusedVariables false

structure Mk where
  a : KS
  f : Int
  u : Int
structure Tn where
  n : KS
  k : Int
def encM (x : Mk) : Array Value := #[.string x.a, .int .i64 x.f, .int .i64 x.u]
def encT (x : Tn) : Array Value := #[.string x.n, .int .i64 x.k]
theorem EM : EncR Mk 3 encM := ⟨fun _ => rfl, fun x v hv => by simp [encM] at hv; rcases hv with rfl | rfl | rfl <;> rfl, by decide⟩
theorem ET : EncR Tn 2 encT := ⟨fun _ => rfl, fun x v hv => by simp [encT] at hv; rcases hv with rfl | rfl <;> rfl, by decide⟩
theorem infoM : (Try.prog.info? 99).map (fun i => (i.zero, i.size, i.bytes)) = some (some (.agg #[.string ⟨#[]⟩, .int .i64 0, .int .i64 0]), 3, 32) := by kernel_rfl
theorem infoT : (Try.prog.info? 97).map (fun i => (i.zero, i.size, i.bytes)) = some (some (.agg #[.string ⟨#[]⟩, .int .i64 0]), 2, 24) := by kernel_rfl
theorem RdR.m3 {w : World} {g off c : Nat} {l : List Mk} (h : RdR 3 encM w (some ⟨g, off, none⟩) c l) {j : Nat} {x : Mk} (hj : l[j]? = some x) : w.cell? ⟨g, off + j * 3, none⟩ = some (.string x.a) ∧ w.cell? ⟨g, off + j * 3 + 1, none⟩ = some (.int .i64 x.f) ∧ w.cell? ⟨g, off + j * 3 + 2, none⟩ = some (.int .i64 x.u) := by
  obtain ⟨g', off', e, _, hc⟩ := h.at hj
  injection e with e
  injection e with e1 e2
  subst e1 e2
  exact ⟨hc 0 (by decide), hc 1 (by decide), hc 2 (by decide)⟩
theorem RdR.t2 {w : World} {g off c : Nat} {l : List Tn} (h : RdR 2 encT w (some ⟨g, off, none⟩) c l) {j : Nat} {x : Tn} (hj : l[j]? = some x) : w.cell? ⟨g, off + j * 2, none⟩ = some (.string x.n) ∧ w.cell? ⟨g, off + j * 2 + 1, none⟩ = some (.int .i64 x.k) := by
  obtain ⟨g', off', e, _, hc⟩ := h.at hj
  injection e with e
  injection e with e1 e2
  subst e1 e2
  exact ⟨hc 0 (by decide), hc 1 (by decide)⟩
theorem ks_ne {a b : KS} (h : a ≠ b) : (ByteArray.toList a == ByteArray.toList b) = false := by
  cases e : (ByteArray.toList a == ByteArray.toList b) with
  | false => rfl
  | true =>
    have e2 := eq_of_beq e
    rw [ByteArray.toList_eq, ByteArray.toList_eq] at e2
    exact absurd (by cases a; cases b; congr; exact Array.toList_inj.1 e2) h
theorem ks_eq {a b : KS} (h : a = b) : (ByteArray.toList a == ByteArray.toList b) = true := by rw [h]; exact beq_self_eq_true _
/-- An aim's mark. -/
def markR (L : List Mk) (s : KS) : Mk := (L.find? fun x => decide (x.a = s)).getD ⟨s, 0, 0⟩
theorem markR_at {L : List Mk} {s : KS} {k : Nat} {p : Mk} (hp : L[k]? = some p) (he : p.a = s) (hno : ∀ (j : Nat) y, j < k → L[j]? = some y → y.a ≠ s) : markR L s = p := by
  unfold markR
  have : L.find? (fun x => decide (x.a = s)) = some p := by
    rw [List.find?_eq_some_iff_getElem]
    obtain ⟨hk, e⟩ := List.getElem?_eq_some_iff.1 hp
    refine ⟨by simpa using he, k, hk, e, fun j hj => ?_⟩
    have := hno j (L[j]'(by omega)) hj (List.getElem?_eq_getElem _)
    simpa using this
  rw [this]; rfl
theorem markR_no {L : List Mk} {s : KS} (hno : ∀ y ∈ L, y.a ≠ s) : markR L s = ⟨s, 0, 0⟩ := by
  unfold markR
  have : L.find? (fun x => decide (x.a = s)) = none := List.find?_eq_none.2 fun y hy => by simpa using hno y hy
  rw [this]; rfl
theorem markR_a (L : List Mk) (s : KS) : (markR L s).a = s := by
  unfold markR
  cases e : L.find? (fun x => decide (x.a = s)) with
  | none => rfl
  | some y => simpa using List.find?_some e
def HBk (w : World) (b : Nat) (m t : Value) : Prop := w.heap[b]? = some (.cells #[m, t] 57)
theorem HBk.c0 {w : World} {b : Nat} {m t : Value} (h : HBk w b m t) : w.cell? ⟨b, 0, none⟩ = some m := tblk_cell h rfl
theorem HBk.c1 {w : World} {b : Nat} {m t : Value} (h : HBk w b m t) : w.cell? ⟨b, 1, none⟩ = some t := tblk_cell h rfl
theorem HBk.z {w : World} {b : Nat} {m t : Value} (h : HBk w b m t) (o : Nat) : w.frozen? ⟨b, o, none⟩ = false := by unfold HBk at h; simp [World.frozen?, h]
theorem HBk.lt {w : World} {b : Nat} {m t : Value} (h : HBk w b m t) : b < w.heap.size := (Array.getElem?_eq_some_iff.1 h).1
theorem HBk.keep {w w' : World} {b : Nat} {m t : Value} (h : HBk w b m t) {B : Nat} (k : Below B w w') (hb : b < B) : HBk w' b m t := (k.block b hb).trans h
/-- Two new blocks. -/
structure TM (w : World) (t0 t1 z0 z1 z2 : Value) (wr : World) : Prop where
  x : HBk wr w.heap.size t0 t1
  y : wr.heap[w.heap.size + 1]? = some (.cells #[z0, z1, z2] 99)
  b : Below w.heap.size w wr
theorem tm_two (w : World) (t0 t1 z0 z1 z2 : Value) : TM w t0 t1 z0 z1 z2 ((w.alloc (.cells #[t0, t1] 57)).alloc (.cells #[z0, z1, z2] 99)) := by
  refine ⟨(Below.heap_alloc _ _ _ (by simp)).trans (tblk_new _ _), ?_, ((Below.refl _ _).alloc (Nat.le_refl _) _).alloc (by simp) _⟩
  have := tblk_new (w.alloc (.cells #[t0, t1] 57)) (.cells #[z0, z1, z2] 99)
  rwa [show (w.alloc (.cells #[t0, t1] 57)).heap.size = w.heap.size + 1 by simp] at this
set_option maxRecDepth 100000 in
set_option maxHeartbeats 1000000 in
theorem rmark_any (L : List Mk) (a : Option Addr) (c : Nat) (tv : Value) (s : KS) (w : World) (hL : RdR 3 encM w a c L) (hl : L.length ≤ 1000000) :
    Calls Try.prog 40 #[.agg #[.slice a L.length c, tv], .string s] w fun e w' => e = .returned (.agg #[.string (markR L s).a, .int .i64 (markR L s).f, .int .i64 (markR L s).u]) ∧ Below w.heap.size w w' := by
  have HF : Hid (∀ W, Below w.heap.size w W → RdR 3 encM W a c L) := fun W b => hL.keep b
  obtain ⟨n, hn⟩ : ∃ n, n = L.length := ⟨_, rfl⟩
  have HNN : Hid (L.length = n) := hn.symm
  rw [← hn] at hl ⊢
  have HT0 := hidE (tm_two w (.slice a n c) tv (.string ⟨#[]⟩) (.int .i64 0) (.int .i64 0))
  obtain ⟨m, hm⟩ : ∃ m, m = markR L s := ⟨_, rfl⟩
  have HM := hidE hm
  rw [← hm]
  clear hn hL hm
  go_enter Try.func40, Try.ntmps40
  go_wp2_with fail
  obtain ⟨w1, hw1⟩ : ∃ w1, w1 = (w.alloc (.cells #[.slice a n c, tv] 57)).alloc (.cells #[.string ⟨#[]⟩, .int .i64 0, .int .i64 0] 99) := ⟨_, rfl⟩
  have ht := HT0.out
  rw [← hw1] at ht ⊢
  have HT := hidE ht
  have HR := hidE (HF.out w1 ht.b)
  clear hw1 HF HT0 ht
  go_loopw [5] (fun vi wr => ∃ k : Nat, k ≤ n ∧ vi = .int .i64 k ∧ wr = w1 ∧ Hid (∀ (j : Nat) y, j < k → L[j]? = some y → y.a ≠ s)) (fun vi _ => n - (intOf vi).toNat)
  case atStart => exact ⟨0, Nat.zero_le _, rfl, rfl, fun j y hj => by omega⟩
  case round =>
    obtain ⟨k, hk, rfl, rfl, HI⟩ := hrel
    have c0 := HT.out.x.c0
    have y0 : wr.cell? ⟨w.heap.size + 1, 0, none⟩ = some (.string ⟨#[]⟩) := tblk_cell HT.out.y rfl
    have y1 : wr.cell? ⟨w.heap.size + 1, 1, none⟩ = some (.int .i64 0) := tblk_cell HT.out.y rfl
    have y2 : wr.cell? ⟨w.heap.size + 1, 2, none⟩ = some (.int .i64 0) := tblk_cell HT.out.y rfl
    have zz : ∀ o, wr.frozen? ⟨w.heap.size + 1, o, none⟩ = false := fun o => by simp [World.frozen?, HT.out.y]
    have z0 := zz 0
    have z1 := zz 1
    have z2 := zz 2
    have HBE : Hid (∀ x y z : Value, Below w.heap.size w (((wr.setCell ⟨w.heap.size + 1, 0, none⟩ x).setCell ⟨w.heap.size + 1, 1, none⟩ y).setCell ⟨w.heap.size + 1, 2, none⟩ z)) := fun x y z => ((HT.out.b.setCell (p := ⟨w.heap.size + 1, 0, none⟩) (Nat.le_succ _) _).setCell (p := ⟨w.heap.size + 1, 1, none⟩) (Nat.le_succ _) _).setCell (p := ⟨w.heap.size + 1, 2, none⟩) (Nat.le_succ _) _
    clear zz
    by_cases hlt : k < n
    · obtain ⟨x, hx⟩ : ∃ x, L[k]? = some x := ⟨L[k]'(by rw [HNN.out]; exact hlt), List.getElem?_eq_getElem _⟩
      obtain ⟨g, off, rfl, hg, hc⟩ := HR.out.at hx
      obtain ⟨d0, d1, d2⟩ := HR.out.m3 hx
      have m1 : (0 : Int) ≤ k := by omega
      have m2 : (k : Int) < n := by omega
      by_cases he : x.a = s
      · have HZ : Hid (m = x) := by rw [Hid, HM.out]; exact markR_at hx he HI.out
        have e0 := ks_eq he
        clear hg hc HI hx he HM HT HR HNN
        go_wp2
        refine bodyPost_ret (v := .agg #[.string x.a, .int .i64 x.f, .int .i64 x.u]) (by simp [results, Try.results40, go_sem, y0, y1, y2]) rfl ?_
        exact ⟨by rw [HZ.out], HBE.out _ _ _⟩
      · have e0 := ks_ne he
        have HI2 : Hid (∀ (j : Nat) y, j < k + 1 → L[j]? = some y → y.a ≠ s) := fun j y hj hy => by
          by_cases hjk : j = k
          · subst hjk
            rw [hx] at hy
            cases hy
            exact he
          · exact HI.out j y (by omega) hy
        clear hg hc HI hx he y0 y1 y2 z0 z1 z2 HBE
        go_wp2
        go_roundw
        case rel => exact ⟨k + 1, by omega, by go_num, by trivial, HI2⟩
        case measure => simp [intOf]; omega
    · obtain rfl : k = n := by omega
      have HZ : Hid (m = ⟨s, 0, 0⟩) := by
        rw [Hid, HM.out]
        exact markR_no fun x hx => by
          obtain ⟨j, hj, e⟩ := List.getElem_of_mem hx
          exact HI.out j x (by rw [← HNN.out]; exact hj) (by rw [List.getElem?_eq_getElem hj, e])
      clear HI hlt HM HT HR HNN
      go_wp2
      refine bodyPost_ret (v := .agg #[.string s, .int .i64 0, .int .i64 0]) (by simp [results, Try.results40, go_sem, y0, y1, y2]) rfl ?_
      exact ⟨by rw [HZ.out], HBE.out _ _ _⟩
set_option maxRecDepth 100000 in
set_option maxHeartbeats 1000000 in
theorem rsick_any (L : List Mk) (a : Option Addr) (c : Nat) (tv : Value) (htv : tv.oneCell' = true) (s : KS) (now : Int) (w : World) (hL : RdR 3 encM w a c L) (hl : L.length ≤ 1000000) :
    Calls Try.prog 30 #[.agg #[.slice a L.length c, tv], .string s, .int .i64 now] w fun e w' => e = .returned (.bool (decide (now < (markR L s).u))) ∧ Below w.heap.size w w' := by
  have B0 : Below w.heap.size w (w.alloc (.cells #[.slice a L.length c, tv] 57)) := (Below.refl _ _).alloc (Nat.le_refl _) _
  have HF := hidE (rmark_any L a c tv s _ (hL.keep B0) hl)
  have HB := hidE B0
  generalize markR L s = m at *
  generalize L.length = n at *
  obtain ⟨m1, m2, m3⟩ := m
  have hfld : ∀ w, (Instr.field 99 (.agg #[.string m1, .int .i64 m2, .int .i64 m3]) 2).run Try.prog w = .ok (.int .i64 m3) w := fun w => by kernel_rfl
  clear B0 hL hl
  go_enter Try.func30, Try.ntmps30
  go_wp2_with fail
  refine HF.out.mono ?_
  rintro e w3 ⟨rfl, B⟩
  have HBE := hidE (HB.out.trans (B.mono HB.out.size))
  clear HF HB B
  go_wp2
  go_ret
  exact ⟨rfl, HBE.out⟩
end Go.Proofs.Ytlaigjapnmgjeaa
