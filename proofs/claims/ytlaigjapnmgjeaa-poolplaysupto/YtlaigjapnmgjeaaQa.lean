/- The document's pool: its rows (plain); Find, State, Aim. -/
import Derived.Test.YtlaigjapnmgjeaaPoL
import Derived.Test.YtlaigjapnmgjeaaGrA
namespace Go.Proofs.Ytlaigjapnmgjeaa
open Go.RowKit
set_option linter.unusedVariables false

/-- A handle of the document's pool. -/
structure Hn where
  h : Int
  st : Int
  si : Int
  a : KS
def encH (x : Hn) : Array Value := #[.int .i64 x.h, .int .i64 x.st, .int .i64 x.si, .string x.a]
theorem EH : EncR Hn 4 encH := ⟨fun _ => rfl, fun x v hv => by simp [encH] at hv; rcases hv with rfl | rfl | rfl | rfl <;> rfl, by decide⟩
theorem infoH : (Try.prog.info? 81).map (fun i => (i.zero, i.size, i.bytes)) = some (some (.agg #[.int .i64 0, .int .i64 0, .int .i64 0, .string ⟨#[]⟩]), 4, 40) := by kernel_rfl
theorem RdR.h4 {w : World} {g off c : Nat} {l : List Hn} (h : RdR 4 encH w (some ⟨g, off, none⟩) c l) {j : Nat} {x : Hn} (hj : l[j]? = some x) : w.cell? ⟨g, off + j * 4, none⟩ = some (.int .i64 x.h) ∧ w.cell? ⟨g, off + j * 4 + 1, none⟩ = some (.int .i64 x.st) ∧ w.cell? ⟨g, off + j * 4 + 2, none⟩ = some (.int .i64 x.si) ∧ w.cell? ⟨g, off + j * 4 + 3, none⟩ = some (.string x.a) := by
  obtain ⟨g', off', e, _, hc⟩ := h.at hj
  injection e with e
  injection e with e1 e2
  subst e1 e2
  exact ⟨hc 0 (by decide), hc 1 (by decide), hc 2 (by decide), hc 3 (by decide)⟩
/-- In block b lies the document's pool. -/
def PBk (w : World) (b : Nat) (m l r : Int) (v : Value) : Prop := w.heap[b]? = some (.cells #[.int .i64 m, .int .i64 l, .int .i64 r, v] 28)
theorem PBk.c0 {w : World} {b : Nat} {m l r : Int} {v : Value} (h : PBk w b m l r v) : w.cell? ⟨b, 0, none⟩ = some (.int .i64 m) := tblk_cell h rfl
theorem PBk.c1 {w : World} {b : Nat} {m l r : Int} {v : Value} (h : PBk w b m l r v) : w.cell? ⟨b, 1, none⟩ = some (.int .i64 l) := tblk_cell h rfl
theorem PBk.c2 {w : World} {b : Nat} {m l r : Int} {v : Value} (h : PBk w b m l r v) : w.cell? ⟨b, 2, none⟩ = some (.int .i64 r) := tblk_cell h rfl
theorem PBk.c3 {w : World} {b : Nat} {m l r : Int} {v : Value} (h : PBk w b m l r v) : w.cell? ⟨b, 3, none⟩ = some v := tblk_cell h rfl
theorem PBk.z {w : World} {b : Nat} {m l r : Int} {v : Value} (h : PBk w b m l r v) (o : Nat) : w.frozen? ⟨b, o, none⟩ = false := by unfold PBk at h; simp [World.frozen?, h]
theorem PBk.lt {w : World} {b : Nat} {m l r : Int} {v : Value} (h : PBk w b m l r v) : b < w.heap.size := (Array.getElem?_eq_some_iff.1 h).1
theorem PBk.keep {w w' : World} {b : Nat} {m l r : Int} {v : Value} (h : PBk w b m l r v) {B : Nat} (k : Below B w w') (hb : b < B) : PBk w' b m l r v := (k.block b hb).trans h
/-- Where a handle stands. -/
def FindR (h : Int) (L : List Hn) (f : Int) : Prop := (f = -1 ∧ ∀ x ∈ L, x.h ≠ h) ∨ ∃ (i : Nat) (x : Hn), f = i ∧ L[i]? = some x ∧ x.h = h
/-- The list tells the map. -/
structure RQH (q : HF) (L : List Hn) : Prop where
  nd : (L.map Hn.h).Nodup
  a : ∀ x ∈ L, q x.h = some (x.a, x.st)
  b : ∀ h y, q h = some y → ∃ x ∈ L, x.h = h
theorem RQH.nil : RQH (fun _ => none) [] := ⟨List.nodup_nil, fun x hx => (by cases hx), fun h y e => (by cases e)⟩
theorem RQH.none {q : HF} {L : List Hn} (k : RQH q L) {h : Int} (hn : ∀ x ∈ L, x.h ≠ h) : q h = .none := by
  cases e : q h with
  | none => rfl
  | some y =>
    obtain ⟨x, hx, he⟩ := k.b h y e
    exact absurd he (hn x hx)
set_option maxRecDepth 100000 in
set_option maxHeartbeats 1000000 in
theorem rfind_any (L : List Hn) (a : Option Addr) (c : Nat) (m l r h : Int) (w : World) (hL : RdR 4 encH w a c L) (hl : L.length ≤ 1000000) :
    Calls Try.prog 36 #[.agg #[.int .i64 m, .int .i64 l, .int .i64 r, .slice a L.length c], .int .i64 h] w fun e w' => (∃ f, e = .returned (.int .i64 f) ∧ FindR h L f) ∧ Below w.heap.size w w' := by
  have HF : Hid (∀ W, Below w.heap.size w W → RdR 4 encH W a c L) := fun W b => hL.keep b
  obtain ⟨n, hn⟩ : ∃ n, n = L.length := ⟨_, rfl⟩
  have HNN : Hid (L.length = n) := hn.symm
  rw [← hn] at hl ⊢
  have HB0 : Hid (Below w.heap.size w (w.alloc (.cells #[.int .i64 m, .int .i64 l, .int .i64 r, .slice a n c] 28))) := (Below.refl _ _).alloc (Nat.le_refl _) _
  have HP0 : Hid (PBk (w.alloc (.cells #[.int .i64 m, .int .i64 l, .int .i64 r, .slice a n c] 28)) w.heap.size m l r (.slice a n c)) := tblk_new _ _
  clear hn hL
  go_enter Try.func36, Try.ntmps36
  go_wp2_with fail
  obtain ⟨w1, hw1⟩ : ∃ w1, w1 = w.alloc (.cells #[.int .i64 m, .int .i64 l, .int .i64 r, .slice a n c] 28) := ⟨_, rfl⟩
  rw [← hw1] at HB0 HP0 ⊢
  have HR := hidE (HF.out w1 HB0.out)
  clear hw1 HF
  go_loopw [5] (fun vi wr => ∃ k : Nat, k ≤ n ∧ vi = .int .i64 k ∧ wr = w1 ∧ Hid (∀ (j : Nat) y, j < k → L[j]? = some y → y.h ≠ h)) (fun vi _ => n - (intOf vi).toNat)
  case atStart => exact ⟨0, Nat.zero_le _, rfl, rfl, fun j y hj => by omega⟩
  case round =>
    obtain ⟨k, hk, rfl, rfl, HI⟩ := hrel
    have c3 := HP0.out.c3
    by_cases hlt : k < n
    · obtain ⟨x, hx⟩ : ∃ x, L[k]? = some x := ⟨L[k]'(by rw [HNN.out]; exact hlt), List.getElem?_eq_getElem _⟩
      obtain ⟨g, off, rfl, hg, hc⟩ := HR.out.at hx
      obtain ⟨d0, _⟩ := HR.out.h4 hx
      have m1 : (0 : Int) ≤ k := by omega
      have m2 : (k : Int) < n := by omega
      by_cases he : x.h = h
      · have HZ : Hid (FindR h L (k : Int)) := .inr ⟨k, x, rfl, hx, he⟩
        have e0 : (x.h == h) = true := by simp [he]
        clear hg hc HI hx he
        go_wp2
        go_ret
        exact ⟨⟨_, rfl, HZ.out⟩, HB0.out⟩
      · have e0 : (x.h == h) = false := by simp [he]
        have HI2 : Hid (∀ (j : Nat) y, j < k + 1 → L[j]? = some y → y.h ≠ h) := fun j y hj hy => by
          by_cases hjk : j = k
          · subst hjk
            rw [hx] at hy
            cases hy
            exact he
          · exact HI.out j y (by omega) hy
        clear hg hc HI hx he
        go_wp2
        go_roundw
        case rel => exact ⟨k + 1, by omega, by go_num, by trivial, HI2⟩
        case measure => simp [intOf]; omega
    · obtain rfl : k = n := by omega
      have HZ : Hid (FindR h L (-1)) := .inl ⟨rfl, fun x hx => by
        obtain ⟨j, hj, e⟩ := List.getElem_of_mem hx
        exact HI.out j x (by rw [← HNN.out]; exact hj) (by rw [List.getElem?_eq_getElem hj, e])⟩
      clear HI hlt
      go_wp2
      go_ret
      exact ⟨⟨_, rfl, HZ.out⟩, HB0.out⟩
set_option maxRecDepth 100000 in
set_option maxHeartbeats 1000000 in
theorem rstate_any (q : HF) (L : List Hn) (k : RQH q L) (a : Option Addr) (c : Nat) (m l r h : Int) (w : World) (hL : RdR 4 encH w a c L) (hl : L.length ≤ 1000000) :
    Calls Try.prog 18 #[.agg #[.int .i64 m, .int .i64 l, .int .i64 r, .slice a L.length c], .int .i64 h] w fun e w' => e = .returned (.int .i64 (lookH (q h)).2) ∧ Below w.heap.size w w' := by
  have B0 : Below w.heap.size w (w.alloc (.cells #[.int .i64 m, .int .i64 l, .int .i64 r, .slice a L.length c] 28)) := (Below.refl _ _).alloc (Nat.le_refl _) _
  have HF := hidE (rfind_any L a c m l r h _ (hL.keep B0) hl)
  have HP : Hid (PBk (w.alloc (.cells #[.int .i64 m, .int .i64 l, .int .i64 r, .slice a L.length c] 28)) w.heap.size m l r (.slice a L.length c)) := tblk_new _ _
  have HR := hidE (fun W b => hL.keep (w' := W) b)
  have HB := hidE B0
  have HK := hidE k
  obtain ⟨n, hn⟩ : ∃ n, n = L.length := ⟨_, rfl⟩
  have HNN : Hid (L.length = n) := hn.symm
  rw [← hn] at hl HF HP HB ⊢
  clear B0 hL k hn
  obtain ⟨st, hst⟩ : ∃ st, st = (lookH (q h)).2 := ⟨_, rfl⟩
  have HST := hidE hst
  rw [← hst]
  clear hst
  go_enter Try.func18, Try.ntmps18
  go_wp2_with fail
  refine HF.out.mono ?_
  rintro e w3 ⟨⟨f, rfl, hf⟩, B⟩
  have hp := HP.out.keep B HP.out.lt
  have hb := HB.out.trans (B.mono HB.out.size)
  have c3 := hp.c3
  have HBE := hidE hb
  rcases hf with ⟨rfl, hno⟩ | ⟨i, x, rfl, hx, he⟩
  · have e0 : st = 0 := by rw [HST.out, HK.out.none hno]; rfl
    subst e0
    clear HF HP HR HB HK HNN HST B hp hb hno
    go_wp2
    go_ret
    exact ⟨rfl, HBE.out⟩
  · have hxm := HK.out.a x (List.mem_of_getElem? hx)
    rw [he] at hxm
    have e0 : x.st = st := by rw [HST.out, hxm]; rfl
    obtain ⟨g, off, rfl, hg, hc⟩ := (HR.out w3 hb).at hx
    obtain ⟨_, d1, _⟩ := (HR.out w3 hb).h4 hx
    rw [e0] at d1
    have hi : i < n := by rw [← HNN.out]; exact (List.getElem?_eq_some_iff.1 hx).1
    have m0 : decide ((i : Int) < 0) = false := decide_eq_false (by omega)
    have m1 : (0 : Int) ≤ i := by omega
    have m2 : (i : Int) < n := by omega
    clear HF HP HR HB HK HNN HST B hp hb hx he hxm e0 hg hc
    go_wp2
    go_ret
    exact ⟨rfl, HBE.out⟩
set_option maxRecDepth 100000 in
set_option maxHeartbeats 1000000 in
theorem raim_any (q : HF) (L : List Hn) (k : RQH q L) (a : Option Addr) (c : Nat) (m l r h : Int) (w : World) (hL : RdR 4 encH w a c L) (hl : L.length ≤ 1000000) :
    Calls Try.prog 20 #[.agg #[.int .i64 m, .int .i64 l, .int .i64 r, .slice a L.length c], .int .i64 h] w fun e w' => e = .returned (.string (lookH (q h)).1) ∧ Below w.heap.size w w' := by
  have B0 : Below w.heap.size w (w.alloc (.cells #[.int .i64 m, .int .i64 l, .int .i64 r, .slice a L.length c] 28)) := (Below.refl _ _).alloc (Nat.le_refl _) _
  have HF := hidE (rfind_any L a c m l r h _ (hL.keep B0) hl)
  have HP : Hid (PBk (w.alloc (.cells #[.int .i64 m, .int .i64 l, .int .i64 r, .slice a L.length c] 28)) w.heap.size m l r (.slice a L.length c)) := tblk_new _ _
  have HR := hidE (fun W b => hL.keep (w' := W) b)
  have HB := hidE B0
  have HK := hidE k
  obtain ⟨n, hn⟩ : ∃ n, n = L.length := ⟨_, rfl⟩
  have HNN : Hid (L.length = n) := hn.symm
  rw [← hn] at hl HF HP HB ⊢
  clear B0 hL k hn
  obtain ⟨st, hst⟩ : ∃ st, st = (lookH (q h)).1 := ⟨_, rfl⟩
  have HST := hidE hst
  rw [← hst]
  clear hst
  go_enter Try.func20, Try.ntmps20
  go_wp2_with fail
  refine HF.out.mono ?_
  rintro e w3 ⟨⟨f, rfl, hf⟩, B⟩
  have hp := HP.out.keep B HP.out.lt
  have hb := HB.out.trans (B.mono HB.out.size)
  have c3 := hp.c3
  have HBE := hidE hb
  rcases hf with ⟨rfl, hno⟩ | ⟨i, x, rfl, hx, he⟩
  · have e0 : st = ⟨#[]⟩ := by rw [HST.out, HK.out.none hno]; rfl
    subst e0
    clear HF HP HR HB HK HNN HST B hp hb hno
    go_wp2
    go_ret
    exact ⟨rfl, HBE.out⟩
  · have hxm := HK.out.a x (List.mem_of_getElem? hx)
    rw [he] at hxm
    have e0 : x.a = st := by rw [HST.out, hxm]; rfl
    obtain ⟨g, off, rfl, hg, hc⟩ := (HR.out w3 hb).at hx
    obtain ⟨_, _, _, d1⟩ := (HR.out w3 hb).h4 hx
    rw [e0] at d1
    have hi : i < n := by rw [← HNN.out]; exact (List.getElem?_eq_some_iff.1 hx).1
    have m0 : decide ((i : Int) < 0) = false := decide_eq_false (by omega)
    have m1 : (0 : Int) ≤ i := by omega
    have m2 : (i : Int) < n := by omega
    clear HF HP HR HB HK HNN HST B hp hb hx he hxm e0 hg hc
    go_wp2
    go_ret
    exact ⟨rfl, HBE.out⟩
end Go.Proofs.Ytlaigjapnmgjeaa
