/- BucketPlays' walk. -/
import Derived.Test.YtpahicfgenffgaaBkF
import Derived.Deep.RegionHeld3
import Derived.Deep.DeepCutAuto
namespace Go.Proofs.Ytpahicfgenffgaa
open Go.RowKit
set_option linter.unusedVariables false

theorem new_at (w : World) (o : Obj) : (w.alloc o).heap[w.heap.size]? = some o := by
  show (w.heap.push _)[w.heap.size]? = _
  simp
/-- In block b lies the reference's bucket. -/
def IsR (w : World) (b : Nat) (r u k a : Int) : Prop := w.heap[b]? = some (.cells #[.int .i64 r, .int .i64 u, .int .i64 k, .int .i64 a] 27)
theorem IsR.c {w : World} {b : Nat} {r u k a : Int} (x : IsR w b r u k a) : w.cell? ⟨b, 0, none⟩ = some (.int .i64 r) ∧ w.cell? ⟨b, 1, none⟩ = some (.int .i64 u) ∧ w.cell? ⟨b, 2, none⟩ = some (.int .i64 k) ∧ w.cell? ⟨b, 3, none⟩ = some (.int .i64 a) := by
  unfold IsR at x; simp [World.cell?, x]
theorem IsR.z {w : World} {b : Nat} {r u k a : Int} (x : IsR w b r u k a) (o : Nat) : w.frozen? ⟨b, o, none⟩ = false := by unfold IsR at x; simp [World.frozen?, x]
theorem IsR.lt {w : World} {b : Nat} {r u k a : Int} (x : IsR w b r u k a) : b < w.heap.size := by unfold IsR at x; exact (Array.getElem?_eq_some_iff.1 x).1
theorem IsR.set4 {w : World} {b : Nat} {r u k a : Int} (x : IsR w b r u k a) (r' u' k' a' : Int) : IsR ((((w.setCell ⟨b, 0, none⟩ (.int .i64 r')).setCell ⟨b, 1, none⟩ (.int .i64 u')).setCell ⟨b, 2, none⟩ (.int .i64 k')).setCell ⟨b, 3, none⟩ (.int .i64 a')) b r' u' k' a' := by
  unfold IsR at *; simp [World.setCell, Array.getElem?_modify, x]
theorem But.set4 (b : Nat) (w : World) (v0 v1 v2 v3 : Value) : But b w ((((w.setCell ⟨b, 0, none⟩ v0).setCell ⟨b, 1, none⟩ v1).setCell ⟨b, 2, none⟩ v2).setCell ⟨b, 3, none⟩ v3) :=
  (((But.set b 0 w v0).trans (But.set b 1 _ v1)).trans (But.set b 2 _ v2)).trans (But.set b 3 _ v3)
theorem Below.isR {B c : Nat} {w w' : World} (h : Below B w w') (hc : c < B) {r u k a : Int} (x : IsR w c r u k a) : IsR w' c r u k a := by
  unfold IsR at *; rw [h.block c hc]; exact x
theorem But.isR {b c : Nat} {w w' : World} (h : But b w w') (hc : c ≠ b) {r u k a : Int} (x : IsR w c r u k a) : IsR w' c r u k a := by
  unfold IsR at *; rw [h.block c hc]; exact x

/-- The bucket, the reference's, and that nothing old has turned. -/
structure PL (w wr : World) (b m : Nat) (r u k a : Int) : Prop where
  isk : IsK wr b r u k a
  isr : IsR wr m r u k a
  ki : KI r u k a
  bel : Below w.heap.size w wr
  hb : w.heap.size ≤ b
  hm : w.heap.size ≤ m
  hne : b ≠ m
/-- The bucket while a statement is walked. -/
structure Q0 (W0 W : World) (b : Nat) (r u k a : Int) : Prop where
  isk : IsK W b r u k a
  but : But b W0 W
theorem Q0.drew {W0 W : World} {b : Nat} {r u k a : Int} (h : Q0 W0 W b r u k a) : Q0 W0 W.drew b r u k a := ⟨h.isk.drew, h.but.trans (But.drew _ _)⟩
/-- The call that is looked at, and the reference's tokens. -/
def SQ (W : World) (ob m : Nat) (t n k : Int) : Prop := W.cell? ⟨ob, 0, none⟩ = some (.int .i64 t) ∧ W.cell? ⟨ob, 1, none⟩ = some (.int .i64 n) ∧ W.cell? ⟨m, 2, none⟩ = some (.int .i64 k)
theorem But.cellQ {b : Nat} {w w' : World} (h : But b w w') (x o : Nat) (hx : x ≠ b) : w'.cell? ⟨x, o, none⟩ = w.cell? ⟨x, o, none⟩ := by simp [World.cell?, h.block x hx]
theorem SQ.but {b : Nat} {w w' : World} {ob m : Nat} {t n k : Int} (h : SQ w ob m t n k) (B : But b w w') (h1 : ob ≠ b) (h2 : m ≠ b) : SQ w' ob m t n k := by
  unfold SQ at *
  rw [B.cellQ _ _ h1, B.cellQ _ _ h1, B.cellQ _ _ h2]; exact h
theorem r14fill_b (r u k a now : Int) (w : World) (hi : KI r u k a) : Calls Try.prog 10 #[.agg #[.int .i64 r, .int .i64 u, .int .i64 k, .int .i64 a], .int .i64 now] w fun e w' => e = .returned (.agg #[.int .i64 r, .int .i64 u, .int .i64 (now2 r u k a now), .int .i64 (tmx now a)]) ∧ Below w.heap.size w w' :=
  (r14fill_any r u k a now w hi).mono fun e w' ⟨he, hw⟩ => ⟨he, hw ▸ ((Below.refl _ _).alloc (Nat.le_refl _) _).alloc (by simp) _⟩
theorem tmx_twice {t a : Int} (h : a ≤ 1099511627776) : tmx t (tmx t a) = tmx t a := by unfold tmx; split <;> (try split) <;> (try split) <;> (try split) <;> omega
set_option maxRecDepth 100000 in
set_option maxHeartbeats 1600000 in
theorem plays_walk (a0 a1 : Int) (ad : Option Addr) (len cap : Nat) (w : World) (hN : OpsK w ad len) :
    Calls Try.prog 3 #[.int .i64 a0, .int .i64 a1, .slice ad len cap] w fun e w' => e = .returned (.bool true) ∧ Below w.heap.size w w' := by
  obtain ⟨hl, hN⟩ := hN
  unfold maxLen at hl
  have HNEW : Hid (∀ W, Calls Try.prog 7 #[.int .i64 a0, .int .i64 a1] W fun e w' => ∃ b, e = .returned (.pointer (some ⟨b, 0, none⟩)) ∧ W.heap.size = b ∧ IsK w' b (bnd a0) (bnd a1) (bnd a1) 0 ∧ KI (bnd a0) (bnd a1) (bnd a1) 0 ∧ Below W.heap.size W w') := fun W => new_k a0 a1 W
  have HREF : Hid (∀ W, Calls Try.prog 9 #[.int .i64 a0, .int .i64 a1] W fun e w' => e = .returned (.agg #[.int .i64 (bnd a0), .int .i64 (bnd a1), .int .i64 (bnd a1), .int .i64 0]) ∧ Below W.heap.size W w') := fun W => r14new_any a0 a1 W
  generalize bnd a0 = r at *
  generalize bnd a1 = u at *
  go_enter Try.func3, Try.ntmps3
  go_wp2_with fail
  refine (HNEW.out _).mono ?_
  rintro e w1 ⟨b, rfl, hb, K1, I1, B1⟩
  go_wp2_with fail
  refine (alive_any _).mono ?_
  rintro e w2 ⟨rfl, B2⟩
  go_wp2_with fail
  refine (HREF.out _).mono ?_
  rintro e w3 ⟨rfl, B3⟩
  have K3 := Below.isK B3 (Below.isK B2 K1.lt K1).lt (Below.isK B2 K1.lt K1)
  have D3 := (B1.trans (B2.mono B1.size)).trans (B3.mono (B1.trans (B2.mono B1.size)).size)
  have BA : Below w3.heap.size w3 (w3.alloc (.cells #[.int .i64 r, .int .i64 u, .int .i64 u, .int .i64 0] 27)) := (Below.refl _ _).alloc (Nat.le_refl _) _
  have P0 : PL w (w3.alloc (.cells #[.int .i64 r, .int .i64 u, .int .i64 u, .int .i64 0] 27)) b w3.heap.size r u u 0 :=
    ⟨Below.isK BA K3.lt K3, new_at _ _, I1, D3.trans (BA.mono D3.size), by omega, D3.size, by have := K3.lt; omega⟩
  have hmb : w3.heap.size = w3.heap.size := rfl
  clear hmb
  clear K1 B1 B2 B3 K3 D3 BA I1 hb
  go_wp2_with fail
  go_loopw [27] (fun vi wr => ∃ (i : Nat) (k a : Int), i ≤ len ∧ vi = .int .i64 i ∧ Hid (PL w wr b w3.heap.size r u k a)) (fun vi _ => len - (intOf vi).toNat)
  case atStart => exact ⟨0, u, 0, Nat.zero_le _, rfl, P0⟩
  case round =>
    obtain ⟨i, k, a, hi, rfl, hP⟩ := hrel
    clear P0
    by_cases hlt : i < len
    · obtain ⟨b1, o1, rfl, hb1, hc1⟩ := hN (by omega)
      obtain ⟨t, n, l, g0, g1, g2⟩ := hc1 i hlt
      have h0 := (hP.out.bel.cell (p := ⟨b1, o1 + i * 3, none⟩) hb1).trans g0
      have h1 := (hP.out.bel.cell (p := ⟨b1, o1 + i * 3 + 1, none⟩) hb1).trans g1
      have h2 := (hP.out.bel.cell (p := ⟨b1, o1 + i * 3 + 2, none⟩) hb1).trans g2
      clear g0 g1 g2 hc1
      have hmlt := hP.out.isr.lt
      obtain ⟨m0, m1, m2, m3⟩ := hP.out.isr.c
      have hne := hP.out.hne
      have KP := hP.out.ki.now (now := t)
      cases l with
      | true =>
        have BA : Below wr.heap.size wr (wr.alloc (.cells #[.int .i64 t, .int .i64 n, .bool true] 30)) := (Below.refl _ _).alloc (Nat.le_refl _) _
        have HF : Hid (∀ W, Calls Try.prog 10 #[.agg #[.int .i64 r, .int .i64 u, .int .i64 k, .int .i64 a], .int .i64 t] W fun e w' => e = .returned (.agg #[.int .i64 r, .int .i64 u, .int .i64 (now2 r u k a t), .int .i64 (tmx t a)]) ∧ Below W.heap.size W w') := fun W => r14fill_b r u k a t W hP.out.ki
        have HT : Hid (∀ W, IsK W b r u k a → Calls Try.prog 11 #[.pointer (some ⟨b, 0, none⟩), .int .i64 t] W fun e w' => e = .returned (.int .i64 (now2 r u k a t)) ∧ IsK w' b r u (now2 r u k a t) (tmx t a) ∧ KI r u (now2 r u k a t) (tmx t a) ∧ But b W w') := fun W h => tok_any b r u k a t W h hP.out.ki
        generalize now2 r u k a t = k2 at *
        generalize tmx t a = T at *
        have HK : Hid (KI r u k2 T) := KP
        clear KP
        go_wp2_with fail
        refine (HF.out _).mono ?_
        rintro e w4 ⟨rfl, B4⟩
        have B4' := BA.trans (B4.mono BA.size)
        have R4 := Below.isR B4' hmlt hP.out.isr
        have K4 := Below.isK B4' hP.out.isk.lt hP.out.isk
        have O4 : w4.heap[wr.heap.size]? = some (.cells #[.int .i64 t, .int .i64 n, .bool true] 30) := (B4.block _ (by simp)).trans (new_at _ _)
        obtain ⟨p0, p1, p2, p3⟩ := R4.c
        have z0 := R4.z 0
        have z1 := R4.z 1
        have z2 := R4.z 2
        have z3 := R4.z 3
        have R5 := R4.set4 r u k2 T
        have C5 := But.set4 w3.heap.size w4 (.int .i64 r) (.int .i64 u) (.int .i64 k2) (.int .i64 T)
        have K5 := C5.isK hne K4
        have hne2 : wr.heap.size ≠ w3.heap.size := by omega
        have hne3 : wr.heap.size ≠ b := by have := hP.out.isk.lt; omega
        have O5 := (C5.block wr.heap.size hne2).trans O4
        have S5 : Hid (SQ ((((w4.setCell ⟨w3.heap.size, 0, none⟩ (.int .i64 r)).setCell ⟨w3.heap.size, 1, none⟩ (.int .i64 u)).setCell ⟨w3.heap.size, 2, none⟩ (.int .i64 k2)).setCell ⟨w3.heap.size, 3, none⟩ (.int .i64 T)) wr.heap.size w3.heap.size t n k2) :=
          ⟨by simp [World.cell?, O5], by simp [World.cell?, O5], R5.c.2.2.1⟩
        have D5 : Hid (Below w.heap.size w ((((w4.setCell ⟨w3.heap.size, 0, none⟩ (.int .i64 r)).setCell ⟨w3.heap.size, 1, none⟩ (.int .i64 u)).setCell ⟨w3.heap.size, 2, none⟩ (.int .i64 k2)).setCell ⟨w3.heap.size, 3, none⟩ (.int .i64 T))) := (hP.out.bel.trans (B4'.mono hP.out.bel.size)).trans (C5.below hP.out.hm)
        have HR5 : Hid (IsR ((((w4.setCell ⟨w3.heap.size, 0, none⟩ (.int .i64 r)).setCell ⟨w3.heap.size, 1, none⟩ (.int .i64 u)).setCell ⟨w3.heap.size, 2, none⟩ (.int .i64 k2)).setCell ⟨w3.heap.size, 3, none⟩ (.int .i64 T)) w3.heap.size r u k2 T) := R5
        have HK5 : Hid (IsK ((((w4.setCell ⟨w3.heap.size, 0, none⟩ (.int .i64 r)).setCell ⟨w3.heap.size, 1, none⟩ (.int .i64 u)).setCell ⟨w3.heap.size, 2, none⟩ (.int .i64 k2)).setCell ⟨w3.heap.size, 3, none⟩ (.int .i64 T)) b r u k a) := K5
        clear B4 B4' BA R4 K4 O4 R5 C5 K5 O5 m0 m1 m2 m3 h0 h1 h2
        go_wp2_with fail
        generalize (((w4.setCell ⟨w3.heap.size, 0, none⟩ (.int .i64 r)).setCell ⟨w3.heap.size, 1, none⟩ (.int .i64 u)).setCell ⟨w3.heap.size, 2, none⟩ (.int .i64 k2)).setCell ⟨w3.heap.size, 3, none⟩ (.int .i64 T) = W5 at *
        clear p0 p1 p2 p3 z0 z1 z2 z3
        obtain ⟨s0, s1, s2⟩ := S5.out
        have HC : Hid (∀ W, Q0 W5 W b r u k a → Calls Try.prog 11 #[.pointer (some ⟨b, 0, none⟩), .int .i64 t] W fun e w' => e = .returned (.int .i64 k2) ∧ Q0 W5 w' b r u k2 T ∧ (w'.cell? ⟨wr.heap.size, 0, none⟩ = some (.int .i64 t) ∧ w'.cell? ⟨wr.heap.size, 1, none⟩ = some (.int .i64 n) ∧ w'.cell? ⟨w3.heap.size, 2, none⟩ = some (.int .i64 k2))) := fun W q => (HT.out W q.isk).mono fun e w' ⟨he, h1, h2, h3⟩ => ⟨he, ⟨h1, q.but.trans h3⟩, S5.out.but (q.but.trans h3) hne3 hne.symm⟩
        have I5 : Q0 W5 W5 b r u k a := ⟨HK5.out, But.refl _ _⟩
        go_region_held3 (fun W => W.cell? ⟨wr.heap.size, 0, none⟩ = some (.int .i64 t) ∧ W.cell? ⟨wr.heap.size, 1, none⟩ = some (.int .i64 n) ∧ W.cell? ⟨w3.heap.size, 2, none⟩ = some (.int .i64 k2)) (go_keep) (first | (go_at_call 11; refine (HC.out _ (by first | assumption | exact Q0.drew I5)).mono ?_; rintro e w' ⟨rfl, hI, hS⟩))
        go_wp2
        go_roundw
        case rel => exact ⟨i + 1, k2, T, by omega, by go_num, hI.isk, hI.but.isR hne.symm HR5.out, HK.out, D5.out.trans (hI.but.below hP.out.hb), hP.out.hb, hP.out.hm, hne⟩
        case measure => simp [intOf]; omega
      | false =>
        have BA : Below wr.heap.size wr (wr.alloc (.cells #[.int .i64 t, .int .i64 n, .bool false] 30)) := (Below.refl _ _).alloc (Nat.le_refl _) _
        have HF : Hid (∀ W, Calls Try.prog 12 #[.agg #[.int .i64 r, .int .i64 u, .int .i64 k, .int .i64 a], .int .i64 t, .int .i64 n] W fun e w' => e = .returned (.tuple #[.agg #[.int .i64 r, .int .i64 u, .int .i64 (tkK (now2 r u k a t) n), .int .i64 (tmx t a)], .bool (tkB (now2 r u k a t) n)]) ∧ Below W.heap.size W w') := fun W => r14take_any r u k a t n W hP.out.ki
        have HT : Hid (∀ W, IsK W b r u k a → Calls Try.prog 13 #[.pointer (some ⟨b, 0, none⟩), .int .i64 t, .int .i64 n] W fun e w' => e = .returned (.bool (tkB (now2 r u k a t) n)) ∧ IsK w' b r u (tkK (now2 r u k a t) n) (tmx t a) ∧ KI r u (tkK (now2 r u k a t) n) (tmx t a) ∧ But b W w') := fun W h => take_any b r u k a t n W h hP.out.ki
        have TW : Hid (tmx t (tmx t a) = tmx t a) := tmx_twice hP.out.ki.a1
        have HK : Hid (KI r u (tkK (now2 r u k a t) n) (tmx t a)) := KP.took
        generalize now2 r u k a t = k1 at *
        generalize tkB k1 n = ok at *
        generalize tkK k1 n = k2 at *
        generalize tmx t a = T at *
        have N2 : Hid (now2 r u k2 T t = k2) := by unfold now2; rw [TW.out]; exact fl_same HK.out
        clear KP
        go_wp2_with fail
        refine (HF.out _).mono ?_
        rintro e w4 ⟨rfl, B4⟩
        have B4c := BA.trans (B4.mono BA.size)
        have BN : Below w4.heap.size w4 (w4.alloc (.cells #[.int .i64 r, .int .i64 u, .int .i64 k2, .int .i64 T] 27)) := (Below.refl _ _).alloc (Nat.le_refl _) _
        have B4' := B4c.trans (BN.mono B4c.size)
        have R4 := Below.isR B4' hmlt hP.out.isr
        have K4 := Below.isK B4' hP.out.isk.lt hP.out.isk
        have hs4 : wr.heap.size < w4.heap.size := Nat.lt_of_lt_of_le (by simp) B4.size
        have O4 : (w4.alloc (.cells #[.int .i64 r, .int .i64 u, .int .i64 k2, .int .i64 T] 27)).heap[wr.heap.size]? = some (.cells #[.int .i64 t, .int .i64 n, .bool false] 30) := (BN.block _ hs4).trans ((B4.block _ (by simp)).trans (new_at _ _))
        obtain ⟨p0, p1, p2, p3⟩ := R4.c
        have z0 := R4.z 0
        have z1 := R4.z 1
        have z2 := R4.z 2
        have z3 := R4.z 3
        have R5 := R4.set4 r u k2 T
        have C5 := But.set4 w3.heap.size (w4.alloc (.cells #[.int .i64 r, .int .i64 u, .int .i64 k2, .int .i64 T] 27)) (.int .i64 r) (.int .i64 u) (.int .i64 k2) (.int .i64 T)
        have K5 := C5.isK hne K4
        have hne2 : wr.heap.size ≠ w3.heap.size := by omega
        have hne3 : wr.heap.size ≠ b := by have := hP.out.isk.lt; omega
        have O5 := (C5.block wr.heap.size hne2).trans O4
        have S5 : Hid (SQ (((((w4.alloc (.cells #[.int .i64 r, .int .i64 u, .int .i64 k2, .int .i64 T] 27)).setCell ⟨w3.heap.size, 0, none⟩ (.int .i64 r)).setCell ⟨w3.heap.size, 1, none⟩ (.int .i64 u)).setCell ⟨w3.heap.size, 2, none⟩ (.int .i64 k2)).setCell ⟨w3.heap.size, 3, none⟩ (.int .i64 T)) wr.heap.size w3.heap.size t n k2) :=
          ⟨by simp [World.cell?, O5], by simp [World.cell?, O5], R5.c.2.2.1⟩
        have D5 : Hid (Below w.heap.size w (((((w4.alloc (.cells #[.int .i64 r, .int .i64 u, .int .i64 k2, .int .i64 T] 27)).setCell ⟨w3.heap.size, 0, none⟩ (.int .i64 r)).setCell ⟨w3.heap.size, 1, none⟩ (.int .i64 u)).setCell ⟨w3.heap.size, 2, none⟩ (.int .i64 k2)).setCell ⟨w3.heap.size, 3, none⟩ (.int .i64 T))) := (hP.out.bel.trans (B4'.mono hP.out.bel.size)).trans (C5.below hP.out.hm)
        have HR5 : Hid (IsR (((((w4.alloc (.cells #[.int .i64 r, .int .i64 u, .int .i64 k2, .int .i64 T] 27)).setCell ⟨w3.heap.size, 0, none⟩ (.int .i64 r)).setCell ⟨w3.heap.size, 1, none⟩ (.int .i64 u)).setCell ⟨w3.heap.size, 2, none⟩ (.int .i64 k2)).setCell ⟨w3.heap.size, 3, none⟩ (.int .i64 T)) w3.heap.size r u k2 T) := R5
        have HK5 : Hid (IsK (((((w4.alloc (.cells #[.int .i64 r, .int .i64 u, .int .i64 k2, .int .i64 T] 27)).setCell ⟨w3.heap.size, 0, none⟩ (.int .i64 r)).setCell ⟨w3.heap.size, 1, none⟩ (.int .i64 u)).setCell ⟨w3.heap.size, 2, none⟩ (.int .i64 k2)).setCell ⟨w3.heap.size, 3, none⟩ (.int .i64 T)) b r u k a) := K5
        clear B4 B4' B4c BN BA R4 K4 O4 R5 C5 K5 O5 m0 m1 m2 m3 h0 h1 h2
        go_wp2_with fail
        generalize ((((w4.alloc (.cells #[.int .i64 r, .int .i64 u, .int .i64 k2, .int .i64 T] 27)).setCell ⟨w3.heap.size, 0, none⟩ (.int .i64 r)).setCell ⟨w3.heap.size, 1, none⟩ (.int .i64 u)).setCell ⟨w3.heap.size, 2, none⟩ (.int .i64 k2)).setCell ⟨w3.heap.size, 3, none⟩ (.int .i64 T) = W5 at *
        clear p0 p1 p2 p3 z0 z1 z2 z3
        obtain ⟨s0, s1, s2⟩ := S5.out
        have HC : Hid (∀ W, Q0 W5 W b r u k a → Calls Try.prog 13 #[.pointer (some ⟨b, 0, none⟩), .int .i64 t, .int .i64 n] W fun e w' => e = .returned (.bool ok) ∧ Q0 W5 w' b r u k2 T ∧ (w'.cell? ⟨wr.heap.size, 0, none⟩ = some (.int .i64 t) ∧ w'.cell? ⟨wr.heap.size, 1, none⟩ = some (.int .i64 n) ∧ w'.cell? ⟨w3.heap.size, 2, none⟩ = some (.int .i64 k2))) := fun W q => (HT.out W q.isk).mono fun e w' ⟨he, h1, h2, h3⟩ => ⟨he, ⟨h1, q.but.trans h3⟩, S5.out.but (q.but.trans h3) hne3 hne.symm⟩
        have HC2 : Hid (∀ W, Q0 W5 W b r u k2 T → Calls Try.prog 11 #[.pointer (some ⟨b, 0, none⟩), .int .i64 t] W fun e w' => e = .returned (.int .i64 k2) ∧ Q0 W5 w' b r u k2 T ∧ (w'.cell? ⟨wr.heap.size, 0, none⟩ = some (.int .i64 t) ∧ w'.cell? ⟨wr.heap.size, 1, none⟩ = some (.int .i64 n) ∧ w'.cell? ⟨w3.heap.size, 2, none⟩ = some (.int .i64 k2))) := fun W q => (tok_at b r u k2 T t k2 T W q.isk HK.out N2.out TW.out).mono fun e w' ⟨he, h1, h2, h3⟩ => ⟨he, ⟨h1, q.but.trans h3⟩, S5.out.but (q.but.trans h3) hne3 hne.symm⟩
        have I5 : Q0 W5 W5 b r u k a := ⟨HK5.out, But.refl _ _⟩
        go_region_held3 (fun W => W.cell? ⟨wr.heap.size, 0, none⟩ = some (.int .i64 t) ∧ W.cell? ⟨wr.heap.size, 1, none⟩ = some (.int .i64 n) ∧ W.cell? ⟨w3.heap.size, 2, none⟩ = some (.int .i64 k2)) (go_keep) (first | (go_at_call 13; refine (HC.out _ (by first | assumption | exact Q0.drew I5)).mono ?_; rintro e w' ⟨rfl, hI, hS⟩) | (go_at_call 11; refine (HC2.out _ (by first | assumption | exact Q0.drew (by assumption))).mono ?_; clear hI; rintro e w' ⟨rfl, hI, hS⟩))
        go_wp2
        go_roundw
        case rel => exact ⟨i + 1, k2, T, by omega, by go_num, hI.isk, hI.but.isR hne.symm HR5.out, HK.out, D5.out.trans (hI.but.below hP.out.hb), hP.out.hb, hP.out.hm, hne⟩
        case measure => simp [intOf]; omega
    · have hie : i = len := by omega
      subst hie
      have hlt2 : ¬ (i : Int) < (i : Int) := by omega
      clear hlt
      go_wp2
      go_ret
      exact ⟨rfl, hP.out.bel⟩
end Go.Proofs.Ytpahicfgenffgaa
