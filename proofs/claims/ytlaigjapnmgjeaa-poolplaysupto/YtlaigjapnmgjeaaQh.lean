/- The document's pool: Take. -/
import Derived.Test.YtlaigjapnmgjeaaQha
namespace Go.Proofs.Ytlaigjapnmgjeaa
open Go.RowKit
set_option linter.unusedVariables false

set_option maxRecDepth 100000 in
set_option maxHeartbeats 4000000 in
theorem rtake_any (L : List Hn) (a : Option Addr) (c : Nat) (m l r : Int) (aim : KS) (w : World) (hL : RdR 4 encH w a c L) (hl : L.length ≤ 1000000) (hl0 : 0 ≤ l) (hl1 : l ≤ 1000000) {P : Ending → World → Prop}
    (kA : ∀ (i : Nat) (x : Hn) W' a' c', NewR aim L L.length i → L[i]? = some x → OwR 81 4 encH w.heap.size W' (.slice a' (withL ⟨x.h, 2, x.si, x.a⟩ L).length c') (withL ⟨x.h, 2, x.si, x.a⟩ L) → Below w.heap.size w W' → P (.returned (.tuple #[.agg #[.int .i64 m, .int .i64 l, .int .i64 r, .slice a' (withL ⟨x.h, 2, x.si, x.a⟩ L).length c'], .agg #[.int .i64 x.h, .int .i64 0, .bool false], .int .i64 0])) W')
    (kB : ∀ W' a' c', NewR aim L L.length (-1) → (L.length : Int) < m → OwR 81 4 encH w.heap.size W' (.slice a' (withL ⟨l + 1, 1, 0, aim⟩ L).length c') (withL ⟨l + 1, 1, 0, aim⟩ L) → Below w.heap.size w W' → P (.returned (.tuple #[.agg #[.int .i64 m, .int .i64 (l + 1), .int .i64 r, .slice a' (withL ⟨l + 1, 1, 0, aim⟩ L).length c'], .agg #[.int .i64 (l + 1), .int .i64 0, .bool true], .int .i64 0])) W')
    (kC : ∀ W', NewR aim L L.length (-1) → ¬ (L.length : Int) < m → OldR L L.length (-1) → Below w.heap.size w W' → P (.returned (.tuple #[.agg #[.int .i64 m, .int .i64 l, .int .i64 r, .slice a L.length c], .agg #[.int .i64 0, .int .i64 0, .bool false], .int .i64 6])) W')
    (kD : ∀ (i : Nat) (x : Hn) W' a' c', NewR aim L L.length (-1) → ¬ (L.length : Int) < m → OldR L L.length i → L[i]? = some x → OwR 81 4 encH w.heap.size W' (.slice a' (withL ⟨l + 1, 1, 0, aim⟩ (offH x.h L)).length c') (withL ⟨l + 1, 1, 0, aim⟩ (offH x.h L)) → Below w.heap.size w W' → P (.returned (.tuple #[.agg #[.int .i64 m, .int .i64 (l + 1), .int .i64 r, .slice a' (withL ⟨l + 1, 1, 0, aim⟩ (offH x.h L)).length c'], .agg #[.int .i64 (l + 1), .int .i64 x.h, .bool true], .int .i64 0])) W') :
    Calls Try.prog 8 #[.agg #[.int .i64 m, .int .i64 l, .int .i64 r, .slice a L.length c], .string aim] w P := by
  have HA := hidE kA
  have HBB := hidE kB
  have HC := hidE kC
  have HD := hidE kD
  have HF : Hid (∀ W, Below w.heap.size w W → RdR 4 encH W a c L) := fun W b => hL.keep b
  obtain ⟨n, hn⟩ : ∃ n, n = L.length := ⟨_, rfl⟩
  have HNN : Hid (L.length = n) := hn.symm
  obtain ⟨t0, t1⟩ := tp_lease w m l r (.slice a n c)
  rw [← hn] at hl HA HBB HC HD ⊢
  have HL0 : Hid (0 ≤ l ∧ l ≤ 1000000) := ⟨hl0, hl1⟩
  clear hn hL kA kB kC kD hl0 hl1
  go_enter Try.func8, Try.ntmps8
  go_wp2_with fail
  obtain ⟨w2, hw2⟩ : ∃ w2, w2 = ((w.alloc (.cells #[.int .i64 m, .int .i64 l, .int .i64 r, .slice a n c] 28)).alloc (.cells #[.int .i64 0, .int .i64 0, .int .i64 0, .slice none 0 0] 28)).alloc (.cells #[.int .i64 0, .int .i64 0, .bool false] 36) := ⟨_, rfl⟩
  have S2 : w2.heap.size = w.heap.size + 1 + 1 + 1 := by rw [hw2]; simp
  rw [← hw2] at t0 t1 ⊢
  have HT2 := hidE t0
  have HL2 := hidE t1
  have HS2 := hidE S2
  clear hw2 t0 t1 S2
  go_loopw [7, 8, 9] (fun v7 v8 vi wr => ∃ (k : Nat) (fN fO : Int), k ≤ n ∧ vi = .int .i64 k ∧ v7 = .int .i64 fN ∧ v8 = .int .i64 fO ∧ Hid (NewR aim L k fN) ∧ Hid (OldR L k fO) ∧ Hid (Below w2.heap.size w2 wr)) (fun _ _ vi _ => n - (intOf vi).toNat)
  case atStart => exact ⟨0, -1, -1, Nat.zero_le _, rfl, rfl, rfl, NewR.start _ _, OldR.start _, Below.refl _ _⟩
  case round =>
    obtain ⟨k, fN, fO, hk, rfl, rfl, rfl, HN, HO, HB⟩ := hrel
    have T := HT2.out.keep (HB.out.mono (by rw [HS2.out]; omega))
    have c3 := T.x.c3
    have ltp := T.x.lt
    by_cases hlt : k < n
    · have hfw := HF.out wr T.b
      obtain ⟨p, hp⟩ : ∃ p, L[k]? = some p := ⟨L[k]'(by rw [HNN.out]; exact hlt), List.getElem?_eq_getElem _⟩
      obtain ⟨g, off, rfl, hg, hc⟩ := hfw.at hp
      obtain ⟨d0, d1, d2, d3⟩ := hfw.h4 hp
      have m1 : (0 : Int) ≤ k := by omega
      have m2 : (k : Int) < n := by omega
      have HBA := hidE (HB.out.alloc HB.out.size (.cells #[.int .i64 p.h, .int .i64 p.st, .int .i64 p.si, .string p.a] 81))
      by_cases h3 : p.st = 3
      · have HH4 := hidE (fun j y (hy : L[j]? = some y) => hfw.h4 hy)
        rw [h3] at d1 HBA
        cases hq : eqA p.a aim with
        | false =>
          rcases HO.out with ⟨rfl, _⟩ | ⟨oi, xo, rfl, hoi, hxo, _⟩
          · have HN2 := hidE (HN.out.skip hp (fun _ => hq))
            have HO2 := hidE (HO.out.first hp h3)
            have r0 : (ByteArray.toList p.a == ByteArray.toList aim) = false := hq
            clear hfw hp hc h3 T HN HO HH4 hq
            obtain ⟨u1, u2, u3, u4⟩ := p
            simp only at d0 d1 d2 d3 r0 HBA
            go_wp2_with fail
            go_quiet (fail)
            go_wp2_with fail
            go_quiet (fail)
            go_wp2
            go_roundw
            case rel => exact ⟨k + 1, _, _, by omega, by go_num, rfl, rfl, HN2, HO2, hidE (by first | exact qdrewN (qdrewN HBA.out _) _ | exact qdrewN HBA.out _)⟩
            case measure => simp [intOf]; omega
          · by_cases hco : p.si < xo.si
            · have HN2 := hidE (HN.out.skip hp (fun _ => hq))
              have HO2 := hidE (HO.out.less hp hxo h3 hco)
              have o1 : decide ((oi : Int) < 0) = false := decide_eq_false (by omega)
              have o2 : (0 : Int) ≤ oi := by omega
              have o3 : (oi : Int) < n := by omega
              have o4 : decide (p.si < xo.si) = true := decide_eq_true hco
              have o5 := (HH4.out oi xo hxo).2.2.1
              have r0 : (ByteArray.toList p.a == ByteArray.toList aim) = false := hq
              generalize xo.si = xos at *
              clear hfw hp hc h3 T HN HO HH4 hq hxo hco
              obtain ⟨u1, u2, u3, u4⟩ := p
              simp only at d0 d1 d2 d3 r0 HBA o4
              go_wp2_with fail
              go_quiet (fail)
              go_wp2_with fail
              go_quiet (fail)
              go_wp2
              go_roundw
              case rel => exact ⟨k + 1, _, _, by omega, by go_num, rfl, rfl, HN2, HO2, hidE (by first | exact qdrewN (qdrewN HBA.out _) _ | exact qdrewN HBA.out _)⟩
              case measure => simp [intOf]; omega
            · have HN2 := hidE (HN.out.skip hp (fun _ => hq))
              have HO2 := hidE (HO.out.keep hp hxo (by omega))
              have o1 : decide ((oi : Int) < 0) = false := decide_eq_false (by omega)
              have o2 : (0 : Int) ≤ oi := by omega
              have o3 : (oi : Int) < n := by omega
              have o4 : decide (p.si < xo.si) = false := decide_eq_false hco
              have o5 := (HH4.out oi xo hxo).2.2.1
              have r0 : (ByteArray.toList p.a == ByteArray.toList aim) = false := hq
              generalize xo.si = xos at *
              clear hfw hp hc h3 T HN HO HH4 hq hxo hco
              obtain ⟨u1, u2, u3, u4⟩ := p
              simp only at d0 d1 d2 d3 r0 HBA o4
              go_wp2_with fail
              go_quiet (fail)
              go_wp2_with fail
              go_quiet (fail)
              go_wp2
              go_roundw
              case rel => exact ⟨k + 1, _, _, by omega, by go_num, rfl, rfl, HN2, HO2, hidE (by first | exact qdrewN (qdrewN HBA.out _) _ | exact qdrewN HBA.out _)⟩
              case measure => simp [intOf]; omega
        | true =>
          rcases HN.out with ⟨rfl, _⟩ | ⟨ni, xn, rfl, hni, hxn, _⟩
          · rcases HO.out with ⟨rfl, _⟩ | ⟨oi, xo, rfl, hoi, hxo, _⟩
            · have HN2 := hidE (HN.out.first hp h3 hq)
              have HO2 := hidE (HO.out.first hp h3)
              have r0 : (ByteArray.toList p.a == ByteArray.toList aim) = true := hq
              clear hfw hp hc h3 T HN HO HH4 hq
              obtain ⟨u1, u2, u3, u4⟩ := p
              simp only at d0 d1 d2 d3 r0 HBA
              go_wp2_with fail
              go_quiet (fail)
              go_wp2_with fail
              go_quiet (fail)
              go_wp2
              go_roundw
              case rel => exact ⟨k + 1, _, _, by omega, by go_num, rfl, rfl, HN2, HO2, hidE (by first | exact qdrewN (qdrewN HBA.out _) _ | exact qdrewN HBA.out _)⟩
              case measure => simp [intOf]; omega
            · by_cases hco : p.si < xo.si
              · have HN2 := hidE (HN.out.first hp h3 hq)
                have HO2 := hidE (HO.out.less hp hxo h3 hco)
                have o1 : decide ((oi : Int) < 0) = false := decide_eq_false (by omega)
                have o2 : (0 : Int) ≤ oi := by omega
                have o3 : (oi : Int) < n := by omega
                have o4 : decide (p.si < xo.si) = true := decide_eq_true hco
                have o5 := (HH4.out oi xo hxo).2.2.1
                have r0 : (ByteArray.toList p.a == ByteArray.toList aim) = true := hq
                generalize xo.si = xos at *
                clear hfw hp hc h3 T HN HO HH4 hq hxo hco
                obtain ⟨u1, u2, u3, u4⟩ := p
                simp only at d0 d1 d2 d3 r0 HBA o4
                go_wp2_with fail
                go_quiet (fail)
                go_wp2_with fail
                go_quiet (fail)
                go_wp2
                go_roundw
                case rel => exact ⟨k + 1, _, _, by omega, by go_num, rfl, rfl, HN2, HO2, hidE (by first | exact qdrewN (qdrewN HBA.out _) _ | exact qdrewN HBA.out _)⟩
                case measure => simp [intOf]; omega
              · have HN2 := hidE (HN.out.first hp h3 hq)
                have HO2 := hidE (HO.out.keep hp hxo (by omega))
                have o1 : decide ((oi : Int) < 0) = false := decide_eq_false (by omega)
                have o2 : (0 : Int) ≤ oi := by omega
                have o3 : (oi : Int) < n := by omega
                have o4 : decide (p.si < xo.si) = false := decide_eq_false hco
                have o5 := (HH4.out oi xo hxo).2.2.1
                have r0 : (ByteArray.toList p.a == ByteArray.toList aim) = true := hq
                generalize xo.si = xos at *
                clear hfw hp hc h3 T HN HO HH4 hq hxo hco
                obtain ⟨u1, u2, u3, u4⟩ := p
                simp only at d0 d1 d2 d3 r0 HBA o4
                go_wp2_with fail
                go_quiet (fail)
                go_wp2_with fail
                go_quiet (fail)
                go_wp2
                go_roundw
                case rel => exact ⟨k + 1, _, _, by omega, by go_num, rfl, rfl, HN2, HO2, hidE (by first | exact qdrewN (qdrewN HBA.out _) _ | exact qdrewN HBA.out _)⟩
                case measure => simp [intOf]; omega
          · by_cases hcn : xn.si < p.si
            · rcases HO.out with ⟨rfl, _⟩ | ⟨oi, xo, rfl, hoi, hxo, _⟩
              · have HN2 := hidE (HN.out.more hp hxn h3 hq hcn)
                have n1 : decide ((ni : Int) < 0) = false := decide_eq_false (by omega)
                have n2 : (0 : Int) ≤ ni := by omega
                have n3 : (ni : Int) < n := by omega
                have n4 : decide (xn.si < p.si) = true := decide_eq_true hcn
                have n5 := (HH4.out ni xn hxn).2.2.1
                have HO2 := hidE (HO.out.first hp h3)
                have r0 : (ByteArray.toList p.a == ByteArray.toList aim) = true := hq
                generalize xn.si = xns at *
                clear hfw hp hc h3 T HN HO HH4 hq hxn hcn
                obtain ⟨u1, u2, u3, u4⟩ := p
                simp only at d0 d1 d2 d3 r0 HBA n4
                go_wp2_with fail
                go_quiet (fail)
                go_wp2_with fail
                go_quiet (fail)
                go_wp2
                go_roundw
                case rel => exact ⟨k + 1, _, _, by omega, by go_num, rfl, rfl, HN2, HO2, hidE (by first | exact qdrewN (qdrewN HBA.out _) _ | exact qdrewN HBA.out _)⟩
                case measure => simp [intOf]; omega
              · by_cases hco : p.si < xo.si
                · have HN2 := hidE (HN.out.more hp hxn h3 hq hcn)
                  have n1 : decide ((ni : Int) < 0) = false := decide_eq_false (by omega)
                  have n2 : (0 : Int) ≤ ni := by omega
                  have n3 : (ni : Int) < n := by omega
                  have n4 : decide (xn.si < p.si) = true := decide_eq_true hcn
                  have n5 := (HH4.out ni xn hxn).2.2.1
                  have HO2 := hidE (HO.out.less hp hxo h3 hco)
                  have o1 : decide ((oi : Int) < 0) = false := decide_eq_false (by omega)
                  have o2 : (0 : Int) ≤ oi := by omega
                  have o3 : (oi : Int) < n := by omega
                  have o4 : decide (p.si < xo.si) = true := decide_eq_true hco
                  have o5 := (HH4.out oi xo hxo).2.2.1
                  have r0 : (ByteArray.toList p.a == ByteArray.toList aim) = true := hq
                  generalize xn.si = xns at *
                  generalize xo.si = xos at *
                  clear hfw hp hc h3 T HN HO HH4 hq hxn hcn hxo hco
                  obtain ⟨u1, u2, u3, u4⟩ := p
                  simp only at d0 d1 d2 d3 r0 HBA n4 o4
                  go_wp2_with fail
                  go_quiet (fail)
                  go_wp2_with fail
                  go_quiet (fail)
                  go_wp2
                  go_roundw
                  case rel => exact ⟨k + 1, _, _, by omega, by go_num, rfl, rfl, HN2, HO2, hidE (by first | exact qdrewN (qdrewN HBA.out _) _ | exact qdrewN HBA.out _)⟩
                  case measure => simp [intOf]; omega
                · have HN2 := hidE (HN.out.more hp hxn h3 hq hcn)
                  have n1 : decide ((ni : Int) < 0) = false := decide_eq_false (by omega)
                  have n2 : (0 : Int) ≤ ni := by omega
                  have n3 : (ni : Int) < n := by omega
                  have n4 : decide (xn.si < p.si) = true := decide_eq_true hcn
                  have n5 := (HH4.out ni xn hxn).2.2.1
                  have HO2 := hidE (HO.out.keep hp hxo (by omega))
                  have o1 : decide ((oi : Int) < 0) = false := decide_eq_false (by omega)
                  have o2 : (0 : Int) ≤ oi := by omega
                  have o3 : (oi : Int) < n := by omega
                  have o4 : decide (p.si < xo.si) = false := decide_eq_false hco
                  have o5 := (HH4.out oi xo hxo).2.2.1
                  have r0 : (ByteArray.toList p.a == ByteArray.toList aim) = true := hq
                  generalize xn.si = xns at *
                  generalize xo.si = xos at *
                  clear hfw hp hc h3 T HN HO HH4 hq hxn hcn hxo hco
                  obtain ⟨u1, u2, u3, u4⟩ := p
                  simp only at d0 d1 d2 d3 r0 HBA n4 o4
                  go_wp2_with fail
                  go_quiet (fail)
                  go_wp2_with fail
                  go_quiet (fail)
                  go_wp2
                  go_roundw
                  case rel => exact ⟨k + 1, _, _, by omega, by go_num, rfl, rfl, HN2, HO2, hidE (by first | exact qdrewN (qdrewN HBA.out _) _ | exact qdrewN HBA.out _)⟩
                  case measure => simp [intOf]; omega
            · rcases HO.out with ⟨rfl, _⟩ | ⟨oi, xo, rfl, hoi, hxo, _⟩
              · have HN2 := hidE (HN.out.keep hp hxn (by omega))
                have n1 : decide ((ni : Int) < 0) = false := decide_eq_false (by omega)
                have n2 : (0 : Int) ≤ ni := by omega
                have n3 : (ni : Int) < n := by omega
                have n4 : decide (xn.si < p.si) = false := decide_eq_false hcn
                have n5 := (HH4.out ni xn hxn).2.2.1
                have HO2 := hidE (HO.out.first hp h3)
                have r0 : (ByteArray.toList p.a == ByteArray.toList aim) = true := hq
                generalize xn.si = xns at *
                clear hfw hp hc h3 T HN HO HH4 hq hxn hcn
                obtain ⟨u1, u2, u3, u4⟩ := p
                simp only at d0 d1 d2 d3 r0 HBA n4
                go_wp2_with fail
                go_quiet (fail)
                go_wp2_with fail
                go_quiet (fail)
                go_wp2
                go_roundw
                case rel => exact ⟨k + 1, _, _, by omega, by go_num, rfl, rfl, HN2, HO2, hidE (by first | exact qdrewN (qdrewN HBA.out _) _ | exact qdrewN HBA.out _)⟩
                case measure => simp [intOf]; omega
              · by_cases hco : p.si < xo.si
                · have HN2 := hidE (HN.out.keep hp hxn (by omega))
                  have n1 : decide ((ni : Int) < 0) = false := decide_eq_false (by omega)
                  have n2 : (0 : Int) ≤ ni := by omega
                  have n3 : (ni : Int) < n := by omega
                  have n4 : decide (xn.si < p.si) = false := decide_eq_false hcn
                  have n5 := (HH4.out ni xn hxn).2.2.1
                  have HO2 := hidE (HO.out.less hp hxo h3 hco)
                  have o1 : decide ((oi : Int) < 0) = false := decide_eq_false (by omega)
                  have o2 : (0 : Int) ≤ oi := by omega
                  have o3 : (oi : Int) < n := by omega
                  have o4 : decide (p.si < xo.si) = true := decide_eq_true hco
                  have o5 := (HH4.out oi xo hxo).2.2.1
                  have r0 : (ByteArray.toList p.a == ByteArray.toList aim) = true := hq
                  generalize xn.si = xns at *
                  generalize xo.si = xos at *
                  clear hfw hp hc h3 T HN HO HH4 hq hxn hcn hxo hco
                  obtain ⟨u1, u2, u3, u4⟩ := p
                  simp only at d0 d1 d2 d3 r0 HBA n4 o4
                  go_wp2_with fail
                  go_quiet (fail)
                  go_wp2_with fail
                  go_quiet (fail)
                  go_wp2
                  go_roundw
                  case rel => exact ⟨k + 1, _, _, by omega, by go_num, rfl, rfl, HN2, HO2, hidE (by first | exact qdrewN (qdrewN HBA.out _) _ | exact qdrewN HBA.out _)⟩
                  case measure => simp [intOf]; omega
                · have HN2 := hidE (HN.out.keep hp hxn (by omega))
                  have n1 : decide ((ni : Int) < 0) = false := decide_eq_false (by omega)
                  have n2 : (0 : Int) ≤ ni := by omega
                  have n3 : (ni : Int) < n := by omega
                  have n4 : decide (xn.si < p.si) = false := decide_eq_false hcn
                  have n5 := (HH4.out ni xn hxn).2.2.1
                  have HO2 := hidE (HO.out.keep hp hxo (by omega))
                  have o1 : decide ((oi : Int) < 0) = false := decide_eq_false (by omega)
                  have o2 : (0 : Int) ≤ oi := by omega
                  have o3 : (oi : Int) < n := by omega
                  have o4 : decide (p.si < xo.si) = false := decide_eq_false hco
                  have o5 := (HH4.out oi xo hxo).2.2.1
                  have r0 : (ByteArray.toList p.a == ByteArray.toList aim) = true := hq
                  generalize xn.si = xns at *
                  generalize xo.si = xos at *
                  clear hfw hp hc h3 T HN HO HH4 hq hxn hcn hxo hco
                  obtain ⟨u1, u2, u3, u4⟩ := p
                  simp only at d0 d1 d2 d3 r0 HBA n4 o4
                  go_wp2_with fail
                  go_quiet (fail)
                  go_wp2_with fail
                  go_quiet (fail)
                  go_wp2
                  go_roundw
                  case rel => exact ⟨k + 1, _, _, by omega, by go_num, rfl, rfl, HN2, HO2, hidE (by first | exact qdrewN (qdrewN HBA.out _) _ | exact qdrewN HBA.out _)⟩
                  case measure => simp [intOf]; omega
      · have e0 : (p.st == 3) = false := by simp [h3]
        have e1 : (p.st != 3) = true := by simp [h3]
        have HN2 := hidE (HN.out.skip hp (fun e => absurd e h3))
        have HO2 := hidE (HO.out.skip hp h3)
        obtain ⟨u1, u2, u3, u4⟩ := p
        simp only at d0 d1 d2 d3 e0 e1 HBA
        clear hfw hp hc h3 T HN HO
        go_wp2
        go_roundw
        case rel => exact ⟨k + 1, _, _, by omega, by go_num, rfl, rfl, HN2, HO2, HBA⟩
        case measure => simp [intOf]; omega
    · obtain rfl : k = n := by omega
      have y0 := T.y.c0
      have y1 := T.y.c1
      have y2 := T.y.c2
      have y3 := T.y.c3
      have z0 := T.y.z 0
      have z1 := T.y.z 1
      have z2 := T.y.z 2
      have z3 := T.y.z 3
      have x0 := T.x.c0
      have x1 := T.x.c1
      have x2 := T.x.c2
      have lty := T.y.lt
      have hb3 : w2.heap.size = w.heap.size + 1 + 1 + 1 := HS2.out
      have t3 : wr.heap[w.heap.size + 1 + 1]? = some (.cells #[.int .i64 0, .int .i64 0, .bool false] 36) := (HB.out.block _ (by omega)).trans HL2.out
      have v0 : wr.cell? ⟨w.heap.size + 1 + 1, 0, none⟩ = some (.int .i64 0) := tblk_cell t3 rfl
      have v1 : wr.cell? ⟨w.heap.size + 1 + 1, 1, none⟩ = some (.int .i64 0) := tblk_cell t3 rfl
      have v2 : wr.cell? ⟨w.heap.size + 1 + 1, 2, none⟩ = some (.bool false) := tblk_cell t3 rfl
      have zz : ∀ o, wr.frozen? ⟨w.heap.size + 1 + 1, o, none⟩ = false := fun o => by simp [World.frozen?, t3]
      have zz0 := zz 0
      have zz1 := zz 1
      have zz2 := zz 2
      have ltv : w.heap.size + 1 + 1 < wr.heap.size := by have := HB.out.size; omega
      have HTB := hidE T
      have t3 := hidE t3
      clear zz T hb3 hlt
      rcases HN.out with ⟨rfl, _⟩ | ⟨ni, xn, rfl, hni, hxn, h3n, _⟩
      · by_cases hm : (k : Int) < m
        · have g1 : decide (m ≤ (k : Int)) = false := decide_eq_false (by omega)
          have x3 := HTB.out.x.c3
          have HZ : Hid (∀ W' a' c', OwR 81 4 encH w.heap.size W' (.slice a' (withL ⟨l + 1, 1, 0, aim⟩ L).length c') (withL ⟨l + 1, 1, 0, aim⟩ L) → Below w.heap.size w W' → P (.returned (.tuple #[.agg #[.int .i64 m, .int .i64 (l + 1), .int .i64 r, .slice a' (withL ⟨l + 1, 1, 0, aim⟩ L).length c'], .agg #[.int .i64 (l + 1), .int .i64 0, .bool true], .int .i64 0])) W') := fun W' a' c' o b => HBB.out W' a' c' HN.out hm o b
          have HW : Hid (∀ W, Below w.heap.size w W → Calls Try.prog 32 #[.agg #[.int .i64 m, .int .i64 (l + 1), .int .i64 r, .slice a k c], .agg #[.int .i64 (l + 1), .int .i64 1, .int .i64 0, .string aim]] W fun e w' => ∃ a' c', e = .returned (.agg #[.int .i64 m, .int .i64 (l + 1), .int .i64 r, .slice a' (withL ⟨l + 1, 1, 0, aim⟩ L).length c']) ∧ OwR 81 4 encH W.heap.size w' (.slice a' (withL ⟨l + 1, 1, 0, aim⟩ L).length c') (withL ⟨l + 1, 1, 0, aim⟩ L) ∧ Below W.heap.size W w') := fun W b => by
            have := rwith_any L (l + 1) 1 0 aim a c m (l + 1) r W (HF.out W b) (by rw [HNN.out]; exact hl)
            rwa [HNN.out] at this
          obtain ⟨l0, l1⟩ := HL0.out
          have HT3 := hidE t3.out
          generalize withL ⟨l + 1, 1, 0, aim⟩ L = LL at *
          generalize LL.length = ll at *
          clear HA HBB HC HD HN HO hm HB HL2 HT2 HS2 t3 HF HNN
          have pz := HTB.out.x.z 1
          go_wp2_with fail
          have t6 := TL.next0 HTB.out HT3.out (l + 1) (l + 1) 0
          obtain ⟨w6, hw6⟩ : ∃ w6, w6 = ((wr.setCell ⟨w.heap.size, 1, none⟩ (.int .i64 (l + 1))).alloc (.cells #[.int .i64 (l + 1), .int .i64 0, .bool true] 36)) := ⟨_, rfl⟩
          rw [← hw6] at t6 ⊢
          have HT6 := hidE t6
          clear hw6 t6 HT3 HTB y0 y1 y2 y3 z0 z1 z2 z3 v0 v1 v2 zz0 zz1 zz2 x0 x1 x2 x3 pz
          obtain ⟨⟨y0, y1, y2, y3⟩, ⟨z0, z1, z2, z3⟩, ⟨v0, v1, v2⟩, ⟨zz0, zz1, zz2⟩, ⟨h0, h1, h2⟩, ⟨hz0, hz1, hz2⟩, ⟨x0, x1, x2, x3⟩, ⟨pz0, pz1, pz2, pz3⟩⟩ := HT6.out.facts
          clear y0 y1 y2 y3 z0 z1 z2 z3 v0 v1 v2 zz0 zz1 zz2 hz0 hz1 hz2 pz0 pz1 pz2 pz3
          have q1 : ¬ wr.heap.size = w.heap.size + 1 := by omega
          have q2 : ¬ w.heap.size + 1 = wr.heap.size := by omega
          have q3 : ¬ wr.heap.size = w.heap.size + 1 + 1 := by omega
          have q4 : ¬ w.heap.size + 1 + 1 = wr.heap.size := by omega
          have q5 : ¬ w.heap.size = w.heap.size + 1 + 1 := by omega
          have q6 : ¬ w.heap.size + 1 + 1 = w.heap.size := by omega
          go_region_held3 (fun W => W.cell? ⟨w.heap.size, 0, none⟩ = some (.int .i64 m) ∧ W.cell? ⟨w.heap.size, 1, none⟩ = some (.int .i64 (l + 1)) ∧ W.cell? ⟨w.heap.size, 2, none⟩ = some (.int .i64 r) ∧ W.cell? ⟨w.heap.size, 3, none⟩ = some (.slice a k c) ∧ W.cell? ⟨wr.heap.size, 0, none⟩ = some (.int .i64 (l + 1)) ∧ W.cell? ⟨wr.heap.size, 1, none⟩ = some (.int .i64 0) ∧ W.cell? ⟨wr.heap.size, 2, none⟩ = some (.bool true)) (go_keep) (first | (go_at_call 32; refine (HW.out _ HT6.out.t.b.drew).mono ?_; rintro e w7 ⟨a', c', rfl, O7, B7⟩; obtain ⟨HT7, HE⟩ := HT6.out.fin (u := .slice a' ll c') B7 O7; obtain ⟨⟨y0, y1, y2, y3⟩, ⟨z0, z1, z2, z3⟩, ⟨v0, v1, v2⟩, ⟨zz0, zz1, zz2⟩, ⟨g0, g1, g2⟩, ⟨hz0, hz1, hz2⟩, ⟨k0, k1, k2, k3⟩, ⟨pz0, pz1, pz2, pz3⟩⟩ := HT7.facts; clear HT7 hz0 hz1 hz2 pz0 pz1 pz2 pz3))
          have HE2 := hidE (HE.out (l + 1) (l + 1) 0 true _ rfl)
          clear HW HT6 HE O7 B7
          go_wp2
          refine bodyPost_ret (results_c2t rfl _ _ _ ⟨w.heap.size + 1, 0, none⟩ ⟨w.heap.size + 1 + 1, 0, none⟩ _ _ _ rfl rfl rfl (load_rpool HE2.out.1.y) (load_rlease HE2.out.1.z)) rfl ?_
          exact HZ.out _ a' c' HE2.out.2 HE2.out.1.b
        · have g1 : decide (m ≤ (k : Int)) = true := decide_eq_true (by omega)
          rcases HO.out with ⟨rfl, _⟩ | ⟨oi, xo, rfl, hoi, hxo, h3o, _⟩
          · have HZ : Hid (∀ W', Below w.heap.size w W' → P (.returned (.tuple #[.agg #[.int .i64 m, .int .i64 l, .int .i64 r, .slice a k c], .agg #[.int .i64 0, .int .i64 0, .bool false], .int .i64 6])) W') := fun W' b => HC.out W' HN.out (by omega) HO.out b
            have HW0 := hidE (fin_seven (m := m) (l := l) (r := r) (v := .slice a k c) (h := 0) (s := 0) (f := false) HTB.out.b HTB.out.y t3.out (show w.heap.size ≤ w.heap.size + 1 by omega))
            have HW1 := hidE (HW0.out.alloc (.cells #[.int .i64 0, .int .i64 0, .bool true] 36))
            clear HA HBB HC HD HN HO HF hm HTB HB HL2 HT2 HS2 HL0 HW0 t3
            go_wp2
            refine bodyPost_ret (results_c2t rfl _ _ _ ⟨w.heap.size + 1, 0, none⟩ ⟨w.heap.size + 1 + 1, 0, none⟩ _ _ _ rfl rfl rfl (load_rpool HW1.out.y) (load_rlease HW1.out.z)) rfl ?_
            exact HZ.out _ HW1.out.b
          · have x3 := HTB.out.x.c3
            have hfw := HF.out wr HTB.out.b
            obtain ⟨g, off, rfl, hg, hc⟩ := hfw.at hxo
            obtain ⟨d0, d1, d2, d3⟩ := hfw.h4 hxo
            have i1 : (0 : Int) ≤ oi := by omega
            have i2 : (oi : Int) < k := by omega
            have i4 : decide ((oi : Int) < 0) = false := decide_eq_false (by omega)
            have HZ : Hid (∀ W' a' c', OwR 81 4 encH w.heap.size W' (.slice a' (withL ⟨l + 1, 1, 0, aim⟩ (offH xo.h L)).length c') (withL ⟨l + 1, 1, 0, aim⟩ (offH xo.h L)) → Below w.heap.size w W' → P (.returned (.tuple #[.agg #[.int .i64 m, .int .i64 (l + 1), .int .i64 r, .slice a' (withL ⟨l + 1, 1, 0, aim⟩ (offH xo.h L)).length c'], .agg #[.int .i64 (l + 1), .int .i64 xo.h, .bool true], .int .i64 0])) W') := fun W' a' c' o b => HD.out oi xo W' a' c' HN.out (by omega) HO.out hxo o b
            have HSH : Hid (∀ W, Below w.heap.size w W → Calls Try.prog 14 #[.agg #[.int .i64 m, .int .i64 l, .int .i64 r, .slice (some ⟨g, off, none⟩) k c], .int .i64 xo.h] W fun e w' => ∃ a' c', e = .returned (.tuple #[.agg #[.int .i64 m, .int .i64 l, .int .i64 r, .slice a' (offH xo.h L).length c'], .bool (decide ((offH xo.h L).length < k))]) ∧ OwR 81 4 encH W.heap.size w' (.slice a' (offH xo.h L).length c') (offH xo.h L) ∧ Below W.heap.size W w') := fun W b => by
              have := rshut_any L (some ⟨g, off, none⟩) c m l r xo.h W (HF.out W b) (by rw [HNN.out]; exact hl)
              rwa [HNN.out] at this
            have HOL : Hid ((offH xo.h L).length ≤ 1000000) := Nat.le_trans (offH_len _ _) (by rw [HNN.out]; exact hl)
            obtain ⟨l0, l1⟩ := HL0.out
            have HT3 := hidE t3.out
            generalize offH xo.h L = LO at *
            obtain ⟨lo, hlo⟩ : ∃ lo, lo = LO.length := ⟨_, rfl⟩
            have HLO := hidE hlo
            rw [← hlo] at HSH HOL
            obtain ⟨u1, u2, u3, u4⟩ := xo
            simp only at d0 d1 d2 d3 HZ HSH h3o
            clear HA HBB HC HD HN HO hm HB HL2 HT2 HS2 t3 HF HNN hlo hfw hc hxo h3o
            have pz0 := HTB.out.x.z 0
            have pz := HTB.out.x.z 1
            go_wp2_with fail
            have HT4 := hidE (TL.start HTB.out HT3.out 0 u1)
            refine (HSH.out _ HT4.out.t.b).mono ?_
            rintro e w5 ⟨a5, c5, rfl, O5, B5⟩
            have HT5 := hidE (HT4.out.keep B5)
            have HO5 := hidE O5
            generalize decide (lo < k) = bb at *
            clear HT4 HSH O5 B5 HTB HT3 pz0 pz x0 x1 x2 x3 y0 y1 y2 y3 v0 v1 v2 z0 z1 z2 z3 zz0 zz1 zz2 d0 d1 d2 d3
            obtain ⟨⟨y0, y1, y2, y3⟩, ⟨z0, z1, z2, z3⟩, ⟨v0, v1, v2⟩, ⟨zz0, zz1, zz2⟩, ⟨h0, h1, h2⟩, ⟨hz0, hz1, hz2⟩, ⟨x0, x1, x2, x3⟩, ⟨pz0, pz1, pz2, pz3⟩⟩ := HT5.out.facts
            have q1 : ¬ wr.heap.size = w.heap.size := by omega
            have q2 : ¬ w.heap.size = wr.heap.size := by omega
            have q3 : wr.heap.size < w5.heap.size := (Array.getElem?_eq_some_iff.1 HT5.out.x).1
            have q4 : w.heap.size < w5.heap.size := by omega
            clear y0 y1 y2 y3 z0 z1 z2 z3 v0 v1 v2 zz0 zz1 zz2 h1 h2 hz1 hz2
            have f1 := ((HT5.out.t.set4 (m' := m) (l' := l) (r' := r) (v' := .slice a5 lo c5)).setl (l + 1)).x.c1
            go_wp2_with fail
            obtain ⟨t6, r6⟩ := HT5.out.next (a5 := a5) (c5 := c5) (LO := LO) (by rw [HLO.out] at HO5; exact HO5.out) (by simp) (l + 1) (l + 1) (.cells #[.int .i64 m, .int .i64 l, .int .i64 r, .slice a5 lo c5] 28)
            rw [← HLO.out] at t6 r6
            obtain ⟨w6, hw6⟩ : ∃ w6, w6 = (((((((w5.setCell ⟨w.heap.size, 0, none⟩ (.int .i64 m)).setCell ⟨w.heap.size, 1, none⟩ (.int .i64 l)).setCell ⟨w.heap.size, 2, none⟩ (.int .i64 r)).setCell ⟨w.heap.size, 3, none⟩ (.slice a5 lo c5)).setCell ⟨w.heap.size, 1, none⟩ (.int .i64 (l + 1))).setCell ⟨wr.heap.size, 0, none⟩ (.int .i64 (l + 1))).alloc (.cells #[.int .i64 m, .int .i64 l, .int .i64 r, .slice a5 lo c5] 28)) := ⟨_, rfl⟩
            rw [← hw6] at t6 r6 ⊢
            have HT6 := hidE t6
            have HW : Hid (∀ W, Below w6.heap.size w6 W → Calls Try.prog 32 #[.agg #[.int .i64 m, .int .i64 (l + 1), .int .i64 r, .slice a5 lo c5], .agg #[.int .i64 (l + 1), .int .i64 1, .int .i64 0, .string aim]] W fun e w' => ∃ a' c', e = .returned (.agg #[.int .i64 m, .int .i64 (l + 1), .int .i64 r, .slice a' (withL ⟨l + 1, 1, 0, aim⟩ LO).length c']) ∧ OwR 81 4 encH W.heap.size w' (.slice a' (withL ⟨l + 1, 1, 0, aim⟩ LO).length c') (withL ⟨l + 1, 1, 0, aim⟩ LO) ∧ Below W.heap.size W w') := fun W b => by
              have := rwith_any LO (l + 1) 1 0 aim a5 c5 m (l + 1) r W (r6.keep b) (by rw [← HLO.out]; exact HOL.out)
              rwa [← HLO.out] at this
            generalize withL ⟨l + 1, 1, 0, aim⟩ LO = LL at *
            generalize LL.length = ll at *
            clear hw6 t6 r6 HT5 HO5 HLO HOL f1 h0 hz0 x0 x1 x2 x3 pz0 pz1 pz2 pz3 q1 q2 q3 q4
            obtain ⟨⟨y0, y1, y2, y3⟩, ⟨z0, z1, z2, z3⟩, ⟨v0, v1, v2⟩, ⟨zz0, zz1, zz2⟩, ⟨h0, h1, h2⟩, ⟨hz0, hz1, hz2⟩, ⟨x0, x1, x2, x3⟩, ⟨pz0, pz1, pz2, pz3⟩⟩ := HT6.out.facts
            clear y0 y1 y2 y3 z0 z1 z2 z3 v0 v1 v2 zz0 zz1 zz2 hz0 hz1 hz2 pz0 pz1 pz2 pz3
            have q1 : ¬ wr.heap.size = w.heap.size + 1 := by omega
            have q2 : ¬ w.heap.size + 1 = wr.heap.size := by omega
            have q3 : ¬ wr.heap.size = w.heap.size + 1 + 1 := by omega
            have q4 : ¬ w.heap.size + 1 + 1 = wr.heap.size := by omega
            have q5 : ¬ w.heap.size = w.heap.size + 1 + 1 := by omega
            have q6 : ¬ w.heap.size + 1 + 1 = w.heap.size := by omega
            go_region_held3 (fun W => W.cell? ⟨w.heap.size, 0, none⟩ = some (.int .i64 m) ∧ W.cell? ⟨w.heap.size, 1, none⟩ = some (.int .i64 (l + 1)) ∧ W.cell? ⟨w.heap.size, 2, none⟩ = some (.int .i64 r) ∧ W.cell? ⟨w.heap.size, 3, none⟩ = some (.slice a5 lo c5) ∧ W.cell? ⟨wr.heap.size, 0, none⟩ = some (.int .i64 (l + 1)) ∧ W.cell? ⟨wr.heap.size, 1, none⟩ = some (.int .i64 u1) ∧ W.cell? ⟨wr.heap.size, 2, none⟩ = some (.bool true)) (go_keep) (first | (go_at_call 32; refine (HW.out _ (Below.refl _ _).drew).mono ?_; rintro e w7 ⟨a', c', rfl, O7, B7⟩; obtain ⟨HT7, HE⟩ := HT6.out.fin (u := .slice a' ll c') B7 O7; obtain ⟨⟨y0, y1, y2, y3⟩, ⟨z0, z1, z2, z3⟩, ⟨v0, v1, v2⟩, ⟨zz0, zz1, zz2⟩, ⟨g0, g1, g2⟩, ⟨hz0, hz1, hz2⟩, ⟨k0, k1, k2, k3⟩, ⟨pz0, pz1, pz2, pz3⟩⟩ := HT7.facts; clear HT7 hz0 hz1 hz2 pz0 pz1 pz2 pz3))
            have HE2 := hidE (HE.out (l + 1) (l + 1) u1 true _ rfl)
            clear HW HT6 HE O7 B7
            go_wp2
            refine bodyPost_ret (results_c2t rfl _ _ _ ⟨w.heap.size + 1, 0, none⟩ ⟨w.heap.size + 1 + 1, 0, none⟩ _ _ _ rfl rfl rfl (load_rpool HE2.out.1.y) (load_rlease HE2.out.1.z)) rfl ?_
            exact HZ.out _ a' c' HE2.out.2 HE2.out.1.b
      · have hfw := HF.out wr HTB.out.b
        obtain ⟨g, off, rfl, hg, hc⟩ := hfw.at hxn
        obtain ⟨d0, d1, d2, d3⟩ := hfw.h4 hxn
        rw [h3n] at d1
        have i1 : (0 : Int) ≤ ni := by omega
        have i2 : (ni : Int) < k := by omega
        have i3 : decide ((0 : Int) ≤ (ni : Int)) = true := decide_eq_true i1
        have x3 := HTB.out.x.c3
        have HZ : Hid (∀ W' a' c', OwR 81 4 encH w.heap.size W' (.slice a' (withL ⟨xn.h, 2, xn.si, xn.a⟩ L).length c') (withL ⟨xn.h, 2, xn.si, xn.a⟩ L) → Below w.heap.size w W' → P (.returned (.tuple #[.agg #[.int .i64 m, .int .i64 l, .int .i64 r, .slice a' (withL ⟨xn.h, 2, xn.si, xn.a⟩ L).length c'], .agg #[.int .i64 xn.h, .int .i64 0, .bool false], .int .i64 0])) W') := fun W' a' c' o b => HA.out ni xn W' a' c' HN.out hxn o b
        have HW : Hid (∀ W, Below w.heap.size w W → Calls Try.prog 32 #[.agg #[.int .i64 m, .int .i64 l, .int .i64 r, .slice (some ⟨g, off, none⟩) k c], .agg #[.int .i64 xn.h, .int .i64 2, .int .i64 xn.si, .string xn.a]] W fun e w' => ∃ a' c', e = .returned (.agg #[.int .i64 m, .int .i64 l, .int .i64 r, .slice a' (withL ⟨xn.h, 2, xn.si, xn.a⟩ L).length c']) ∧ OwR 81 4 encH W.heap.size w' (.slice a' (withL ⟨xn.h, 2, xn.si, xn.a⟩ L).length c') (withL ⟨xn.h, 2, xn.si, xn.a⟩ L) ∧ Below W.heap.size W w') := fun W b => by
          have := rwith_any L xn.h 2 xn.si xn.a (some ⟨g, off, none⟩) c m l r W (HF.out W b) (by rw [HNN.out]; exact hl)
          rwa [HNN.out] at this
        have HT4 := hidE (HTB.out.keep (w' := wr.alloc (.cells #[.int .i64 xn.h, .int .i64 2, .int .i64 xn.si, .string xn.a] 81)) ((Below.refl _ _).alloc (by omega) _))
        have HX4 : Hid (XB (wr.alloc (.cells #[.int .i64 xn.h, .int .i64 2, .int .i64 xn.si, .string xn.a] 81)) wr.heap.size ⟨xn.h, 2, xn.si, xn.a⟩) := tblk_new _ _
        have HL4 := hidE ((Below.heap_alloc wr (.cells #[.int .i64 xn.h, .int .i64 2, .int .i64 xn.si, .string xn.a] 81) _ ltv).trans t3.out)
        generalize withL ⟨xn.h, 2, xn.si, xn.a⟩ L = LL at *
        generalize LL.length = ll at *
        obtain ⟨u1, u2, u3, u4⟩ := xn
        simp only at d0 d1 d2 d3 HZ HW HT4 HX4 HL4
        clear HA HBB HC HD HN HO hfw hg hc hxn h3n HTB HB HL2 HT2 HS2 HL0 t3 HF HNN z0 z1 z2 z3 zz0 zz1 zz2
        go_wp2_with fail
        obtain ⟨w3, hw3⟩ : ∃ w3, w3 = wr.alloc (.cells #[.int .i64 u1, .int .i64 2, .int .i64 u3, .string u4] 81) := ⟨_, rfl⟩
        have ht := HT4.out
        have hx := HX4.out
        have hl4 := HL4.out
        rw [← hw3] at ht hx hl4 ⊢
        have e0 := ht.x.c0
        have e1 := ht.x.c1
        have e2 := ht.x.c2
        have e3 := ht.x.c3
        obtain ⟨f0, f1, f2, f3⟩ := hx.cells
        simp only at f0 f1 f2 f3
        have HT5 := hidE ht
        have HX5 := hidE hx
        have HL5 := hidE hl4
        clear hw3 HT4 HX4 HL4 ht hx hl4 x0 x1 x2 x3 y0 y1 y2 y3 v0 v1 v2 d0 d1 d2 d3
        have q1 : ¬ wr.heap.size = w.heap.size + 1 := by omega
        have q2 : ¬ w.heap.size + 1 = wr.heap.size := by omega
        have q3 : ¬ wr.heap.size = w.heap.size + 1 + 1 := by omega
        have q4 : ¬ w.heap.size + 1 + 1 = wr.heap.size := by omega
        have q5 : ¬ w.heap.size = w.heap.size + 1 + 1 := by omega
        have q6 : ¬ w.heap.size + 1 + 1 = w.heap.size := by omega
        go_region_held3 (fun W => W.cell? ⟨w.heap.size, 0, none⟩ = some (.int .i64 m) ∧ W.cell? ⟨w.heap.size, 1, none⟩ = some (.int .i64 l) ∧ W.cell? ⟨w.heap.size, 2, none⟩ = some (.int .i64 r) ∧ W.cell? ⟨w.heap.size, 3, none⟩ = some (.slice (some ⟨g, off, none⟩) k c) ∧ W.cell? ⟨wr.heap.size, 0, none⟩ = some (.int .i64 u1) ∧ W.cell? ⟨wr.heap.size, 1, none⟩ = some (.int .i64 2) ∧ W.cell? ⟨wr.heap.size, 2, none⟩ = some (.int .i64 u3) ∧ W.cell? ⟨wr.heap.size, 3, none⟩ = some (.string u4)) (go_keep) (first | (go_at_call 32; refine (HW.out _ HT5.out.b.drew).mono ?_; rintro e w5 ⟨a', c', rfl, O5, B5⟩; obtain ⟨y0, y1, y2, y3, z0, z1, z2, z3, v0, v1, v2, zz0, zz1, zz2, g0, g1, g2, g3, h0, h1, h2, h3, HE⟩ := armA_facts HT5.out HX5.out HL5.out B5 (u := .slice a' ll c') O5))
        have HE2 := hidE (HE.out u1 0 false _ rfl)
        clear HW HT5 HX5 HL5 HE O5 B5
        go_wp2
        refine bodyPost_ret (results_c2t rfl _ _ _ ⟨w.heap.size + 1, 0, none⟩ ⟨w.heap.size + 1 + 1, 0, none⟩ _ _ _ rfl rfl rfl (load_rpool HE2.out.1.y) (load_rlease HE2.out.1.z)) rfl ?_
        exact HZ.out _ a' c' HE2.out.2 HE2.out.1.b
end Go.Proofs.Ytlaigjapnmgjeaa
