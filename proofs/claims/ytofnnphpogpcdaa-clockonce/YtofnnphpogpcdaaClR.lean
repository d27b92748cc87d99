/- ClockEnds: moments that came in; the walk. -/
import Derived.Test.YtofnnphpogpcdaaClQ
import Derived.ProofKit
import Derived.OpenShut
namespace Go.Proofs.Ytofnnphpogpcdaa
open Go.ChangeShapes Go.WideShapes Go.ChangeAt Go.RowKit
set_option linter.unusedVariables false

theorem cell_lt {w : World} {x : Addr} {v : Value} (h : w.cell? x = some v) : x.block < w.heap.size := by
  unfold World.cell? at h
  rcases Nat.lt_or_ge x.block w.heap.size with c | c
  · exact c
  · simp [Array.getElem?_eq_none c] at h
def Nums (w : World) (a : Option Addr) (len : Nat) : Prop := len ≤ maxLen ∧ (0 < len → ∃ b off, a = some ⟨b, off, none⟩ ∧ b < w.heap.size ∧ ∀ i, i < len → ∃ z, w.cell? ⟨b, off + i, none⟩ = some (.int .i64 z))
theorem open_nums64 {H : Type} {enc : TypeId × Value → H} {w : World} {base : Nat} {held : Bool} {a : Option Addr} {len cap : Nat} {x : DataW H × List MemPlace}
    (h : ∃ fuel, DataW.trod enc Try.prog w base (fun _ => true) held fuel 49 (Value.slice a len cap).cells.toList = some x) : Nums w a len := by
  obtain ⟨fuel, hf⟩ := h
  rcases open_ints Try.underlying49 Try.underlying2 (by kernel_rfl) hf with ⟨hcs, _⟩ | ⟨x, l, c, zs, hcs, _, hl, hm, hz, _, hcell, hwz⟩
  · simp [Value.cells] at hcs
    obtain ⟨rfl, rfl, rfl⟩ := hcs
    exact ⟨Nat.zero_le _, fun h => absurd h (Nat.lt_irrefl _)⟩
  · simp [Value.cells] at hcs
    obtain ⟨rfl, rfl, rfl⟩ := hcs
    have hz' : zs.length = cap := by simpa using hz
    refine ⟨Nat.le_trans hl hm, fun hp => ?_⟩
    obtain ⟨b, off, rfl, hc⟩ := ints_at hcell (by omega)
    exact ⟨b, off, rfl, cell_lt (hc 0 (by omega)), fun i hi => ⟨_, hc i (by omega)⟩⟩
theorem open_nums {H : Type} {enc : TypeId × Value → H} {w : World} {base : Nat} {held : Bool} {a : Option Addr} {len cap : Nat} {x : DataW H × List MemPlace}
    (h : ∃ fuel, DataW.trod enc Try.prog w base (fun _ => true) held fuel 31 (Value.slice a len cap).cells.toList = some x) : Nums w a len := by
  obtain ⟨fuel, hf⟩ := h
  rcases open_ints Try.underlying31 Try.underlying3 (by kernel_rfl) hf with ⟨hcs, _⟩ | ⟨x, l, c, zs, hcs, _, hl, hm, hz, _, hcell, hwz⟩
  · simp [Value.cells] at hcs
    obtain ⟨rfl, rfl, rfl⟩ := hcs
    exact ⟨Nat.zero_le _, fun h => absurd h (Nat.lt_irrefl _)⟩
  · simp [Value.cells] at hcs
    obtain ⟨rfl, rfl, rfl⟩ := hcs
    have hz' : zs.length = cap := by simpa using hz
    refine ⟨Nat.le_trans hl hm, fun hp => ?_⟩
    obtain ⟨b, off, rfl, hc⟩ := ints_at hcell (by omega)
    exact ⟨b, off, rfl, cell_lt (hc 0 (by omega)), fun i hi => ⟨_, hc i (by omega)⟩⟩
/-- i numbers are set, from 0 on, none beyond m. -/
def UpTo (i : Nat) (m : Int) (L : List Pr) : Prop := L.length = i ∧ ∀ p ∈ L, 0 ≤ p.1 ∧ p.1 < (i : Int) ∧ p.2 ≤ m
theorem UpTo.next {i : Nat} {m : Int} {L : List Pr} (h : UpTo i m L) (a : Int) (ha : a ≤ m) : UpTo (i + 1) m (insL ((i : Int), a) (offL (i : Int) L)) := by
  have e : offL (i : Int) L = L := off_none fun p hp e => by have := (h.2 p hp).2.1; omega
  rw [e]
  refine ⟨by rw [ins_len, h.1], fun p hp => ?_⟩
  rcases List.mem_cons.1 ((insL_perm _ _).mem_iff.1 hp) with q | q
  · rw [q]; exact ⟨by show (0 : Int) ≤ (i : Int); omega, by show (i : Int) < _; omega, ha⟩
  · have := h.2 p q
    exact ⟨this.1, by omega, this.2.2⟩
theorem UpTo.ir {i : Nat} {m : Int} {L : List Pr} (h : UpTo i m L) (hi : i ≤ 1000) : ∀ p ∈ L, InR p.1 := fun p hp => by
  have := h.2 p hp
  unfold InR; omega
theorem pass_len (now : Int) (L : List Pr) : (passI now L).length + (passR now L).length = L.length := by
  unfold passI passR
  rw [List.length_map, ← List.length_append]
  exact (List.filter_append_perm (fun p : Pr => decide (p.2 ≤ now)) L).length_eq
theorem pass_all {now : Int} {L : List Pr} (h : ∀ p ∈ L, p.2 ≤ now) : passI now L = L.map Prod.fst ∧ passR now L = [] := by
  refine ⟨?_, List.filter_eq_nil_iff.2 fun p hp => by simpa using h p hp⟩
  unfold passI
  rw [List.filter_eq_self.2 fun p hp => by simpa using h p hp]
set_option maxRecDepth 100000 in
set_option maxHeartbeats 1000000 in
theorem ends15_walk (n : Int) (a : Option Addr) (len cap : Nat) (w : World) (hO : Nums w a len) : Calls Try.prog 5 #[.int .i64 n, .slice a len cap] w fun e w' => e = .returned (.bool true) ∧ Below w.heap.size w w' := by
  obtain ⟨hl, hO⟩ := hO
  have HN := hidE (CB.new w w (Below.refl _ _) (fun _ => False) (fun k hk => hk.elim))
  have HA := hidE (fun W => alive15_any W)
  have HO := hidE hO
  unfold maxLen at hl
  clear hO
  go_enter Try.func5, Try.ntmps5
  go_wp2_with fail
  refine HN.out.mono ?_
  rintro e w1 ⟨cb, mk, rfl, C, B⟩
  have HC := hidE C
  clear HN C B
  go_wp2_with fail
  refine (HA.out _).mono ?_
  rintro e w2 ⟨rfl, B2⟩
  have HC2 := hidE (HC.out.bel B2)
  clear HA HC B2
  rcases Nat.lt_or_ge 100 len with hlen | hlen
  · have h3 : decide (100 < len) = true := decide_eq_true hlen
    have h4 : decide ((100 : Int) < (len : Int)) = true := decide_eq_true (by omega)
    have HZ := hidE HC2.out.be
    clear HC2
    go_wp2
    go_ret
    exact ⟨rfl, HZ.out⟩
  · have h3 : decide (100 < len) = false := decide_eq_false (by omega)
    have h4 : decide ((100 : Int) < (len : Int)) = false := decide_eq_false (by omega)
    have HLN := hidE hlen
    go_wp2_with fail
    go_loopw [27] (fun vi wr => ∃ (i : Nat) (L : List Pr), i ≤ len ∧ vi = .int .i64 i ∧ Hid (CB w (fun _ => False) cb mk i 0 L wr) ∧ Hid (UpTo i 1099511627776 L)) (fun vi _ => len - (intOf vi).toNat)
    case atStart => exact ⟨0, [], Nat.zero_le _, rfl, HC2, ⟨rfl, fun p hp => by cases hp⟩⟩
    case round =>
      clear HC2
      obtain ⟨i, L, hi, rfl, HC, HU⟩ := hrel
      by_cases hlt : i < len
      · obtain ⟨b2, o2, rfl, hb2, hc2⟩ := HO.out (by omega)
        obtain ⟨z, hz⟩ := hc2 i hlt
        have d0 := (HC.out.be.cell (p := ⟨b2, o2 + i, none⟩) hb2).trans hz
        have m1 : (0 : Int) ≤ i := by omega
        have m2 : (i : Int) < len := by omega
        have m3 : len ≤ 9223372036854775807 := by omega
        have H := hidE (HC.out.set (by have := HLN.out; omega) i z _ rfl (by have := HLN.out; unfold InR; omega) _ rfl)
        have HU2 := hidE (HU.out.next (min z 1099511627776) (by omega))
        clear hz hc2 hb2 HC HU h3 h4
        go_wp2_with fail
        refine H.out.mono ?_
        rintro e w4 ⟨rfl, C, B⟩
        have HC := hidE C
        clear H C B d0
        go_wp2
        go_roundw
        case rel => exact ⟨i + 1, _, by omega, by go_num, HC, HU2⟩
        case measure => simp [intOf]; omega
      · obtain rfl : i = len := by omega
        obtain ⟨t1, ht1⟩ : ∃ t1, (0 : Int) + min (max n 0) (1099511627776 - 0) = t1 := ⟨_, rfl⟩
        have b1 : 0 ≤ t1 ∧ t1 ≤ 1099511627776 := by omega
        obtain ⟨R1, hR1⟩ : ∃ R1, passI t1 L = R1 := ⟨_, rfl⟩
        obtain ⟨L1, hL1⟩ : ∃ L1, passR t1 L = L1 := ⟨_, rfl⟩
        have s1 : ∀ p ∈ L1, p ∈ L := fun p hp => by rw [← hL1] at hp; exact (List.mem_filter.1 hp).1
        have l1 : R1.length + L1.length = i := by rw [← hR1, ← hL1, pass_len]; exact HU.out.1
        have H := hidE (HC.out.pass (by have := HLN.out; omega) (HU.out.ir (by have := HLN.out; omega)) n t1 ht1 R1 hR1 L1 hL1)
        have pa := pass_all (now := 1099511627776) (L := L1) fun p hp => (HU.out.2 p (s1 p hp)).2.2
        have HP : Hid (∀ p ∈ L1, InR p.1) := fun p hp => HU.out.ir (by have := HLN.out; omega) p (s1 p hp)
        have HPA := hidE pa
        have HLL := hidE l1
        have HT := hidE b1
        clear ht1 hR1 hL1 s1 l1 pa b1 HC HU hlt h3 h4
        go_wp2_with fail
        refine H.out.mono ?_
        rintro e w4 ⟨a1, c1, rfl, R, C, B⟩
        have H2 := hidE (C.pass (by have := HLN.out; omega) HP.out 4611686018427387904 1099511627776 (by have := HT.out; omega) (L1.map Prod.fst) HPA.out.1 [] HPA.out.2)
        clear H R C B
        rw [List.length_map] at H2
        have HLI : Hid (IntKind.i64.wrap ((R1.length : Int) + (L1.length : Int)) = (i : Int)) := by rw [Hid, IntKind.wrap_i64]; have := HLL.out; have := HLN.out; omega
        generalize R1.length = r1 at *
        generalize hl1 : L1.length = r2 at *
        clear hl1
        go_wp2_with fail
        refine H2.out.mono ?_
        rintro e w5 ⟨a2, c2, rfl, R, C, B⟩
        have H := hidE C.time
        have HC := hidE C
        clear H2 R C B
        go_wp2_with fail
        refine H.out.mono ?_
        rintro e w6 ⟨rfl, rfl⟩
        have f1 := HLI.out
        have H := hidE (HC.out.set (by have := HLN.out; omega) 5 4611686018427387904 1099511627776 (by decide) (ir 5) [(5, 1099511627776)] rfl)
        clear HC
        go_wp2_with fail
        refine H.out.mono ?_
        rintro e w7 ⟨rfl, C, B⟩
        have H := hidE (C.next 1099511627776 true rfl)
        have HC := hidE C
        clear C B f1
        go_wp2_with fail
        refine H.out.mono ?_
        rintro e w8 ⟨rfl, rfl⟩
        have H := hidE (HC.out.pass (by have := HLN.out; omega) (fun p hp => by simp at hp; rcases hp with rfl; exact ir _) 0 1099511627776 (by decide) [5] (by decide) [] (by decide))
        clear HC
        go_wp2_with fail
        refine H.out.mono ?_
        rintro e w9 ⟨a3, c3, rfl, R, C, B⟩
        have H := hidE (C.next 0 false rfl)
        have HC := hidE C
        have HR := hidE R
        clear R C B
        go_wp2_with fail
        refine H.out.mono ?_
        rintro e w10 ⟨rfl, rfl⟩
        have C2 := hidE (HC.out.bel ((Below.refl _ _).alloc (Nat.le_refl _) (.cells #[.int .i64 5] 3)))
        have H := hidE (sameints_any [5] [5] _ _ _ _ (w9.alloc (.cells #[.int .i64 5] 3)) (HR.out.keep ((Below.refl _ _).alloc (Nat.le_refl _) _)) (lit_rd w9 [5] (by decide)) true (by decide))
        clear HR HC
        go_wp2_with fail
        refine H.out.mono ?_
        rintro e w11 ⟨rfl, k, rfl⟩
        have C3 := C2.out.bel (W := _) (V := (w9.alloc (.cells #[.int .i64 5] 3)).drewN k) ⟨rfl, rfl, rfl, Nat.le_refl _, fun _ _ => rfl⟩
        generalize (w9.alloc (.cells #[.int .i64 5] 3)).drewN k = w11 at *
        have H := hidE (C3.pass (by have := HLN.out; omega) (fun p hp => by simp at hp) 1 1099511627776 (by decide) [] (by decide) [] (by decide))
        clear C2 C3
        go_wp2_with fail
        refine H.out.mono ?_
        rintro e w12 ⟨a4, c4, rfl, R, C, B⟩
        have H := hidE C.time
        have HB := hidE C.be
        clear R C B
        go_wp2_with fail
        refine H.out.mono ?_
        rintro e w13 ⟨rfl, rfl⟩
        clear H
        go_wp2
        go_ret
        exact ⟨rfl, HB.out⟩
end Go.Proofs.Ytofnnphpogpcdaa
