/- PoolBound's walk (written by pov.py). -/
import Derived.Test.YthiidhlmjhjjcaaPoU
import Derived.Test.YthiidhlmjhjjcaaPoM
import Derived.Test.YthiidhlmjhjjcaaPoP
import Derived.Deep.RegionHeld3
namespace Go.Proofs.Ythiidhlmjhjjcaa
open Go.RowKit Go.Shelf
set_option linter.unusedVariables false

theorem aimH {w W : World} {F : List (Nat × Obj)} {pb mk mb i : Nat} {b H S last : Int} {A : KS} (h : Hid (TK w F pb mk mb b i H S A last W)) : Calls Try.prog 20 #[.pointer (some ⟨pb, 0, none⟩), .int .i64 H] W fun e W' => e = .returned (.string A) ∧ Hid (TK w F pb mk mb b i H S A last W') := h.out.aim.mono fun e W' ⟨he, hW⟩ => ⟨he, hidE hW⟩
theorem PT.start {w W : World} {pb mk : Nat} {b : Int} (s : PI w [] pb mk 0 0 b 0 (fun _ => none) [] W) (hb : 0 ≤ b) : PT w [] pb mk W.heap.size b 0 0 (W.alloc (.map #[] 0)) := by
  refine PT.of (n := 0) (N := 0) (c := 0) (K := 0) (q := fun _ => none) (rs := []) ⟨⟨_, s.newF _⟩, KM.new W, s.be.size, fun p hp => by cases hp⟩ (LI.new hb) (Nat.le_refl _) (Nat.le_refl _)
set_option maxRecDepth 100000 in
set_option maxHeartbeats 2000000 in
theorem bound17_walk (m : Int) (ad : Option Addr) (len cap : Nat) (w : World) (hO : OpsP w ad len) (hA : ∀ b2 o2, ad = some ⟨b2, o2, none⟩ → ∀ i, i < len → ∀ s : KS, w.cell? ⟨b2, o2 + i * 8 + 2, none⟩ = some (.string s) → s.size ≤ 281474976710656) : Calls Try.prog 5 #[.int .i64 m, .slice ad len cap] w fun e w' => e = .returned (.bool true) ∧ Below w.heap.size w w' := by
  obtain ⟨hl, hO⟩ := hO
  unfold maxLen at hl
  obtain ⟨m0, hm0⟩ : ∃ m0, max m 0 = m0 := ⟨_, rfl⟩
  obtain ⟨b, hb⟩ : ∃ b, min m0 64 = b := ⟨_, rfl⟩
  have X0 := max_run m 0 m0 hm0
  have X1 := min_run m0 64 b hb
  have b0 : 0 ≤ b := by omega
  have b1 : b ≤ 64 := by omega
  have HN := hidE (new_pi m b w (by rw [hm0, hb]))
  have HL := hidE (fun W => lending_any W)
  have hmm := @ run_makeMap Try.prog
  clear hm0 hb
  go_enter Try.func5, Try.ntmps5
  go_wp2_with fail
  refine HN.out.mono ?_
  rintro e w1 ⟨rfl, C1⟩
  generalize hpb : w.heap.size + 1 = pb at C1 ⊢
  generalize hmk : w.heap.size = mk at C1
  subst hmk
  clear HN hpb
  go_wp2_with fail
  refine (HL.out _).mono ?_
  rintro e w2 ⟨rfl, B2⟩
  have C2 := C1.bel B2
  clear HL C1 B2
  rcases Nat.lt_or_ge 300 len with hlen | hlen
  · have h3 : (300 : Int) < (len : Int) := by omega
    have HZ := hidE C2.be
    clear C2
    go_wp2
    go_ret
    exact ⟨rfl, HZ.out⟩
  · have h3 : decide ((300 : Int) < (len : Int)) = false := decide_eq_false (by omega)
    have HP0 := hidE (PT.start C2 b0)
    clear C2
    obtain ⟨w3, hw3⟩ : ∃ w3, w3 = w2.alloc (.map #[] 0) := ⟨_, rfl⟩
    obtain ⟨mb, hmb⟩ : ∃ mb, mb = w2.heap.size := ⟨_, rfl⟩
    rw [← hw3, ← hmb] at HP0
    go_wp2_with fail
    rw [← hw3, ← hmb]
    clear hw3 hmb h3 X0 X1 hmm
    go_loopw [8, 30] (fun vl vi wr => ∃ (i : Nat) (last : Int), i ≤ len ∧ vi = .int .i64 i ∧ vl = .int .i64 last ∧ Hid (PT w [] pb w.heap.size mb b i last wr)) (fun _ vi _ => len - (intOf vi).toNat)
    case atStart => exact ⟨0, 0, Nat.zero_le _, rfl, rfl, HP0⟩
    case round =>
      clear HP0
      obtain ⟨i, last, hi, rfl, rfl, HP⟩ := hrel
      by_cases hlt : i < len
      · obtain ⟨b2, o2, rfl, hb2, hc2⟩ := hO (by omega)
        obtain ⟨k, h, s, hk, hh, hs, u, xa, xl, xc, nw, fl, co, hq1, hq2, hq3, g0, g1, g2, g3, g4, g5, g6, g7⟩ := hc2 i hlt
        have bel := HP.out.be
        have d0 := (bel.cell (p := ⟨b2, o2 + i * 8, none⟩) hb2).trans g0
        have d1 := (bel.cell (p := ⟨b2, o2 + i * 8 + 1, none⟩) hb2).trans g1
        have d2 := (bel.cell (p := ⟨b2, o2 + i * 8 + 2, none⟩) hb2).trans g2
        have d3 := (bel.cell (p := ⟨b2, o2 + i * 8 + 3, none⟩) hb2).trans g3
        have d4 := (bel.cell (p := ⟨b2, o2 + i * 8 + 4, none⟩) hb2).trans g4
        have d5 := (bel.cell (p := ⟨b2, o2 + i * 8 + 5, none⟩) hb2).trans g5
        have d6 := (bel.cell (p := ⟨b2, o2 + i * 8 + 6, none⟩) hb2).trans g6
        have d7 := (bel.cell (p := ⟨b2, o2 + i * 8 + 7, none⟩) hb2).trans g7
        have hlt' : (i : Int) < (len : Int) := by omega
        have hss : s.size ≤ 281474976710656 := hA b2 o2 rfl i hlt s g2
        have HP1 := hidE (HP.out.newF (.cells #[.int .i64 k, .int .i64 h, .string s, .string u, .slice xa xl xc, .int .i64 nw, .int .i64 fl, .int .i64 co] 34))
        clear g0 g1 g2 g3 g4 g5 g6 g7 bel hc2 hO hA HP hq1 hq2 hq3 hs
        have hi3 : Hid (i ≤ 300) := (by omega : i ≤ 300)
        by_cases e1 : k = 1
        · subst e1
          have hlen3 := hi3.out
          clear hi3 hk
          go_wp2_with fail
          refine HP1.out.take (by omega) s hss ?_ ?_ ?_
          · intro w5 K C e5 e6
            have z1 : decide ((K : Int) < b) = false := decide_eq_false (by omega)
            have e7 := e5 (w5.alloc (.cells #[.int .i64 0, .int .i64 0, .bool false] 39)) ((Below.refl _ _).alloc (Nat.le_refl _) _)
            have HB := hidE (C.newF (.cells #[.int .i64 0, .int .i64 0, .bool false] 39))
            clear C e5 e6 HP1
            go_wp2
            go_roundw
            case rel => exact ⟨i + 1, last, by omega, by go_num, rfl, HB.out.less (fun p hp => by cases hp)⟩
            case measure => simp [intOf]; omega
          · intro w5 x A eA eM C
            have X9 := max_run last x last eM
            clear eM
            replace C := C.newF (.cells #[.int .i64 x, .int .i64 0, .bool false] 39)
            obtain ⟨w6, hw6⟩ : ∃ w6, w6 = w5.alloc (.cells #[.int .i64 x, .int .i64 0, .bool false] 39) := ⟨_, rfl⟩
            obtain ⟨lb, hlb⟩ : ∃ lb, lb = w5.heap.size := ⟨_, rfl⟩
            rw [← hw6, ← hlb] at C
            generalize hFF : [(lb, Obj.cells #[.int .i64 x, .int .i64 0, .bool false] 39), (wr.heap.size, Obj.cells #[.int .i64 1, .int .i64 h, .string s, .string u, .slice xa xl xc, .int .i64 nw, .int .i64 fl, .int .i64 co] 34)] = FF at C
            have SK : Hid (∀ V, Hid (TK w FF pb w.heap.size mb b i x 0 A last V) → ((fun V => Hid (TK w FF pb w.heap.size mb b i x 0 A last V) ∧ V.cell? ⟨lb, 0, none⟩ = some (.int .i64 x) ∧ V.cell? ⟨lb, 1, none⟩ = some (.int .i64 0) ∧ V.cell? ⟨lb, 2, none⟩ = some (.bool false) ∧ V.cell? ⟨wr.heap.size, 2, none⟩ = some (.string s) ∧ (Instr.lookup 75 (.map (some mb)) (.int .i64 x) false).run Try.prog V = .ok (.bool false) V ∧ (Instr.lookup 75 (.map (some mb)) (.int .i64 0) false).run Try.prog V = .ok (.bool false) V)) V) := fun V hV => by
              have f1 := hV.out.fr (lb, Obj.cells #[.int .i64 x, .int .i64 0, .bool false] 39) (by rw [← hFF]; exact List.mem_cons_self ..)
              have f2 := hV.out.fr (wr.heap.size, Obj.cells #[.int .i64 1, .int .i64 h, .string s, .string u, .slice xa xl xc, .int .i64 nw, .int .i64 fl, .int .i64 co] 34) (by rw [← hFF]; exact List.mem_cons_of_mem _ (List.mem_cons_self ..))
              obtain ⟨l1, l2⟩ := hV.out.look
              exact ⟨hV, tblk_cell f1 rfl, tblk_cell f1 rfl, tblk_cell f1 rfl, tblk_cell f2 rfl, l1, l2⟩
            have HC := hidE C
            have S0 := SK.out _ HC
            clear C hFF
            obtain ⟨-, s1, s2, s3, s4, s5, s6⟩ := S0
            clear HP1
            go_wp2_with fail
            rw [← hw6, ← hlb]
            clear hw6 hlb s1 s2 s3 s4 s5 s6
            refine wp_region_held_drew (S := (fun V => Hid (TK w FF pb w.heap.size mb b i x 0 A last V) ∧ V.cell? ⟨lb, 0, none⟩ = some (.int .i64 x) ∧ V.cell? ⟨lb, 1, none⟩ = some (.int .i64 0) ∧ V.cell? ⟨lb, 2, none⟩ = some (.bool false) ∧ V.cell? ⟨wr.heap.size, 2, none⟩ = some (.string s) ∧ (Instr.lookup 75 (.map (some mb)) (.int .i64 x) false).run Try.prog V = .ok (.bool false) V ∧ (Instr.lookup 75 (.map (some mb)) (.int .i64 0) false).run Try.prog V = .ok (.bool false) V)) (by kernel_rfl) (SK.out _ (TK.drewH HC)) (fun hHeld => ?_)
            refine wpAnyH_take (i := 0) (oi := { dst := some 56, op := Op.move (Operand.tmp 7), type := 75, pos := "law.go:154", after := #[], guard := none }) (v := ?vf0) rfl (by kernel_rfl) (by kernel_rfl) (by kernel_rfl) (fun _ _ _ h => h) (Or.inl ⟨by rfl, ?hyf0⟩) hHeld ?restf0
            case hyf0 => (intro wS hSw; (try dsimp only at hSw); obtain ⟨-, hs1, hs2, hs3, hs4, hs5, hs6⟩ := hSw; go_simp; try with_reducible rfl)
            try simp only [Act.put, List.setIfInBounds_toArray, List.set_cons_zero, List.set_cons_succ]
            refine wpAnyH_take (i := 1) (oi := { dst := some 57, op := Op.fieldAddr 39 (Operand.tmp 11) 0, type := 0, pos := "law.go:154", after := #[], guard := none }) (v := ?vf1) rfl (by kernel_rfl) (by kernel_rfl) (by kernel_rfl) (fun _ _ _ h => h) (Or.inl ⟨by rfl, ?hyf1⟩) hHeld ?restf1
            case hyf1 => (intro wS hSw; (try dsimp only at hSw); obtain ⟨-, hs1, hs2, hs3, hs4, hs5, hs6⟩ := hSw; go_simp; try with_reducible rfl)
            try simp only [Act.put, List.setIfInBounds_toArray, List.set_cons_zero, List.set_cons_succ]
            refine wpAnyH_take (i := 2) (oi := { dst := some 58, op := Op.load 3 (Operand.tmp 57), type := 3, pos := "law.go:154", after := #[{ on := 1, ground := Ground.data }], guard := none }) (v := ?vf2) rfl (by kernel_rfl) (by kernel_rfl) (by kernel_rfl) (fun _ _ _ h => h) (Or.inl ⟨by rfl, ?hyf2⟩) hHeld ?restf2
            case hyf2 => (intro wS hSw; (try dsimp only at hSw); obtain ⟨-, hs1, hs2, hs3, hs4, hs5, hs6⟩ := hSw; go_simp; try with_reducible rfl)
            try simp only [Act.put, List.setIfInBounds_toArray, List.set_cons_zero, List.set_cons_succ]
            refine wpAnyH_take (i := 3) (oi := { dst := some 59, op := Op.lookup 75 (Operand.tmp 56) (Operand.tmp 58) false, type := 4, pos := "law.go:154", after := #[{ on := 0, ground := Ground.data }, { on := 2, ground := Ground.data }], guard := none }) (v := ?vf3) rfl (by kernel_rfl) (by kernel_rfl) (by kernel_rfl) (fun _ _ _ h => h) (Or.inl ⟨by rfl, ?hyf3⟩) hHeld ?restf3
            case hyf3 => (intro wS hSw; (try dsimp only at hSw); obtain ⟨-, hs1, hs2, hs3, hs4, hs5, hs6⟩ := hSw; go_simp; try with_reducible rfl)
            try simp only [Act.put, List.setIfInBounds_toArray, List.set_cons_zero, List.set_cons_succ]
            refine wpAnyH_take (i := 4) (oi := { dst := some 60, op := Op.move (Operand.tmp 59), type := 4, pos := "law.go:154", after := #[{ on := 3, ground := Ground.data }], guard := none }) (v := ?vf4) rfl (by kernel_rfl) (by kernel_rfl) (by kernel_rfl) (fun _ _ _ h => h) (Or.inl ⟨by rfl, ?hyf4⟩) hHeld ?restf4
            case hyf4 => (intro wS hSw; (try dsimp only at hSw); obtain ⟨-, hs1, hs2, hs3, hs4, hs5, hs6⟩ := hSw; go_simp; try with_reducible rfl)
            try simp only [Act.put, List.setIfInBounds_toArray, List.set_cons_zero, List.set_cons_succ]
            refine wpAnyH_take (i := 5) (oi := { dst := some 61, op := Op.move (Operand.tmp 7), type := 75, pos := "law.go:154", after := #[{ on := 4, ground := Ground.guard }], guard := some (4, false) }) (v := ?vf5) rfl (by kernel_rfl) (by kernel_rfl) (by kernel_rfl) (fun _ _ _ h => h) (Or.inl ⟨by rfl, ?hyf5⟩) hHeld ?restf5
            case hyf5 => (intro wS hSw; (try dsimp only at hSw); obtain ⟨-, hs1, hs2, hs3, hs4, hs5, hs6⟩ := hSw; go_simp; try with_reducible rfl)
            try simp only [Act.put, List.setIfInBounds_toArray, List.set_cons_zero, List.set_cons_succ]
            refine wpAnyH_take (i := 6) (oi := { dst := some 62, op := Op.fieldAddr 39 (Operand.tmp 11) 1, type := 0, pos := "law.go:154", after := #[{ on := 4, ground := Ground.guard }], guard := some (4, false) }) (v := ?vf6) rfl (by kernel_rfl) (by kernel_rfl) (by kernel_rfl) (fun _ _ _ h => h) (Or.inl ⟨by rfl, ?hyf6⟩) hHeld ?restf6
            case hyf6 => (intro wS hSw; (try dsimp only at hSw); obtain ⟨-, hs1, hs2, hs3, hs4, hs5, hs6⟩ := hSw; go_simp; try with_reducible rfl)
            try simp only [Act.put, List.setIfInBounds_toArray, List.set_cons_zero, List.set_cons_succ]
            refine wpAnyH_take (i := 7) (oi := { dst := some 63, op := Op.load 3 (Operand.tmp 62), type := 3, pos := "law.go:154", after := #[{ on := 6, ground := Ground.data }, { on := 4, ground := Ground.guard }], guard := some (4, false) }) (v := ?vf7) rfl (by kernel_rfl) (by kernel_rfl) (by kernel_rfl) (fun _ _ _ h => h) (Or.inl ⟨by rfl, ?hyf7⟩) hHeld ?restf7
            case hyf7 => (intro wS hSw; (try dsimp only at hSw); obtain ⟨-, hs1, hs2, hs3, hs4, hs5, hs6⟩ := hSw; go_simp; try with_reducible rfl)
            try simp only [Act.put, List.setIfInBounds_toArray, List.set_cons_zero, List.set_cons_succ]
            refine wpAnyH_take (i := 8) (oi := { dst := some 64, op := Op.lookup 75 (Operand.tmp 61) (Operand.tmp 63) false, type := 4, pos := "law.go:154", after := #[{ on := 5, ground := Ground.data }, { on := 7, ground := Ground.data }, { on := 4, ground := Ground.guard }], guard := some (4, false) }) (v := ?vf8) rfl (by kernel_rfl) (by kernel_rfl) (by kernel_rfl) (fun _ _ _ h => h) (Or.inl ⟨by rfl, ?hyf8⟩) hHeld ?restf8
            case hyf8 => (intro wS hSw; (try dsimp only at hSw); obtain ⟨-, hs1, hs2, hs3, hs4, hs5, hs6⟩ := hSw; go_simp; try with_reducible rfl)
            try simp only [Act.put, List.setIfInBounds_toArray, List.set_cons_zero, List.set_cons_succ]
            refine wpAnyH_take (i := 9) (oi := { dst := some 65, op := Op.pick (Operand.tmp 60) (Operand.const (Value.bool true)) (Operand.tmp 64), type := 4, pos := "law.go:154", after := #[{ on := 4, ground := Ground.data }, { on := 8, ground := Ground.data }], guard := none }) (v := ?vf9) rfl (by kernel_rfl) (by kernel_rfl) (by kernel_rfl) (fun _ _ _ h => h) (Or.inl ⟨by rfl, ?hyf9⟩) hHeld ?restf9
            case hyf9 => (intro wS hSw; (try dsimp only at hSw); obtain ⟨-, hs1, hs2, hs3, hs4, hs5, hs6⟩ := hSw; go_simp; try with_reducible rfl)
            try simp only [Act.put, List.setIfInBounds_toArray, List.set_cons_zero, List.set_cons_succ]
            refine wpAnyH_take (i := 10) (oi := { dst := some 66, op := Op.move (Operand.tmp 65), type := 4, pos := "law.go:154", after := #[{ on := 9, ground := Ground.data }, { on := 4, ground := Ground.chain }], guard := none }) (v := ?vf10) rfl (by kernel_rfl) (by kernel_rfl) (by kernel_rfl) (fun _ _ _ h => h) (Or.inl ⟨by rfl, ?hyf10⟩) hHeld ?restf10
            case hyf10 => (intro wS hSw; (try dsimp only at hSw); obtain ⟨-, hs1, hs2, hs3, hs4, hs5, hs6⟩ := hSw; go_simp; try with_reducible rfl)
            try simp only [Act.put, List.setIfInBounds_toArray, List.set_cons_zero, List.set_cons_succ]
            refine wpAnyH_take (i := 11) (oi := { dst := some 67, op := Op.fieldAddr 39 (Operand.tmp 11) 2, type := 0, pos := "law.go:154", after := #[{ on := 10, ground := Ground.guard }], guard := some (10, false) }) (v := ?vf11) rfl (by kernel_rfl) (by kernel_rfl) (by kernel_rfl) (fun _ _ _ h => h) (Or.inl ⟨by rfl, ?hyf11⟩) hHeld ?restf11
            case hyf11 => (intro wS hSw; (try dsimp only at hSw); obtain ⟨-, hs1, hs2, hs3, hs4, hs5, hs6⟩ := hSw; go_simp; try with_reducible rfl)
            try simp only [Act.put, List.setIfInBounds_toArray, List.set_cons_zero, List.set_cons_succ]
            refine wpAnyH_take (i := 12) (oi := { dst := some 68, op := Op.load 4 (Operand.tmp 67), type := 4, pos := "law.go:154", after := #[{ on := 11, ground := Ground.data }, { on := 10, ground := Ground.guard }], guard := some (10, false) }) (v := ?vf12) rfl (by kernel_rfl) (by kernel_rfl) (by kernel_rfl) (fun _ _ _ h => h) (Or.inl ⟨by rfl, ?hyf12⟩) hHeld ?restf12
            case hyf12 => (intro wS hSw; (try dsimp only at hSw); obtain ⟨-, hs1, hs2, hs3, hs4, hs5, hs6⟩ := hSw; go_simp; try with_reducible rfl)
            try simp only [Act.put, List.setIfInBounds_toArray, List.set_cons_zero, List.set_cons_succ]
            refine wpAnyH_take (i := 13) (oi := { dst := some 69, op := Op.move (Operand.tmp 68), type := 4, pos := "law.go:154", after := #[{ on := 12, ground := Ground.data }, { on := 10, ground := Ground.chain }, { on := 10, ground := Ground.guard }], guard := some (10, false) }) (v := ?vf13) rfl (by kernel_rfl) (by kernel_rfl) (by kernel_rfl) (fun _ _ _ h => h) (Or.inl ⟨by rfl, ?hyf13⟩) hHeld ?restf13
            case hyf13 => (intro wS hSw; (try dsimp only at hSw); obtain ⟨-, hs1, hs2, hs3, hs4, hs5, hs6⟩ := hSw; go_simp; try with_reducible rfl)
            try simp only [Act.put, List.setIfInBounds_toArray, List.set_cons_zero, List.set_cons_succ]
            refine wpAnyH_take (i := 14) (oi := { dst := some 70, op := Op.fieldAddr 39 (Operand.tmp 11) 0, type := 0, pos := "law.go:154", after := #[{ on := 13, ground := Ground.guard }], guard := some (13, true) }) (v := undef) rfl (by kernel_rfl) (by kernel_rfl) (by kernel_rfl) (fun _ _ _ h => h) (Or.inr ⟨by rfl, rfl⟩) hHeld ?restf14
            try simp only [Act.put, List.setIfInBounds_toArray, List.set_cons_zero, List.set_cons_succ]
            refine wpAnyH_take (i := 15) (oi := { dst := some 71, op := Op.load 3 (Operand.tmp 70), type := 3, pos := "law.go:154", after := #[{ on := 14, ground := Ground.data }, { on := 13, ground := Ground.guard }], guard := some (13, true) }) (v := undef) rfl (by kernel_rfl) (by kernel_rfl) (by kernel_rfl) (fun _ _ _ h => h) (Or.inr ⟨by rfl, rfl⟩) hHeld ?restf15
            try simp only [Act.put, List.setIfInBounds_toArray, List.set_cons_zero, List.set_cons_succ]
            refine wpAnyH_take (i := 16) (oi := { dst := some 72, op := Op.move (Operand.tmp 8), type := 3, pos := "law.go:154", after := #[{ on := 13, ground := Ground.guard }], guard := some (13, true) }) (v := undef) rfl (by kernel_rfl) (by kernel_rfl) (by kernel_rfl) (fun _ _ _ h => h) (Or.inr ⟨by rfl, rfl⟩) hHeld ?restf16
            try simp only [Act.put, List.setIfInBounds_toArray, List.set_cons_zero, List.set_cons_succ]
            refine wpAnyH_take (i := 17) (oi := { dst := some 73, op := Op.binOp BinOp.add 3 (Operand.tmp 72) (Operand.const (Value.int IntKind.i64 1)) 3, type := 3, pos := "law.go:154", after := #[{ on := 16, ground := Ground.data }, { on := 13, ground := Ground.guard }], guard := some (13, true) }) (v := undef) rfl (by kernel_rfl) (by kernel_rfl) (by kernel_rfl) (fun _ _ _ h => h) (Or.inr ⟨by rfl, rfl⟩) hHeld ?restf17
            try simp only [Act.put, List.setIfInBounds_toArray, List.set_cons_zero, List.set_cons_succ]
            refine wpAnyH_take (i := 18) (oi := { dst := some 74, op := Op.binOp BinOp.neq 3 (Operand.tmp 71) (Operand.tmp 73) 3, type := 4, pos := "law.go:154", after := #[{ on := 15, ground := Ground.data }, { on := 17, ground := Ground.data }, { on := 13, ground := Ground.guard }], guard := some (13, true) }) (v := undef) rfl (by kernel_rfl) (by kernel_rfl) (by kernel_rfl) (fun _ _ _ h => h) (Or.inr ⟨by rfl, rfl⟩) hHeld ?restf18
            try simp only [Act.put, List.setIfInBounds_toArray, List.set_cons_zero, List.set_cons_succ]
            refine wpAnyH_take (i := 19) (oi := { dst := some 75, op := Op.pick (Operand.tmp 69) (Operand.tmp 74) (Operand.const (Value.bool false)), type := 4, pos := "law.go:154", after := #[{ on := 13, ground := Ground.data }, { on := 18, ground := Ground.data }, { on := 10, ground := Ground.guard }], guard := some (10, false) }) (v := ?vf19) rfl (by kernel_rfl) (by kernel_rfl) (by kernel_rfl) (fun _ _ _ h => h) (Or.inl ⟨by rfl, ?hyf19⟩) hHeld ?restf19
            case hyf19 => (intro wS hSw; (try dsimp only at hSw); obtain ⟨-, hs1, hs2, hs3, hs4, hs5, hs6⟩ := hSw; go_simp; try with_reducible rfl)
            try simp only [Act.put, List.setIfInBounds_toArray, List.set_cons_zero, List.set_cons_succ]
            refine wpAnyH_take (i := 20) (oi := { dst := some 76, op := Op.pick (Operand.tmp 66) (Operand.const (Value.bool true)) (Operand.tmp 75), type := 4, pos := "law.go:154", after := #[{ on := 10, ground := Ground.data }, { on := 19, ground := Ground.data }], guard := none }) (v := ?vf20) rfl (by kernel_rfl) (by kernel_rfl) (by kernel_rfl) (fun _ _ _ h => h) (Or.inl ⟨by rfl, ?hyf20⟩) hHeld ?restf20
            case hyf20 => (intro wS hSw; (try dsimp only at hSw); obtain ⟨-, hs1, hs2, hs3, hs4, hs5, hs6⟩ := hSw; go_simp; try with_reducible rfl)
            try simp only [Act.put, List.setIfInBounds_toArray, List.set_cons_zero, List.set_cons_succ]
            refine wpAnyH_take (i := 21) (oi := { dst := some 77, op := Op.move (Operand.tmp 76), type := 4, pos := "law.go:154", after := #[{ on := 20, ground := Ground.data }, { on := 13, ground := Ground.chain }], guard := none }) (v := ?vf21) rfl (by kernel_rfl) (by kernel_rfl) (by kernel_rfl) (fun _ _ _ h => h) (Or.inl ⟨by rfl, ?hyf21⟩) hHeld ?restf21
            case hyf21 => (intro wS hSw; (try dsimp only at hSw); obtain ⟨-, hs1, hs2, hs3, hs4, hs5, hs6⟩ := hSw; go_simp; try with_reducible rfl)
            try simp only [Act.put, List.setIfInBounds_toArray, List.set_cons_zero, List.set_cons_succ]
            refine wpAnyH_take (i := 22) (oi := { dst := some 78, op := Op.fieldAddr 39 (Operand.tmp 11) 2, type := 0, pos := "law.go:154", after := #[{ on := 21, ground := Ground.guard }], guard := some (21, false) }) (v := ?vf22) rfl (by kernel_rfl) (by kernel_rfl) (by kernel_rfl) (fun _ _ _ h => h) (Or.inl ⟨by rfl, ?hyf22⟩) hHeld ?restf22
            case hyf22 => (intro wS hSw; (try dsimp only at hSw); obtain ⟨-, hs1, hs2, hs3, hs4, hs5, hs6⟩ := hSw; go_simp; try with_reducible rfl)
            try simp only [Act.put, List.setIfInBounds_toArray, List.set_cons_zero, List.set_cons_succ]
            refine wpAnyH_take (i := 23) (oi := { dst := some 79, op := Op.load 4 (Operand.tmp 78), type := 4, pos := "law.go:154", after := #[{ on := 22, ground := Ground.data }, { on := 21, ground := Ground.guard }], guard := some (21, false) }) (v := ?vf23) rfl (by kernel_rfl) (by kernel_rfl) (by kernel_rfl) (fun _ _ _ h => h) (Or.inl ⟨by rfl, ?hyf23⟩) hHeld ?restf23
            case hyf23 => (intro wS hSw; (try dsimp only at hSw); obtain ⟨-, hs1, hs2, hs3, hs4, hs5, hs6⟩ := hSw; go_simp; try with_reducible rfl)
            try simp only [Act.put, List.setIfInBounds_toArray, List.set_cons_zero, List.set_cons_succ]
            refine wpAnyH_take (i := 24) (oi := { dst := some 80, op := Op.unOp UnOp.not 4 (Operand.tmp 79), type := 4, pos := "law.go:154", after := #[{ on := 23, ground := Ground.data }, { on := 21, ground := Ground.guard }], guard := some (21, false) }) (v := ?vf24) rfl (by kernel_rfl) (by kernel_rfl) (by kernel_rfl) (fun _ _ _ h => h) (Or.inl ⟨by rfl, ?hyf24⟩) hHeld ?restf24
            case hyf24 => (intro wS hSw; (try dsimp only at hSw); obtain ⟨-, hs1, hs2, hs3, hs4, hs5, hs6⟩ := hSw; go_simp; try with_reducible rfl)
            try simp only [Act.put, List.setIfInBounds_toArray, List.set_cons_zero, List.set_cons_succ]
            refine wpAnyH_take (i := 25) (oi := { dst := some 81, op := Op.move (Operand.tmp 80), type := 4, pos := "law.go:154", after := #[{ on := 24, ground := Ground.data }, { on := 21, ground := Ground.chain }, { on := 21, ground := Ground.guard }], guard := some (21, false) }) (v := ?vf25) rfl (by kernel_rfl) (by kernel_rfl) (by kernel_rfl) (fun _ _ _ h => h) (Or.inl ⟨by rfl, ?hyf25⟩) hHeld ?restf25
            case hyf25 => (intro wS hSw; (try dsimp only at hSw); obtain ⟨-, hs1, hs2, hs3, hs4, hs5, hs6⟩ := hSw; go_simp; try with_reducible rfl)
            try simp only [Act.put, List.setIfInBounds_toArray, List.set_cons_zero, List.set_cons_succ]
            refine wpAnyH_take (i := 26) (oi := { dst := some 82, op := Op.fieldAddr 39 (Operand.tmp 11) 1, type := 0, pos := "law.go:154", after := #[{ on := 25, ground := Ground.guard }], guard := some (25, true) }) (v := ?vf26) rfl (by kernel_rfl) (by kernel_rfl) (by kernel_rfl) (fun _ _ _ h => h) (Or.inl ⟨by rfl, ?hyf26⟩) hHeld ?restf26
            case hyf26 => (intro wS hSw; (try dsimp only at hSw); obtain ⟨-, hs1, hs2, hs3, hs4, hs5, hs6⟩ := hSw; go_simp; try with_reducible rfl)
            try simp only [Act.put, List.setIfInBounds_toArray, List.set_cons_zero, List.set_cons_succ]
            refine wpAnyH_take (i := 27) (oi := { dst := some 83, op := Op.load 3 (Operand.tmp 82), type := 3, pos := "law.go:154", after := #[{ on := 26, ground := Ground.data }, { on := 25, ground := Ground.guard }], guard := some (25, true) }) (v := ?vf27) rfl (by kernel_rfl) (by kernel_rfl) (by kernel_rfl) (fun _ _ _ h => h) (Or.inl ⟨by rfl, ?hyf27⟩) hHeld ?restf27
            case hyf27 => (intro wS hSw; (try dsimp only at hSw); obtain ⟨-, hs1, hs2, hs3, hs4, hs5, hs6⟩ := hSw; go_simp; try with_reducible rfl)
            try simp only [Act.put, List.setIfInBounds_toArray, List.set_cons_zero, List.set_cons_succ]
            refine wpAnyH_take (i := 28) (oi := { dst := some 84, op := Op.binOp BinOp.neq 3 (Operand.tmp 83) (Operand.const (Value.int IntKind.i64 0)) 3, type := 4, pos := "law.go:154", after := #[{ on := 27, ground := Ground.data }, { on := 25, ground := Ground.guard }], guard := some (25, true) }) (v := ?vf28) rfl (by kernel_rfl) (by kernel_rfl) (by kernel_rfl) (fun _ _ _ h => h) (Or.inl ⟨by rfl, ?hyf28⟩) hHeld ?restf28
            case hyf28 => (intro wS hSw; (try dsimp only at hSw); obtain ⟨-, hs1, hs2, hs3, hs4, hs5, hs6⟩ := hSw; go_simp; try with_reducible rfl)
            try simp only [Act.put, List.setIfInBounds_toArray, List.set_cons_zero, List.set_cons_succ]
            refine wpAnyH_take (i := 29) (oi := { dst := some 85, op := Op.pick (Operand.tmp 81) (Operand.tmp 84) (Operand.const (Value.bool false)), type := 4, pos := "law.go:154", after := #[{ on := 25, ground := Ground.data }, { on := 28, ground := Ground.data }, { on := 21, ground := Ground.guard }], guard := some (21, false) }) (v := ?vf29) rfl (by kernel_rfl) (by kernel_rfl) (by kernel_rfl) (fun _ _ _ h => h) (Or.inl ⟨by rfl, ?hyf29⟩) hHeld ?restf29
            case hyf29 => (intro wS hSw; (try dsimp only at hSw); obtain ⟨-, hs1, hs2, hs3, hs4, hs5, hs6⟩ := hSw; go_simp; try with_reducible rfl)
            try simp only [Act.put, List.setIfInBounds_toArray, List.set_cons_zero, List.set_cons_succ]
            refine wpAnyH_take (i := 30) (oi := { dst := some 86, op := Op.pick (Operand.tmp 77) (Operand.const (Value.bool true)) (Operand.tmp 85), type := 4, pos := "law.go:154", after := #[{ on := 21, ground := Ground.data }, { on := 29, ground := Ground.data }], guard := none }) (v := ?vf30) rfl (by kernel_rfl) (by kernel_rfl) (by kernel_rfl) (fun _ _ _ h => h) (Or.inl ⟨by rfl, ?hyf30⟩) hHeld ?restf30
            case hyf30 => (intro wS hSw; (try dsimp only at hSw); obtain ⟨-, hs1, hs2, hs3, hs4, hs5, hs6⟩ := hSw; go_simp; try with_reducible rfl)
            try simp only [Act.put, List.setIfInBounds_toArray, List.set_cons_zero, List.set_cons_succ]
            refine wpAnyH_take (i := 31) (oi := { dst := some 87, op := Op.move (Operand.tmp 86), type := 4, pos := "law.go:154", after := #[{ on := 30, ground := Ground.data }, { on := 25, ground := Ground.chain }], guard := none }) (v := ?vf31) rfl (by kernel_rfl) (by kernel_rfl) (by kernel_rfl) (fun _ _ _ h => h) (Or.inl ⟨by rfl, ?hyf31⟩) hHeld ?restf31
            case hyf31 => (intro wS hSw; (try dsimp only at hSw); obtain ⟨-, hs1, hs2, hs3, hs4, hs5, hs6⟩ := hSw; go_simp; try with_reducible rfl)
            try simp only [Act.put, List.setIfInBounds_toArray, List.set_cons_zero, List.set_cons_succ]
            refine wpAnyH_take (i := 32) (oi := { dst := some 88, op := Op.move (Operand.tmp 5), type := 23, pos := "law.go:154", after := #[{ on := 31, ground := Ground.guard }], guard := some (31, false) }) (v := ?vf32) rfl (by kernel_rfl) (by kernel_rfl) (by kernel_rfl) (fun _ _ _ h => h) (Or.inl ⟨by rfl, ?hyf32⟩) hHeld ?restf32
            case hyf32 => (intro wS hSw; (try dsimp only at hSw); obtain ⟨-, hs1, hs2, hs3, hs4, hs5, hs6⟩ := hSw; go_simp; try with_reducible rfl)
            try simp only [Act.put, List.setIfInBounds_toArray, List.set_cons_zero, List.set_cons_succ]
            refine wpAnyH_take (i := 33) (oi := { dst := some 89, op := Op.fieldAddr 39 (Operand.tmp 11) 0, type := 0, pos := "law.go:154", after := #[{ on := 31, ground := Ground.guard }], guard := some (31, false) }) (v := ?vf33) rfl (by kernel_rfl) (by kernel_rfl) (by kernel_rfl) (fun _ _ _ h => h) (Or.inl ⟨by rfl, ?hyf33⟩) hHeld ?restf33
            case hyf33 => (intro wS hSw; (try dsimp only at hSw); obtain ⟨-, hs1, hs2, hs3, hs4, hs5, hs6⟩ := hSw; go_simp; try with_reducible rfl)
            try simp only [Act.put, List.setIfInBounds_toArray, List.set_cons_zero, List.set_cons_succ]
            refine wpAnyH_take (i := 34) (oi := { dst := some 90, op := Op.load 3 (Operand.tmp 89), type := 3, pos := "law.go:154", after := #[{ on := 33, ground := Ground.data }, { on := 31, ground := Ground.guard }], guard := some (31, false) }) (v := ?vf34) rfl (by kernel_rfl) (by kernel_rfl) (by kernel_rfl) (fun _ _ _ h => h) (Or.inl ⟨by rfl, ?hyf34⟩) hHeld ?restf34
            case hyf34 => (intro wS hSw; (try dsimp only at hSw); obtain ⟨-, hs1, hs2, hs3, hs4, hs5, hs6⟩ := hSw; go_simp; try with_reducible rfl)
            try simp only [Act.put, List.setIfInBounds_toArray, List.set_cons_zero, List.set_cons_succ]
            refine wpAnyH_take (i := 36) (oi := { dst := some 92, op := Op.fieldAddr 34 (Operand.tmp 10) 2, type := 0, pos := "law.go:154", after := #[{ on := 31, ground := Ground.guard }], guard := some (31, false) }) (v := ?vf36) rfl (by kernel_rfl) (by kernel_rfl) (by kernel_rfl) (fun _ _ _ h => h) (Or.inl ⟨by rfl, ?hyf36⟩) hHeld ?restf36
            case hyf36 => (intro wS hSw; (try dsimp only at hSw); obtain ⟨-, hs1, hs2, hs3, hs4, hs5, hs6⟩ := hSw; go_simp; try with_reducible rfl)
            try simp only [Act.put, List.setIfInBounds_toArray, List.set_cons_zero, List.set_cons_succ]
            refine wpAnyH_take (i := 37) (oi := { dst := some 93, op := Op.load 9 (Operand.tmp 92), type := 9, pos := "law.go:154", after := #[{ on := 36, ground := Ground.data }, { on := 31, ground := Ground.guard }], guard := some (31, false) }) (v := ?vf37) rfl (by kernel_rfl) (by kernel_rfl) (by kernel_rfl) (fun _ _ _ h => h) (Or.inl ⟨by rfl, ?hyf37⟩) hHeld ?restf37
            case hyf37 => (intro wS hSw; (try dsimp only at hSw); obtain ⟨-, hs1, hs2, hs3, hs4, hs5, hs6⟩ := hSw; go_simp; try with_reducible rfl)
            try simp only [Act.put, List.setIfInBounds_toArray, List.set_cons_zero, List.set_cons_succ]
            refine wpAnyH_ready (rs := [35]) (by kernel_rfl) (by simp) ?_
            refine AllReadyH.cons (o := { dst := some 91, op := Op.call { callee := Callee.value (Operand.func 20), args := #[Operand.tmp 88, Operand.tmp 90], argTypes := #[23, 3] }, type := 9, pos := "law.go:154", after := #[{ on := 32, ground := Ground.data }, { on := 34, ground := Ground.data }, { on := 31, ground := Ground.chain }, { on := 31, ground := Ground.guard }], guard := some (31, false) }) rfl (fun K hK => ?_) AllReadyH.nil
            go_simp
            go_at_call 20
            refine (aimH (TK.drewH HC)).mono ?_
            rintro e w7 ⟨rfl, HC7⟩
            have S7 := SK.out _ HC7
            refine hK.out _ _ S7 (fun hHeld => ?_)
            clear hK K
            try simp only [Act.put, List.setIfInBounds_toArray, List.set_cons_zero, List.set_cons_succ]
            refine wpAnyH_take (i := 38) (oi := { dst := some 94, op := Op.binOp BinOp.neq 9 (Operand.tmp 91) (Operand.tmp 93) 9, type := 4, pos := "law.go:154", after := #[{ on := 35, ground := Ground.data }, { on := 37, ground := Ground.data }, { on := 31, ground := Ground.guard }], guard := some (31, false) }) (v := ?vf38) rfl (by kernel_rfl) (by kernel_rfl) (by kernel_rfl) (fun _ _ _ h => h) (Or.inl ⟨by rfl, ?hyf38⟩) hHeld ?restf38
            case hyf38 => (intro wS hSw; (try dsimp only at hSw); obtain ⟨-, hs1, hs2, hs3, hs4, hs5, hs6⟩ := hSw; go_simp; try with_reducible rfl)
            try simp only [Act.put, List.setIfInBounds_toArray, List.set_cons_zero, List.set_cons_succ]
            refine wpAnyH_take (i := 39) (oi := { dst := some 95, op := Op.pick (Operand.tmp 87) (Operand.const (Value.bool true)) (Operand.tmp 94), type := 4, pos := "law.go:154", after := #[{ on := 31, ground := Ground.data }, { on := 38, ground := Ground.data }], guard := none }) (v := ?vf39) rfl (by kernel_rfl) (by kernel_rfl) (by kernel_rfl) (fun _ _ _ h => h) (Or.inl ⟨by rfl, ?hyf39⟩) hHeld ?restf39
            case hyf39 => (intro wS hSw; (try dsimp only at hSw); obtain ⟨-, hs1, hs2, hs3, hs4, hs5, hs6⟩ := hSw; go_simp; try with_reducible rfl)
            try simp only [Act.put, List.setIfInBounds_toArray, List.set_cons_zero, List.set_cons_succ]
            refine wpAnyH_done (by kernel_rfl) ?_ _
            obtain ⟨-, s1, s2, s3, s4, s5, s6⟩ := S7
            obtain ⟨w8, r8, HB0⟩ := HC7.out.put
            have HB := hidE HB0
            clear HB0 HC7 HC SK hHeld s2 s3 s4 s5 s6
            go_wp2_with (at_mapUpdate; refine wpList_mapUpdate_run _ rfl _ _ _ 75 rfl _ _ _ w8 rfl rfl rfl r8 ?_)
            obtain ⟨N, K, c1, c2, c3, c4⟩ := HB.out.tail
            have L1 := hidE c1
            have z1 : decide (b < (N : Int)) = false := decide_eq_false (by omega)
            have z2 : decide (N < K) = false := decide_eq_false (by omega)
            have z3 : decide ((N : Int) < (K : Int)) = false := decide_eq_false (by omega)
            clear c1 c3 c4
            go_wp2_with fail
            refine L1.out.mono ?_
            rintro e w9 ⟨rfl, rfl⟩
            go_wp2_with fail
            refine L1.out.mono ?_
            rintro e w9 ⟨rfl, rfl⟩
            clear L1
            go_wp2
            go_roundw
            case rel => exact ⟨i + 1, last, by omega, by go_num, rfl, HB.out.less (fun p hp => by cases hp)⟩
            case measure => simp [intOf]; omega
          · intro w5 S H eH l0 l9 C
            have X9 := max_run last H H (by omega)
            have hwl : IntKind.i64.wrap (last + 1) = H := by rw [IntKind.wrap_i64]; omega
            clear eH l0 l9
            replace C := C.newF (.cells #[.int .i64 H, .int .i64 S, .bool true] 39)
            obtain ⟨w6, hw6⟩ : ∃ w6, w6 = w5.alloc (.cells #[.int .i64 H, .int .i64 S, .bool true] 39) := ⟨_, rfl⟩
            obtain ⟨lb, hlb⟩ : ∃ lb, lb = w5.heap.size := ⟨_, rfl⟩
            rw [← hw6, ← hlb] at C
            generalize hFF : [(lb, Obj.cells #[.int .i64 H, .int .i64 S, .bool true] 39), (wr.heap.size, Obj.cells #[.int .i64 1, .int .i64 h, .string s, .string u, .slice xa xl xc, .int .i64 nw, .int .i64 fl, .int .i64 co] 34)] = FF at C
            have SK : Hid (∀ V, Hid (TK w FF pb w.heap.size mb b i H S s H V) → ((fun V => Hid (TK w FF pb w.heap.size mb b i H S s H V) ∧ V.cell? ⟨lb, 0, none⟩ = some (.int .i64 H) ∧ V.cell? ⟨lb, 1, none⟩ = some (.int .i64 S) ∧ V.cell? ⟨lb, 2, none⟩ = some (.bool true) ∧ V.cell? ⟨wr.heap.size, 2, none⟩ = some (.string s) ∧ (Instr.lookup 75 (.map (some mb)) (.int .i64 H) false).run Try.prog V = .ok (.bool false) V ∧ (Instr.lookup 75 (.map (some mb)) (.int .i64 S) false).run Try.prog V = .ok (.bool false) V)) V) := fun V hV => by
              have f1 := hV.out.fr (lb, Obj.cells #[.int .i64 H, .int .i64 S, .bool true] 39) (by rw [← hFF]; exact List.mem_cons_self ..)
              have f2 := hV.out.fr (wr.heap.size, Obj.cells #[.int .i64 1, .int .i64 h, .string s, .string u, .slice xa xl xc, .int .i64 nw, .int .i64 fl, .int .i64 co] 34) (by rw [← hFF]; exact List.mem_cons_of_mem _ (List.mem_cons_self ..))
              obtain ⟨l1, l2⟩ := hV.out.look
              exact ⟨hV, tblk_cell f1 rfl, tblk_cell f1 rfl, tblk_cell f1 rfl, tblk_cell f2 rfl, l1, l2⟩
            have HC := hidE C
            have S0 := SK.out _ HC
            clear C hFF
            obtain ⟨-, s1, s2, s3, s4, s5, s6⟩ := S0
            clear HP1
            go_wp2_with fail
            rw [← hw6, ← hlb]
            clear hw6 hlb s1 s2 s3 s4 s5 s6
            refine wp_region_held_drew (S := (fun V => Hid (TK w FF pb w.heap.size mb b i H S s H V) ∧ V.cell? ⟨lb, 0, none⟩ = some (.int .i64 H) ∧ V.cell? ⟨lb, 1, none⟩ = some (.int .i64 S) ∧ V.cell? ⟨lb, 2, none⟩ = some (.bool true) ∧ V.cell? ⟨wr.heap.size, 2, none⟩ = some (.string s) ∧ (Instr.lookup 75 (.map (some mb)) (.int .i64 H) false).run Try.prog V = .ok (.bool false) V ∧ (Instr.lookup 75 (.map (some mb)) (.int .i64 S) false).run Try.prog V = .ok (.bool false) V)) (by kernel_rfl) (SK.out _ (TK.drewH HC)) (fun hHeld => ?_)
            refine wpAnyH_take (i := 0) (oi := { dst := some 56, op := Op.move (Operand.tmp 7), type := 75, pos := "law.go:154", after := #[], guard := none }) (v := ?vt0) rfl (by kernel_rfl) (by kernel_rfl) (by kernel_rfl) (fun _ _ _ h => h) (Or.inl ⟨by rfl, ?hyt0⟩) hHeld ?restt0
            case hyt0 => (intro wS hSw; (try dsimp only at hSw); obtain ⟨-, hs1, hs2, hs3, hs4, hs5, hs6⟩ := hSw; go_simp; try with_reducible rfl)
            try simp only [Act.put, List.setIfInBounds_toArray, List.set_cons_zero, List.set_cons_succ]
            refine wpAnyH_take (i := 1) (oi := { dst := some 57, op := Op.fieldAddr 39 (Operand.tmp 11) 0, type := 0, pos := "law.go:154", after := #[], guard := none }) (v := ?vt1) rfl (by kernel_rfl) (by kernel_rfl) (by kernel_rfl) (fun _ _ _ h => h) (Or.inl ⟨by rfl, ?hyt1⟩) hHeld ?restt1
            case hyt1 => (intro wS hSw; (try dsimp only at hSw); obtain ⟨-, hs1, hs2, hs3, hs4, hs5, hs6⟩ := hSw; go_simp; try with_reducible rfl)
            try simp only [Act.put, List.setIfInBounds_toArray, List.set_cons_zero, List.set_cons_succ]
            refine wpAnyH_take (i := 2) (oi := { dst := some 58, op := Op.load 3 (Operand.tmp 57), type := 3, pos := "law.go:154", after := #[{ on := 1, ground := Ground.data }], guard := none }) (v := ?vt2) rfl (by kernel_rfl) (by kernel_rfl) (by kernel_rfl) (fun _ _ _ h => h) (Or.inl ⟨by rfl, ?hyt2⟩) hHeld ?restt2
            case hyt2 => (intro wS hSw; (try dsimp only at hSw); obtain ⟨-, hs1, hs2, hs3, hs4, hs5, hs6⟩ := hSw; go_simp; try with_reducible rfl)
            try simp only [Act.put, List.setIfInBounds_toArray, List.set_cons_zero, List.set_cons_succ]
            refine wpAnyH_take (i := 3) (oi := { dst := some 59, op := Op.lookup 75 (Operand.tmp 56) (Operand.tmp 58) false, type := 4, pos := "law.go:154", after := #[{ on := 0, ground := Ground.data }, { on := 2, ground := Ground.data }], guard := none }) (v := ?vt3) rfl (by kernel_rfl) (by kernel_rfl) (by kernel_rfl) (fun _ _ _ h => h) (Or.inl ⟨by rfl, ?hyt3⟩) hHeld ?restt3
            case hyt3 => (intro wS hSw; (try dsimp only at hSw); obtain ⟨-, hs1, hs2, hs3, hs4, hs5, hs6⟩ := hSw; go_simp; try with_reducible rfl)
            try simp only [Act.put, List.setIfInBounds_toArray, List.set_cons_zero, List.set_cons_succ]
            refine wpAnyH_take (i := 4) (oi := { dst := some 60, op := Op.move (Operand.tmp 59), type := 4, pos := "law.go:154", after := #[{ on := 3, ground := Ground.data }], guard := none }) (v := ?vt4) rfl (by kernel_rfl) (by kernel_rfl) (by kernel_rfl) (fun _ _ _ h => h) (Or.inl ⟨by rfl, ?hyt4⟩) hHeld ?restt4
            case hyt4 => (intro wS hSw; (try dsimp only at hSw); obtain ⟨-, hs1, hs2, hs3, hs4, hs5, hs6⟩ := hSw; go_simp; try with_reducible rfl)
            try simp only [Act.put, List.setIfInBounds_toArray, List.set_cons_zero, List.set_cons_succ]
            refine wpAnyH_take (i := 5) (oi := { dst := some 61, op := Op.move (Operand.tmp 7), type := 75, pos := "law.go:154", after := #[{ on := 4, ground := Ground.guard }], guard := some (4, false) }) (v := ?vt5) rfl (by kernel_rfl) (by kernel_rfl) (by kernel_rfl) (fun _ _ _ h => h) (Or.inl ⟨by rfl, ?hyt5⟩) hHeld ?restt5
            case hyt5 => (intro wS hSw; (try dsimp only at hSw); obtain ⟨-, hs1, hs2, hs3, hs4, hs5, hs6⟩ := hSw; go_simp; try with_reducible rfl)
            try simp only [Act.put, List.setIfInBounds_toArray, List.set_cons_zero, List.set_cons_succ]
            refine wpAnyH_take (i := 6) (oi := { dst := some 62, op := Op.fieldAddr 39 (Operand.tmp 11) 1, type := 0, pos := "law.go:154", after := #[{ on := 4, ground := Ground.guard }], guard := some (4, false) }) (v := ?vt6) rfl (by kernel_rfl) (by kernel_rfl) (by kernel_rfl) (fun _ _ _ h => h) (Or.inl ⟨by rfl, ?hyt6⟩) hHeld ?restt6
            case hyt6 => (intro wS hSw; (try dsimp only at hSw); obtain ⟨-, hs1, hs2, hs3, hs4, hs5, hs6⟩ := hSw; go_simp; try with_reducible rfl)
            try simp only [Act.put, List.setIfInBounds_toArray, List.set_cons_zero, List.set_cons_succ]
            refine wpAnyH_take (i := 7) (oi := { dst := some 63, op := Op.load 3 (Operand.tmp 62), type := 3, pos := "law.go:154", after := #[{ on := 6, ground := Ground.data }, { on := 4, ground := Ground.guard }], guard := some (4, false) }) (v := ?vt7) rfl (by kernel_rfl) (by kernel_rfl) (by kernel_rfl) (fun _ _ _ h => h) (Or.inl ⟨by rfl, ?hyt7⟩) hHeld ?restt7
            case hyt7 => (intro wS hSw; (try dsimp only at hSw); obtain ⟨-, hs1, hs2, hs3, hs4, hs5, hs6⟩ := hSw; go_simp; try with_reducible rfl)
            try simp only [Act.put, List.setIfInBounds_toArray, List.set_cons_zero, List.set_cons_succ]
            refine wpAnyH_take (i := 8) (oi := { dst := some 64, op := Op.lookup 75 (Operand.tmp 61) (Operand.tmp 63) false, type := 4, pos := "law.go:154", after := #[{ on := 5, ground := Ground.data }, { on := 7, ground := Ground.data }, { on := 4, ground := Ground.guard }], guard := some (4, false) }) (v := ?vt8) rfl (by kernel_rfl) (by kernel_rfl) (by kernel_rfl) (fun _ _ _ h => h) (Or.inl ⟨by rfl, ?hyt8⟩) hHeld ?restt8
            case hyt8 => (intro wS hSw; (try dsimp only at hSw); obtain ⟨-, hs1, hs2, hs3, hs4, hs5, hs6⟩ := hSw; go_simp; try with_reducible rfl)
            try simp only [Act.put, List.setIfInBounds_toArray, List.set_cons_zero, List.set_cons_succ]
            refine wpAnyH_take (i := 9) (oi := { dst := some 65, op := Op.pick (Operand.tmp 60) (Operand.const (Value.bool true)) (Operand.tmp 64), type := 4, pos := "law.go:154", after := #[{ on := 4, ground := Ground.data }, { on := 8, ground := Ground.data }], guard := none }) (v := ?vt9) rfl (by kernel_rfl) (by kernel_rfl) (by kernel_rfl) (fun _ _ _ h => h) (Or.inl ⟨by rfl, ?hyt9⟩) hHeld ?restt9
            case hyt9 => (intro wS hSw; (try dsimp only at hSw); obtain ⟨-, hs1, hs2, hs3, hs4, hs5, hs6⟩ := hSw; go_simp; try with_reducible rfl)
            try simp only [Act.put, List.setIfInBounds_toArray, List.set_cons_zero, List.set_cons_succ]
            refine wpAnyH_take (i := 10) (oi := { dst := some 66, op := Op.move (Operand.tmp 65), type := 4, pos := "law.go:154", after := #[{ on := 9, ground := Ground.data }, { on := 4, ground := Ground.chain }], guard := none }) (v := ?vt10) rfl (by kernel_rfl) (by kernel_rfl) (by kernel_rfl) (fun _ _ _ h => h) (Or.inl ⟨by rfl, ?hyt10⟩) hHeld ?restt10
            case hyt10 => (intro wS hSw; (try dsimp only at hSw); obtain ⟨-, hs1, hs2, hs3, hs4, hs5, hs6⟩ := hSw; go_simp; try with_reducible rfl)
            try simp only [Act.put, List.setIfInBounds_toArray, List.set_cons_zero, List.set_cons_succ]
            refine wpAnyH_take (i := 11) (oi := { dst := some 67, op := Op.fieldAddr 39 (Operand.tmp 11) 2, type := 0, pos := "law.go:154", after := #[{ on := 10, ground := Ground.guard }], guard := some (10, false) }) (v := ?vt11) rfl (by kernel_rfl) (by kernel_rfl) (by kernel_rfl) (fun _ _ _ h => h) (Or.inl ⟨by rfl, ?hyt11⟩) hHeld ?restt11
            case hyt11 => (intro wS hSw; (try dsimp only at hSw); obtain ⟨-, hs1, hs2, hs3, hs4, hs5, hs6⟩ := hSw; go_simp; try with_reducible rfl)
            try simp only [Act.put, List.setIfInBounds_toArray, List.set_cons_zero, List.set_cons_succ]
            refine wpAnyH_take (i := 12) (oi := { dst := some 68, op := Op.load 4 (Operand.tmp 67), type := 4, pos := "law.go:154", after := #[{ on := 11, ground := Ground.data }, { on := 10, ground := Ground.guard }], guard := some (10, false) }) (v := ?vt12) rfl (by kernel_rfl) (by kernel_rfl) (by kernel_rfl) (fun _ _ _ h => h) (Or.inl ⟨by rfl, ?hyt12⟩) hHeld ?restt12
            case hyt12 => (intro wS hSw; (try dsimp only at hSw); obtain ⟨-, hs1, hs2, hs3, hs4, hs5, hs6⟩ := hSw; go_simp; try with_reducible rfl)
            try simp only [Act.put, List.setIfInBounds_toArray, List.set_cons_zero, List.set_cons_succ]
            refine wpAnyH_take (i := 13) (oi := { dst := some 69, op := Op.move (Operand.tmp 68), type := 4, pos := "law.go:154", after := #[{ on := 12, ground := Ground.data }, { on := 10, ground := Ground.chain }, { on := 10, ground := Ground.guard }], guard := some (10, false) }) (v := ?vt13) rfl (by kernel_rfl) (by kernel_rfl) (by kernel_rfl) (fun _ _ _ h => h) (Or.inl ⟨by rfl, ?hyt13⟩) hHeld ?restt13
            case hyt13 => (intro wS hSw; (try dsimp only at hSw); obtain ⟨-, hs1, hs2, hs3, hs4, hs5, hs6⟩ := hSw; go_simp; try with_reducible rfl)
            try simp only [Act.put, List.setIfInBounds_toArray, List.set_cons_zero, List.set_cons_succ]
            refine wpAnyH_take (i := 14) (oi := { dst := some 70, op := Op.fieldAddr 39 (Operand.tmp 11) 0, type := 0, pos := "law.go:154", after := #[{ on := 13, ground := Ground.guard }], guard := some (13, true) }) (v := ?vt14) rfl (by kernel_rfl) (by kernel_rfl) (by kernel_rfl) (fun _ _ _ h => h) (Or.inl ⟨by rfl, ?hyt14⟩) hHeld ?restt14
            case hyt14 => (intro wS hSw; (try dsimp only at hSw); obtain ⟨-, hs1, hs2, hs3, hs4, hs5, hs6⟩ := hSw; go_simp; try with_reducible rfl)
            try simp only [Act.put, List.setIfInBounds_toArray, List.set_cons_zero, List.set_cons_succ]
            refine wpAnyH_take (i := 15) (oi := { dst := some 71, op := Op.load 3 (Operand.tmp 70), type := 3, pos := "law.go:154", after := #[{ on := 14, ground := Ground.data }, { on := 13, ground := Ground.guard }], guard := some (13, true) }) (v := ?vt15) rfl (by kernel_rfl) (by kernel_rfl) (by kernel_rfl) (fun _ _ _ h => h) (Or.inl ⟨by rfl, ?hyt15⟩) hHeld ?restt15
            case hyt15 => (intro wS hSw; (try dsimp only at hSw); obtain ⟨-, hs1, hs2, hs3, hs4, hs5, hs6⟩ := hSw; go_simp; try with_reducible rfl)
            try simp only [Act.put, List.setIfInBounds_toArray, List.set_cons_zero, List.set_cons_succ]
            refine wpAnyH_take (i := 16) (oi := { dst := some 72, op := Op.move (Operand.tmp 8), type := 3, pos := "law.go:154", after := #[{ on := 13, ground := Ground.guard }], guard := some (13, true) }) (v := ?vt16) rfl (by kernel_rfl) (by kernel_rfl) (by kernel_rfl) (fun _ _ _ h => h) (Or.inl ⟨by rfl, ?hyt16⟩) hHeld ?restt16
            case hyt16 => (intro wS hSw; (try dsimp only at hSw); obtain ⟨-, hs1, hs2, hs3, hs4, hs5, hs6⟩ := hSw; go_simp; try with_reducible rfl)
            try simp only [Act.put, List.setIfInBounds_toArray, List.set_cons_zero, List.set_cons_succ]
            refine wpAnyH_take (i := 17) (oi := { dst := some 73, op := Op.binOp BinOp.add 3 (Operand.tmp 72) (Operand.const (Value.int IntKind.i64 1)) 3, type := 3, pos := "law.go:154", after := #[{ on := 16, ground := Ground.data }, { on := 13, ground := Ground.guard }], guard := some (13, true) }) (v := ?vt17) rfl (by kernel_rfl) (by kernel_rfl) (by kernel_rfl) (fun _ _ _ h => h) (Or.inl ⟨by rfl, ?hyt17⟩) hHeld ?restt17
            case hyt17 => (intro wS hSw; (try dsimp only at hSw); obtain ⟨-, hs1, hs2, hs3, hs4, hs5, hs6⟩ := hSw; go_simp; try with_reducible rfl)
            try simp only [Act.put, List.setIfInBounds_toArray, List.set_cons_zero, List.set_cons_succ]
            refine wpAnyH_take (i := 18) (oi := { dst := some 74, op := Op.binOp BinOp.neq 3 (Operand.tmp 71) (Operand.tmp 73) 3, type := 4, pos := "law.go:154", after := #[{ on := 15, ground := Ground.data }, { on := 17, ground := Ground.data }, { on := 13, ground := Ground.guard }], guard := some (13, true) }) (v := ?vt18) rfl (by kernel_rfl) (by kernel_rfl) (by kernel_rfl) (fun _ _ _ h => h) (Or.inl ⟨by rfl, ?hyt18⟩) hHeld ?restt18
            case hyt18 => (intro wS hSw; (try dsimp only at hSw); obtain ⟨-, hs1, hs2, hs3, hs4, hs5, hs6⟩ := hSw; go_simp; try with_reducible rfl)
            try simp only [Act.put, List.setIfInBounds_toArray, List.set_cons_zero, List.set_cons_succ]
            refine wpAnyH_take (i := 19) (oi := { dst := some 75, op := Op.pick (Operand.tmp 69) (Operand.tmp 74) (Operand.const (Value.bool false)), type := 4, pos := "law.go:154", after := #[{ on := 13, ground := Ground.data }, { on := 18, ground := Ground.data }, { on := 10, ground := Ground.guard }], guard := some (10, false) }) (v := ?vt19) rfl (by kernel_rfl) (by kernel_rfl) (by kernel_rfl) (fun _ _ _ h => h) (Or.inl ⟨by rfl, ?hyt19⟩) hHeld ?restt19
            case hyt19 => (intro wS hSw; (try dsimp only at hSw); obtain ⟨-, hs1, hs2, hs3, hs4, hs5, hs6⟩ := hSw; go_simp; try with_reducible rfl)
            try simp only [Act.put, List.setIfInBounds_toArray, List.set_cons_zero, List.set_cons_succ]
            refine wpAnyH_take (i := 20) (oi := { dst := some 76, op := Op.pick (Operand.tmp 66) (Operand.const (Value.bool true)) (Operand.tmp 75), type := 4, pos := "law.go:154", after := #[{ on := 10, ground := Ground.data }, { on := 19, ground := Ground.data }], guard := none }) (v := ?vt20) rfl (by kernel_rfl) (by kernel_rfl) (by kernel_rfl) (fun _ _ _ h => h) (Or.inl ⟨by rfl, ?hyt20⟩) hHeld ?restt20
            case hyt20 => (intro wS hSw; (try dsimp only at hSw); obtain ⟨-, hs1, hs2, hs3, hs4, hs5, hs6⟩ := hSw; go_simp; try with_reducible rfl)
            try simp only [Act.put, List.setIfInBounds_toArray, List.set_cons_zero, List.set_cons_succ]
            refine wpAnyH_take (i := 21) (oi := { dst := some 77, op := Op.move (Operand.tmp 76), type := 4, pos := "law.go:154", after := #[{ on := 20, ground := Ground.data }, { on := 13, ground := Ground.chain }], guard := none }) (v := ?vt21) rfl (by kernel_rfl) (by kernel_rfl) (by kernel_rfl) (fun _ _ _ h => h) (Or.inl ⟨by rfl, ?hyt21⟩) hHeld ?restt21
            case hyt21 => (intro wS hSw; (try dsimp only at hSw); obtain ⟨-, hs1, hs2, hs3, hs4, hs5, hs6⟩ := hSw; go_simp; try with_reducible rfl)
            try simp only [Act.put, List.setIfInBounds_toArray, List.set_cons_zero, List.set_cons_succ]
            refine wpAnyH_take (i := 22) (oi := { dst := some 78, op := Op.fieldAddr 39 (Operand.tmp 11) 2, type := 0, pos := "law.go:154", after := #[{ on := 21, ground := Ground.guard }], guard := some (21, false) }) (v := ?vt22) rfl (by kernel_rfl) (by kernel_rfl) (by kernel_rfl) (fun _ _ _ h => h) (Or.inl ⟨by rfl, ?hyt22⟩) hHeld ?restt22
            case hyt22 => (intro wS hSw; (try dsimp only at hSw); obtain ⟨-, hs1, hs2, hs3, hs4, hs5, hs6⟩ := hSw; go_simp; try with_reducible rfl)
            try simp only [Act.put, List.setIfInBounds_toArray, List.set_cons_zero, List.set_cons_succ]
            refine wpAnyH_take (i := 23) (oi := { dst := some 79, op := Op.load 4 (Operand.tmp 78), type := 4, pos := "law.go:154", after := #[{ on := 22, ground := Ground.data }, { on := 21, ground := Ground.guard }], guard := some (21, false) }) (v := ?vt23) rfl (by kernel_rfl) (by kernel_rfl) (by kernel_rfl) (fun _ _ _ h => h) (Or.inl ⟨by rfl, ?hyt23⟩) hHeld ?restt23
            case hyt23 => (intro wS hSw; (try dsimp only at hSw); obtain ⟨-, hs1, hs2, hs3, hs4, hs5, hs6⟩ := hSw; go_simp; try with_reducible rfl)
            try simp only [Act.put, List.setIfInBounds_toArray, List.set_cons_zero, List.set_cons_succ]
            refine wpAnyH_take (i := 24) (oi := { dst := some 80, op := Op.unOp UnOp.not 4 (Operand.tmp 79), type := 4, pos := "law.go:154", after := #[{ on := 23, ground := Ground.data }, { on := 21, ground := Ground.guard }], guard := some (21, false) }) (v := ?vt24) rfl (by kernel_rfl) (by kernel_rfl) (by kernel_rfl) (fun _ _ _ h => h) (Or.inl ⟨by rfl, ?hyt24⟩) hHeld ?restt24
            case hyt24 => (intro wS hSw; (try dsimp only at hSw); obtain ⟨-, hs1, hs2, hs3, hs4, hs5, hs6⟩ := hSw; go_simp; try with_reducible rfl)
            try simp only [Act.put, List.setIfInBounds_toArray, List.set_cons_zero, List.set_cons_succ]
            refine wpAnyH_take (i := 25) (oi := { dst := some 81, op := Op.move (Operand.tmp 80), type := 4, pos := "law.go:154", after := #[{ on := 24, ground := Ground.data }, { on := 21, ground := Ground.chain }, { on := 21, ground := Ground.guard }], guard := some (21, false) }) (v := ?vt25) rfl (by kernel_rfl) (by kernel_rfl) (by kernel_rfl) (fun _ _ _ h => h) (Or.inl ⟨by rfl, ?hyt25⟩) hHeld ?restt25
            case hyt25 => (intro wS hSw; (try dsimp only at hSw); obtain ⟨-, hs1, hs2, hs3, hs4, hs5, hs6⟩ := hSw; go_simp; try with_reducible rfl)
            try simp only [Act.put, List.setIfInBounds_toArray, List.set_cons_zero, List.set_cons_succ]
            refine wpAnyH_take (i := 26) (oi := { dst := some 82, op := Op.fieldAddr 39 (Operand.tmp 11) 1, type := 0, pos := "law.go:154", after := #[{ on := 25, ground := Ground.guard }], guard := some (25, true) }) (v := undef) rfl (by kernel_rfl) (by kernel_rfl) (by kernel_rfl) (fun _ _ _ h => h) (Or.inr ⟨by rfl, rfl⟩) hHeld ?restt26
            try simp only [Act.put, List.setIfInBounds_toArray, List.set_cons_zero, List.set_cons_succ]
            refine wpAnyH_take (i := 27) (oi := { dst := some 83, op := Op.load 3 (Operand.tmp 82), type := 3, pos := "law.go:154", after := #[{ on := 26, ground := Ground.data }, { on := 25, ground := Ground.guard }], guard := some (25, true) }) (v := undef) rfl (by kernel_rfl) (by kernel_rfl) (by kernel_rfl) (fun _ _ _ h => h) (Or.inr ⟨by rfl, rfl⟩) hHeld ?restt27
            try simp only [Act.put, List.setIfInBounds_toArray, List.set_cons_zero, List.set_cons_succ]
            refine wpAnyH_take (i := 28) (oi := { dst := some 84, op := Op.binOp BinOp.neq 3 (Operand.tmp 83) (Operand.const (Value.int IntKind.i64 0)) 3, type := 4, pos := "law.go:154", after := #[{ on := 27, ground := Ground.data }, { on := 25, ground := Ground.guard }], guard := some (25, true) }) (v := undef) rfl (by kernel_rfl) (by kernel_rfl) (by kernel_rfl) (fun _ _ _ h => h) (Or.inr ⟨by rfl, rfl⟩) hHeld ?restt28
            try simp only [Act.put, List.setIfInBounds_toArray, List.set_cons_zero, List.set_cons_succ]
            refine wpAnyH_take (i := 29) (oi := { dst := some 85, op := Op.pick (Operand.tmp 81) (Operand.tmp 84) (Operand.const (Value.bool false)), type := 4, pos := "law.go:154", after := #[{ on := 25, ground := Ground.data }, { on := 28, ground := Ground.data }, { on := 21, ground := Ground.guard }], guard := some (21, false) }) (v := ?vt29) rfl (by kernel_rfl) (by kernel_rfl) (by kernel_rfl) (fun _ _ _ h => h) (Or.inl ⟨by rfl, ?hyt29⟩) hHeld ?restt29
            case hyt29 => (intro wS hSw; (try dsimp only at hSw); obtain ⟨-, hs1, hs2, hs3, hs4, hs5, hs6⟩ := hSw; go_simp; try with_reducible rfl)
            try simp only [Act.put, List.setIfInBounds_toArray, List.set_cons_zero, List.set_cons_succ]
            refine wpAnyH_take (i := 30) (oi := { dst := some 86, op := Op.pick (Operand.tmp 77) (Operand.const (Value.bool true)) (Operand.tmp 85), type := 4, pos := "law.go:154", after := #[{ on := 21, ground := Ground.data }, { on := 29, ground := Ground.data }], guard := none }) (v := ?vt30) rfl (by kernel_rfl) (by kernel_rfl) (by kernel_rfl) (fun _ _ _ h => h) (Or.inl ⟨by rfl, ?hyt30⟩) hHeld ?restt30
            case hyt30 => (intro wS hSw; (try dsimp only at hSw); obtain ⟨-, hs1, hs2, hs3, hs4, hs5, hs6⟩ := hSw; go_simp; try with_reducible rfl)
            try simp only [Act.put, List.setIfInBounds_toArray, List.set_cons_zero, List.set_cons_succ]
            refine wpAnyH_take (i := 31) (oi := { dst := some 87, op := Op.move (Operand.tmp 86), type := 4, pos := "law.go:154", after := #[{ on := 30, ground := Ground.data }, { on := 25, ground := Ground.chain }], guard := none }) (v := ?vt31) rfl (by kernel_rfl) (by kernel_rfl) (by kernel_rfl) (fun _ _ _ h => h) (Or.inl ⟨by rfl, ?hyt31⟩) hHeld ?restt31
            case hyt31 => (intro wS hSw; (try dsimp only at hSw); obtain ⟨-, hs1, hs2, hs3, hs4, hs5, hs6⟩ := hSw; go_simp; try with_reducible rfl)
            try simp only [Act.put, List.setIfInBounds_toArray, List.set_cons_zero, List.set_cons_succ]
            refine wpAnyH_take (i := 32) (oi := { dst := some 88, op := Op.move (Operand.tmp 5), type := 23, pos := "law.go:154", after := #[{ on := 31, ground := Ground.guard }], guard := some (31, false) }) (v := ?vt32) rfl (by kernel_rfl) (by kernel_rfl) (by kernel_rfl) (fun _ _ _ h => h) (Or.inl ⟨by rfl, ?hyt32⟩) hHeld ?restt32
            case hyt32 => (intro wS hSw; (try dsimp only at hSw); obtain ⟨-, hs1, hs2, hs3, hs4, hs5, hs6⟩ := hSw; go_simp; try with_reducible rfl)
            try simp only [Act.put, List.setIfInBounds_toArray, List.set_cons_zero, List.set_cons_succ]
            refine wpAnyH_take (i := 33) (oi := { dst := some 89, op := Op.fieldAddr 39 (Operand.tmp 11) 0, type := 0, pos := "law.go:154", after := #[{ on := 31, ground := Ground.guard }], guard := some (31, false) }) (v := ?vt33) rfl (by kernel_rfl) (by kernel_rfl) (by kernel_rfl) (fun _ _ _ h => h) (Or.inl ⟨by rfl, ?hyt33⟩) hHeld ?restt33
            case hyt33 => (intro wS hSw; (try dsimp only at hSw); obtain ⟨-, hs1, hs2, hs3, hs4, hs5, hs6⟩ := hSw; go_simp; try with_reducible rfl)
            try simp only [Act.put, List.setIfInBounds_toArray, List.set_cons_zero, List.set_cons_succ]
            refine wpAnyH_take (i := 34) (oi := { dst := some 90, op := Op.load 3 (Operand.tmp 89), type := 3, pos := "law.go:154", after := #[{ on := 33, ground := Ground.data }, { on := 31, ground := Ground.guard }], guard := some (31, false) }) (v := ?vt34) rfl (by kernel_rfl) (by kernel_rfl) (by kernel_rfl) (fun _ _ _ h => h) (Or.inl ⟨by rfl, ?hyt34⟩) hHeld ?restt34
            case hyt34 => (intro wS hSw; (try dsimp only at hSw); obtain ⟨-, hs1, hs2, hs3, hs4, hs5, hs6⟩ := hSw; go_simp; try with_reducible rfl)
            try simp only [Act.put, List.setIfInBounds_toArray, List.set_cons_zero, List.set_cons_succ]
            refine wpAnyH_take (i := 36) (oi := { dst := some 92, op := Op.fieldAddr 34 (Operand.tmp 10) 2, type := 0, pos := "law.go:154", after := #[{ on := 31, ground := Ground.guard }], guard := some (31, false) }) (v := ?vt36) rfl (by kernel_rfl) (by kernel_rfl) (by kernel_rfl) (fun _ _ _ h => h) (Or.inl ⟨by rfl, ?hyt36⟩) hHeld ?restt36
            case hyt36 => (intro wS hSw; (try dsimp only at hSw); obtain ⟨-, hs1, hs2, hs3, hs4, hs5, hs6⟩ := hSw; go_simp; try with_reducible rfl)
            try simp only [Act.put, List.setIfInBounds_toArray, List.set_cons_zero, List.set_cons_succ]
            refine wpAnyH_take (i := 37) (oi := { dst := some 93, op := Op.load 9 (Operand.tmp 92), type := 9, pos := "law.go:154", after := #[{ on := 36, ground := Ground.data }, { on := 31, ground := Ground.guard }], guard := some (31, false) }) (v := ?vt37) rfl (by kernel_rfl) (by kernel_rfl) (by kernel_rfl) (fun _ _ _ h => h) (Or.inl ⟨by rfl, ?hyt37⟩) hHeld ?restt37
            case hyt37 => (intro wS hSw; (try dsimp only at hSw); obtain ⟨-, hs1, hs2, hs3, hs4, hs5, hs6⟩ := hSw; go_simp; try with_reducible rfl)
            try simp only [Act.put, List.setIfInBounds_toArray, List.set_cons_zero, List.set_cons_succ]
            refine wpAnyH_ready (rs := [35]) (by kernel_rfl) (by simp) ?_
            refine AllReadyH.cons (o := { dst := some 91, op := Op.call { callee := Callee.value (Operand.func 20), args := #[Operand.tmp 88, Operand.tmp 90], argTypes := #[23, 3] }, type := 9, pos := "law.go:154", after := #[{ on := 32, ground := Ground.data }, { on := 34, ground := Ground.data }, { on := 31, ground := Ground.chain }, { on := 31, ground := Ground.guard }], guard := some (31, false) }) rfl (fun K hK => ?_) AllReadyH.nil
            go_simp
            go_at_call 20
            refine (aimH (TK.drewH HC)).mono ?_
            rintro e w7 ⟨rfl, HC7⟩
            have S7 := SK.out _ HC7
            refine hK.out _ _ S7 (fun hHeld => ?_)
            clear hK K
            try simp only [Act.put, List.setIfInBounds_toArray, List.set_cons_zero, List.set_cons_succ]
            refine wpAnyH_take (i := 38) (oi := { dst := some 94, op := Op.binOp BinOp.neq 9 (Operand.tmp 91) (Operand.tmp 93) 9, type := 4, pos := "law.go:154", after := #[{ on := 35, ground := Ground.data }, { on := 37, ground := Ground.data }, { on := 31, ground := Ground.guard }], guard := some (31, false) }) (v := ?vt38) rfl (by kernel_rfl) (by kernel_rfl) (by kernel_rfl) (fun _ _ _ h => h) (Or.inl ⟨by rfl, ?hyt38⟩) hHeld ?restt38
            case hyt38 => (intro wS hSw; (try dsimp only at hSw); obtain ⟨-, hs1, hs2, hs3, hs4, hs5, hs6⟩ := hSw; go_simp; try with_reducible rfl)
            try simp only [Act.put, List.setIfInBounds_toArray, List.set_cons_zero, List.set_cons_succ]
            refine wpAnyH_take (i := 39) (oi := { dst := some 95, op := Op.pick (Operand.tmp 87) (Operand.const (Value.bool true)) (Operand.tmp 94), type := 4, pos := "law.go:154", after := #[{ on := 31, ground := Ground.data }, { on := 38, ground := Ground.data }], guard := none }) (v := ?vt39) rfl (by kernel_rfl) (by kernel_rfl) (by kernel_rfl) (fun _ _ _ h => h) (Or.inl ⟨by rfl, ?hyt39⟩) hHeld ?restt39
            case hyt39 => (intro wS hSw; (try dsimp only at hSw); obtain ⟨-, hs1, hs2, hs3, hs4, hs5, hs6⟩ := hSw; go_simp; try with_reducible rfl)
            try simp only [Act.put, List.setIfInBounds_toArray, List.set_cons_zero, List.set_cons_succ]
            refine wpAnyH_done (by kernel_rfl) ?_ _
            obtain ⟨-, s1, s2, s3, s4, s5, s6⟩ := S7
            obtain ⟨w8, r8, HB0⟩ := HC7.out.put
            have HB := hidE HB0
            clear HB0 HC7 HC SK hHeld s2 s3 s4 s5 s6
            go_wp2_with (at_mapUpdate; refine wpList_mapUpdate_run _ rfl _ _ _ 75 rfl _ _ _ w8 rfl rfl rfl r8 ?_)
            obtain ⟨N, K, c1, c2, c3, c4⟩ := HB.out.tail
            have L1 := hidE c1
            have z1 : decide (b < (N : Int)) = false := decide_eq_false (by omega)
            have z2 : decide (N < K) = false := decide_eq_false (by omega)
            have z3 : decide ((N : Int) < (K : Int)) = false := decide_eq_false (by omega)
            clear c1 c3 c4
            go_wp2_with fail
            refine L1.out.mono ?_
            rintro e w9 ⟨rfl, rfl⟩
            go_wp2_with fail
            refine L1.out.mono ?_
            rintro e w9 ⟨rfl, rfl⟩
            clear L1
            go_wp2
            go_roundw
            case rel => exact ⟨i + 1, H, by omega, by go_num, rfl, HB.out.less (fun p hp => by cases hp)⟩
            case measure => simp [intOf]; omega
        by_cases e2 : k = 2
        · subst e2
          have HJ := hidE (HP1.out.joined (by omega) h hh)
          go_wp2_with fail
          refine HJ.out.mono ?_
          rintro e w5 ⟨⟨r, rfl⟩, HB0⟩
          have HB := hidE HB0
          clear HJ HB0
          obtain ⟨N, K, c1, c2, c3, c4⟩ := HB.out.tail
          have L1 := hidE c1
          have z1 : decide (b < (N : Int)) = false := decide_eq_false (by omega)
          have z2 : decide (N < K) = false := decide_eq_false (by omega)
          have z3 : decide ((N : Int) < (K : Int)) = false := decide_eq_false (by omega)
          clear c1 c3 c4
          go_wp2_with fail
          refine L1.out.mono ?_
          rintro e w9 ⟨rfl, rfl⟩
          go_wp2_with fail
          refine L1.out.mono ?_
          rintro e w9 ⟨rfl, rfl⟩
          clear L1
          go_wp2
          go_roundw
          case rel => exact ⟨i + 1, last, by omega, by go_num, rfl, HB.out.less (fun p hp => by cases hp)⟩
          case measure => simp [intOf]; omega
        by_cases e3 : k = 3
        · subst e3
          have HJ := hidE (HP1.out.rest (by omega) h hh)
          go_wp2_with fail
          refine HJ.out.mono ?_
          rintro e w5 ⟨r, rfl, HB0⟩
          clear HJ
          cases r with
          | false =>
            rw [if_neg (by decide)] at HB0
            have HB := hidE HB0
            clear HB0
            obtain ⟨N, K, c1, c2, c3, c4⟩ := HB.out.tail
            have L1 := hidE c1
            have z1 : decide (b < (N : Int)) = false := decide_eq_false (by omega)
            have z2 : decide (N < K) = false := decide_eq_false (by omega)
            have z3 : decide ((N : Int) < (K : Int)) = false := decide_eq_false (by omega)
            clear c1 c3 c4
            go_wp2_with fail
            refine L1.out.mono ?_
            rintro e w9 ⟨rfl, rfl⟩
            go_wp2_with fail
            refine L1.out.mono ?_
            rintro e w9 ⟨rfl, rfl⟩
            clear L1
            go_wp2
            go_roundw
            case rel => exact ⟨i + 1, last, by omega, by go_num, rfl, HB.out.less (fun p hp => by cases hp)⟩
            case measure => simp [intOf]; omega
          | true =>
            rw [if_pos rfl] at HB0
            obtain ⟨lk, f5, w6, r6, HB1⟩ := HB0
            have v1 : w5.cell? ⟨wr.heap.size, 1, none⟩ = some (.int .i64 h) := tblk_cell (f5 _ (List.mem_cons_self ..)) rfl
            have HB := hidE HB1
            clear HB1 f5
            go_wp2_with (at_delete; refine wpList_delete_run _ rfl _ _ 75 3 rfl _ _ w6 rfl rfl (r6 _) ?_)
            obtain ⟨N, K, c1, c2, c3, c4⟩ := HB.out.tail
            have L1 := hidE c1
            have z1 : decide (b < (N : Int)) = false := decide_eq_false (by omega)
            have z2 : decide (N < K) = false := decide_eq_false (by omega)
            have z3 : decide ((N : Int) < (K : Int)) = false := decide_eq_false (by omega)
            clear c1 c3 c4
            go_wp2_with fail
            refine L1.out.mono ?_
            rintro e w9 ⟨rfl, rfl⟩
            go_wp2_with fail
            refine L1.out.mono ?_
            rintro e w9 ⟨rfl, rfl⟩
            clear L1
            go_wp2
            go_roundw
            case rel => exact ⟨i + 1, last, by omega, by go_num, rfl, HB.out.less (fun p hp => by cases hp)⟩
            case measure => simp [intOf]; omega
        by_cases e4 : k = 4
        · subst e4
          have HJ := hidE (HP1.out.shut (by omega) h hh)
          go_wp2_with fail
          refine HJ.out.mono ?_
          rintro e w5 ⟨⟨r, rfl⟩, f5, w6, r6, HB0⟩
          have v1 : w5.cell? ⟨wr.heap.size, 1, none⟩ = some (.int .i64 h) := tblk_cell (f5 _ (List.mem_cons_self ..)) rfl
          have HB := hidE HB0
          clear HJ HB0 f5
          go_wp2_with (at_delete; refine wpList_delete_run _ rfl _ _ 75 3 rfl _ _ w6 rfl rfl (r6 _) ?_)
          obtain ⟨N, K, c1, c2, c3, c4⟩ := HB.out.tail
          have L1 := hidE c1
          have z1 : decide (b < (N : Int)) = false := decide_eq_false (by omega)
          have z2 : decide (N < K) = false := decide_eq_false (by omega)
          have z3 : decide ((N : Int) < (K : Int)) = false := decide_eq_false (by omega)
          clear c1 c3 c4
          go_wp2_with fail
          refine L1.out.mono ?_
          rintro e w9 ⟨rfl, rfl⟩
          go_wp2_with fail
          refine L1.out.mono ?_
          rintro e w9 ⟨rfl, rfl⟩
          clear L1
          go_wp2
          go_roundw
          case rel => exact ⟨i + 1, last, by omega, by go_num, rfl, HB.out.less (fun p hp => by cases hp)⟩
          case measure => simp [intOf]; omega
        · have f1 : (k == 1) = false := by simp [e1]
          have f2 : (k == 2) = false := by simp [e2]
          have f3 : (k == 3) = false := by simp [e3]
          have f4 : (k == 4) = false := by simp [e4]
          have HB := hidE (HP1.out.mono (Nat.le_succ i))
          clear HP1 e1 e2 e3 e4
          obtain ⟨N, K, c1, c2, c3, c4⟩ := HB.out.tail
          have L1 := hidE c1
          have z1 : decide (b < (N : Int)) = false := decide_eq_false (by omega)
          have z2 : decide (N < K) = false := decide_eq_false (by omega)
          have z3 : decide ((N : Int) < (K : Int)) = false := decide_eq_false (by omega)
          clear c1 c3 c4
          go_wp2_with fail
          refine L1.out.mono ?_
          rintro e w9 ⟨rfl, rfl⟩
          go_wp2_with fail
          refine L1.out.mono ?_
          rintro e w9 ⟨rfl, rfl⟩
          clear L1
          go_wp2
          go_roundw
          case rel => exact ⟨i + 1, last, by omega, by go_num, rfl, HB.out.less (fun p hp => by cases hp)⟩
          case measure => simp [intOf]; omega
      · have hlt' : ¬ (i : Int) < (len : Int) := by omega
        have HZ := hidE HP.out.be
        clear HP
        go_wp2
        go_ret
        exact ⟨rfl, HZ.out⟩
end Go.Proofs.Ythiidhlmjhjjcaa
