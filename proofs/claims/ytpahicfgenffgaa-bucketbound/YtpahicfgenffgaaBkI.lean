/- BucketBound's walk. -/
import Derived.Test.YtpahicfgenffgaaBkH
namespace Go.Proofs.Ytpahicfgenffgaa
open Go.RowKit
set_option linter.unusedVariables false

theorem wpList_append_run2 {P : Program} {w : World} {ops : Array Oper} {rest : List Oper} {o : Oper} {a : Act} {Q : Exit → Act → World → Prop} (hgd : o.guard = none) (s x : Operand) (t u : TypeId)
    (ho : o.op = .call { callee := .builtin .append, args := #[s, x], argTypes := #[t, u] }) (vs vx v' : Value) (w' : World) (hs : a.eval s = vs) (hx : a.eval x = vx) (hr : (Builtin.append_ #[t, u] o.type #[vs, vx]).run P w = .ok v' w')
    (h : wpList P ops Q rest (a.put o.dst v') w') : wpList P ops Q (o :: rest) a w := by
  refine wpList_plain hgd fun K hK => ?_
  unfold Oper.wp execOp
  simp only [ho, resolve, invoke, builtin, Sem.run_bind, Sem.run_pure, Result.andThen_ok, List.map_toArray, List.map_cons, List.map_nil, hs, hx, hr]
  exact hK _ _ h
/-- The bucket, the two rows, and that nothing old has turned. -/
structure BB (w wr : World) (b gt gk : Nat) (vt vk : Value) (ts ks : List Nat) (r u k : Int) (now : Nat) : Prop where
  isk : IsK wr b r u k now
  ki : KI r u k now
  rt : IRow wr gt vt ts
  rk : IRow wr gk vk ks
  bd : Bd ts ks r u k now
  bel : Below w.heap.size w wr
  hb : w.heap.size ≤ b
  ht : w.heap.size ≤ gt
  hk : w.heap.size ≤ gk
  n1 : gt ≠ gk
  n2 : gt ≠ b
  n3 : gk ≠ b
theorem IRow.form2 {w : World} {g i : Nat} {v : Value} {l : List Nat} (h : IRow w g v l) (hl : l.length = i) : ∃ cap, v = .slice (some ⟨g, 0, none⟩) i cap ∧ i ≤ cap := by
  obtain ⟨cap, e, h1, _⟩ := h.form
  subst hl
  exact ⟨cap, e, h1⟩
theorem BB.keep {w wr : World} {b gt gk : Nat} {vt vk : Value} {ts ks : List Nat} {r u k : Int} {now : Nat} (h : BB w wr b gt gk vt vk ts ks r u k now) (n : Nat) : BB w (wr.drewN n) b gt gk vt vk ts ks r u k now :=
  ⟨h.isk, h.ki, h.rt, h.rk, h.bd, h.bel.trans ⟨rfl, rfl, rfl, Nat.le_refl _, fun _ _ => rfl⟩, h.hb, h.ht, h.hk, h.n1, h.n2, h.n3⟩
/-- A time and a number are put behind the rows. -/
theorem BB.time {w wr : World} {b gt gk : Nat} {vt vk : Value} {ts ks : List Nat} {r u k : Int} {now : Nat} (h : BB w wr b gt gk vt vk ts ks r u k now) (t : Nat) (hl : ts.length + 1 ≤ 100000) :
    ∃ vt' w' gt', (Builtin.append_ #[37, 37] 37 #[vt, .slice (some ⟨wr.heap.size, 0, none⟩) 1 1]).run Try.prog (wr.alloc (.cells #[.int .i64 (t : Int)] 3)) = .ok vt' w' ∧ IRow w' gt' vt' (ts ++ [t]) ∧ IRow w' gk vk ks ∧ IsK w' b r u k now ∧ Below w.heap.size w w' ∧ w.heap.size ≤ gt' ∧ gt' ≠ gk ∧ gt' ≠ b := by
  obtain ⟨v', w', g', hr, hI, hg, hE⟩ := irow_one h.rt t hl
  have h1 := h.rk.lt
  have h2 := h.isk.lt
  have h3 := h.rt.lt
  have h4 := h.bel.size
  have h5 := h.ht
  have h6 := h.n1
  have h7 := h.n2
  exact ⟨v', w', g', hr, hI, h.rk.frame (hE.block gk h1 (fun e => h6 e.symm)), hE.isK (fun e => h7 e.symm) h.isk, h.bel.trans (hE.below h.ht h4), by rcases hg with c | c <;> omega, by rcases hg with c | c <;> omega, by rcases hg with c | c <;> omega⟩

/-- Behind a Take: the bucket, the row of times, and what is to be put behind the other row. -/
structure BBk (w wr : World) (b gt gk : Nat) (vt vk : Value) (ts ks : List Nat) (n : Nat) (r u k : Int) (now : Nat) : Prop where
  rt : IRow wr gt vt ts
  rk : IRow wr gk vk ks
  fin : ∀ v' w' g', IRow w' g' v' (ks ++ [n]) → (g' = gk ∨ wr.heap.size ≤ g') → Ex gk wr w' → BB w w' b gt g' vt v' ts (ks ++ [n]) r u k now
theorem bb_take {w wr w4 : World} {b gt gt' gk : Nat} {vt vt' vk : Value} {ts ks : List Nat} {r u k : Int} {now d n : Nat} (h : BB w wr b gt gk vt vk ts ks r u k now) (hn : n ≤ 1048575) (hd : d ≤ 1023) (hnow : now ≤ 100000)
    (T4 : IRow w4 gt' vt' (ts ++ [now + d])) (K4 : IRow w4 gk vk ks) (I4 : IsK w4 b r u k now) (B4 : Below w.heap.size w w4) (y1 : w.heap.size ≤ gt') (y2 : gt' ≠ gk) (y3 : gt' ≠ b) :
    Calls Try.prog 13 #[.pointer (some ⟨b, 0, none⟩), .int .i64 ((now : Int) + d), .int .i64 (n : Int)] w4 fun e w' => ∃ x k2, e = .returned (.bool x) ∧ BBk w w' b gt' gk vt' vk (ts ++ [now + d]) ks (if x then n else 0) r u k2 (now + d) := by
  have hT : tmx ((now : Int) + d) now = (now : Int) + d := tmx_up (by omega) (by omega)
  have hc : ((now + d : Nat) : Int) = (now : Int) + d := by omega
  refine (take_any b r u k now ((now : Int) + d) n w4 I4 h.ki).mono ?_
  rintro e w' ⟨rfl, q1, q2, q3⟩
  rw [hT] at q1 q2
  refine ⟨_, tkK (now2 r u k now ((now : Int) + d)) n, rfl, T4.frame (q3.block _ y3), K4.frame (q3.block _ h.n3), fun v' w5 g' hI hg hE => ?_⟩
  have hk4 := K4.lt
  have ht4 := T4.lt
  have hi4 := I4.lt
  have hs := q3.size
  have hsz := B4.size
  have hkk := h.hk
  have n3 := h.n3
  have hp : 0 ≤ r * d := Int.mul_nonneg h.ki.r0 (by omega)
  have hf : now2 r u k now ((now : Int) + d) ≤ k + r * d ∧ now2 r u k now ((now : Int) + d) ≤ u ∧ 0 ≤ now2 r u k now ((now : Int) + d) := by
    unfold now2
    rw [hT]
    have e : (now : Int) + d - now = d := by omega
    unfold flK
    rw [e]
    have := h.ki.k0
    have := h.ki.k1
    have := h.ki.u0
    split <;> omega
  generalize now2 r u k now ((now : Int) + d) = k1 at *
  have hbd : Bd (ts ++ [now + d]) (ks ++ [if tkB k1 n then n else 0]) r u (tkK k1 n) (now + d) := by
    by_cases c : (n : Int) ≤ k1
    · have t := tk_yes (k := k1) (n := n) (by omega) c
      rw [t.1, t.2]
      exact h.bd.step d n _ h.ki.r0 (by omega) (by omega) (by omega) hn
    · have t := tk_no (k := k1) (n := n) (.inr (by omega))
      rw [t.1, t.2]
      exact h.bd.step d 0 _ h.ki.r0 (by omega) (by omega) (by omega) (by omega)
  refine ⟨?_, ?_, (T4.frame (q3.block _ y3)).frame (hE.block gt' (by omega) y2), hI, hbd, (B4.trans (q3.below h.hb)).trans (hE.below h.hk (by omega)), h.hb, y1, by rcases hg with c | c <;> omega, ?_, y3, ?_⟩
  · rw [hc]; exact hE.isK (fun e => h.n3 e.symm) q1
  · rw [hc]; exact q2
  · rcases hg with c | c <;> omega
  · rcases hg with c | c <;> omega

set_option maxRecDepth 100000 in
set_option maxHeartbeats 3200000 in
theorem bound_walk (a0 a1 : Int) (ad : Option Addr) (len cap : Nat) (an : Option Addr) (ln cn : Nat) (w : World) (hS : Nums w ad len) (hN : Nums w an ln) :
    Calls Try.prog 4 #[.int .i64 a0, .int .i64 a1, .slice ad len cap, .slice an ln cn] w fun e w' => e = .returned (.bool true) ∧ Below w.heap.size w w' := by
  obtain ⟨hl, hS⟩ := hS
  obtain ⟨hl2, hN⟩ := hN
  unfold maxLen at hl hl2
  obtain ⟨m0, hm0⟩ : ∃ m0, max a0 0 = m0 := ⟨_, rfl⟩
  obtain ⟨r, hr⟩ : ∃ r, min m0 1048576 = r := ⟨_, rfl⟩
  have X0 := max_run a0 0 m0 hm0
  have X1 := min_run m0 1048576 r hr
  have hr0 : bnd a0 = r := by unfold bnd; split <;> (try split) <;> omega
  obtain ⟨m1, hm1⟩ : ∃ m1, max a1 0 = m1 := ⟨_, rfl⟩
  obtain ⟨u, hu⟩ : ∃ u, min m1 1048576 = u := ⟨_, rfl⟩
  have X2 := max_run a1 0 m1 hm1
  have X3 := min_run m1 1048576 u hu
  have hu0 : bnd a1 = u := by unfold bnd; split <;> (try split) <;> omega
  have b1 : 0 ≤ r := by omega
  have b2 : r ≤ 1048576 := by omega
  have b3 : 0 ≤ u := by omega
  have b4 : u ≤ 1048576 := by omega
  have HNEW : Hid (∀ W, Calls Try.prog 7 #[.int .i64 a0, .int .i64 a1] W fun e w' => ∃ b, e = .returned (.pointer (some ⟨b, 0, none⟩)) ∧ W.heap.size = b ∧ IsK w' b r u u 0 ∧ KI r u u 0 ∧ Below W.heap.size W w') := by
    intro W; have := new_k a0 a1 W; rw [hr0, hu0] at this; exact this
  clear hm0 hr hm1 hu hr0 hu0
  go_enter Try.func4, Try.ntmps4
  go_wp2_with fail
  refine (HNEW.out _).mono ?_
  rintro e w1 ⟨b, rfl, hb, K1, I1, B1⟩
  go_wp2_with fail
  refine (alive_any _).mono ?_
  rintro e w2 ⟨rfl, B2⟩
  have K2 := Below.isK B2 K1.lt K1
  have D2 := B1.trans (B2.mono B1.size)
  clear K1 B1 B2
  rcases Nat.lt_or_ge 60 len with hlen | hlen
  · have h60 : (60 : Int) < (len : Int) := by omega
    go_wp2
    go_ret
    exact ⟨rfl, D2⟩
  · have h60 : decide ((60 : Int) < (len : Int)) = false := decide_eq_false (by omega)
    have E1 : Below w2.heap.size w2 (w2.alloc (.cells #[] 3)) := (Below.refl _ _).alloc (Nat.le_refl _) _
    have hs1 : (w2.alloc (.cells #[] 3)).heap.size = w2.heap.size + 1 := by simp
    have E2 : Below (w2.alloc (.cells #[] 3)).heap.size (w2.alloc (.cells #[] 3)) ((w2.alloc (.cells #[] 3)).alloc (.cells #[] 3)) := (Below.refl _ _).alloc (Nat.le_refl _) _
    have R1 := IRow.empty w2
    have R2 := IRow.empty (w2.alloc (.cells #[] 3))
    have R1' := R1.frame (E2.block _ R1.lt)
    rw [hs1] at R2
    have P0 : BB w ((w2.alloc (.cells #[] 3)).alloc (.cells #[] 3)) b w2.heap.size (w2.heap.size + 1) (.slice (some ⟨w2.heap.size, 0, none⟩) 0 0) (.slice (some ⟨w2.heap.size + 1, 0, none⟩) 0 0) [] [] r u u (0 : Nat) :=
      ⟨Below.isK E2 (Below.isK E1 K2.lt K2).lt (Below.isK E1 K2.lt K2), I1, R1', R2, bd_nil _ _ _ _, (D2.trans (E1.mono D2.size)).trans (E2.mono (D2.trans (E1.mono D2.size)).size), Nat.le_of_eq hb, D2.size, Nat.le_trans D2.size (Nat.le_succ _), by omega, by have := K2.lt; omega, by have := K2.lt; omega⟩
    clear E1 E2 R1 R2 R1' K2 I1 D2 hs1
    go_wp2_with fail
    go_loopw [10, 11, 12, 41] (fun vn vt vk vi wr => ∃ (i now gt gk : Nat) (ts ks : List Nat) (k : Int), i ≤ len ∧ vi = .int .i64 i ∧ vn = .int .i64 now ∧ now ≤ i * 1023 ∧ ts.length = i ∧ Hid (BB w wr b gt gk vt vk ts ks r u k now)) (fun _ _ _ vi _ => len - (intOf vi).toNat)
    case atStart => exact ⟨0, 0, _, _, [], [], u, Nat.zero_le _, rfl, rfl, Nat.zero_le _, rfl, P0⟩
    case round =>
      obtain ⟨i, now, gt, gk, ts, ks, k, hi, rfl, rfl, hnow, hts, hP⟩ := hrel
      clear P0 hb h60
      have HTS : Hid (ts.length = i) := hts
      have hks : ks.length = i := hP.out.bd.len.trans hts
      have HL : Hid (ks.length = i) := hks
      obtain ⟨ct, rfl, hct⟩ := hP.out.rt.form2 hts
      obtain ⟨ck, rfl, hck⟩ := hP.out.rk.form2 hks
      clear hks hts
      by_cases hlt : i < len
      · obtain ⟨bs, os, rfl, hbs, hcs⟩ := hS (by omega)
        obtain ⟨z, hz⟩ := hcs i hlt
        have hcz := (hP.out.bel.cell (p := ⟨bs, os + i, none⟩) hbs).trans hz
        clear hz hcs
        obtain ⟨d, hd, hbt0⟩ := and_mask z 1023 (by decide)
        have hbt : bits BinOp.and IntKind.i64 z 1023 = (d : Int) := hbt0
        clear hbt0
        obtain ⟨vt', w4, gt', hr4, T4, K4, I4, B4, y1, y2, y3⟩ := hP.out.time (now + d) (by rw [HTS.out]; omega)
        have hr4' : ∀ x : Int, x = (now : Int) + d → (Builtin.append_ #[37, 37] 37 #[.slice (some ⟨gt, 0, none⟩) i ct, .slice (some ⟨wr.heap.size, 0, none⟩) 1 1]).run Try.prog (wr.alloc (.cells #[.int .i64 x] 3)) = .ok vt' w4 := fun x hx => by
          rw [hx, ← Int.natCast_add]; exact hr4
        have HR4 := hr4' _ rfl
        clear hr4 hr4'
        have hnow' : now ≤ 100000 := by omega
        have HF : Hid (∀ n : Nat, n ≤ 1048575 → Calls Try.prog 13 #[.pointer (some ⟨b, 0, none⟩), .int .i64 ((now : Int) + d), .int .i64 (n : Int)] w4 fun e w' => ∃ x k2, e = .returned (.bool x) ∧ BBk w w' b gt' gk vt' (.slice (some ⟨gk, 0, none⟩) i ck) (ts ++ [now + d]) ks (if x then n else 0) r u k2 (now + d)) :=
          fun n hn => bb_take hP.out hn (by omega) hnow' T4 K4 I4 B4 y1 y2 y3
        clear T4 K4 I4 y1 y2 y3
        have htl : (ts ++ [now + d]).length = i + 1 := by rw [List.length_append, HTS.out]; rfl
        have HTL : Hid ((ts ++ [now + d]).length = i + 1) := htl
        clear htl hct hck
        by_cases hin : i < ln
        · obtain ⟨bn, on_, rfl, hbn, hcn⟩ := hN (by omega)
          obtain ⟨z2, hz2⟩ := hcn i hin
          have hcz2 := fun W (B : Below w.heap.size w W) => (B.cell (p := ⟨bn, on_ + i, none⟩) hbn).trans hz2
          have hcz3 := hcz2 _ hP.out.bel
          clear hz2 hcn hcz2
          obtain ⟨n, hn, hbn0⟩ := and_mask z2 1048575 (by decide)
          have hbtn : bits BinOp.and IntKind.i64 z2 1048575 = (n : Int) := hbn0
          clear hbn0
          go_wp2_with (at_builtin; refine wpList_append_run2 rfl _ _ 37 37 rfl _ _ _ w4 rfl rfl HR4 ?_)
          refine (HF.out n hn).mono ?_
          rintro e w5 ⟨x, k2, rfl, Q5⟩
          have HQ5 : Hid (BBk w w5 b gt' gk vt' (.slice (some ⟨gk, 0, none⟩) i ck) (ts ++ [now + d]) ks (if x then n else 0) r u k2 (now + d)) := Q5
          clear Q5 hP HF HR4 B4
          cases x with
          | true =>
            obtain ⟨vk', w6, gk', hr6, I6, g6, E6⟩ := irow_one HQ5.out.rk n (by rw [HL.out]; omega)
            have F6 := HQ5.out.fin _ _ _ I6 g6 E6
            clear I6 g6 E6
            go_wp2_with (at_builtin; refine wpList_append_run2 rfl _ _ 37 37 rfl _ _ _ w6 rfl rfl hr6 ?_)
            go_wp2
            go_roundw
            case rel => exact ⟨i + 1, now + d, gt', gk', ts ++ [now + d], ks ++ [n], k2, by omega, by go_num, by go_num, by omega, HTL.out, F6⟩
            case measure => simp [intOf]; omega
          | false =>
            obtain ⟨vk', w6, gk', hr6, I6, g6, E6⟩ := irow_one HQ5.out.rk 0 (by rw [HL.out]; omega)
            have F6 := HQ5.out.fin _ _ _ I6 g6 E6
            have hr7 : (Builtin.append_ #[37, 37] 37 #[.slice (some ⟨gk, 0, none⟩) i ck, .slice (some ⟨w5.heap.size, 0, none⟩) 1 1]).run Try.prog (w5.alloc (.cells #[.int .i64 0] 3)) = .ok vk' w6 := hr6
            clear I6 g6 E6 hr6
            go_wp2_with (at_builtin; refine wpList_append_run2 rfl _ _ 37 37 rfl _ _ _ w6 rfl rfl hr7 ?_)
            go_wp2
            go_roundw
            case rel => exact ⟨i + 1, now + d, gt', gk', ts ++ [now + d], ks ++ [0], k2, by omega, by go_num, by go_num, by omega, HTL.out, F6⟩
            case measure => simp [intOf]; omega
        · have hin2 : decide ((i : Int) < (ln : Int)) = false := decide_eq_false (by omega)
          have hin3 : decide (i < ln) = false := decide_eq_false (by omega)
          clear hin
          go_wp2_with (at_builtin; refine wpList_append_run2 rfl _ _ 37 37 rfl _ _ _ w4 rfl rfl HR4 ?_)
          refine (HF.out 1 (by decide)).mono ?_
          rintro e w5 ⟨x, k2, rfl, Q5⟩
          have HQ5 : Hid (BBk w w5 b gt' gk vt' (.slice (some ⟨gk, 0, none⟩) i ck) (ts ++ [now + d]) ks (if x then 1 else 0) r u k2 (now + d)) := Q5
          clear Q5 hP HF HR4 B4
          cases x with
          | true =>
            obtain ⟨vk', w6, gk', hr60, I6, g6, E6⟩ := irow_one HQ5.out.rk 1 (by rw [HL.out]; omega)
            have F6 := HQ5.out.fin _ _ _ I6 g6 E6
            have hr6 : (Builtin.append_ #[37, 37] 37 #[.slice (some ⟨gk, 0, none⟩) i ck, .slice (some ⟨w5.heap.size, 0, none⟩) 1 1]).run Try.prog (w5.alloc (.cells #[.int .i64 1] 3)) = .ok vk' w6 := hr60
            clear I6 g6 E6 hr60
            go_wp2_with (at_builtin; refine wpList_append_run2 rfl _ _ 37 37 rfl _ _ _ w6 rfl rfl hr6 ?_)
            go_wp2
            go_roundw
            case rel => exact ⟨i + 1, now + d, gt', gk', ts ++ [now + d], ks ++ [1], k2, by omega, by go_num, by go_num, by omega, HTL.out, F6⟩
            case measure => simp [intOf]; omega
          | false =>
            obtain ⟨vk', w6, gk', hr6, I6, g6, E6⟩ := irow_one HQ5.out.rk 0 (by rw [HL.out]; omega)
            have F6 := HQ5.out.fin _ _ _ I6 g6 E6
            have hr7 : (Builtin.append_ #[37, 37] 37 #[.slice (some ⟨gk, 0, none⟩) i ck, .slice (some ⟨w5.heap.size, 0, none⟩) 1 1]).run Try.prog (w5.alloc (.cells #[.int .i64 0] 3)) = .ok vk' w6 := hr6
            clear I6 g6 E6 hr6
            go_wp2_with (at_builtin; refine wpList_append_run2 rfl _ _ 37 37 rfl _ _ _ w6 rfl rfl hr7 ?_)
            go_wp2
            go_roundw
            case rel => exact ⟨i + 1, now + d, gt', gk', ts ++ [now + d], ks ++ [0], k2, by omega, by go_num, by go_num, by omega, HTL.out, F6⟩
            case measure => simp [intOf]; omega
      · have hie : i = len := by omega
        subst hie
        have hlt2 : ¬ (i : Int) < (i : Int) := by omega
        have HBD : Hid (Bd ts ks r u k now) := hP.out.bd
        clear hlt
        rename World => wo
        go_wp2_with fail
        go_loopw [77] (fun vj wr => ∃ j : Nat, j ≤ i ∧ vj = .int .i64 j ∧ Hid (BB w wr b gt gk (.slice (some ⟨gt, 0, none⟩) i ct) (.slice (some ⟨gk, 0, none⟩) i ck) ts ks r u k now)) (fun vj _ => i - (intOf vj).toNat)
        case atStart => exact ⟨0, Nat.zero_le _, rfl, hP.out⟩
        case round =>
          obtain ⟨j, hj, rfl, hQ⟩ := hrel
          clear hP
          by_cases hjl : j < i
          · rename World => wp
            go_wp2_with fail
            go_loopw [17, 18] (fun vs vm wr => ∃ m : Nat, j ≤ m ∧ m ≤ i ∧ vm = .int .i64 m ∧ vs = .int .i64 (sm ks j m : Nat) ∧ Hid (BB w wr b gt gk (.slice (some ⟨gt, 0, none⟩) i ct) (.slice (some ⟨gk, 0, none⟩) i ck) ts ks r u k now)) (fun _ vm _ => i - (intOf vm).toNat)
            case atStart => exact ⟨j, Nat.le_refl _, hj, rfl, by rw [sm_self]; rfl, hQ.out⟩
            case round =>
              obtain ⟨m, hm1, hm2, rfl, rfl, hR⟩ := hrel
              by_cases hml : m < i
              · have hmt : m < ts.length := by rw [HTS.out]; exact hml
                have hjt : j < ts.length := by rw [HTS.out]; omega
                have hmk : m < ks.length := by rw [HL.out]; exact hml
                obtain ⟨_, e1, e2, hct2⟩ := hR.out.rt.form
                clear e1 e2
                obtain ⟨_, e1, e2, hck2⟩ := hR.out.rk.form
                clear e1 e2
                have c1 := hct2 m hmt
                have c2 := hct2 j hjt
                have c3 := hck2 m hmk
                have hall := HBD.out.all j m hmt hm1
                have hst := sm_step hm1 hmk
                have hx1 := HBD.out.tms _ (List.getElem_mem hmt)
                have hy1 := HBD.out.tms _ (List.getElem_mem hjt)
                have hz1 := HBD.out.top _ (List.getElem_mem hmk)
                have hS1 := sm_le (i := j) HBD.out.top (Nat.le_of_lt hmk) hm1
                have hS2 : sm ks j m ≤ 62914500 := by have := Nat.mul_le_mul_right 1048575 (show m ≤ 60 by omega); omega
                rw [hst] at hall
                have HST : Hid (sm ks j (m + 1) = sm ks j m + ks[m]) := hst
                clear hst hct2 hck2 hS1
                generalize ts[m] = x at *
                generalize ts[j] = y at *
                generalize ks[m] = c at *
                generalize sm ks j m = S at *
                have p1 := mul_bd b1 b2 (show (0 : Int) ≤ x by omega) (by omega)
                have p2 := mul_bd b1 b2 (show (0 : Int) ≤ y by omega) (by omega)
                have pe : r * ((x : Int) - y) = r * x - r * y := Int.mul_sub _ _ _
                have q1 : -1152921504606846976 ≤ r * ((x : Int) - y) := by omega
                have q2 : r * ((x : Int) - y) ≤ 1152921504606846976 := by omega
                have htest : decide (u + r * ((x : Int) - y) < (S : Int) + c) = false := decide_eq_false (by omega)
                have im : (m : Int) < (i : Int) := by omega
                have ij : (j : Int) < (i : Int) := by omega
                clear pe p1 p2 hall hmt hjt hmk
                go_wp2_with fail
                go_quiet (fail)
                go_wp2
                go_roundw
                case rel => exact ⟨m + 1, by omega, by omega, by go_num, by rw [HST.out]; go_num, hR.out.keep _⟩
                case measure => simp [intOf]; omega
              · have hme : m = i := by omega
                subst hme
                have hml2 : ¬ (m : Int) < (m : Int) := by omega
                clear hml
                go_wp2
                go_roundw
                case rel => exact ⟨j + 1, by omega, by go_num, hR.out⟩
                case measure => simp [intOf]; omega
          · have hje : j = i := by omega
            subst hje
            have hjl2 : ¬ (j : Int) < (j : Int) := by omega
            clear hjl
            go_wp2
            go_ret
            exact ⟨rfl, hQ.out.bel⟩
end Go.Proofs.Ytpahicfgenffgaa
