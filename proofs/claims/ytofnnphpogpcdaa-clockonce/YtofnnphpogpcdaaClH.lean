/- container/heap's Push, Pop, Fix, Remove over clock's queue. -/
import Derived.Test.YtofnnphpogpcdaaClE
import Derived.Test.YtofnnphpogpcdaaClG
namespace Go.Proofs.Ytofnnphpogpcdaa
open Go.RowKit
set_option linter.unusedVariables false

theorem CX.then {S T : Nat → Prop} {u v w : World} (h : CX S u v) (k : CX T v w) (hs : ∀ i, T i → S i ∨ u.heap.size ≤ i) : CX S u w :=
  ⟨k.os.trans h.os, k.tape.trans h.tape, k.output.trans h.output, Nat.le_trans h.size k.size, fun i hi a => (k.block i (Nat.lt_of_lt_of_le hi h.size) (fun t => by
    rcases hs i t with q | q
    · exact a q
    · omega)).trans (h.block i hi a)⟩
/-- The clock's block, the row's, the moments'. -/
def OwnC (cb : Nat) (v : Value) (E : List Mo) (k : Nat) : Prop := k = cb ∨ OwnQ v E k
/-- What the heap's calls leave. -/
structure HQ (w : World) (S : Nat → Prop) (cb mk : Nat) (now : Int) (E : List Mo) (W : World) : Prop where
  x : ∃ v D, CQ W cb mk now v D ∧ D.Perm E ∧ HpOk D.length (atM D) ∧ ∀ k, OwnC cb v D k → S k ∨ w.heap.size ≤ k
  c : CX S w W
theorem own_perm {cb : Nat} {v : Value} {D E : List Mo} (p : D.Perm E) {k : Nat} (h : OwnC cb v D k) : OwnC cb v E k := by
  rcases h with h | h | ⟨x, hx, e⟩
  · exact .inl h
  · exact .inr (.inl h)
  · exact .inr (.inr ⟨x, p.mem_iff.1 hx, e⟩)
theorem split_last {E : List Mo} {n : Nat} (h : E.length = n + 1) : E = E.take n ++ [atM E n] := by
  refine List.ext_getElem? fun k => ?_
  by_cases a : k < n
  · rw [List.getElem?_append_left (by rw [List.length_take]; omega), List.getElem?_take_of_lt a]
  · rw [List.getElem?_append_right (by rw [List.length_take]; omega), List.length_take, show min n E.length = n by omega]
    by_cases b : k = n
    · subst b
      rw [Nat.sub_self, atM_some (by omega)]; rfl
    · rw [List.getElem?_eq_none (by omega), List.getElem?_eq_none (by simp; omega)]
theorem atM_take {E : List Mo} {n k : Nat} (h : k < n) : atM (E.take n) k = atM E k := by
  unfold atM
  simp only [List.getD_eq_getElem?_getD]
  rw [List.getElem?_take_of_lt h]
theorem HpOk.take {E : List Mo} {n : Nat} (h : HpOk n (atM E)) (hl : E.length = n + 1) : HpOk (E.take n).length (atM (E.take n)) := by
  have e : (E.take n).length = n := by rw [List.length_take]; omega
  rw [e]
  intro k a b
  rw [atM_take b, atM_take (by unfold par; omega)]
  exact h k a b
set_option maxRecDepth 100000 in
set_option maxHeartbeats 1000000 in
theorem ckpush_any (cb mk : Nat) (now pl : Int) (v : Value) (E : List Mo) (x : Mo) (w : World) (S : Nat → Prop) (h : CQ w cb mk now v E) (hp : HpOk E.length (atM E)) (hb : w.heap[x.b]? = some (.cells #[.int .i64 x.i, .int .i64 x.t, .int .i64 pl] 58)) (hx : ∀ y ∈ E, y.b ≠ x.b) (hl : E.length ≤ 900000) (hS : ∀ k, OwnC cb v E k → S k) (hSx : S x.b) :
    Calls Try.prog 21 #[.iface 61 (.pointer (some ⟨cb, 2, none⟩)), .iface 59 (.pointer (some ⟨x.b, 0, none⟩))] w fun e w' => e = .returned (.tuple #[]) ∧ HQ w S cb mk now (E ++ [x]) w' := by
  have HP := hidE (cqpush_any cb mk now pl v E x w h hb hx (by omega))
  have hm := fun W => mt_push 192 (some ⟨cb, 2, none⟩) W
  have HU : Hid (UpI (E.length + 1) (atM (E ++ [x])) E.length) := hp.up fun k hk => atM_app_lt E x hk
  have HLL := hidE hl
  have HS : Hid (∀ k, OwnC cb v E k → S k) := hS
  have HX := hidE hSx
  clear h hp hb hx hl hS hSx
  go_enter Try.func21, Try.ntmps21
  go_wp2_with fail
  refine HP.out.mono ?_
  rintro e w1 ⟨rfl, v', Q, X, O⟩
  have hl := mt_len 192 cb 2 w1 v' Q.c2
  have HL := hidE (cqlen_any v' (E ++ [x]) w1 Q.rq)
  have el : (E ++ [x]).length = E.length + 1 := by rw [List.length_append]; rfl
  have HUP := hidE (ckup_any cb mk now v' (E ++ [x]) (E.length + 1) E.length (by rw [el]; exact Nat.le_refl _) (Nat.lt_succ_self _) (by rw [el]; have := HLL.out; omega) w1 Q HU.out)
  have f1 : IntKind.i64.wrap (((E.length + 1 : Nat) : Int) - 1) = (E.length : Int) := by rw [IntKind.wrap_i64]; have := HLL.out; omega
  rw [el] at HL
  have HX1 : Hid (CX S w w1) := X.mono fun k hk => by
    rcases hk with e | e | e
    · exact HS.out k (.inl e)
    · rw [e]; exact HX.out
    · exact HS.out k (.inr (.inl e))
  have HO : Hid (∀ k, OwnC cb v' (E ++ [x]) k → S k ∨ w.heap.size ≤ k) := fun k hk => by
    rcases hk with e | e | ⟨y, hy, e⟩
    · exact .inl (HS.out k (.inl e))
    · rcases O with o | ⟨g, o, hg⟩
      · exact .inl (HS.out k (.inr (.inl (o.symm.trans e))))
      · rw [o] at e; cases e; exact .inr hg
    · rcases List.mem_append.1 hy with q | q
      · exact .inl (HS.out k (.inr (.inr ⟨y, q, e⟩)))
      · rw [List.mem_singleton.1 q] at e
        exact .inl (by rw [← e]; exact HX.out)
  have HEL : Hid ((E ++ [x]).length = E.length + 1) := el
  clear Q X O HP hm el
  generalize E.length = n at *
  obtain ⟨m, hm⟩ : ∃ m, m = n + 1 := ⟨_, rfl⟩
  rw [← hm] at HL HUP f1 HEL
  clear hm HLL HU
  go_wp2_with fail
  refine HL.out.mono ?_
  rintro e w2 ⟨rfl, rfl⟩
  clear hl HL
  go_wp2_with fail
  refine HUP.out.mono ?_
  rintro e w3 ⟨rfl, E', K, P⟩
  have FIN : Hid (HQ w S cb mk now (E ++ [x]) w3) := ⟨⟨v', E', K.q, K.p, by rw [K.len, HEL.out]; exact P, fun k hk => HO.out k (own_perm K.p hk)⟩, HX1.out.then K.x fun k hk => HO.out k (.inr hk)⟩
  clear K P HUP f1
  go_wp2
  go_end0
  exact ⟨rfl, FIN.out⟩
theorem bo0 {n : Nat} {E : List Mo} (h : HpOk E.length (atM E)) (hl : E.length = n + 1) : BoI n (atM (swL E 0 n)) 0 := by
  rw [atM_sw _ _ _ (by omega) (by omega)]
  rcases Nat.eq_zero_or_pos n with e | e
  · subst e
    exact ⟨fun k a b => absurd b (by omega), fun k a b => absurd b (by omega)⟩
  · have h' : HpOk n (atM E) := fun k a b => h k a (by omega)
    exact h'.bo (fun k a b => swH_o _ _ _ _ b (by omega)) e
theorem pop_cell {cb mk : Nat} {now : Int} {v : Value} {D : List Mo} {x : Mo} {w3 : World} (Q : CQ w3 cb mk now v (D ++ [x])) : ∀ w4, CX (fun k => k = cb ∨ v.ownBlock = some k) w3 w4 → w4.cell? ⟨x.b, 0, none⟩ = some (.int .i64 x.i) := by
  intro w4 X
  have l : D.length < (D ++ [x]).length := by rw [List.length_append]; exact Nat.lt_succ_self _
  have m := Q.mo D.length l
  have n := Q.ncb D.length l
  rw [atM_app_last] at m n
  have b := X.block x.b (Array.getElem?_eq_some_iff.1 m).1 (fun e => by
    rcases e with e | e
    · exact n e
    · obtain ⟨cur, hc⟩ := Q.rq.blk e
      exact absurd (not_pm hc m) (by decide))
  exact tblk_cell (b.trans m) rfl
set_option maxRecDepth 100000 in
set_option maxHeartbeats 1000000 in
theorem ckpop_any (cb mk : Nat) (now : Int) (v : Value) (E : List Mo) (w : World) (S : Nat → Prop) (h : CQ w cb mk now v E) (hp : HpOk E.length (atM E)) (h0 : 0 < E.length) (hl : E.length ≤ 900000) (hS : ∀ k, OwnC cb v E k → S k) :
    Calls Try.prog 19 #[.iface 61 (.pointer (some ⟨cb, 2, none⟩))] w fun e w' => e = .returned (.iface 59 (.pointer (some ⟨(atM E 0).b, 0, none⟩))) ∧ ∃ D, (D ++ [atM E 0]).Perm E ∧ HQ w S cb mk now D w' ∧ w'.cell? ⟨(atM E 0).b, 0, none⟩ = some (.int .i64 (atM E 0).i) := by
  obtain ⟨n, hn⟩ : ∃ n, E.length = n + 1 := ⟨E.length - 1, by omega⟩
  have H0 := hidE (HK.refl h (n + 1))
  have HB := hidE (bo0 hp hn)
  have HN := hidE hn
  have HS : Hid (∀ k, OwnC cb v E k → S k) := hS
  have hm := fun W => mt_pop 192 (some ⟨cb, 2, none⟩) W
  have hlen := mt_len 192 cb 2 w v h.c2
  have HL := hidE (cqlen_any v E w h.rq)
  have HW := hidE ((HK.refl h (n + 1)).swap 0 n (by omega) (by omega) (by omega))
  have hsw := mt_swap 192 cb 2 w v h.c2
  have HNL : Hid (n ≤ 900000) := (by omega : n ≤ 900000)
  rw [hn] at HL
  obtain ⟨m, hm1⟩ : ∃ m, m = n + 1 := ⟨_, rfl⟩
  have f1 : IntKind.i64.wrap ((m : Int) - 1) = (n : Int) := by rw [IntKind.wrap_i64]; omega
  rw [← hm1] at HL
  clear h hp h0 hl hS hn hm1
  go_enter Try.func19, Try.ntmps19
  go_wp2_with fail
  refine HL.out.mono ?_
  rintro e w1 ⟨rfl, rfl⟩
  clear hlen HL
  go_wp2_with fail
  refine HW.out.mono ?_
  rintro e w2 ⟨rfl, K2⟩
  have HK2 := hidE K2
  have HD := hidE (ckdown_any cb mk now v (swL E 0 n) n 0 (by rw [swL_len, HN.out]; omega) (by omega) (by rw [swL_len, HN.out]; have := HNL.out; omega) w2 K2.q HB.out)
  clear HW hsw K2 f1
  go_wp2_with fail
  refine HD.out.mono ?_
  rintro e w3 ⟨mv, E3, rfl, K3, G1, G2⟩
  have el : E3.length = n + 1 := by rw [K3.len, swL_len, HN.out]
  have ea : atM E3 n = atM E 0 := by
    rw [K3.o n (Nat.le_refl _), atM_sw _ _ _ (by rw [HN.out]; omega) (by rw [HN.out]; omega)]
    unfold swH
    split
    · rename_i e; rw [e]
    · rw [if_pos rfl]
  have hok : HpOk n (atM E3) := by
    cases mv with
    | true => exact G1 rfl
    | false => exact up_zero (G2 rfl)
  have pm : E3.Perm E := K3.p.trans HK2.out.p
  have sp := split_last el
  rw [ea] at sp
  have Q3 := K3.q
  rw [sp] at Q3
  have HP := hidE (cqpop_any cb mk now v (E3.take n) (atM E 0) w3 Q3 (by rw [List.length_take]; have := HNL.out; omega))
  have HQ3 := hidE (pop_cell Q3)
  have X3 : Hid (CX S w w3) := (HK2.out.x.mono fun k hk => HS.out k (.inr hk)).then K3.x fun k hk => .inl (HS.out k (own_perm (cb := cb) HK2.out.p (.inr hk)))
  have FD : Hid (HpOk (E3.take n).length (atM (E3.take n))) := hok.take el
  have FP : Hid ((E3.take n ++ [atM E 0]).Perm E) := by rw [← sp]; exact pm
  clear HD K3 G1 G2 el ea hok pm sp Q3 HK2
  go_wp2_with fail
  refine HP.out.mono ?_
  rintro e w4 ⟨rfl, v', Q4, X4, O4⟩
  have FIN : Hid (HQ w S cb mk now (E3.take n) w4) := ⟨⟨v', E3.take n, Q4, List.Perm.refl _, FD.out, fun k hk => .inl (by
    rcases hk with e | e | ⟨y, hy, e⟩
    · exact HS.out k (.inl e)
    · exact HS.out k (.inr (.inl (O4.symm.trans e)))
    · exact HS.out k (.inr (.inr ⟨y, FP.out.mem_iff.1 (List.mem_append_left _ hy), e⟩)))⟩, X3.out.then X4 fun k hk => .inl (by
    rcases hk with e | e
    · exact HS.out k (.inl e)
    · exact HS.out k (.inr (.inl e)))⟩
  have FC := hidE (HQ3.out w4 X4)
  clear Q4 X4 O4 HP HQ3
  go_wp2
  go_ret
  exact ⟨rfl, _, FP.out, FIN.out, FC.out⟩
/-- What is left when the last is taken off. -/
theorem rem_end {cb mk n : Nat} {now : Int} {v : Value} {E E2 : List Mo} {w W : World} {S : Nat → Prop} {x : Mo} (Q : CQ W cb mk now v E2) (el : E2.length = n + 1) (ea : atM E2 n = x) (hok : HpOk n (atM E2)) (pm : E2.Perm E) (X : CX S w W) (hS : ∀ k, OwnC cb v E k → S k) (hn : n ≤ 900000) :
    Calls Try.prog 46 #[.pointer (some ⟨cb, 2, none⟩)] W fun e w' => e = .returned (.iface 59 (.pointer (some ⟨x.b, 0, none⟩))) ∧ ∃ D, (D ++ [x]).Perm E ∧ HQ w S cb mk now D w' := by
  have sp := split_last el
  rw [ea] at sp
  have Q3 := Q
  rw [sp] at Q3
  have FP : (E2.take n ++ [x]).Perm E := by rw [← sp]; exact pm
  refine (cqpop_any cb mk now v (E2.take n) x W Q3 (by rw [List.length_take]; omega)).mono ?_
  rintro e w4 ⟨rfl, v', Q4, X4, O4⟩
  refine ⟨rfl, _, FP, ⟨v', E2.take n, Q4, List.Perm.refl _, hok.take el, fun k hk => .inl (by
    rcases hk with e | e | ⟨y, hy, e⟩
    · exact hS k (.inl e)
    · exact hS k (.inr (.inl (O4.symm.trans e)))
    · exact hS k (.inr (.inr ⟨y, FP.mem_iff.1 (List.mem_append_left _ hy), e⟩)))⟩, X.then X4 fun k hk => .inl (by
    rcases hk with e | e
    · exact hS k (.inl e)
    · exact hS k (.inr (.inl e)))⟩
set_option maxRecDepth 100000 in
set_option maxHeartbeats 2000000 in
theorem ckremove_any (cb mk : Nat) (now : Int) (v : Value) (E : List Mo) (i : Nat) (w : World) (S : Nat → Prop) (h : CQ w cb mk now v E) (hp : HpOk E.length (atM E)) (hi : i < E.length) (hl : E.length ≤ 900000) (hS : ∀ k, OwnC cb v E k → S k) :
    Calls Try.prog 24 #[.iface 61 (.pointer (some ⟨cb, 2, none⟩)), .int .i64 i] w fun e w' => (∃ r, e = .returned r) ∧ ∃ D, (D ++ [atM E i]).Perm E ∧ HQ w S cb mk now D w' := by
  obtain ⟨n, hn⟩ : ∃ n, E.length = n + 1 := ⟨E.length - 1, by omega⟩
  have HN := hidE hn
  have HP := hidE hp
  have HS : Hid (∀ k, OwnC cb v E k → S k) := hS
  have hm := fun W => mt_pop 192 (some ⟨cb, 2, none⟩) W
  have hlen := mt_len 192 cb 2 w v h.c2
  have HL := hidE (cqlen_any v E w h.rq)
  have HNL : Hid (n ≤ 900000) := (by omega : n ≤ 900000)
  have HI := hidE hi
  have HH := hidE h
  rw [hn] at HL
  obtain ⟨m, hm1⟩ : ∃ m, m = n + 1 := ⟨_, rfl⟩
  have f1 : IntKind.i64.wrap ((m : Int) - 1) = (n : Int) := by rw [IntKind.wrap_i64]; omega
  rw [← hm1] at HL
  by_cases hni : n = i
  · subst hni
    have g1 : ((n : Int) != (n : Int)) = false := by simp
    have HR := hidE (rem_end h hn rfl (fun k a b => hp k a (by omega)) (List.Perm.refl _) (CX.refl S w) hS HNL.out)
    clear h hp hi hl hS hn hm1
    go_enter Try.func24, Try.ntmps24
    go_wp2_with fail
    refine HL.out.mono ?_
    rintro e w1 ⟨rfl, rfl⟩
    clear hlen HL
    go_wp2_with fail
    refine HR.out.mono ?_
    rintro e w4 ⟨rfl, D, P, Q⟩
    have F := hidE P
    have G := hidE Q
    clear P Q HR
    go_wp2
    go_ret
    exact ⟨⟨_, rfl⟩, D, F.out, G.out⟩
  · have g1 : ((n : Int) != (i : Int)) = true := by simp; omega
    have hin : i < n := by omega
    have hsw := mt_swap 192 cb 2 w v h.c2
    have HW := hidE ((HK.refl h (n + 1)).swap i n (by omega) (by omega) (by omega))
    have HB : Hid (BoI n (atM (swL E i n)) i) := by
      rw [Hid, atM_sw _ _ _ (by omega) (by omega)]
      have h' : HpOk n (atM E) := fun k a b => hp k a (by omega)
      exact h'.bo (fun k a b => swH_o _ _ _ _ b (by omega)) hin
    have HIN := hidE hin
    clear h hp hi hl hS hn hm1 hni hin
    go_enter Try.func24, Try.ntmps24
    go_wp2_with fail
    refine HL.out.mono ?_
    rintro e w1 ⟨rfl, rfl⟩
    clear hlen HL
    go_wp2_with fail
    refine HW.out.mono ?_
    rintro e w2 ⟨rfl, K2⟩
    have HK2 := hidE K2
    have HD := hidE (ckdown_any cb mk now v (swL E i n) n i (by rw [swL_len, HN.out]; omega) (by have := HNL.out; have := HIN.out; omega) (by rw [swL_len, HN.out]; have := HNL.out; omega) w2 K2.q HB.out)
    clear HW hsw K2 f1 g1
    go_wp2_with fail
    refine HD.out.mono ?_
    rintro e w3 ⟨mv, E3, rfl, K3, G1, G2⟩
    have ea0 : ∀ k, n ≤ k → atM E3 k = atM (swL E i n) k := K3.o
    have eb : atM (swL E i n) n = atM E i := by
      rw [atM_sw _ _ _ HI.out (by rw [HN.out]; omega)]
      unfold swH
      rw [if_neg (by have := HIN.out; omega), if_pos rfl]
    have el : E3.length = n + 1 := by rw [K3.len, swL_len, HN.out]
    have X3 : CX S w w3 := (HK2.out.x.mono fun k hk => HS.out k (.inr hk)).then K3.x fun k hk => .inl (HS.out k (own_perm (cb := cb) HK2.out.p (.inr hk)))
    have pm : E3.Perm E := K3.p.trans HK2.out.p
    cases mv with
    | true =>
      have HR := hidE (rem_end K3.q el ((ea0 n (Nat.le_refl _)).trans eb) (G1 rfl) pm X3 HS.out HNL.out)
      clear HD K3 G1 G2 el ea0 eb X3 pm HK2
      go_wp2_with fail
      refine HR.out.mono ?_
      rintro e w4 ⟨rfl, D, P, Q⟩
      have F := hidE P
      have G := hidE Q
      clear P Q HR
      go_wp2
      go_ret
      exact ⟨⟨_, rfl⟩, D, F.out, G.out⟩
    | false =>
      have HU := hidE (ckup_any cb mk now v E3 n i (by omega) HIN.out (by have := HNL.out; omega) w3 K3.q (G2 rfl))
      have HE3 : Hid (E3.length = n + 1 ∧ atM E3 n = atM E i ∧ E3.Perm E ∧ CX S w w3) := ⟨el, (ea0 n (Nat.le_refl _)).trans eb, pm, X3⟩
      clear HD K3 G1 G2 el ea0 eb X3 pm HK2
      go_wp2_with fail
      refine HU.out.mono ?_
      rintro e w4 ⟨rfl, E4, K4, P4⟩
      have HR := hidE (rem_end K4.q (by rw [K4.len]; exact HE3.out.1) ((K4.o n (Nat.le_refl _)).trans HE3.out.2.1) P4 (K4.p.trans HE3.out.2.2.1) (HE3.out.2.2.2.then K4.x fun k hk => .inl (HS.out k (own_perm (cb := cb) HE3.out.2.2.1 (.inr hk)))) HS.out HNL.out)
      clear HU K4 P4 HE3
      go_wp2_with fail
      refine HR.out.mono ?_
      rintro e w5 ⟨rfl, D, P, Q⟩
      have F := hidE P
      have G := hidE Q
      clear P Q HR
      go_wp2
      go_ret
      exact ⟨⟨_, rfl⟩, D, F.out, G.out⟩
set_option maxRecDepth 100000 in
set_option maxHeartbeats 1000000 in
theorem ckfix_any (cb mk : Nat) (now : Int) (v : Value) (E : List Mo) (i : Nat) (w : World) (S : Nat → Prop) (h : CQ w cb mk now v E) (hb : BoI E.length (atM E) i) (hi : i < E.length) (hl : E.length ≤ 900000) (hS : ∀ k, OwnC cb v E k → S k) :
    Calls Try.prog 20 #[.iface 61 (.pointer (some ⟨cb, 2, none⟩)), .int .i64 i] w fun e w' => e = .returned (.tuple #[]) ∧ HQ w S cb mk now E w' := by
  have HS : Hid (∀ k, OwnC cb v E k → S k) := hS
  have hlen := mt_len 192 cb 2 w v h.c2
  have HL := hidE (cqlen_any v E w h.rq)
  have HD := hidE (ckdown_any cb mk now v E E.length i (Nat.le_refl _) (by omega) (by omega) w h hb)
  have HI := hidE hi
  have HLL := hidE hl
  have HN : Hid (E.length = E.length) := rfl
  obtain ⟨n, hn⟩ : ∃ n, E.length = n := ⟨_, rfl⟩
  rw [hn] at HL HD HI HLL
  have HNN := hidE hn
  clear h hb hi hl hS hn HN
  go_enter Try.func20, Try.ntmps20
  go_wp2_with fail
  refine HL.out.mono ?_
  rintro e w1 ⟨rfl, rfl⟩
  clear hlen HL
  go_wp2_with fail
  refine HD.out.mono ?_
  rintro e w3 ⟨mv, E3, rfl, K3, G1, G2⟩
  have el : E3.length = n := by rw [K3.len, HNN.out]
  have X3 : Hid (CX S w w3) := K3.x.mono fun k hk => HS.out k (.inr hk)
  cases mv with
  | true =>
    have FIN : Hid (HQ w S cb mk now E w3) := ⟨⟨v, E3, K3.q, K3.p, by rw [el]; exact G1 rfl, fun k hk => .inl (HS.out k (own_perm K3.p hk))⟩, X3.out⟩
    clear K3 G1 G2 el HD
    go_wp2
    go_end0
    exact ⟨rfl, FIN.out⟩
  | false =>
    have HU := hidE (ckup_any cb mk now v E3 n i (by omega) HI.out (by have := HLL.out; omega) w3 K3.q (G2 rfl))
    have HP : Hid (E3.Perm E) := K3.p
    have HE := hidE el
    clear K3 G1 G2 el HD
    go_wp2_with fail
    refine HU.out.mono ?_
    rintro e w4 ⟨rfl, E4, K4, P4⟩
    have FIN : Hid (HQ w S cb mk now E w4) := ⟨⟨v, E4, K4.q, K4.p.trans HP.out, by rw [K4.len, HE.out]; exact P4, fun k hk => .inl (HS.out k (own_perm (K4.p.trans HP.out) hk))⟩, X3.out.then K4.x fun k hk => .inl (HS.out k (own_perm (cb := cb) HP.out (.inr hk)))⟩
    clear K4 P4 HU
    go_wp2
    go_end0
    exact ⟨rfl, FIN.out⟩
end Go.Proofs.Ytofnnphpogpcdaa
