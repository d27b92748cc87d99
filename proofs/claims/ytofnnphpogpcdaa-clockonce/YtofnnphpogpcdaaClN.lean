/- Clock's Pass, walked. -/
import Derived.Test.YtofnnphpogpcdaaClM
import Derived.Deep.LoopGhost
namespace Go.Proofs.Ytofnnphpogpcdaa
open Go.RowKit
set_option linter.unusedVariables false

theorem step_del {ops : Array Oper} {o : Oper} {a : Act} {K : Act → World → Prop} {Q : Exit → Act → World → Prop} {E : Prop} {w : World} (hgd : o.guard = none) (m x : Operand) (t k : TypeId)
    (ho : o.op = .call { callee := .builtin .delete, args := #[m, x], argTypes := #[t, k] }) (mv key : Value) (w' : World) (hm : a.eval m = mv) (hx : a.eval x = key) (hrun : ∀ ty, (Builtin.delete_ #[t, k] ty #[mv, key]).run Try.prog w = .ok (.tuple #[]) w') (h : K (a.put o.dst (.tuple #[])) w') :
    if Region.wanted o (yielded ops a.tmps) = true then Oper.wp Try.prog o a w K Q else E := by
  have hw : Region.wanted o (yielded ops a.tmps) = true := by simp [Region.wanted, hgd]
  rw [if_pos hw]
  unfold Oper.wp
  simp [execOp, ho, resolve, invoke, builtin, hm, hx, hrun, Result.andThen]
  exact h
theorem CK.setNow {S : Nat → Prop} {cb mk n : Nat} {now now' : Int} {L : List Pr} {W : World} (h : CK S cb mk n now L W) (h0 : 0 ≤ now') (h1 : now' ≤ 1099511627776) : CK S cb mk n now' L (W.setCell ⟨cb, 0, none⟩ (.int .i64 now')) := by
  obtain ⟨⟨v, E, q, Q, hp, M, rm, rl, hS⟩, hm, n0, n1, ln, lt⟩ := h
  refine ⟨⟨v, E, q, ⟨blk_set Q.bk, Q.rq.move fun g hg => blk_oth (fun e => ?_), fun j hj => (blk_oth (Q.ncb j hj)).trans (Q.mo j hj), Q.nd⟩, hp, M.move (blk_oth (fun e => Q.nmk M (.inl rfl) e.symm)), rm, rl, hS⟩, hm, h0, h1, ln, fun k hk => by simp only [World.setCell, Array.size_modify]; exact lt k hk⟩
  obtain ⟨cur, hc⟩ := Q.rq.blk hg
  exact absurd (not_pm hc (e ▸ Q.bk)) (by decide)
theorem CK.c0 {S : Nat → Prop} {cb mk n : Nat} {now : Int} {L : List Pr} {W : World} (h : CK S cb mk n now L W) : W.cell? ⟨cb, 0, none⟩ = some (.int .i64 now) ∧ W.cell? ⟨cb, 1, none⟩ = some (.map (some mk)) ∧ W.frozen? ⟨cb, 0, none⟩ = false ∧ S cb := by
  obtain ⟨v, E, q, Q, _, _, _, _, hS⟩ := h.x
  exact ⟨Q.c0, Q.c1, Q.z 0, hS cb (.inl rfl)⟩
theorem CK.drewN {S : Nat → Prop} {cb mk n : Nat} {now : Int} {L : List Pr} {W : World} (h : CK S cb mk n now L W) (k : Nat) : CK S cb mk n now L (W.drewN k) := h.keep (Nat.le_refl _) fun _ _ _ => rfl
theorem CT.bel {S S' : Nat → Prop} {u v w : World} (h : CT S S' u v) (k : Below u.heap.size v w) : CT S S' u w :=
  ⟨⟨k.os.trans h.c.os, k.tape.trans h.c.tape, k.output.trans h.c.output, Nat.le_trans h.c.size k.size, fun i hi a => (k.block i hi).trans (h.c.block i hi a)⟩, h.s⟩
theorem CT.own {S S' : Nat → Prop} {u v : World} (h : CX S u v) (e : S' = S) : CT S S' u v := ⟨h, fun k hk => .inl (e ▸ hk)⟩
/-- What has happened so far, and what is left. -/
structure PS (S : Nat → Prop) (cb mk n : Nat) (now' : Int) (L : List Pr) (W : World) (v : Value) (R : List Int) (Lk : List Pr) (Sk : Nat → Prop) (wr : World) : Prop where
  o : OwR 3 1 encI W.heap.size wr v R
  d : ∀ g, v.ownBlock = some g → ¬ Sk g
  c : CK Sk cb mk n now' Lk wr
  t : CT S Sk W wr
  i : passI now' L = R ++ passI now' Lk
  r : passR now' L = passR now' Lk
theorem PS.len {S Sk : Nat → Prop} {cb mk n : Nat} {now' : Int} {L Lk : List Pr} {W wr : World} {v : Value} {R : List Int} (h : PS S cb mk n now' L W v R Lk Sk wr) (hl : L.length ≤ 800000) : R.length ≤ 800000 := by
  have := congrArg List.length h.i
  rw [List.length_append] at this
  have l2 : (passI now' L).length ≤ L.length := by unfold passI; rw [List.length_map]; exact List.length_filter_le _ _
  omega
theorem PS.drewN {S Sk : Nat → Prop} {cb mk n : Nat} {now' : Int} {L Lk : List Pr} {W wr : World} {v : Value} {R : List Int} (h : PS S cb mk n now' L W v R Lk Sk wr) (k : Nat) : PS S cb mk n now' L W v R Lk Sk (wr.drewN k) :=
  ⟨h.o.move fun _ _ _ _ _ => rfl, h.d, h.c.drewN k, h.t.bel ⟨rfl, rfl, rfl, Nat.le_refl _, fun _ _ => rfl⟩, h.i, h.r⟩
theorem own_lt {T : TypeId} {B : Nat} {w : World} {v : Value} {R : List Int} (h : OwR T 1 encI B w v R) {g : Nat} (hg : v.ownBlock = some g) : B ≤ g ∧ g < w.heap.size := by
  obtain ⟨_, ⟨h2, _⟩ | ⟨g', c, cur, hv, hB, hg', _⟩⟩ := h
  · rw [h2] at hg; cases hg
  · rw [hv] at hg
    obtain rfl : g' = g := by simpa [Value.ownBlock] using hg
    exact ⟨hB, (Array.getElem?_eq_some_iff.1 hg').1⟩
/-- One more has happened. -/
theorem PS.next {S Sk S' : Nat → Prop} {cb mk n : Nat} {now' : Int} {L : List Pr} {p : Pr} {t : List Pr} {W wr w' : World} {v : Value} {R : List Int} (h : PS S cb mk n now' L W v R (p :: t) Sk wr) (hp : p.2 ≤ now') (hl : L.length ≤ 800000) (C : CK S' cb mk n now' t w') (T : CT Sk S' wr w') :
    ∃ v' w9, (Builtin.append_ #[31, 31] 31 #[v, .slice (some ⟨w'.heap.size, 0, none⟩) 1 1]).run Try.prog (w'.alloc (.cells #[.int .i64 p.1] 3)) = .ok v' w9 ∧ PS S cb mk n now' L W v' (R ++ [p.1]) t S' w9 := by
  have hb := h.t.c.size
  have o2 : OwR 3 1 encI W.heap.size w' v R := h.o.move fun g hg _ hlt _ => T.c.block g hlt (h.d g hg)
  have d2 : ∀ g, v.ownBlock = some g → ¬ S' g := fun g hg hs => by
    rcases T.s g hs with e | e
    · exact h.d g hg e
    · have := (own_lt h.o hg).2; omega
  obtain ⟨v', w9, r, O, B, ow, bl⟩ := owr_append EI Try.underlying31 infoI rfl (by decide) o2 (Nat.le_trans hb T.c.size) p.1 (by have := h.len hl; omega)
  have sz := B.size
  refine ⟨v', w9, r, O, fun g hg hs => ?_, C.keep sz fun b hb2 hs => bl b hb2 (fun e => d2 b e hs), (h.t.trans T).bel B, by rw [h.i, passI_cons hp, List.append_assoc]; rfl, by rw [h.r, passR_cons hp]⟩
  rcases ow with e | ⟨g', e, e2⟩
  · rw [e] at hg; exact d2 g hg hs
  · rw [e] at hg; cases hg
    have := C.lt _ hs
    omega
set_option maxRecDepth 100000 in
set_option maxHeartbeats 2000000 in
theorem clpass_any {S : Nat → Prop} {cb mk n : Nat} {now : Int} {L : List Pr} {W : World} (h : CK S cb mk n now L W) (hn : n ≤ 800000) (hir : ∀ p ∈ L, InR p.1) (nn d now' : Int) (hd : min (max nn 0) (1099511627776 - now) = d) (hn' : now + d = now') :
    Calls Try.prog 11 #[.pointer (some ⟨cb, 0, none⟩), .int .i64 nn] W fun e W' => ∃ v, e = .returned v ∧ OwR 3 1 encI W.heap.size W' v (passI now' L) ∧ ∃ S', CK S' cb mk n now' (passR now' L) W' ∧ CT S S' W W' := by
  obtain ⟨c0, c1, z0, scb⟩ := h.c0
  have n0 := h.n0
  have n1 := h.n1
  obtain ⟨m0, hm0⟩ : ∃ m0, max nn 0 = m0 := ⟨_, rfl⟩
  obtain ⟨r, hr⟩ : ∃ r, 1099511627776 - now = r := ⟨_, rfl⟩
  have X0 := max_run nn 0 m0 hm0
  rw [hm0, hr] at hd
  have X1 := min_run m0 r d hd
  have f1 : IntKind.i64.wrap (1099511627776 - now) = r := by rw [IntKind.wrap_i64]; omega
  have f2 : IntKind.i64.wrap (now + d) = now' := by rw [IntKind.wrap_i64]; omega
  have HL : Hid (L.length ≤ 800000) := Nat.le_trans h.ln hn
  have HNN := hidE hn
  have HIR : Hid (∀ q ∈ L, InR q.1) := hir
  have H0 : Hid (∀ k, PS S cb mk n now' L W (.slice none 0 0) [] L S ((W.setCell ⟨cb, 0, none⟩ (.int .i64 now')).drewN k)) := fun k => by
    have X : CX S W (W.setCell ⟨cb, 0, none⟩ (.int .i64 now')) := (CX.refl _ _).set scb _
    exact PS.drewN ⟨OwR.nil _ _ _ _ _, (fun g hg => by cases hg), h.setNow (by omega) (by omega), ⟨X, fun k hk => .inl hk⟩, rfl, rfl⟩ k
  clear h hn hir hm0 hr hd hn' n0 n1 scb
  go_enter Try.func11, Try.ntmps11
  go_wp2_with fail
  go_region
  clear c0 c1 z0 X0 X1 f1 f2
  go_wp2_with fail
  go_loopg [5] L.length (fun k v5 wr => ∃ (R : List Int) (Lk : List Pr) (Sk : Nat → Prop) (a : Option Addr) (c : Nat), Lk.length ≤ k ∧ v5 = .slice a R.length c ∧ Hid (PS S cb mk n now' L W (.slice a R.length c) R Lk Sk wr) ∧ Hid (∀ q ∈ Lk, q ∈ L))
  case atStart => exact ⟨[], L, S, none, 0, Nat.le_refl _, rfl, H0.out 1, fun q hq => hq⟩
  case round =>
    clear H0
    obtain ⟨R, Lk, Sk, a, c, hk, rfl, HS, HM⟩ := hrel
    obtain ⟨c0, c1, z0, scb⟩ := HS.out.c.c0
    clear scb z0
    cases Lk with
    | nil =>
      obtain ⟨a', c', c2⟩ := HS.out.c.zero
      have FIN : Hid (∀ k, OwR 3 1 encI W.heap.size (wr.drewN k) (.slice a R.length c) (passI now' L) ∧ ∃ S', CK S' cb mk n now' (passR now' L) (wr.drewN k) ∧ CT S S' W (wr.drewN k)) := fun k => by
        have P := HS.out.drewN k
        have ei := P.i
        have er := P.r
        rw [show passI now' ([] : List Pr) = [] from rfl, List.append_nil] at ei
        rw [show passR now' ([] : List Pr) = [] from rfl] at er
        rw [ei, er]
        exact ⟨P.o, Sk, P.c, P.t⟩
      clear HS HM hk c1
      go_wp2_with fail
      go_quiet (fail)
      go_wp2
      go_ret
      exact ⟨_, rfl, (FIN.out _).1, (FIN.out _).2⟩
    | cons p t =>
      obtain ⟨g, m, c', b, m0, c2, g0, b1, HC0⟩ := HS.out.c.cons HNN.out (HIR.out p (HM.out p (List.mem_cons_self ..)))
      have HC := hidE HC0
      clear HC0
      have HMT : Hid (∀ q ∈ t, q ∈ L) := fun q hq => HM.out q (List.mem_cons_of_mem _ hq)
      have m1 : (0 : Int) < m := by omega
      have m2 : decide (0 < m) = true := decide_eq_true m0
      have HK : Hid (t.length < gk) := by simp at hk; exact hk
      obtain ⟨id, tm⟩ := p
      by_cases hle : tm ≤ now'
      · have HLE := hidE hle
        have d1 : decide (tm ≤ now') = true := decide_eq_true hle
        clear hle hk HM m0 c1
        go_wp2_with fail
        go_quiet (fail)
        clear c0 c2 g0 b1 m1 m2 d1
        have hta := ta_pm (some ⟨b, 0, none⟩)
        go_wp2_with fail
        refine (HC.out nq).mono ?_
        rintro e w2 ⟨rfl, e1, e2, W', r2, e3, S', C', T', T2⟩
        clear T2
        obtain ⟨v9, w9, r9, P9⟩ := HS.out.next HLE.out HL.out C' T'
        obtain ⟨a9, c9, hv9, _, _⟩ := P9.o.rd EI
        subst hv9
        have e4 := C'.c0.2.1
        have HP9 := hidE P9
        clear HC HS C' T' P9 HLE
        go_wp2_with fail
        go_region_held3 (fun V => V.cell? ⟨cb, 1, none⟩ = some (.map (some mk)) ∧ V.cell? ⟨b, 0, none⟩ = some (.int .i64 id)) (go_keep) (first | (refine step_del rfl _ _ 51 3 rfl _ _ W' rfl rfl r2 ?_))
        clear r2 e1 e2
        generalize R.length = rl at *
        go_wp2_with (at_builtin; refine wpList_append_run2 rfl _ _ 31 31 rfl _ _ _ w9 rfl rfl r9 ?_; clear r9)
        go_roundg t.length
        case measure => exact HK.out
        case rel => exact ⟨R ++ [id], t, S', a9, c9, Nat.le_refl _, by first | rfl | (rw [List.length_append]; rfl), HP9, HMT⟩
      · have FIN : Hid (∀ k, OwR 3 1 encI W.heap.size (wr.drewN k) (.slice a R.length c) (passI now' L) ∧ ∃ S', CK S' cb mk n now' (passR now' L) (wr.drewN k) ∧ CT S S' W (wr.drewN k)) := fun k => by
          have P := HS.out.drewN k
          obtain ⟨v, E, q, Q, hp, M, rm, rl, hS⟩ := P.c.x
          obtain ⟨e1, e2⟩ := pass_stop rl.s hle
          have ei := P.i
          have er := P.r
          rw [e1, List.append_nil] at ei
          rw [e2] at er
          rw [ei, er]
          exact ⟨P.o, Sk, P.c, P.t⟩
        have d1 : decide (tm ≤ now') = false := decide_eq_false hle
        clear HS HM hle hk m0 c1 HC
        go_wp2_with fail
        go_quiet (fail)
        go_wp2
        go_ret
        exact ⟨_, rfl, (FIN.out _).1, (FIN.out _).2⟩
end Go.Proofs.Ytofnnphpogpcdaa
