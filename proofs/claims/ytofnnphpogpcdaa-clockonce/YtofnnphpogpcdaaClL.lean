/- Clock's Drop. -/
import Derived.Test.YtofnnphpogpcdaaClK
namespace Go.Proofs.Ytofnnphpogpcdaa
open Go.RowKit
set_option linter.unusedVariables false

def hasL (id : Int) (L : List Pr) : Bool := L.any fun p => p.1 == id
theorem hasL_iff {id : Int} {L : List Pr} : hasL id L = true ↔ ∃ p ∈ L, p.1 = id := by unfold hasL; simp [List.any_eq_true]
theorem RelM.has {E : List Mo} {q : PF} {L : List Pr} (rm : RelM E q) (rl : RelL E L) (id : Int) : hasL id L = (q id).isSome := by
  cases hq : q id with
  | none =>
    show _ = false
    rw [← Bool.not_eq_true, hasL_iff]
    rintro ⟨p, hp, e⟩
    obtain ⟨x, hx, ex⟩ := rl.mem.1 hp
    have := rm.1 x hx
    rw [show x.i = id by rw [← ex] at e; exact e, hq] at this
    cases this
  | some b =>
    show _ = true
    rw [hasL_iff]
    obtain ⟨x, hx, e1, e2⟩ := rm.2 id b hq
    exact ⟨keyM x, rl.mem.2 ⟨x, hx, rfl⟩, e1⟩
/-- What is left of the map when one is taken out of the queue. -/
theorem RelM.off {E D : List Mo} {q : PF} {L : List Pr} {x : Mo} (rm : RelM E q) (rl : RelL E L) (p : (D ++ [x]).Perm E) : RelM D (updI q x.i none) := by
  obtain ⟨r, _, n⟩ := rl.take p
  refine ⟨fun y hy => ?_, fun s b hb => ?_⟩
  · rw [updI_other]
    · exact rm.1 y (p.mem_iff.1 (List.mem_append_left _ hy))
    · exact n _ (r.mem.2 ⟨y, hy, rfl⟩)
  · by_cases e : s = x.i
    · rw [e, updI_same] at hb; cases hb
    · rw [updI_other _ _ e] at hb
      obtain ⟨y, hy, e1, e2⟩ := rm.2 s b hb
      rcases List.mem_append.1 (p.mem_iff.2 hy) with m | m
      · exact ⟨y, m, e1, e2⟩
      · rw [List.mem_singleton.1 m] at e1
        exact absurd e1.symm e
set_option maxRecDepth 100000 in
set_option maxHeartbeats 1000000 in
theorem cldrop_yes {cb mk n : Nat} {now : Int} {v : Value} {E : List Mo} {q : PF} {W : World} (Q : CQ W cb mk now v E) (hp : HpOk E.length (atM E)) (M : PM W mk n q) (hl : E.length ≤ 800000) (i : Nat) (hi : i < E.length) (hid : InR (atM E i).i) (hq : q (atM E i).i = some (atM E i).b) :
    Calls Try.prog 15 #[.pointer (some ⟨cb, 0, none⟩), .int .i64 (atM E i).i] W fun e W' => e = .returned (.bool true) ∧ ∃ D w1 w2, (D ++ [atM E i]).Perm E ∧ HQ w1 (OwnC cb v E) cb mk now D w2 ∧ W.heap.size ≤ w1.heap.size ∧ CX (OwnC cb v E) W w2 ∧ PM W' mk n (updI q (atM E i).i none) ∧ w2.grownBy W' (some mk) := by
  have c1 := Q.c1
  have hlk := M.look hid
  rw [hq] at hlk
  replace hlk : (Instr.lookup 51 (.map (some mk)) (.int .i64 (atM E i).i) true).run Try.prog W = .ok (.tuple #[.pointer (some ⟨(atM E i).b, 0, none⟩), .bool true]) W := hlk
  have p2 : W.cell? ⟨(atM E i).b, 2, none⟩ = some (.int .i64 (i : Int)) := tblk_cell (Q.mo i hi) rfl
  have HF : Hid (∀ m, Calls Try.prog 24 #[.iface 61 (.pointer (some ⟨cb, 2, none⟩)), .int .i64 i] (W.drewN m) fun e w' => (∃ r, e = .returned r) ∧ ∃ D, (D ++ [atM E i]).Perm E ∧ HQ (W.drewN m) (OwnC cb v E) cb mk now D w') := fun m => ckremove_any cb mk now v E i (W.drewN m) (OwnC cb v E) (Q.drewN m) hp hi (by omega) (fun k hk => hk)
  have FIN : Hid (∀ D w2, HQ (W.drewN 1) (OwnC cb v E) cb mk now D w2 → w2.cell? ⟨cb, 1, none⟩ = some (.map (some mk)) ∧ ∃ W', (∀ ty, (Builtin.delete_ #[51, 3] ty #[.map (some mk), .int .i64 (atM E i).i]).run Try.prog w2 = .ok (.tuple #[]) W') ∧ PM W' mk n (updI q (atM E i).i none) ∧ w2.grownBy W' (some mk) ∧ CX (OwnC cb v E) W w2) := fun D w2 h => by
    obtain ⟨v', D', Q', _⟩ := h.x
    have b1 := h.c.block mk M.lt (fun e => Q.nmk M e rfl)
    obtain ⟨W', r, M', g⟩ := (M.move b1).del hid
    exact ⟨Q'.c1, W', r, M', g, ((CX.refl _ _).drewN 1).trans h.c⟩
  clear Q hp M hl hi hid hq
  generalize hxx : atM E i = x at *
  clear hxx
  obtain ⟨b, id, t⟩ := x
  simp only at hlk p2 FIN ⊢
  go_enter Try.func15, Try.ntmps15
  go_wp2_with fail
  go_region_with (go_at_call 24; refine (HF.out 1).mono ?_; rintro e w2 ⟨⟨r, rfl⟩, D, P2, H2⟩)
  obtain ⟨d1, W', r2, M', g', X'⟩ := FIN.out D w2 H2
  have F := hidE P2
  have G := hidE H2
  have K := hidE M'
  have K2 := hidE g'
  have K3 := hidE X'
  clear HF H2 p2 P2 FIN M' g' X' hlk c1
  go_wp2_with (refine wpList_delete_run rfl _ _ 51 3 rfl _ _ W' rfl rfl r2 ?_; clear r2)
  go_ret
  exact ⟨rfl, D, _, w2, F.out, G.out, Nat.le_refl _, K3.out, K.out, K2.out⟩
set_option maxRecDepth 100000 in
set_option maxHeartbeats 1000000 in
theorem cldrop_no {cb mk n : Nat} {now : Int} {v : Value} {E : List Mo} {q : PF} {W : World} (Q : CQ W cb mk now v E) (M : PM W mk n q) (id : Int) (hid : InR id) (hq : q id = none) :
    Calls Try.prog 15 #[.pointer (some ⟨cb, 0, none⟩), .int .i64 id] W fun e W' => e = .returned (.bool false) ∧ W = W' := by
  have c1 := Q.c1
  have hlk := M.look hid
  rw [hq] at hlk
  replace hlk : (Instr.lookup 51 (.map (some mk)) (.int .i64 id) true).run Try.prog W = .ok (.tuple #[.pointer none, .bool false]) W := hlk
  clear Q M hid hq
  go_enter Try.func15, Try.ntmps15
  go_wp2
  go_ret
  exact ⟨rfl, rfl⟩
/-- A clock behind a call of the heap and a turn of its map. -/
theorem ck_fin2 {S S0 : Nat → Prop} {cb mk n : Nat} {now : Int} {L : List Pr} {G : List Mo} {q : PF} {W w1 w2 W' : World} (hq : HQ w1 S0 cb mk now G w2) (h0 : ∀ k, S0 k → S k ∨ W.heap.size ≤ k) (hw : W.heap.size ≤ w1.heap.size) (g : w2.grownBy W' (some mk)) (M : PM W' mk n q) (M2 : ∃ n q, PM w2 mk n q) (rm : RelM G q) (rl : RelL G L) (hm : S mk) (a0 : 0 ≤ now) (a1 : now ≤ 1099511627776) (ln : L.length ≤ n) (lt : ∀ k, S k → k < W.heap.size) : CK (grS S W W') cb mk n now L W' := by
  obtain ⟨v, D, Q, p, hp, ho⟩ := hq.x
  obtain ⟨n2, q2, M2⟩ := M2
  have hsz := Nat.le_trans (Nat.le_trans hw hq.c.size) g.size
  refine ⟨⟨v, D, q, Q.kept fun b hb hlt => g.block b hlt (fun e => Q.nmk M2 hb (by cases e; rfl)), hp, M, rm.perm p, rl.perm p, fun k hk => ?_⟩, .inl hm, a0, a1, ln, fun k hk => ?_⟩
  · obtain ⟨cur, t, hc⟩ := Q.cells hk
    have hlt := Nat.lt_of_lt_of_le (Array.getElem?_eq_some_iff.1 hc).1 g.size
    rcases ho k hk with e | e
    · rcases h0 k e with e | e
      · exact .inl e
      · exact .inr ⟨e, hlt⟩
    · exact .inr ⟨Nat.le_trans hw e, hlt⟩
  · rcases hk with e | e
    · exact Nat.lt_of_lt_of_le (lt k e) hsz
    · exact e.2
/-- Drop. -/
theorem cldrop_any {S : Nat → Prop} {cb mk n : Nat} {now : Int} {L : List Pr} {W : World} (h : CK S cb mk n now L W) (hn : n ≤ 800000) (id : Int) (hid : InR id) :
    Calls Try.prog 15 #[.pointer (some ⟨cb, 0, none⟩), .int .i64 id] W fun e W' => e = .returned (.bool (hasL id L)) ∧ ∃ S', CK S' cb mk n now (offL id L) W' ∧ CT S S' W W' := by
  obtain ⟨⟨v, E, q, Q, hp, M, rm, rl, hS⟩, hm, n0, n1, ln, lt⟩ := h
  have hl : E.length ≤ 800000 := by rw [← rl.len]; omega
  rw [rm.has rl id]
  cases hq : q id with
  | some b =>
    obtain ⟨x, hx, e1, e2⟩ := rm.2 id b hq
    obtain ⟨i, hi, ei⟩ := mem_atM hx
    have eb : (atM E i).b = b := by rw [ei]; exact e2
    have eid : (atM E i).i = id := by rw [ei]; exact e1
    have C := cldrop_yes Q hp M hl i hi (by rw [eid]; exact hid) (by rw [eid, eb]; exact hq)
    rw [eid] at C
    refine C.mono ?_
    rintro e W' ⟨rfl, D, w1, w2, P, H, hw, X, M', g⟩
    have M2 : PM w2 mk n q := M.move (X.block mk M.lt (fun e => Q.nmk M e rfl))
    have rl2 := (rl.take P).1
    have rm2 := rm.off rl P
    rw [eid] at rl2 rm2
    refine ⟨rfl, _, ck_fin2 H (fun k hk => .inl (hS k hk)) hw g M' ⟨n, q, M2⟩ rm2 rl2 hm n0 n1 (Nat.le_trans (off_len _ _) ln) lt, ⟨(X.mono hS).then (T := fun k => k = mk) ⟨g.os, g.tape, g.output, g.size, fun k hk hn => g.block k hk (fun e => hn (by cases e; rfl))⟩ fun k hk => .inl (by rw [hk]; exact hm), fun k hk => grS_ct hk⟩⟩
  | none =>
    have ni : ∀ p ∈ L, p.1 ≠ id := fun p hp e => by
      have := (rm.has rl id).symm
      rw [hq] at this
      have h2 := hasL_iff.2 ⟨p, hp, e⟩
      rw [h2] at this
      cases this
    refine (cldrop_no Q M id hid hq).mono ?_
    rintro e W' ⟨rfl, rfl⟩
    rw [off_none ni]
    exact ⟨rfl, S, ⟨⟨v, E, q, Q, hp, M, rm, rl, hS⟩, hm, n0, n1, ln, lt⟩, CT.refl _ _⟩
end Go.Proofs.Ytofnnphpogpcdaa
