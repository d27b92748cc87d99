/- A clock in memory: its map; New, Now, Next. -/
import Derived.Test.YtofnnphpogpcdaaClI
namespace Go.Proofs.Ytofnnphpogpcdaa
open Go.RowKit
set_option linter.unusedVariables false

/-- How a pointer reads. -/
def ptrE (v : Value) : Option (DataW Nat × List MemPlace) :=
  match v with
  | .pointer none => some (.nil, [])
  | .pointer (some ⟨b, 0, none⟩) => some (.lit (.int .i64 (b : Int)), [])
  | _ => none
theorem ptrE_nil : ptrE (.pointer none) = some (.nil, []) := rfl
theorem ptrE_mk (b : Nat) : ptrE (.pointer (some ⟨b, 0, none⟩)) = some (.lit (.int .i64 (b : Int)), []) := rfl
theorem ptrE_inv {v : Value} {z : DataW Nat × List MemPlace} (h : ptrE v = some z) : (v = .pointer none ∧ z = (.nil, [])) ∨ ∃ b : Nat, v = .pointer (some ⟨b, 0, none⟩) ∧ z = (.lit (.int .i64 (b : Int)), []) := by
  unfold ptrE at h
  split at h
  · exact .inl ⟨rfl, (Option.some.inj h).symm⟩
  · rename_i b; exact .inr ⟨b, rfl, (Option.some.inj h).symm⟩
  · cases h
abbrev PF := Int → Option Nat
def updI {α : Type} (t : Int → α) (s : Int) (y : α) : Int → α := fun u => if u = s then y else t u
theorem updI_same {α : Type} (t : Int → α) (s : Int) (y : α) : updI t s y s = y := if_pos rfl
theorem updI_other {α : Type} (t : Int → α) {s u : Int} (y : α) (h : u ≠ s) : updI t s y u = t u := if_neg h
theorem KIt : Maps.Keyed Try.prog 3 := Maps.int_keyed Try.underlying3
theorem keyI {h : Int} (hr : InR h) : keyOf Try.prog 3 (.int .i64 h) = some (.int .i64 h) := Maps.keyOf_int_mk Try.underlying3 (WalkArith.wf_i64 hr)
theorem iL_ne {s u : Int} (h : u ≠ s) : (Lit.int .i64 u) ≠ .int .i64 s := fun e => h (by injection e)
/-- A map of moments by numbers. -/
def PM (w : World) (m n : Nat) (q : PF) : Prop := ∃ D : DataW Nat, w.ownsMap Try.prog 3 ptrE m n D ∧ ∀ h : Int, Maps.has D (.int .i64 h) = (q h).isSome ∧ ∀ b, q h = some b → ∀ zd, D.atKey (.int .i64 h) zd = .lit (.int .i64 (b : Int))
theorem PM.lt {w : World} {m n : Nat} {q : PF} (h : PM w m n q) : m < w.heap.size := by obtain ⟨D, h1, _⟩ := h; exact h1.lt
theorem PM.blk {w : World} {m n : Nat} {q : PF} (h : PM w m n q) : ∃ es cl, w.heap[m]? = some (.map es cl) := by obtain ⟨D, ⟨es, cl, h1, _⟩, _⟩ := h; exact ⟨es, cl, h1⟩
theorem PM.move {w w' : World} {m n : Nat} {q : PF} (h : PM w m n q) (e : w'.heap[m]? = w.heap[m]?) : PM w' m n q := by
  obtain ⟨D, ⟨es, cl, h1, r⟩, h2⟩ := h
  exact ⟨D, ⟨es, cl, e.trans h1, r⟩, h2⟩
theorem PM.new (w : World) : PM (w.alloc (.map #[] 0)) w.heap.size 0 (fun _ => none) := ⟨.map [], World.ownsMap_made (H := Nat) w Try.prog 3 ptrE, fun s => ⟨rfl, fun x hx => by cases hx⟩⟩
theorem zeroPM (w : World) : (zeroValue 59).run Try.prog w = .ok (.pointer none) w := Try.zeroValue59 w
def ptrV (o : Option Nat) : Value := .pointer (o.map fun b => ⟨b, 0, none⟩)
theorem litN_inj {a b : Nat} {p p' : List MemPlace} (h : ((DataW.lit (.int .i64 (a : Int)) : DataW Nat), p) = (.lit (.int .i64 (b : Int)), p')) : a = b := by
  injection h with h _
  injection h with h
  injection h with _ h
  omega
theorem PM.look {w : World} {m n : Nat} {q : PF} (h : PM w m n q) {s : Int} (hs : InR s) : (Instr.lookup 51 (.map (some m)) (.int .i64 s) true).run Try.prog w = .ok (.tuple #[ptrV (q s), .bool (q s).isSome]) w := by
  obtain ⟨D, h1, h2⟩ := h
  obtain ⟨v, ps, hrun, hv⟩ := h1.look_ok KIt Try.underlying51 (zeroPM _) ptrE_nil (keyI hs)
  rw [hrun, (h2 s).1]
  cases hq : q s with
  | none =>
    have hh := (h2 s).1
    rw [hq] at hh
    rw [Maps.atKey_of_not_has hh] at hv
    rcases ptrE_inv hv with ⟨e, _⟩ | ⟨b, e, z⟩
    · rw [e]; rfl
    · injection z with z _
      cases z
  | some b =>
    rw [(h2 s).2 b hq] at hv
    rcases ptrE_inv hv with ⟨e, z⟩ | ⟨b', e, z⟩
    · injection z with z _
      cases z
    · obtain rfl := litN_inj z
      rw [e]; rfl
theorem PM.put {w : World} {m n : Nat} {q : PF} (h : PM w m n q) (hn : n < maxLen) {s : Int} (hs : InR s) (b : Nat) : ∃ w', (Instr.mapUpdate 51 (.map (some m)) (.int .i64 s) (.pointer (some ⟨b, 0, none⟩))).run Try.prog w = .ok () w' ∧ PM w' m (n + 1) (updI q s (some b)) ∧ w.grownBy w' (some m) := by
  obtain ⟨D, h1, h2⟩ := h
  obtain ⟨w', r, o, g⟩ := h1.update KIt Try.underlying51 hn (keyI hs) (ptrE_mk b)
  refine ⟨w', r, ⟨_, o, fun u => ?_⟩, g⟩
  by_cases e : u = s
  · rw [e, updI_same]
    refine ⟨Maps.has_put_same h1.isMap (by exact trivial) _, fun x hx zd => ?_⟩
    obtain rfl : b = x := Option.some.inj hx
    rw [Maps.atKey_put_same h1.isMap (by exact trivial)]
  · rw [updI_other _ _ e]
    refine ⟨by rw [Maps.has_put_other (iL_ne e), (h2 u).1], fun x hx zd => ?_⟩
    rw [Maps.atKey_put_other (iL_ne e), (h2 u).2 x hx]
theorem PM.del {w : World} {m n : Nat} {q : PF} (h : PM w m n q) {s : Int} (hs : InR s) : ∃ w', (∀ ty, (Builtin.delete_ #[51, 3] ty #[.map (some m), .int .i64 s]).run Try.prog w = .ok (.tuple #[]) w') ∧ PM w' m n (updI q s none) ∧ w.grownBy w' (some m) := by
  obtain ⟨D, h1, h2⟩ := h
  obtain ⟨es, cl, hb, F, hsz, rfl⟩ := h1
  obtain ⟨es', hrun, F', hle, hdel, _⟩ := Maps.fit_drop (ty := 0) KIt Try.underlying51 hb F (keyI hs)
  have hrun' : ∀ ty, (Builtin.delete_ #[51, 3] ty #[.map (some m), .int .i64 s]).run Try.prog w = _ := fun ty => (show (Builtin.delete_ #[51, 3] ty #[.map (some m), .int .i64 s]).run Try.prog w = (Builtin.delete_ #[51, 3] 0 #[.map (some m), .int .i64 s]).run Try.prog w from rfl).trans hrun
  refine ⟨_, hrun', ⟨_, ⟨es', cl, ChangeMaps.heap_setBlock_same hb _, F', Nat.le_trans hle hsz, rfl⟩, fun u => ?_⟩, World.mapTurned.grown ⟨es, cl, es', cl, hb, rfl⟩⟩
  rw [hdel, ← DataW.del_eq]
  by_cases e : u = s
  · rw [e, updI_same]
    exact ⟨Maps.has_del_same, fun z hz => by cases hz⟩
  · rw [updI_other _ _ e]
    refine ⟨by rw [Maps.has_del_other (iL_ne e), (h2 u).1], fun z hz zd => ?_⟩
    rw [Maps.atKey_del_other (iL_ne e), (h2 u).2 z hz]
/-- The map leads to just the moments of the queue. -/
def RelM (E : List Mo) (q : PF) : Prop := (∀ x ∈ E, q x.i = some x.b) ∧ ∀ s b, q s = some b → ∃ x ∈ E, x.i = s ∧ x.b = b
/-- A clock: the time, what is to happen, sorted; in blocks of S. -/
structure CK (S : Nat → Prop) (cb mk n : Nat) (now : Int) (L : List Pr) (W : World) : Prop where
  x : ∃ v E q, CQ W cb mk now v E ∧ HpOk E.length (atM E) ∧ PM W mk n q ∧ RelM E q ∧ RelL E L ∧ ∀ k, OwnC cb v E k → S k
  m : S mk
  n0 : 0 ≤ now
  n1 : now ≤ 1099511627776
  ln : L.length ≤ n
  lt : ∀ k, S k → k < W.heap.size
/-- What may turn of what there was, and what is of the clock's own then. -/
structure CT (S S' : Nat → Prop) (w w' : World) : Prop where
  c : CX S w w'
  s : ∀ k, S' k → S k ∨ w.heap.size ≤ k
theorem CT.refl (S : Nat → Prop) (w : World) : CT S S w w := ⟨CX.refl _ _, fun _ h => .inl h⟩
theorem CT.trans {S T U : Nat → Prop} {u v w : World} (h : CT S T u v) (k : CT T U v w) : CT S U u w :=
  ⟨h.c.then k.c fun i hi => h.s i hi, fun i hi => by
    rcases k.s i hi with q | q
    · exact h.s i q
    · exact .inr (Nat.le_trans h.c.size q)⟩
theorem CK.ne {S : Nat → Prop} {cb mk n : Nat} {now : Int} {L : List Pr} {W : World} (h : CK S cb mk n now L W) : cb ≠ mk := by
  obtain ⟨v, E, q, Q, _, M, _⟩ := h.x
  intro e
  obtain ⟨es, cl, hb⟩ := M.blk
  rw [← e, Q.bk] at hb
  cases hb
/-- What is not of the clock's own may turn. -/
theorem CK.keep {S : Nat → Prop} {cb mk n : Nat} {now : Int} {L : List Pr} {W W' : World} (h : CK S cb mk n now L W) (hsz : W.heap.size ≤ W'.heap.size) (k : ∀ b, b < W.heap.size → S b → W'.heap[b]? = W.heap[b]?) : CK S cb mk n now L W' := by
  obtain ⟨⟨v, E, q, Q, hp, M, rm, rl, hS⟩, m, n0, n1, ln, lt⟩ := h
  refine ⟨⟨v, E, q, ⟨(k cb Q.lt (hS _ (.inl rfl))).trans Q.bk, Q.rq.move fun g hg => ?_, fun j hj => ?_, Q.nd⟩, hp, M.move (k mk M.lt m), rm, rl, hS⟩, m, n0, n1, ln, fun b hb => Nat.lt_of_lt_of_le (lt b hb) hsz⟩
  · obtain ⟨cur, hc⟩ := Q.rq.blk hg
    exact k g (Array.getElem?_eq_some_iff.1 hc).1 (hS _ (.inr (.inl hg)))
  · have hm := Q.mo j hj
    exact (k _ (Array.getElem?_eq_some_iff.1 hm).1 (hS _ (.inr (.inr ⟨_, atM_mem hj, rfl⟩)))).trans hm
theorem CK.bel {S : Nat → Prop} {cb mk n : Nat} {now : Int} {L : List Pr} {W W' : World} (h : CK S cb mk n now L W) (k : Below W.heap.size W W') : CK S cb mk n now L W' := h.keep k.size fun b hb _ => k.block b hb
theorem CK.mono {S : Nat → Prop} {cb mk n n' : Nat} {now : Int} {L : List Pr} {W : World} (h : CK S cb mk n now L W) (hn : n ≤ n') : CK S cb mk n' now L W := by
  obtain ⟨⟨v, E, q, Q, hp, ⟨D, d1, d2⟩, rm, rl, hS⟩, m, n0, n1, ln, lt⟩ := h
  exact ⟨⟨v, E, q, Q, hp, ⟨D, d1.mono hn, d2⟩, rm, rl, hS⟩, m, n0, n1, Nat.le_trans ln hn, lt⟩
def newS (w : World) (k : Nat) : Prop := w.heap.size ≤ k ∧ k < w.heap.size + 2
set_option maxHeartbeats 400000 in
theorem clnew_any (w : World) : Calls Try.prog 7 #[] w fun e w' => e = .returned (.pointer (some ⟨w.heap.size + 1, 0, none⟩)) ∧ CK (newS w) (w.heap.size + 1) w.heap.size 0 0 [] w' ∧ Below w.heap.size w w' := by
  have hmm := @ run_makeMap Try.prog
  have B1 : Below w.heap.size w (w.alloc (.map #[] 0)) := (Below.refl _ _).alloc (Nat.le_refl _) _
  have s1 : (w.alloc (.map #[] 0)).heap.size = w.heap.size + 1 := by simp
  have B2 : Below (w.heap.size + 1) (w.alloc (.map #[] 0)) ((w.alloc (.map #[] 0)).alloc (.cells #[.int .i64 0, .map (some w.heap.size), .slice none 0 0] 55)) := by rw [← s1]; exact (Below.refl _ _).alloc (Nat.le_refl _) _
  have tb := tblk_new (w.alloc (.map #[] 0)) (.cells #[.int .i64 0, .map (some w.heap.size), .slice none 0 0] 55)
  rw [s1] at tb
  have HP : Hid (CK (newS w) (w.heap.size + 1) w.heap.size 0 0 [] ((w.alloc (.map #[] 0)).alloc (.cells #[.int .i64 0, .map (some w.heap.size), .slice none 0 0] 55))) :=
    ⟨⟨.slice none 0 0, [], fun _ => none, ⟨tb, .inl ⟨rfl, rfl⟩, fun j hj => absurd hj (Nat.not_lt_zero _), fun i j hi => absurd hi (Nat.not_lt_zero _)⟩, fun k a b => absurd b (Nat.not_lt_zero _), (PM.new w).move (B2.block _ (by omega)), ⟨fun x hx => (by cases hx), fun s b hb => (by cases hb)⟩, ⟨List.Perm.refl _, List.Pairwise.nil, List.nodup_nil⟩, fun k hk => by
      rcases hk with e | e | ⟨x, hx, _⟩
      · rw [e]; exact ⟨Nat.le_succ _, by omega⟩
      · cases e
      · cases hx⟩, ⟨Nat.le_refl _, by omega⟩, by decide, by decide, Nat.le_refl _, fun k hk => by have := hk.2; simp; omega⟩
  have HB := hidE (B1.trans (B2.mono (by omega)))
  clear B1 B2 tb s1
  go_enter Try.func7, Try.ntmps7
  go_wp2
  go_ret
  exact ⟨by simp, HP.out, HB.out⟩
set_option maxHeartbeats 400000 in
theorem clnow_any {S : Nat → Prop} {cb mk n : Nat} {now : Int} {L : List Pr} {W : World} (h : CK S cb mk n now L W) : Calls Try.prog 17 #[.pointer (some ⟨cb, 0, none⟩)] W fun e w' => e = .returned (.int .i64 now) ∧ W = w' := by
  obtain ⟨v, E, q, Q, _⟩ := h.x
  have c0 := Q.c0
  clear h Q
  go_enter Try.func17, Try.ntmps17
  go_wp2
  go_ret
  exact ⟨rfl, rfl⟩
def nextL (L : List Pr) : Int × Bool := match L with
  | [] => (0, false)
  | p :: _ => (p.2, true)
set_option maxHeartbeats 400000 in
theorem clnext_any {S : Nat → Prop} {cb mk n : Nat} {now : Int} {L : List Pr} {W : World} (h : CK S cb mk n now L W) : Calls Try.prog 16 #[.pointer (some ⟨cb, 0, none⟩)] W fun e w' => e = .returned (.tuple #[.int .i64 (nextL L).1, .bool (nextL L).2]) ∧ W = w' := by
  obtain ⟨v, E, q, Q, hp, M, rm, rl, hS⟩ := h.x
  have c2 := Q.c2
  rcases Nat.eq_zero_or_pos E.length with h0 | h0
  · have e0 : E = [] := List.length_eq_zero_iff.1 h0
    have e1 : L = [] := List.length_eq_zero_iff.1 (rl.len.trans h0)
    obtain ⟨a, c, hv⟩ : ∃ a c, v = .slice a 0 c := by
      rcases Q.rq with ⟨hv, e⟩ | ⟨g, c, cur, hv, _⟩
      · exact ⟨none, 0, hv⟩
      · rw [h0] at hv; exact ⟨_, c, hv⟩
    subst hv e1
    clear h Q hp M rm rl hS e0 h0
    go_enter Try.func16, Try.ntmps16
    go_wp2
    go_ret2
    exact ⟨rfl, rfl⟩
  · obtain ⟨g, c, cur, rfl, hg, h1, h2, h3, h4, n1, n2⟩ := Q.row h0
    obtain ⟨t, e1⟩ := rl.head hp h0
    have p1 := tblk_cell hg (h4 0 h0)
    have a1 : W.cell? ⟨(atM E 0).b, 1, none⟩ = some (.int .i64 (atM E 0).t) := tblk_cell (Q.mo 0 h0) rfl
    have e2 : nextL L = ((atM E 0).t, true) := by rw [e1]; rfl
    rw [e2]
    have d0 : ((E.length : Int) == 0) = false := by rw [beq_eq_false_iff_ne]; omega
    have m1 : (0 : Int) < E.length := by omega
    clear h Q hp M rm rl hS h4 e1 e2 hg n1 n2 h1 h2 h3 h0
    generalize E.length = n at *
    generalize (atM E 0).b = b at *
    generalize (atM E 0).t = t at *
    go_enter Try.func16, Try.ntmps16
    go_wp2
    go_ret2
    exact ⟨rfl, rfl⟩
end Go.Proofs.Ytofnnphpogpcdaa
