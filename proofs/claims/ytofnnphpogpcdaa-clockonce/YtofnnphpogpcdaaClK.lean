/- Clock's Set and Drop. -/
import Derived.Test.YtofnnphpogpcdaaClJ
import Derived.Deep.RegionWith
namespace Go.Proofs.Ytofnnphpogpcdaa
open Go.RowKit
set_option linter.unusedVariables false

/-- 'm[k] = v', its run known. -/
theorem wpList_mapUpdate_run {P : Program} (w : World) {ops : Array Oper} {rest : List Oper} {o : Oper} {a : Act} {Q : Exit → Act → World → Prop}
    (hg : o.guard = none) (m x v : Operand) (t : TypeId) (hop : o.op = Op.mapUpdate t m x v) (mv key val : Value) (w' : World) (hm : a.eval m = mv) (hx : a.eval x = key) (hv : a.eval v = val)
    (hrun : (Instr.mapUpdate t mv key val).run P w = .ok () w') (hK : wpList P ops Q rest (a.put o.dst undef) w') : wpList P ops Q (o :: rest) a w := by
  refine wpList_plain hg fun K' hK' => ?_
  unfold Oper.wp
  simp [execOp, hop, hm, hx, hv, hrun, Result.andThen]
  exact hK' _ _ hK
/-- 'delete(m, k)', its run known. -/
theorem wpList_delete_run {P : Program} (w : World) {ops : Array Oper} {rest : List Oper} {o : Oper} {a : Act} {Q : Exit → Act → World → Prop}
    (hg : o.guard = none) (m x : Operand) (t k : TypeId) (hop : o.op = Op.call { callee := Callee.builtin Builtin.delete, args := #[m, x], argTypes := #[t, k] }) (mv key : Value) (w' : World) (hm : a.eval m = mv) (hx : a.eval x = key)
    (hrun : ∀ ty, (Builtin.delete_ #[t, k] ty #[mv, key]).run P w = .ok (.tuple #[]) w') (hK : wpList P ops Q rest (a.put o.dst (.tuple #[])) w') : wpList P ops Q (o :: rest) a w := by
  refine wpList_plain hg fun K' hK' => ?_
  unfold Oper.wp
  simp [execOp, hop, resolve, invoke, builtin, hm, hx, hrun, Result.andThen]
  exact hK' _ _ hK
theorem max_run (x y z : Int) (h : max x y = z) (W : World) (ts : Array TypeId) (t : TypeId) : (Builtin.max_ ts t #[.int .i64 x, .int .i64 y]).run Try.prog W = .ok (.int .i64 z) W := by
  rw [run_max_int2, ← h]
  congr 2
  split <;> omega
theorem min_run (x y z : Int) (h : min x y = z) (W : World) (ts : Array TypeId) (t : TypeId) : (Builtin.min_ ts t #[.int .i64 x, .int .i64 y]).run Try.prog W = .ok (.int .i64 z) W := by
  rw [run_min_int2, ← h]
  congr 2
  split <;> omega
theorem RelM.perm {E D : List Mo} {q : PF} (h : RelM E q) (k : D.Perm E) : RelM D q := ⟨fun x hx => h.1 x (k.mem_iff.1 hx), fun s b hb => by
  obtain ⟨x, hx, e⟩ := h.2 s b hb
  exact ⟨x, k.mem_iff.2 hx, e⟩⟩
theorem CQ.kept {W W' : World} {cb mk : Nat} {now : Int} {v : Value} {E : List Mo} (Q : CQ W cb mk now v E) (k : ∀ b, OwnC cb v E b → b < W.heap.size → W'.heap[b]? = W.heap[b]?) : CQ W' cb mk now v E := by
  refine ⟨(k cb (.inl rfl) Q.lt).trans Q.bk, Q.rq.move fun g hg => ?_, fun j hj => ?_, Q.nd⟩
  · obtain ⟨cur, hc⟩ := Q.rq.blk hg
    exact k g (.inr (.inl hg)) (Array.getElem?_eq_some_iff.1 hc).1
  · have hm := Q.mo j hj
    exact (k _ (.inr (.inr ⟨_, atM_mem hj, rfl⟩)) (Array.getElem?_eq_some_iff.1 hm).1).trans hm
theorem CQ.cells {W : World} {cb mk : Nat} {now : Int} {v : Value} {E : List Mo} (Q : CQ W cb mk now v E) {k : Nat} (h : OwnC cb v E k) : ∃ cur t, W.heap[k]? = some (.cells cur t) := by
  rcases h with e | e | ⟨x, hx, e⟩
  · rw [e]; exact ⟨_, _, Q.bk⟩
  · obtain ⟨cur, hc⟩ := Q.rq.blk e
    exact ⟨_, _, hc⟩
  · obtain ⟨j, hj, ej⟩ := mem_atM hx
    rw [← e, ← ej]
    exact ⟨_, _, Q.mo j hj⟩
theorem CQ.nmk {W : World} {cb mk n : Nat} {now : Int} {v : Value} {E : List Mo} {q : PF} (Q : CQ W cb mk now v E) (M : PM W mk n q) {k : Nat} (h : OwnC cb v E k) : k ≠ mk := fun e => by
  obtain ⟨es, cl, hb⟩ := M.blk
  obtain ⟨cur, t, hc⟩ := Q.cells h
  rw [e, hb] at hc
  cases hc
/-- The clock's own blocks, and those that are new. -/
def grS (S : Nat → Prop) (W W' : World) (k : Nat) : Prop := S k ∨ (W.heap.size ≤ k ∧ k < W'.heap.size)
theorem grS_ct {S : Nat → Prop} {W W' : World} {k : Nat} (h : grS S W W' k) : S k ∨ W.heap.size ≤ k := h.imp id (fun e => e.1)
/-- A clock behind a call of the heap. -/
theorem ck_fin {S S0 : Nat → Prop} {cb mk n : Nat} {now : Int} {L : List Pr} {G : List Mo} {q : PF} {W w1 W' : World} (hq : HQ w1 S0 cb mk now G W') (h0 : ∀ k, S0 k → S k ∨ W.heap.size ≤ k) (hw : W.heap.size ≤ w1.heap.size) (M : PM W' mk n q) (rm : RelM G q) (rl : RelL G L) (hm : S mk) (a0 : 0 ≤ now) (a1 : now ≤ 1099511627776) (ln : L.length ≤ n) (lt : ∀ k, S k → k < W.heap.size) : CK (grS S W W') cb mk n now L W' := by
  obtain ⟨v, D, Q, p, hp, ho⟩ := hq.x
  have hsz := Nat.le_trans hw hq.c.size
  refine ⟨⟨v, D, q, Q, hp, M, rm.perm p, rl.perm p, fun k hk => ?_⟩, .inl hm, a0, a1, ln, fun k hk => ?_⟩
  · obtain ⟨cur, t, hc⟩ := Q.cells hk
    have hlt := (Array.getElem?_eq_some_iff.1 hc).1
    rcases ho k hk with e | e
    · rcases h0 k e with e | e
      · exact .inl e
      · exact .inr ⟨e, hlt⟩
    · exact .inr ⟨Nat.le_trans hw e, hlt⟩
  · rcases hk with e | e
    · exact Nat.lt_of_lt_of_le (lt k e) hsz
    · exact e.2
theorem RelL.one {E : List Mo} {L : List Pr} (h : RelL E L) {x y : Mo} (hx : x ∈ E) (hy : y ∈ E) (e : x.i = y.i) : x = y := by
  have nd : (E.map Mo.i).Nodup := by
    have p := h.p.map Prod.fst
    rw [List.map_map] at p
    exact p.nodup_iff.2 h.d
  obtain ⟨i, hi, ei⟩ := mem_atM hx
  obtain ⟨j, hj, ej⟩ := mem_atM hy
  have : i = j := by
    have e1 : (E.map Mo.i)[i]? = some x.i := by rw [List.getElem?_map, atM_some hi, ei]; rfl
    have e2 : (E.map Mo.i)[j]? = some x.i := by rw [List.getElem?_map, atM_some hj, ej]; show some y.i = some x.i; rw [e]
    obtain ⟨l1, e1⟩ := List.getElem?_eq_some_iff.1 e1
    obtain ⟨l2, e2⟩ := List.getElem?_eq_some_iff.1 e2
    have f := List.pairwise_iff_getElem.1 nd
    rcases Nat.lt_trichotomy i j with c | c | c
    · exact absurd (e1.trans e2.symm) (f i j l1 l2 c)
    · exact c
    · exact absurd (e2.trans e1.symm) (f j i l2 l1 c)
  rw [← ei, ← ej, this]
theorem off_len (id : Int) (L : List Pr) : (offL id L).length ≤ L.length := List.length_filter_le _ _
theorem ins_len (p : Pr) (L : List Pr) : (insL p L).length = L.length + 1 := (insL_perm p L).length_eq
set_option maxRecDepth 100000 in
set_option maxHeartbeats 1000000 in
theorem clset_old {S : Nat → Prop} {cb mk n : Nat} {now : Int} {v : Value} {E : List Mo} {q : PF} {W : World} (Q : CQ W cb mk now v E) (hp : HpOk E.length (atM E)) (M : PM W mk n q) (hl : E.length ≤ 800000) (i : Nat) (hi : i < E.length) (at' a : Int) (ha : min at' 1099511627776 = a) (hid : InR (atM E i).i) (hq : q (atM E i).i = some (atM E i).b) :
    Calls Try.prog 12 #[.pointer (some ⟨cb, 0, none⟩), .int .i64 (atM E i).i, .int .i64 at'] W fun e W' => e = .returned (.tuple #[]) ∧ ∃ w1, HQ w1 (OwnC cb v E) cb mk now (E.set i ⟨(atM E i).b, (atM E i).i, a⟩) W' ∧ W.heap.size ≤ w1.heap.size ∧ CX (OwnC cb v E) W W' := by
  have c1 := Q.c1
  have hlk := M.look hid
  rw [hq] at hlk
  replace hlk : (Instr.lookup 51 (.map (some mk)) (.int .i64 (atM E i).i) true).run Try.prog W = .ok (.tuple #[.pointer (some ⟨(atM E i).b, 0, none⟩), .bool true]) W := hlk
  have hb := Q.mo i hi
  have p1 : W.cell? ⟨(atM E i).b, 1, none⟩ = some (.int .i64 (atM E i).t) := tblk_cell hb rfl
  have z1 : W.frozen? ⟨(atM E i).b, 1, none⟩ = false := by simp [World.frozen?, hb]
  have XM := min_run at' 1099511627776 a ha
  obtain ⟨w1, hw1⟩ : ∃ w1, w1 = W.setCell ⟨(atM E i).b, 1, none⟩ (.int .i64 a) := ⟨_, rfl⟩
  have el : (E.set i ⟨(atM E i).b, (atM E i).i, a⟩).length = E.length := List.length_set ..
  have aS : ∀ k, atM (E.set i ⟨(atM E i).b, (atM E i).i, a⟩) k = if i = k then ⟨(atM E i).b, (atM E i).i, a⟩ else atM E k := fun k => atM_set E i k _ hi
  have ab : ∀ k, (atM (E.set i ⟨(atM E i).b, (atM E i).i, a⟩) k).b = (atM E k).b := fun k => by
    rw [aS k]
    split
    · rename_i e; subst e; rfl
    · rfl
  have o1 : ∀ k, k ≠ (atM E i).b → w1.heap[k]? = W.heap[k]? := fun k hk => by rw [hw1]; exact blk_oth hk
  have Q1 : CQ w1 cb mk now v (E.set i ⟨(atM E i).b, (atM E i).i, a⟩) := by
    refine ⟨(o1 cb (fun e => Q.ncb i hi e.symm)).trans Q.bk, ?_, fun j hj => ?_, fun x y hx hy e => ?_⟩
    · have r1 : RQ w1 v E := Q.rq.move fun g hg => o1 g (fun e => by
        obtain ⟨cur, hc⟩ := Q.rq.blk hg
        exact absurd (not_pm hc (e ▸ hb)) (by decide))
      rcases r1 with ⟨hv, e⟩ | ⟨g, c, cur, hv, r1, r2, r3, r4, r5⟩
      · rw [e] at hi; exact absurd hi (Nat.not_lt_zero _)
      · exact .inr ⟨g, c, cur, by rw [el]; exact hv, r1, r2, by rw [el]; exact r3, r4, fun j hj => by rw [el] at hj; rw [ab j]; exact r5 j hj⟩
    · rw [el] at hj
      rw [aS j]
      by_cases e : i = j
      · subst e
        rw [if_pos rfl, hw1]
        exact blk_set hb
      · rw [if_neg e]
        exact (o1 _ (fun q => e (Q.nd i j hi hj q.symm))).trans (Q.mo j hj)
    · rw [el] at hx hy
      rw [ab x, ab y] at e
      exact Q.nd x y hx hy e
  have BB : BoI (E.set i ⟨(atM E i).b, (atM E i).i, a⟩).length (atM (E.set i ⟨(atM E i).b, (atM E i).i, a⟩)) i := by
    rw [el]
    exact hp.bo (fun k _ hk => by rw [aS k, if_neg (fun e => hk e.symm)]) hi
  have hS : ∀ k, OwnC cb v (E.set i ⟨(atM E i).b, (atM E i).i, a⟩) k → OwnC cb v E k := fun k hk => by
    rcases hk with e | e | ⟨x, hx, e⟩
    · exact .inl e
    · exact .inr (.inl e)
    · obtain ⟨j, hj, ej⟩ := mem_atM hx
      rw [el] at hj
      exact .inr (.inr ⟨_, atM_mem hj, by rw [← ab j, ej]; exact e⟩)
  have HF : Hid (∀ m, Calls Try.prog 20 #[.iface 61 (.pointer (some ⟨cb, 2, none⟩)), .int .i64 i] (w1.drewN m) fun e w' => e = .returned (.tuple #[]) ∧ HQ (w1.drewN m) (OwnC cb v E) cb mk now (E.set i ⟨(atM E i).b, (atM E i).i, a⟩) w') := fun m => ckfix_any cb mk now v _ i (w1.drewN m) (OwnC cb v E) (Q1.drewN m) BB (by rw [el]; exact hi) (by rw [el]; omega) hS
  have p2 : w1.cell? ⟨(atM E i).b, 2, none⟩ = some (.int .i64 (i : Int)) := by
    have := tblk_cell (o := 2) (v := .int .i64 (i : Int)) (Q1.mo i (by rw [el]; exact hi)) rfl
    rw [ab i] at this
    exact this
  have X1 : Hid (CX (OwnC cb v E) W w1) := by rw [hw1]; exact (CX.refl _ _).set (.inr (.inr ⟨_, atM_mem hi, rfl⟩)) _
  clear hS BB Q1 o1 ab aS el hb hq ha hid hl hp M Q
  generalize (atM E i).b = b at *
  generalize (atM E i).i = id at *
  generalize (atM E i).t = t at *
  clear hi
  rw [hw1] at p2
  go_enter Try.func12, Try.ntmps12
  go_wp2_with fail
  rw [← hw1]
  rw [← hw1] at p2
  have ho : w1.heap.size = W.heap.size := by rw [hw1]; simp [World.setCell]
  have HO := hidE ho
  clear hw1 XM hlk p1 z1 c1 ho
  go_region_with (go_at_call 20; refine (HF.out 1).mono ?_; rintro e w2 ⟨rfl, H2⟩)
  have FIN : Hid (HQ (w1.drewN 1) (OwnC cb v E) cb mk now (E.set i ⟨b, id, a⟩) w2 ∧ CX (OwnC cb v E) W w2) := ⟨H2, (X1.out.drewN 1).trans H2.c⟩
  clear HF H2 p2
  go_wp2
  refine bodyPost_ret (results_none rfl _ _ _) rfl ?_
  exact ⟨rfl, _, FIN.out.1, by show W.heap.size ≤ w1.heap.size; rw [HO.out]; exact Nat.le_refl _, FIN.out.2⟩
set_option maxRecDepth 100000 in
set_option maxHeartbeats 1000000 in
theorem clset_new {cb mk n : Nat} {now : Int} {v : Value} {E : List Mo} {q : PF} {W : World} (Q : CQ W cb mk now v E) (hp : HpOk E.length (atM E)) (M : PM W mk n q) (hl : E.length ≤ 800000) (hn : n ≤ 800000) (id at' a : Int) (ha : min at' 1099511627776 = a) (hid : InR id) (hq : q id = none) :
    Calls Try.prog 12 #[.pointer (some ⟨cb, 0, none⟩), .int .i64 id, .int .i64 at'] W fun e W' => e = .returned (.tuple #[]) ∧ ∃ w1, HQ w1 (fun k => OwnC cb v E k ∨ k = W.heap.size) cb mk now (E ++ [⟨W.heap.size, id, a⟩]) W' ∧ W.heap.size ≤ w1.heap.size ∧ PM W' mk (n + 1) (updI q id (some W.heap.size)) ∧ CX (fun k => OwnC cb v E k ∨ k = mk) W W' := by
  have c1 := Q.c1
  have hlk := M.look hid
  rw [hq] at hlk
  replace hlk : (Instr.lookup 51 (.map (some mk)) (.int .i64 id) true).run Try.prog W = .ok (.tuple #[.pointer none, .bool false]) W := hlk
  have XM := min_run at' 1099511627776 a ha
  have BA : Below W.heap.size W (W.alloc (.cells #[.int .i64 id, .int .i64 a, .int .i64 0] 58)) := (Below.refl _ _).alloc (Nat.le_refl _) _
  have QA := Q.kept (W' := W.alloc (.cells #[.int .i64 id, .int .i64 a, .int .i64 0] 58)) (fun b _ hb => BA.block b hb)
  have MA := M.move (BA.block mk M.lt)
  have tA := tblk_new W (.cells #[.int .i64 id, .int .i64 a, .int .i64 0] 58)
  have cA := QA.c1
  obtain ⟨w2, r2, M2, g2⟩ := MA.put (by unfold maxLen; omega) hid W.heap.size
  have nm := M.lt
  have Q2 := QA.kept (W' := w2) (fun b hb hlt => g2.block b hlt (fun e => QA.nmk MA hb (by cases e; rfl)))
  have t2 := (g2.block W.heap.size (by rw [size_new]; omega) (fun e => by cases e; omega)).trans tA
  have d2 := Q2.c1
  have ltW : ∀ k, OwnC cb v E k → k < W.heap.size := fun k hk => by
    obtain ⟨cur, t, hc⟩ := Q.cells hk
    exact (Array.getElem?_eq_some_iff.1 hc).1
  have hx : ∀ y ∈ E, y.b ≠ W.heap.size := fun y hy => by have := ltW y.b (.inr (.inr ⟨y, hy, rfl⟩)); omega
  have HPU := hidE (ckpush_any cb mk now 0 v E ⟨W.heap.size, id, a⟩ w2 (fun k => OwnC cb v E k ∨ k = W.heap.size) Q2 hp t2 hx (by omega) (fun k hk => .inl hk) (.inr rfl))
  have FIN : Hid (∀ W', HQ w2 (fun k => OwnC cb v E k ∨ k = W.heap.size) cb mk now (E ++ [⟨W.heap.size, id, a⟩]) W' → W.heap.size ≤ w2.heap.size ∧ PM W' mk (n + 1) (updI q id (some W.heap.size)) ∧ CX (fun k => OwnC cb v E k ∨ k = mk) W W') := fun W' h => by
    have sz := g2.size
    rw [size_new] at sz
    have nmS : ¬ (OwnC cb v E mk ∨ mk = W.heap.size) := fun e => by
      rcases e with e | e
      · exact Q.nmk M e rfl
      · omega
    have b1 := h.c.block mk (by omega) nmS
    refine ⟨by omega, M2.move b1, ?_⟩
    have X2 : CX (fun k => OwnC cb v E k ∨ k = mk) W w2 := ⟨g2.os, g2.tape, g2.output, by omega, fun k hk hn => (g2.block k (by rw [size_new]; omega) (fun e => hn (.inr (by cases e; rfl)))).trans (BA.block k hk)⟩
    exact X2.then h.c fun k hk => by
      rcases hk with e | e
      · exact .inl (.inl e)
      · exact .inr (by omega)
  clear hx ltW Q2 t2 QA MA tA BA g2 M2 nm hq ha hid hl hn hp M Q
  go_enter Try.func12, Try.ntmps12
  go_wp2_with (refine wpList_mapUpdate_run _ rfl _ _ _ 51 rfl _ _ _ w2 rfl rfl rfl r2 ?_; clear r2)
  refine HPU.out.mono ?_
  rintro e w3 ⟨rfl, H3⟩
  have F := hidE (FIN.out w3 H3)
  have G := hidE H3
  clear FIN HPU H3
  go_wp2
  go_end0
  exact ⟨rfl, _, G.out, F.out.1, F.out.2.1, F.out.2.2⟩
/-- Set. -/
theorem clset_any {S : Nat → Prop} {cb mk n : Nat} {now : Int} {L : List Pr} {W : World} (h : CK S cb mk n now L W) (hn : n ≤ 800000) (id at' a : Int) (ha : min at' 1099511627776 = a) (hid : InR id) :
    Calls Try.prog 12 #[.pointer (some ⟨cb, 0, none⟩), .int .i64 id, .int .i64 at'] W fun e W' => e = .returned (.tuple #[]) ∧ ∃ S', CK S' cb mk (n + 1) now (insL (id, a) (offL id L)) W' ∧ CT S S' W W' := by
  obtain ⟨⟨v, E, q, Q, hp, M, rm, rl, hS⟩, hm, n0, n1, ln, lt⟩ := h
  have hl : E.length ≤ 800000 := by rw [← rl.len]; omega
  have l1 : (insL (id, a) (offL id L)).length ≤ n + 1 := by rw [ins_len]; have := off_len id L; omega
  cases hq : q id with
  | some b =>
    obtain ⟨x, hx, e1, e2⟩ := rm.2 id b hq
    obtain ⟨i, hi, ei⟩ := mem_atM hx
    have key : atM E i = ⟨b, id, (atM E i).t⟩ := by rw [ei, ← e1, ← e2]
    have eb : (atM E i).b = b := by rw [ei]; exact e2
    have eid : (atM E i).i = id := by rw [ei]; exact e1
    have C := clset_old (S := S) Q hp M hl i hi at' a ha (by rw [eid]; exact hid) (by rw [eid, eb]; exact hq)
    rw [eid] at C
    refine C.mono ?_
    rintro e W' ⟨rfl, w1, H, hw, X⟩
    refine ⟨rfl, _, ck_fin (S0 := OwnC cb v E) (n := n + 1) (L := insL (id, a) (offL id L)) H (fun k hk => .inl (hS k hk)) hw (q := q) ?_ ?_ ?_ hm n0 n1 l1 lt, ⟨X.mono hS, fun k hk => grS_ct hk⟩⟩
    · have b1 := X.block mk M.lt (fun e => Q.nmk M e rfl)
      obtain ⟨D, d1, d2⟩ := M.move b1
      exact ⟨D, d1.mono (Nat.le_succ _), d2⟩
    · have mm : ∀ y, y ∈ E.set i ⟨(atM E i).b, id, a⟩ → y = ⟨(atM E i).b, id, a⟩ ∨ y ∈ E := fun y hy => (List.mem_or_eq_of_mem_set hy).symm
      refine ⟨fun y hy => ?_, fun s c hs => ?_⟩
      · rcases mm y hy with e | e
        · rw [e, eb]; exact hq
        · exact rm.1 y e
      · obtain ⟨y, hy, f1, f2⟩ := rm.2 s c hs
        obtain ⟨j, hj, ej⟩ := mem_atM hy
        by_cases c1 : i = j
        · refine ⟨⟨(atM E i).b, id, a⟩, ?_, ?_, ?_⟩
          · have := atM_mem (E := E.set i ⟨(atM E i).b, id, a⟩) (k := i) (by rw [List.length_set]; exact hi)
            rw [atM_set _ _ _ _ hi, if_pos rfl] at this
            exact this
          · rw [← f1, ← ej, ← c1]; exact eid.symm
          · rw [← f2, ← ej, ← c1]
        · refine ⟨y, ?_, f1, f2⟩
          have := atM_mem (E := E.set i ⟨(atM E i).b, id, a⟩) (k := j) (by rw [List.length_set]; exact hj)
          rw [atM_set _ _ _ _ hi, if_neg c1, ej] at this
          exact this
    · exact rl.turn hi ⟨(atM E i).b, id, a⟩ eid.symm
  | none =>
    have ni : ∀ p ∈ L, p.1 ≠ id := fun p hp e => by
      obtain ⟨x, hx, ex⟩ := rl.mem.1 hp
      have := rm.1 x hx
      have e3 : x.i = id := by rw [← ex] at e; exact e
      rw [e3, hq] at this
      cases this
    refine (clset_new Q hp M hl hn id at' a ha hid hq).mono ?_
    rintro e W' ⟨rfl, w1, H, hw, M', X⟩
    refine ⟨rfl, _, ck_fin (S0 := fun k => OwnC cb v E k ∨ k = W.heap.size) (n := n + 1) (L := insL (id, a) (offL id L)) H (fun k hk => by
      rcases hk with e | e
      · exact .inl (hS k e)
      · exact .inr (by rw [e]; exact Nat.le_refl _)) hw M' ?_ ?_ hm n0 n1 l1 lt, ⟨X.mono (fun k hk => by
      rcases hk with e | e
      · exact hS k e
      · rw [e]; exact hm), fun k hk => grS_ct hk⟩⟩
    · refine ⟨fun y hy => ?_, fun s c hs => ?_⟩
      · rcases List.mem_append.1 hy with e | e
        · rw [updI_other]
          · exact rm.1 y e
          · intro e3
            have := rm.1 y e
            rw [e3, hq] at this
            cases this
        · rw [List.mem_singleton.1 e]
          exact updI_same ..
      · by_cases e : s = id
        · rw [e, updI_same] at hs
          exact ⟨_, List.mem_append_right _ (List.mem_singleton.2 rfl), e.symm, Option.some.inj hs⟩
        · rw [updI_other _ _ e] at hs
          obtain ⟨y, hy, f⟩ := rm.2 s c hs
          exact ⟨y, List.mem_append_left _ hy, f⟩
    · have := rl.push ⟨W.heap.size, id, a⟩ ni
      rw [off_none ni]
      exact this
end Go.Proofs.Ytofnnphpogpcdaa
