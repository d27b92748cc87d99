/- Health in memory: three maps; what stays. -/
import Derived.Test.YtlaigjapnmgjeaaPlA
namespace Go.Proofs.Ytlaigjapnmgjeaa
open Go.RowKit
set_option linter.unusedVariables false

/-- How a bout reads. -/
def boutE (v : Value) : Option (DataW Nat × List MemPlace) :=
  match v with
  | .agg xs => match xs.toList with
    | [.int .i64 a, .int .i64 b] => some (.agg [.lit (.int .i64 a), .lit (.int .i64 b)], [])
    | _ => none
  | _ => none
theorem boutE_mk (a b : Int) : boutE (.agg #[.int .i64 a, .int .i64 b]) = some (.agg [.lit (.int .i64 a), .lit (.int .i64 b)], []) := rfl
theorem boutE_inv {v : Value} {z : DataW Nat × List MemPlace} (h : boutE v = some z) : ∃ a b, v = .agg #[.int .i64 a, .int .i64 b] ∧ z = (.agg [.lit (.int .i64 a), .lit (.int .i64 b)], []) := by
  unfold boutE at h
  split at h
  · rename_i xs
    split at h
    · rename_i a b hx
      refine ⟨a, b, ?_, ?_⟩
      · congr 1
        exact Array.toList_inj.1 hx
      · injection h with h; exact h.symm
    · cases h
  · cases h
abbrev BF := KS → Option (Int × Int)
/-- A map of bouts by texts. -/
def BM (w : World) (m n : Nat) (q : BF) : Prop := ∃ D : DataW Nat, w.ownsMap Try.prog 9 boutE m n D ∧ ∀ s : KS, Maps.has D (kL s) = (q s).isSome ∧ ∀ x, q s = some x → ∀ zd, D.atKey (kL s) zd = .agg [.lit (.int .i64 x.1), .lit (.int .i64 x.2)]
theorem BM.lt {w : World} {m n : Nat} {q : BF} (h : BM w m n q) : m < w.heap.size := by obtain ⟨D, h1, _⟩ := h; exact h1.lt
theorem BM.blk {w : World} {m n : Nat} {q : BF} (h : BM w m n q) : ∃ es cl, w.heap[m]? = some (.map es cl) := by obtain ⟨D, ⟨es, cl, h1, _⟩, _⟩ := h; exact ⟨es, cl, h1⟩
theorem BM.mono {w : World} {m n n' : Nat} {q : BF} (h : BM w m n q) (hn : n ≤ n') : BM w m n' q := by obtain ⟨D, h1, h2⟩ := h; exact ⟨D, h1.mono hn, h2⟩
theorem BM.move {w w' : World} {m n : Nat} {q : BF} (h : BM w m n q) (e : w'.heap[m]? = w.heap[m]?) : BM w' m n q := by
  obtain ⟨D, ⟨es, cl, h1, r⟩, h2⟩ := h
  exact ⟨D, ⟨es, cl, e.trans h1, r⟩, h2⟩
theorem BM.new (w : World) : BM (w.alloc (.map #[] 0)) w.heap.size 0 (fun _ => none) := ⟨.map [], World.ownsMap_made (H := Nat) w Try.prog 9 boutE, fun s => ⟨rfl, fun x hx => by cases hx⟩⟩
theorem agg_inj {a b c d : Int} {p p' : List MemPlace} (h : ((DataW.agg [.lit (.int .i64 a), .lit (.int .i64 b)] : DataW Nat), p) = (.agg [.lit (.int .i64 c), .lit (.int .i64 d)], p')) : a = c ∧ b = d := by
  injection h with h _
  injection h with h
  injection h with h1 h2
  injection h2 with h2 _
  exact ⟨lit_inj h1, lit_inj h2⟩
theorem zeroBout (w : World) : (zeroValue 103).run Try.prog w = .ok (.agg #[.int .i64 0, .int .i64 0]) w := Try.zeroValue103 w
theorem BM.look {w : World} {m n : Nat} {q : BF} (h : BM w m n q) {s : KS} (hs : s.size ≤ maxLen) : ∃ x : Int × Int, (Instr.lookup 93 (.map (some m)) (.string s) true).run Try.prog w = .ok (.tuple #[.agg #[.int .i64 x.1, .int .i64 x.2], .bool (q s).isSome]) w ∧ ((q s).isSome = true → q s = some x) := by
  obtain ⟨D, h1, h2⟩ := h
  obtain ⟨v, ps, hrun, hv⟩ := h1.look_ok KSt Try.underlying93 (zeroBout _) (boutE_mk 0 0) (key_of hs)
  obtain ⟨a, b, rfl, hz⟩ := boutE_inv hv
  refine ⟨(a, b), by rw [hrun, (h2 s).1], fun hq => ?_⟩
  obtain ⟨y, hy⟩ := Option.isSome_iff_exists.1 hq
  rw [(h2 s).2 y hy] at hz
  obtain ⟨e1, e2⟩ := agg_inj hz
  rw [hy, ← e1, ← e2]
theorem BM.put {w : World} {m n : Nat} {q : BF} (h : BM w m n q) (hn : n < maxLen) {s : KS} (hs : s.size ≤ maxLen) (a b : Int) : ∃ w', (Instr.mapUpdate 93 (.map (some m)) (.string s) (.agg #[.int .i64 a, .int .i64 b])).run Try.prog w = .ok () w' ∧ BM w' m (n + 1) (upd q s (some (a, b))) ∧ w.grownBy w' (some m) := by
  obtain ⟨D, h1, h2⟩ := h
  obtain ⟨w', r, o, g⟩ := h1.update KSt Try.underlying93 hn (key_of hs) (boutE_mk a b)
  refine ⟨w', r, ⟨_, o, fun u => ?_⟩, g⟩
  by_cases e : u = s
  · rw [e, upd_same]
    refine ⟨Maps.has_put_same h1.isMap (by exact trivial) _, fun x hx zd => ?_⟩
    obtain rfl : (a, b) = x := Option.some.inj hx
    rw [Maps.atKey_put_same h1.isMap (by exact trivial)]
  · rw [upd_other _ _ e]
    refine ⟨by rw [Maps.has_put_other (kL_ne e), (h2 u).1], fun x hx zd => ?_⟩
    rw [Maps.atKey_put_other (kL_ne e), (h2 u).2 x hx]
/-- Three blocks may turn, no other. -/
structure FrM (a b c : Nat) (w w' : World) : Prop where
  os : w'.os = w.os
  tape : w'.tape = w.tape
  output : w'.output = w.output
  size : w.heap.size ≤ w'.heap.size
  block : ∀ k, k < w.heap.size → k ≠ a → k ≠ b → k ≠ c → w'.heap[k]? = w.heap[k]?
theorem FrM.refl (a b c : Nat) (w : World) : FrM a b c w w := ⟨rfl, rfl, rfl, Nat.le_refl _, fun _ _ _ _ _ => rfl⟩
theorem FrM.trans {a b c : Nat} {u v w : World} (h : FrM a b c u v) (k : FrM a b c v w) : FrM a b c u w :=
  ⟨k.os.trans h.os, k.tape.trans h.tape, k.output.trans h.output, Nat.le_trans h.size k.size, fun i hi x y z => (k.block i (Nat.lt_of_lt_of_le hi h.size) x y z).trans (h.block i hi x y z)⟩
theorem FrM.bel {a b c : Nat} {u v w : World} (h : FrM a b c u v) (k : Below v.heap.size v w) : FrM a b c u w :=
  ⟨k.os.trans h.os, k.tape.trans h.tape, k.output.trans h.output, Nat.le_trans h.size k.size, fun i hi x y z => (k.block i (Nat.lt_of_lt_of_le hi h.size)).trans (h.block i hi x y z)⟩
theorem FrM.turn {a b c : Nat} {u v w : World} (h : FrM a b c u v) {m : Nat} (k : v.grownBy w (some m)) (hm : m = a ∨ m = b ∨ m = c) : FrM a b c u w :=
  ⟨k.os.trans h.os, k.tape.trans h.tape, k.output.trans h.output, Nat.le_trans h.size k.size, fun i hi x y z => (k.block i (Nat.lt_of_lt_of_le hi h.size) (fun e => by
    cases e
    rcases hm with q | q | q
    · exact x q
    · exact y q
    · exact z q)).trans (h.block i hi x y z)⟩
theorem FrM.below {a b c B : Nat} {w w' : World} (h : FrM a b c w w') (ha : B ≤ a) (hb : B ≤ b) (hc : B ≤ c) (hB : B ≤ w.heap.size) : Below B w w' :=
  ⟨h.os, h.tape, h.output, h.size, fun k hk => h.block k (Nat.lt_of_lt_of_le hk hB) (by omega) (by omega) (by omega)⟩
/-- Health: in block h. -/
structure HL (w : World) (h a b c n : Nat) (t f : KS → Int) (q : BF) : Prop where
  bk : w.heap[h]? = some (.cells #[.map (some a), .map (some b), .map (some c)] 95)
  ta : IM w a n t
  fa : IM w b n f
  qa : BM w c n q
  d1 : a ≠ b
  d2 : a ≠ c
  d3 : b ≠ c
  qr : ∀ s x, q s = some x → InR x.1 ∧ InR x.2
theorem HL.ne {w : World} {h a b c n : Nat} {t f : KS → Int} {q : BF} (x : HL w h a b c n t f q) : h ≠ a ∧ h ≠ b ∧ h ≠ c := by
  obtain ⟨_, _, e1⟩ := x.ta.blk
  obtain ⟨_, _, e2⟩ := x.fa.blk
  obtain ⟨_, _, e3⟩ := x.qa.blk
  refine ⟨fun e => ?_, fun e => ?_, fun e => ?_⟩
  · rw [← e, x.bk] at e1; cases e1
  · rw [← e, x.bk] at e2; cases e2
  · rw [← e, x.bk] at e3; cases e3
theorem HL.c0 {w : World} {h a b c n : Nat} {t f : KS → Int} {q : BF} (x : HL w h a b c n t f q) : w.cell? ⟨h, 0, none⟩ = some (.map (some a)) := tblk_cell x.bk rfl
theorem HL.c1 {w : World} {h a b c n : Nat} {t f : KS → Int} {q : BF} (x : HL w h a b c n t f q) : w.cell? ⟨h, 1, none⟩ = some (.map (some b)) := tblk_cell x.bk rfl
theorem HL.c2 {w : World} {h a b c n : Nat} {t f : KS → Int} {q : BF} (x : HL w h a b c n t f q) : w.cell? ⟨h, 2, none⟩ = some (.map (some c)) := tblk_cell x.bk rfl
theorem HL.lt {w : World} {h a b c n : Nat} {t f : KS → Int} {q : BF} (x : HL w h a b c n t f q) : h < w.heap.size := (Array.getElem?_eq_some_iff.1 x.bk).1
theorem HL.keep {w w' : World} {h a b c n : Nat} {t f : KS → Int} {q : BF} (x : HL w h a b c n t f q) (k : Below w.heap.size w w') : HL w' h a b c n t f q :=
  ⟨(k.block h x.lt).trans x.bk, x.ta.move (k.block a x.ta.lt), x.fa.move (k.block b x.fa.lt), x.qa.move (k.block c x.qa.lt), x.d1, x.d2, x.d3, x.qr⟩
theorem HL.mono {w : World} {h a b c n n' : Nat} {t f : KS → Int} {q : BF} (x : HL w h a b c n t f q) (hn : n ≤ n') : HL w h a b c n' t f q :=
  ⟨x.bk, x.ta.mono hn, x.fa.mono hn, x.qa.mono hn, x.d1, x.d2, x.d3, x.qr⟩
theorem HL.setT {w w' : World} {h a b c n : Nat} {t f t' : KS → Int} {q : BF} (x : HL w h a b c n t f q) (k : IM w' a (n + 1) t') (g : w.grownBy w' (some a)) : HL w' h a b c (n + 1) t' f q :=
  ⟨(g.block h x.lt (fun e => x.ne.1 (by cases e; rfl))).trans x.bk, k, (x.fa.move (g.block b x.fa.lt (fun e => x.d1 (by cases e; rfl)))).mono (Nat.le_succ _), (x.qa.move (g.block c x.qa.lt (fun e => x.d2 (by cases e; rfl)))).mono (Nat.le_succ _), x.d1, x.d2, x.d3, x.qr⟩
theorem HL.setF {w w' : World} {h a b c n n' : Nat} {t f f' : KS → Int} {q : BF} (x : HL w h a b c n t f q) (k : IM w' b n' f') (hn : n ≤ n') (g : w.grownBy w' (some b)) : HL w' h a b c n' t f' q :=
  ⟨(g.block h x.lt (fun e => x.ne.2.1 (by cases e; rfl))).trans x.bk, (x.ta.move (g.block a x.ta.lt (fun e => x.d1 (by cases e; rfl)))).mono hn, k, (x.qa.move (g.block c x.qa.lt (fun e => x.d3 (by cases e; rfl)))).mono hn, x.d1, x.d2, x.d3, x.qr⟩
theorem HL.setQ {w w' : World} {h a b c n : Nat} {t f : KS → Int} {q : BF} {s : KS} {y : Int × Int} (x : HL w h a b c n t f q) (k : BM w' c (n + 1) (upd q s (some y))) (hy : InR y.1 ∧ InR y.2) (g : w.grownBy w' (some c)) : HL w' h a b c (n + 1) t f (upd q s (some y)) :=
  ⟨(g.block h x.lt (fun e => x.ne.2.2 (by cases e; rfl))).trans x.bk, (x.ta.move (g.block a x.ta.lt (fun e => x.d2 (by cases e; rfl)))).mono (Nat.le_succ _), (x.fa.move (g.block b x.fa.lt (fun e => x.d3 (by cases e; rfl)))).mono (Nat.le_succ _), k, x.d1, x.d2, x.d3, fun u z hz => by
    by_cases e : u = s
    · rw [e, upd_same] at hz
      rw [← Option.some.inj hz]; exact hy
    · rw [upd_other _ _ e] at hz
      exact x.qr u z hz⟩
end Go.Proofs.Ytlaigjapnmgjeaa
