/- Pool: Take. -/
import Derived.Test.YtlaigjapnmgjeaaPoI
import Derived.Deep.RegionLaw
namespace Go.Proofs.Ytlaigjapnmgjeaa
open Go.RowKit Go.Shelf
attribute [local go_sem] Oper.semAt_some
set_option linter.unusedVariables false

theorem results_cells2 {fn : Func} {t u : Tmp} {ty tz : TypeId} (h : fn.results = #[.cell t ty, .cell u tz]) (tmps : Array Value) (P : Program) (w : World) (a b : Addr) (x y : Value)
    (ha : tmps.getD t undef = .pointer (some a)) (hb : tmps.getD u undef = .pointer (some b)) (hx : (loadVar ty a).run P w = .ok x w) (hy : (loadVar tz b).run P w = .ok y w) :
    (results fn tmps).run P w = .ok (.tuple #[x, y]) w := by
  unfold results
  rw [h]
  rw [Array.getD_eq_getD_getElem?] at ha hb
  simp [ Sem.run_bind, ha, hb, asAddr, hx, hy, Result.andThen]
/-- What Take leaves. -/
def TakeR (w : World) (pb mk m N : Nat) (most last : Int) (q : HF) (rs : List Int) (v : Value) (aim : KS) (e : Ending) (w' : World) : Prop :=
  (∃ p0 x s v', rs.reverse = p0 ++ x :: s ∧ (∀ y ∈ p0, neA q aim y) ∧ ¬ neA q aim x ∧ e = .returned (.tuple #[.agg #[.int .i64 x, .int .i64 0, .bool false], .int .i64 0]) ∧ PL w' pb mk (m + 1) N most last (updI q x (some ((lookH (q x)).1, 2))) (rs.filter (butH x)) v' ∧ PX pb mk v v' w w') ∨
  ((∀ y ∈ rs, neA q aim y) ∧ (N : Int) < most ∧ e = .returned (.tuple #[.agg #[.int .i64 (last + 1), .int .i64 0, .bool true], .int .i64 0]) ∧ PL w' pb mk (m + 1) (N + 1) most (last + 1) (updI q (last + 1) (some (aim, 1))) rs v ∧ PX pb mk v v w w') ∨
  ((∀ y ∈ rs, neA q aim y) ∧ ¬ (N : Int) < most ∧ rs = [] ∧ e = .returned (.tuple #[.agg #[.int .i64 0, .int .i64 0, .bool false], .int .i64 6]) ∧ PL w' pb mk (m + 1) N most last q rs v ∧ PX pb mk v v w w') ∨
  ((∀ y ∈ rs, neA q aim y) ∧ ¬ (N : Int) < most ∧ ∃ x r v', rs = x :: r ∧ e = .returned (.tuple #[.agg #[.int .i64 (last + 1), .int .i64 x, .bool true], .int .i64 0]) ∧ PL w' pb mk (m + 1) N most (last + 1) (updI (updI q x none) (last + 1) (some (aim, 1))) (rs.filter (butH x)) v' ∧ PX pb mk v v' w w')
/-- The lease and the error stored. -/
theorem store4 {W2 : World} {b pb mk n N : Nat} {most last : Int} {q : HF} {rs : List Int} {v : Value} {h0 s0 e0 : Int} {f0 : Bool} (h sh er : Int) (fr : Bool) (k2 : W2.heap[b + 1 + 1]? = some (.cells #[.int .i64 h0, .int .i64 s0, .bool f0] 39)) (k3 : W2.heap[b + 1 + 1 + 1]? = some (.cells #[.int .i64 e0] 40)) (hpb : pb < b) (hmk : mk < b) (H2 : PL W2 pb mk n N most last q rs v) {D : Nat} (hD : W2.heap[D]? = some (.deferred (some []))) {w0 : World} {v0 : Value} (hb : w0.heap.size ≤ b) (X2 : PX pb mk v0 v w0 W2) :
    ∃ V, V = ((((W2.setCell ⟨b + 1 + 1, 0, none⟩ (.int .i64 h)).setCell ⟨b + 1 + 1, 1, none⟩ (.int .i64 sh)).setCell ⟨b + 1 + 1, 2, none⟩ (.bool fr)).setCell ⟨b + 1 + 1 + 1, 0, none⟩ (.int .i64 er)) ∧ V.heap[D]? = some (.deferred (some [])) ∧ PL (V.putObj D (.deferred none)) pb mk n N most last q rs v ∧ (b ≤ D → PX pb mk v0 v w0 (V.putObj D (.deferred none))) ∧
      (V.putObj D (.deferred none)).cell? ⟨b + 1 + 1, 0, none⟩ = some (.int .i64 h) ∧ (V.putObj D (.deferred none)).cell? ⟨b + 1 + 1, 1, none⟩ = some (.int .i64 sh) ∧ (V.putObj D (.deferred none)).cell? ⟨b + 1 + 1, 2, none⟩ = some (.bool fr) ∧ (V.putObj D (.deferred none)).cell? ⟨b + 1 + 1 + 1, 0, none⟩ = some (.int .i64 er) := by
  refine ⟨_, rfl, ?_⟩
  generalize hV : ((((W2.setCell ⟨b + 1 + 1, 0, none⟩ (.int .i64 h)).setCell ⟨b + 1 + 1, 1, none⟩ (.int .i64 sh)).setCell ⟨b + 1 + 1, 2, none⟩ (.bool fr)).setCell ⟨b + 1 + 1 + 1, 0, none⟩ (.int .i64 er)) = V
  have off : ∀ j, j ≠ b + 2 → j ≠ b + 3 → V.heap[j]? = W2.heap[j]? := fun j h1 h2 => by
    rw [← hV]
    exact (Below.heap_setCell _ _ _ _ (by exact h2)).trans ((Below.heap_setCell _ _ _ _ (by exact h1)).trans ((Below.heap_setCell _ _ _ _ (by exact h1)).trans (Below.heap_setCell _ _ _ _ (by exact h1))))
  have s1 : (W2.setCell ⟨b + 2, 0, none⟩ (.int .i64 h)).heap[b + 2]? = some (.cells #[.int .i64 h, .int .i64 s0, .bool f0] 39) := by rw [ni_set k2 (by show 0 < 3; decide)]; rfl
  have s2 : ((W2.setCell ⟨b + 2, 0, none⟩ (.int .i64 h)).setCell ⟨b + 2, 1, none⟩ (.int .i64 sh)).heap[b + 2]? = some (.cells #[.int .i64 h, .int .i64 sh, .bool f0] 39) := by rw [ni_set s1 (by show 1 < 3; decide)]; rfl
  have s3 : (((W2.setCell ⟨b + 2, 0, none⟩ (.int .i64 h)).setCell ⟨b + 2, 1, none⟩ (.int .i64 sh)).setCell ⟨b + 2, 2, none⟩ (.bool fr)).heap[b + 2]? = some (.cells #[.int .i64 h, .int .i64 sh, .bool fr] 39) := by rw [ni_set s2 (by show 2 < 3; decide)]; rfl
  have v2 : V.heap[b + 2]? = some (.cells #[.int .i64 h, .int .i64 sh, .bool fr] 39) := by
    rw [← hV]
    exact (Below.heap_setCell _ _ _ _ (by show b + 2 ≠ b + 3; omega)).trans s3
  have t3 : (((W2.setCell ⟨b + 2, 0, none⟩ (.int .i64 h)).setCell ⟨b + 2, 1, none⟩ (.int .i64 sh)).setCell ⟨b + 2, 2, none⟩ (.bool fr)).heap[b + 3]? = some (.cells #[.int .i64 e0] 40) := (Below.heap_setCell _ _ _ _ (by show b + 3 ≠ b + 2; omega)).trans ((Below.heap_setCell _ _ _ _ (by show b + 3 ≠ b + 2; omega)).trans ((Below.heap_setCell _ _ _ _ (by show b + 3 ≠ b + 2; omega)).trans k3))
  have v3 : V.heap[b + 3]? = some (.cells #[.int .i64 er] 40) := by
    rw [← hV]
    exact (ni_set t3 (by show 0 < 1; decide)).trans rfl
  have hos : V.os = W2.os ∧ V.tape = W2.tape ∧ V.output = W2.output ∧ V.heap.size = W2.heap.size := by rw [← hV]; exact ⟨rfl, rfl, rfl, by simp [World.setCell]⟩
  have hgn : ∀ g, v.ownBlock = some g → g ≠ b + 2 ∧ g ≠ b + 3 := fun g hgg => by
    obtain ⟨cur, hc⟩ := H2.ro.blk g hgg
    refine ⟨fun e => ?_, fun e => ?_⟩
    · rw [e] at hc
      have k2' : W2.heap[b + 2]? = _ := k2
      rw [k2'] at hc
      injection hc with hc
      injection hc with _ hc _
      exact absurd hc (by decide)
    · rw [e] at hc
      have k3' : W2.heap[b + 3]? = _ := k3
      rw [k3'] at hc
      injection hc with hc
      injection hc with _ hc _
      exact absurd hc (by decide)
  have hD2 : D ≠ b + 2 := (not_cells hD rfl k2).symm
  have hD3 : D ≠ b + 3 := (not_cells hD rfl k3).symm
  have dV : V.heap[D]? = some (.deferred (some [])) := (off D hD2 hD3).trans hD
  have hDm : mk ≠ D := fun e => by
    obtain ⟨es, cl, hm⟩ := H2.hm.blk
    rw [e, hD] at hm
    cases hm
  have HV : PL V pb mk n N most last q rs v := ⟨(off pb (by omega) (by omega)).trans H2.bk, H2.hm.move (off mk (by omega) (by omega)), H2.ro.move fun g hgg => off g (hgn g hgg).1 (hgn g hgg).2, H2.qs⟩
  have XV : PX pb mk v0 v w0 V := ⟨hos.1.trans X2.os, hos.2.1.trans X2.tape, hos.2.2.1.trans X2.output, by rw [hos.2.2.2]; exact X2.size, fun j hj a b c => (off j (by omega) (by omega)).trans (X2.block j hj a b c), X2.own⟩
  have p2 := put_same (o' := .deferred none) dV rfl v2
  have p3 := put_same (o' := .deferred none) dV rfl v3
  exact ⟨dV, HV.putO _ dV rfl hDm, fun hb => XV.putO D _ (by omega), tblk_cell p2 rfl, tblk_cell p2 rfl, tblk_cell p2 rfl, tblk_cell p3 rfl⟩
/-- One is found: behind wake. -/
theorem take_found {w W W2 : World} {pb mk m N : Nat} {most last : Int} {q : HF} {rs : List Int} {v v' : Value} {aim : KS} {pre : List Int} {x : Int} {B : Nat} (hI : TI w pb mk m N most last q rs v aim pre W) (hpb : pb < w.heap.size) (hmk : mk < w.heap.size) (hg : ∀ g, v.ownBlock = some g → g < w.heap.size) (hB : w.heap.size ≤ B) (hx : (ByteArray.toList (lookH (q x)).1 == ByteArray.toList aim) = true)
    (H2 : PL W2 pb mk (m + 1) N most last (updI q x (some ((lookH (q x)).1, 2))) (rs.filter (butH x)) v') (X2 : PX pb mk v v' W W2) :
    W2.cell? ⟨w.heap.size + 1 + 1, 0, none⟩ = some (.int .i64 0) ∧ W2.cell? ⟨w.heap.size + 1 + 1, 1, none⟩ = some (.int .i64 0) ∧ W2.cell? ⟨w.heap.size + 1 + 1, 2, none⟩ = some (.bool false) ∧ (∀ o, W2.frozen? ⟨w.heap.size + 1 + 1, o, none⟩ = false) ∧ W2.cell? ⟨w.heap.size + 1 + 1 + 1, 0, none⟩ = some (.int .i64 0) ∧ W2.frozen? ⟨w.heap.size + 1 + 1 + 1, 0, none⟩ = false ∧
    Hid (KeepB B W ((((W2.setCell ⟨w.heap.size + 1 + 1, 0, none⟩ (.int .i64 x)).setCell ⟨w.heap.size + 1 + 1, 1, none⟩ (.int .i64 0)).setCell ⟨w.heap.size + 1 + 1, 2, none⟩ (.bool false)).setCell ⟨w.heap.size + 1 + 1 + 1, 0, none⟩ (.int .i64 0)) ∧ TX w pb mk m N most last q rs v aim (pre ++ [x]) ((((W2.setCell ⟨w.heap.size + 1 + 1, 0, none⟩ (.int .i64 x)).setCell ⟨w.heap.size + 1 + 1, 1, none⟩ (.int .i64 0)).setCell ⟨w.heap.size + 1 + 1, 2, none⟩ (.bool false)).setCell ⟨w.heap.size + 1 + 1 + 1, 0, none⟩ (.int .i64 0))) := by
  have key : ∀ {j : Nat} {o : Obj}, W.heap[j]? = some o → w.heap.size ≤ j → W2.heap[j]? = some o := fun {j o} hj hle => (X2.block j (Array.getElem?_eq_some_iff.1 hj).1 (by omega) (by omega) (fun e => by have := hg j e; omega)).trans hj
  have k2 := key hI.k2 (by omega)
  have k3 := key hI.k3 (by omega)
  generalize hV : ((((W2.setCell ⟨w.heap.size + 1 + 1, 0, none⟩ (.int .i64 x)).setCell ⟨w.heap.size + 1 + 1, 1, none⟩ (.int .i64 0)).setCell ⟨w.heap.size + 1 + 1, 2, none⟩ (.bool false)).setCell ⟨w.heap.size + 1 + 1 + 1, 0, none⟩ (.int .i64 0)) = V
  have off : ∀ j, j ≠ w.heap.size + 2 → j ≠ w.heap.size + 3 → V.heap[j]? = W2.heap[j]? := fun j h1 h2 => by
    rw [← hV]
    exact (Below.heap_setCell _ _ _ _ (by exact h2)).trans ((Below.heap_setCell _ _ _ _ (by exact h1)).trans ((Below.heap_setCell _ _ _ _ (by exact h1)).trans (Below.heap_setCell _ _ _ _ (by exact h1))))
  have s1 : (W2.setCell ⟨w.heap.size + 2, 0, none⟩ (.int .i64 x)).heap[w.heap.size + 2]? = some (.cells #[.int .i64 x, .int .i64 0, .bool false] 39) := by simp [World.setCell, Array.getElem?_modify, k2]
  have s2 : ((W2.setCell ⟨w.heap.size + 2, 0, none⟩ (.int .i64 x)).setCell ⟨w.heap.size + 2, 1, none⟩ (.int .i64 0)).heap[w.heap.size + 2]? = some (.cells #[.int .i64 x, .int .i64 0, .bool false] 39) := by rw [ni_set s1 (by show 1 < 3; decide)]; rfl
  have s3 : (((W2.setCell ⟨w.heap.size + 2, 0, none⟩ (.int .i64 x)).setCell ⟨w.heap.size + 2, 1, none⟩ (.int .i64 0)).setCell ⟨w.heap.size + 2, 2, none⟩ (.bool false)).heap[w.heap.size + 2]? = some (.cells #[.int .i64 x, .int .i64 0, .bool false] 39) := by rw [ni_set s2 (by show 2 < 3; decide)]; rfl
  have v2 : V.heap[w.heap.size + 2]? = some (.cells #[.int .i64 x, .int .i64 0, .bool false] 39) := by
    rw [← hV]
    exact (Below.heap_setCell _ _ _ _ (by show w.heap.size + 2 ≠ w.heap.size + 3; omega)).trans s3
  have t3 : (((W2.setCell ⟨w.heap.size + 2, 0, none⟩ (.int .i64 x)).setCell ⟨w.heap.size + 2, 1, none⟩ (.int .i64 0)).setCell ⟨w.heap.size + 2, 2, none⟩ (.bool false)).heap[w.heap.size + 3]? = some (.cells #[.int .i64 0] 40) := (Below.heap_setCell _ _ _ _ (by show w.heap.size + 3 ≠ w.heap.size + 2; omega)).trans ((Below.heap_setCell _ _ _ _ (by show w.heap.size + 3 ≠ w.heap.size + 2; omega)).trans ((Below.heap_setCell _ _ _ _ (by show w.heap.size + 3 ≠ w.heap.size + 2; omega)).trans k3))
  have v3 : V.heap[w.heap.size + 3]? = some (.cells #[.int .i64 0] 40) := by
    rw [← hV]
    exact (ni_set t3 (by decide)).trans rfl
  have hos : V.os = W2.os ∧ V.tape = W2.tape ∧ V.output = W2.output ∧ V.heap.size = W2.heap.size := by rw [← hV]; exact ⟨rfl, rfl, rfl, by simp [World.setCell]⟩
  have hgn : ∀ g, v'.ownBlock = some g → g ≠ w.heap.size + 2 ∧ g ≠ w.heap.size + 3 := fun g hgg => by
    obtain ⟨cur, hc⟩ := H2.ro.blk g hgg
    refine ⟨fun e => ?_, fun e => ?_⟩
    · rw [e, k2] at hc
      injection hc with hc
      injection hc with _ hc _
      exact absurd hc (by decide)
    · rw [e, k3] at hc
      injection hc with hc
      injection hc with _ hc _
      exact absurd hc (by decide)
  have HV : PL V pb mk (m + 1) N most last (updI q x (some ((lookH (q x)).1, 2))) (rs.filter (butH x)) v' := ⟨(off pb (by omega) (by omega)).trans H2.bk, H2.hm.move (off mk (by omega) (by omega)), H2.ro.move fun g hgg => off g (hgn g hgg).1 (hgn g hgg).2, H2.qs⟩
  have XV : PX pb mk v v' w V := by
    refine ⟨hos.1.trans (X2.os.trans hI.be.os), hos.2.1.trans (X2.tape.trans hI.be.tape), hos.2.2.1.trans (X2.output.trans hI.be.output), by rw [hos.2.2.2]; exact Nat.le_trans hI.be.size X2.size, fun j hj a b c => (off j (by omega) (by omega)).trans ((X2.block j (Nat.lt_of_lt_of_le hj hI.be.size) a b c).trans (hI.be.block j hj)), ?_⟩
    rcases X2.own with e | ⟨g, e, hge⟩
    · exact .inl e
    · exact .inr ⟨g, e, Nat.le_trans hI.be.size hge⟩
  refine ⟨tblk_cell k2 rfl, tblk_cell k2 rfl, tblk_cell k2 rfl, fun o => by simp [World.frozen?, k2], tblk_cell k3 rfl, by simp [World.frozen?, k3], fun j o hj ho hc => ?_, pre, x, v', rfl, hI.no, (fun c => by unfold neA at c; rw [hx] at c; cases c), v2, v3, HV, XV⟩
  have h2 : j ≠ w.heap.size + 2 := (not_cells ho hc hI.k2).symm
  have h3 : j ≠ w.heap.size + 3 := (not_cells ho hc hI.k3).symm
  exact (off j h2 h3).trans (key ho (by omega))
theorem take_start {w : World} {pb mk m N : Nat} {most last : Int} {q : HF} {rs : List Int} {v : Value} {aim : KS} (H : PL w pb mk m N most last q rs v) : TI w pb mk m N most last q rs v aim [] ((((((w.alloc (.cells #[.pointer (some ⟨pb, 0, none⟩)] 23)).alloc (.cells #[.string aim] 9)).alloc (.cells #[.int .i64 0, .int .i64 0, .bool false] 39)).alloc (.cells #[.int .i64 0] 40)).alloc (.cells #[.int .i64 0] 3)).alloc (.cells #[.pointer (some ⟨pb, 0, none⟩)] 23)) := by
  have n0 := World.alloc_heap_new w (.cells #[.pointer (some ⟨pb, 0, none⟩)] 23)
  have n1 := World.alloc_heap_new (w.alloc (.cells #[.pointer (some ⟨pb, 0, none⟩)] 23)) (.cells #[.string aim] 9)
  have n2 := World.alloc_heap_new ((w.alloc (.cells #[.pointer (some ⟨pb, 0, none⟩)] 23)).alloc (.cells #[.string aim] 9)) (.cells #[.int .i64 0, .int .i64 0, .bool false] 39)
  have n3 := World.alloc_heap_new (((w.alloc (.cells #[.pointer (some ⟨pb, 0, none⟩)] 23)).alloc (.cells #[.string aim] 9)).alloc (.cells #[.int .i64 0, .int .i64 0, .bool false] 39)) (.cells #[.int .i64 0] 40)
  have n4 := World.alloc_heap_new ((((w.alloc (.cells #[.pointer (some ⟨pb, 0, none⟩)] 23)).alloc (.cells #[.string aim] 9)).alloc (.cells #[.int .i64 0, .int .i64 0, .bool false] 39)).alloc (.cells #[.int .i64 0] 40)) (.cells #[.int .i64 0] 3)
  have n5 := World.alloc_heap_new (((((w.alloc (.cells #[.pointer (some ⟨pb, 0, none⟩)] 23)).alloc (.cells #[.string aim] 9)).alloc (.cells #[.int .i64 0, .int .i64 0, .bool false] 39)).alloc (.cells #[.int .i64 0] 40)).alloc (.cells #[.int .i64 0] 3)) (.cells #[.pointer (some ⟨pb, 0, none⟩)] 23)
  simp only [World.size_alloc] at n1 n2 n3 n4 n5
  have up : ∀ {W : World} {k : Nat} {p : Obj} (o : Obj), W.heap[k]? = some p → (W.alloc o).heap[k]? = some p := fun {W k p} o h => (Below.heap_alloc W o k (Array.getElem?_eq_some_iff.1 h).1).trans h
  have B : Below w.heap.size w ((((((w.alloc (.cells #[.pointer (some ⟨pb, 0, none⟩)] 23)).alloc (.cells #[.string aim] 9)).alloc (.cells #[.int .i64 0, .int .i64 0, .bool false] 39)).alloc (.cells #[.int .i64 0] 40)).alloc (.cells #[.int .i64 0] 3)).alloc (.cells #[.pointer (some ⟨pb, 0, none⟩)] 23)) := ((((((Below.refl _ _).alloc (Nat.le_refl _) _).alloc (by simp) _).alloc (by simp; omega) _).alloc (by simp; omega) _).alloc (by simp; omega) _).alloc (by simp; omega) _
  exact ⟨H.keep B, up _ (up _ (up _ (up _ (up _ n0)))), up _ (up _ (up _ (up _ n1))), up _ (up _ (up _ n2)), up _ (up _ n3), up _ n4, n5, (fun y hy => by cases hy), B⟩
set_option maxRecDepth 100000 in
set_option maxHeartbeats 4000000 in
theorem pltake_any (aim : KS) (pb mk m N : Nat) (most last : Int) (q : HF) (rs : List Int) (v : Value) (w : World) (H : PL w pb mk m N most last q rs v) (ha : aim.size ≤ 281474976710656) (hm : m ≤ 900000) (hlr : rs.length ≤ 1000) (hir : ∀ x ∈ rs, InR x ∧ ∃ s, q x = some (s, 3)) (hq0 : q 0 = none) (hst : ∀ g x, q g = some x → x.2 ≠ 0) (hq1 : q (last + 1) = none) (hla : 0 ≤ last ∧ last ≤ 900000) (hN : 1 ≤ N ∨ rs = []) :
    Calls Try.prog 9 #[.pointer (some ⟨pb, 0, none⟩), .string aim] w (TakeR w pb mk m N most last q rs v aim) := by
  refine (callsIn_wide (n := 3)).1 (callsIn_of_wp_marks Try.func9 rfl trivial ?_)
  simp only [Try.ntmps9, List.size_toArray, List.length_cons, List.length_nil, Nat.reduceAdd, Nat.reduceSub, Array.replicate_succ, Array.replicate_zero, List.push_toArray, List.append_toArray, List.nil_append, List.cons_append]
  have HL := hidE (fun W => plresting_any pb W)
  gi_wp2_with (refine ⟨trivial, ?_⟩; gi_at_call 33; refine (callsIn_wide.2 (HL.out _)).mono ?_; rintro e w' ⟨rfl, rfl⟩)
  rename_i KK HKK
  have hsz0 : ((((((w.alloc (.cells #[.pointer (some ⟨pb, 0, none⟩)] 23)).alloc (.cells #[.string aim] 9)).alloc (.cells #[.int .i64 0, .int .i64 0, .bool false] 39)).alloc (.cells #[.int .i64 0] 40)).alloc (.cells #[.int .i64 0] 3)).alloc (.cells #[.pointer (some ⟨pb, 0, none⟩)] 23)).heap.size = w.heap.size + 6 := by simp
  have hI0 : TI w pb mk m N most last q rs v aim [] ((((((w.alloc (.cells #[.pointer (some ⟨pb, 0, none⟩)] 23)).alloc (.cells #[.string aim] 9)).alloc (.cells #[.int .i64 0, .int .i64 0, .bool false] 39)).alloc (.cells #[.int .i64 0] 40)).alloc (.cells #[.int .i64 0] 3)).alloc (.cells #[.pointer (some ⟨pb, 0, none⟩)] 23)) := take_start H
  have hpb := H.lt
  have hmk := H.hm.lt
  have hgg := H.ro.lt
  refine range_resting 3 (w.heap.size + 5) pb mk m N most last q rs v (by decide) (by omega) (fun x hx => (hir x hx).1) rfl rfl (TI w pb mk m N most last q rs v aim) (TX w pb mk m N most last q rs v aim) (TI.put hmk (by rw [hsz0]; omega)) (TX.put hmk (by rw [hsz0]; omega)) TI.alloc TI.rp hI0
    (fun x k => { tmps := #[.pointer (some ⟨pb, 0, none⟩), .string aim, .pointer (some ⟨w.heap.size, 0, none⟩), .pointer (some ⟨w.heap.size + 1, 0, none⟩), .pointer (some ⟨w.heap.size + 1 + 1, 0, none⟩), .pointer (some ⟨w.heap.size + 1 + 1 + 1, 0, none⟩), .pointer (some ⟨w.heap.size + 1 + 1 + 1 + 1, 0, none⟩), .int .i64 x, .pointer (some ⟨k, 0, none⟩), .pointer (some ⟨pb, 0, none⟩), .func (.func 43) #[] #[.pointer (some ⟨w.heap.size + 1 + 1 + 1 + 1 + 1, 0, none⟩)], .int .i64 x, .agg #[.string (lookH (q x)).1, .int .i64 (lookH (q x)).2], undef, undef, undef, undef, undef, undef, undef, undef, undef, undef, undef, undef, undef, undef, undef, undef, undef, undef, undef, undef, undef, undef, undef, undef, undef, undef, undef, undef, undef, undef, undef, undef, undef, undef], defers := [] }) ?assign ?body ?done ?stop
  case assign =>
    intro l x W K hK
    unfold hdO at hK
    gi_wp2
    exact hK
  case body =>
    intro l pre x W k hI hpre hk
    clear hI0 hsz0 HKK
    have c8 : W.cell? ⟨k, 0, none⟩ = some (.string (lookH (q x)).1) := tblk_cell hk rfl
    have c3 : W.cell? ⟨w.heap.size + 1, 0, none⟩ = some (.string aim) := tblk_cell hI.k1 rfl
    have c2 : W.cell? ⟨w.heap.size, 0, none⟩ = some (.pointer (some ⟨pb, 0, none⟩)) := tblk_cell hI.k0 rfl
    have hxm : x ∈ rs := by
      have : x ∈ rs.reverse := hpre.subset (by simp)
      simpa using this
    cases hne : (ByteArray.toList (lookH (q x)).1 == ByteArray.toList aim)
    · obtain ⟨hT, hKB⟩ := hI.next hpb hmk hgg x hne
      have c6 : W.cell? ⟨w.heap.size + 1 + 1 + 1 + 1, 0, none⟩ = some (.int .i64 (lastR pre)) := tblk_cell hI.k4 rfl
      have z6 : W.frozen? ⟨w.heap.size + 1 + 1 + 1 + 1, 0, none⟩ = false := by
        have := hI.k4
        simp [World.frozen?, this]
      have HR : Hid (KeepB (((((((w.alloc (.cells #[.pointer (some ⟨pb, 0, none⟩)] 23)).alloc (.cells #[.string aim] 9)).alloc (.cells #[.int .i64 0, .int .i64 0, .bool false] 39)).alloc (.cells #[.int .i64 0] 40)).alloc (.cells #[.int .i64 0] 3)).alloc (.cells #[.pointer (some ⟨pb, 0, none⟩)] 23)).heap.size) W (W.setCell ⟨w.heap.size + 4, 0, none⟩ (.int .i64 x)) ∧ TI w pb mk m N most last q rs v aim (pre ++ [x]) (W.setCell ⟨w.heap.size + 4, 0, none⟩ (.int .i64 x))) := ⟨fun k o hk => hKB k o (by simp at hk; omega), hT⟩
      clear hT hKB hI hk hpre hxm
      gi_wp2
      exact HR.out
    · obtain ⟨hxr, s, hqs⟩ := hir x hxm
      have hes : (lookH (q x)).1 = s := by rw [hqs]; rfl
      have HW := hidE (plwake_any x s pb mk m N most last q rs v W hI.pl hxr hqs (by omega) (by omega))
      rw [← hes] at HW
      have PS := hidE (fun (W2 : World) (v' : Value) (H2 : PL W2 pb mk (m + 1) N most last (updI q x (some ((lookH (q x)).1, 2))) (rs.filter (butH x)) v') (X2 : PX pb mk v v' W W2) => take_found (B := ((((((w.alloc (.cells #[.pointer (some ⟨pb, 0, none⟩)] 23)).alloc (.cells #[.string aim] 9)).alloc (.cells #[.int .i64 0, .int .i64 0, .bool false] 39)).alloc (.cells #[.int .i64 0] 40)).alloc (.cells #[.int .i64 0] 3)).alloc (.cells #[.pointer (some ⟨pb, 0, none⟩)] 23)).heap.size) hI hpb hmk hgg (by simp; omega) hne H2 X2)
      clear hI hk hpre hxm hir hqs hes hst
      gi_wp2_with (refine ⟨trivial, ?_⟩; gi_at_call 34; refine (CallsIn.inRound l (callsIn_wide.2 HW.out)).mono ?_; rintro e W2 ⟨rfl, v', H2, X2⟩; obtain ⟨q1, q2, q3, q4, q5, q6, q7⟩ := PS.out W2 v' H2 X2; have q40 := q4 0; have q41 := q4 1; have q42 := q4 2; clear PS H2 X2 q4)
      exact q7.out
  case done =>
    intro D W hD hI hK
    refine HKK _ _ ?_
    clear HKK hI0
    rw [hsz0] at hD
    clear hsz0
    have hall : ∀ y ∈ rs, neA q aim y := fun y hy => hI.no y (by simpa using hy)
    have HALL := hidE hall
    have hIdN : ∀ k, TI w pb mk m N most last q rs v aim rs.reverse (W.drewN k) := fun k => hI.keep ⟨rfl, rfl, rfl, Nat.le_refl _, fun _ _ => rfl⟩
    have hKN : ∀ k, (W.drewN k).heap[D]? = some (.deferred (some [])) := fun k => hK
    have c2 : W.cell? ⟨w.heap.size, 0, none⟩ = some (.pointer (some ⟨pb, 0, none⟩)) := tblk_cell hI.k0 rfl
    have d0 := hI.pl.c0
    have d2 := hI.pl.c2
    have hln : ∀ (k : Nat) (ty : TypeId), (Builtin.len_ #[75] ty #[.map (some mk)]).run Try.prog (W.drewN k) = .ok (.int .i64 N) (W.drewN k) := fun k => (hI.pl.hm.move (w' := W.drewN k) rfl).len
    gi_wp2
    rename_i K8 H8
    refine wpIn_mono (Q := Exit.then K8 (fun _ _ _ => False)) ?_ (fun e a w h => by cases e <;> first | exact h | exact h.elim)
    rw [wpIn_wide]
    go_quiet (fail)
    refine H8 _ _ ?_
    have hId := hIdN nq
    have hKD := hKN nq
    clear H8 K8 c2 d0 d2 hln hI hall hIdN hKN hK
    generalize W.drewN nq = WD at *
    have c2 : WD.cell? ⟨w.heap.size, 0, none⟩ = some (.pointer (some ⟨pb, 0, none⟩)) := tblk_cell hId.k0 rfl
    have c3 : WD.cell? ⟨w.heap.size + 1, 0, none⟩ = some (.string aim) := tblk_cell hId.k1 rfl
    have c6 : WD.cell? ⟨w.heap.size + 1 + 1 + 1 + 1, 0, none⟩ = some (.int .i64 (lastR rs.reverse)) := tblk_cell hId.k4 rfl
    have X0 : PX pb mk v v w WD := (PX.refl _ _ _ _).bel hId.be
    have key : ∀ {v' : Value} {W3 : World} {j : Nat} {o : Obj}, PX pb mk v v' WD W3 → WD.heap[j]? = some o → w.heap.size ≤ j → W3.heap[j]? = some o := fun {v' W3 j o} X hj hle => (X.block j (Array.getElem?_eq_some_iff.1 hj).1 (by omega) (by omega) (fun e => by have := hgg j e; omega)).trans hj
    by_cases hNm : (N : Int) < most
    · have dN : decide ((N : Int) < most) = true := decide_eq_true hNm
      have HD := hidE (pldial_any aim pb mk m N most last q rs v WD hId.pl ha (by omega) hq1 (by omega))
      have PS : Hid (∀ W3, PL W3 pb mk (m + 1) (N + 1) most (last + 1) (updI q (last + 1) (some (aim, 1))) rs v → PX pb mk v v WD W3 → (W3.heap[w.heap.size + 1 + 1]? = some (.cells #[.int .i64 0, .int .i64 0, .bool false] 39) ∧ W3.heap[w.heap.size + 1 + 1 + 1]? = some (.cells #[.int .i64 0] 40) ∧ W3.heap[D]? = some (.deferred (some [])))) := fun W3 H3 X3 => ⟨key X3 hId.k2 (by omega), key X3 hId.k3 (by omega), key X3 hKD (by omega)⟩
      have HX0 := hidE X0
      obtain ⟨lv, hlv⟩ : ∃ lv, lv = last + 1 := ⟨_, rfl⟩
      rw [← hlv] at HD PS
      have HLV := hidE hlv
      clear hId hKD key X0 hir hst hq0 hq1 hN H c6 hlv
      gi_wp2_with (refine ⟨trivial, ?_⟩; gi_at_call 35; refine (callsIn_wide.2 HD.out).mono ?_; rintro e W3 ⟨rfl, H3, X3⟩; obtain ⟨k2, k3, kD⟩ := PS.out W3 H3 X3; have q1 : W3.cell? ⟨w.heap.size + 1 + 1, 0, none⟩ = some (.int .i64 0) := tblk_cell k2 rfl; have q2 : W3.cell? ⟨w.heap.size + 1 + 1, 1, none⟩ = some (.int .i64 0) := tblk_cell k2 rfl; have q3 : W3.cell? ⟨w.heap.size + 1 + 1, 2, none⟩ = some (.bool false) := tblk_cell k2 rfl; have q4 : W3.cell? ⟨w.heap.size + 1 + 1 + 1, 0, none⟩ = some (.int .i64 0) := tblk_cell k3 rfl; have z0 : W3.frozen? ⟨w.heap.size + 1 + 1, 0, none⟩ = false := (by simp [World.frozen?, k2]); have z1 : W3.frozen? ⟨w.heap.size + 1 + 1, 1, none⟩ = false := (by simp [World.frozen?, k2]); have z2 : W3.frozen? ⟨w.heap.size + 1 + 1, 2, none⟩ = false := (by simp [World.frozen?, k2]); have z3 : W3.frozen? ⟨w.heap.size + 1 + 1 + 1, 0, none⟩ = false := (by simp [World.frozen?, k3]); have HH3 := hidE H3; have HX3 := hidE X3; have HK2 := hidE k2; have HK3 := hidE k3; have HKD := hidE kD; clear H3 X3 k2 k3 kD PS)
      obtain ⟨V, hV, dV, HV, XV, e0, e1, e2, e3⟩ := store4 lv 0 0 true HK2.out HK3.out hpb hmk HH3.out HKD.out (Nat.le_refl _) (HX0.out.trans HX3.out)
      subst hV
      refine ⟨by simp, .inl ⟨_, _, rfl, run_takeDeferred dV, ?_⟩⟩
      refine ⟨_, results_cells2 rfl _ _ _ ⟨w.heap.size + 1 + 1, 0, none⟩ ⟨w.heap.size + 1 + 1 + 1, 0, none⟩ (.agg #[.int .i64 lv, .int .i64 0, .bool true]) (.int .i64 0) rfl rfl (by simp [loadVar, go_sem, e0, e1, e2]) (by simp [loadVar, go_sem, e3]), ?_⟩
      exact .inr (.inl ⟨HALL.out, hNm, by rw [HLV.out], by rw [← HLV.out]; exact HV, XV (by omega)⟩)
    · have dN : decide ((N : Int) < most) = false := decide_eq_false hNm
      cases rs with
      | nil =>
        have HS : Hid (Calls Try.prog 15 #[.pointer (some ⟨pb, 0, none⟩), .int .i64 0] WD fun e w' => e = .returned (.bool false) ∧ WD = w') := (plshut_any 0 pb mk m N most last q [] v WD hId.pl (by unfold InR; omega) hst (by decide)).mono fun e w' hq => by
          rcases hq with ⟨h1, _⟩ | ⟨_, h2, h3⟩
          · rw [hq0] at h1; cases h1
          · exact ⟨h2, h3⟩
        have k2 : WD.heap[w.heap.size + 1 + 1]? = some (.cells #[.int .i64 0, .int .i64 0, .bool false] 39) := hId.k2
        have k3 : WD.heap[w.heap.size + 1 + 1 + 1]? = some (.cells #[.int .i64 0] 40) := hId.k3
        have q1 : WD.cell? ⟨w.heap.size + 1 + 1, 0, none⟩ = some (.int .i64 0) := tblk_cell k2 rfl
        have q2 : WD.cell? ⟨w.heap.size + 1 + 1, 1, none⟩ = some (.int .i64 0) := tblk_cell k2 rfl
        have q3 : WD.cell? ⟨w.heap.size + 1 + 1, 2, none⟩ = some (.bool false) := tblk_cell k2 rfl
        have q4 : WD.cell? ⟨w.heap.size + 1 + 1 + 1, 0, none⟩ = some (.int .i64 0) := tblk_cell k3 rfl
        have z0 : WD.frozen? ⟨w.heap.size + 1 + 1, 0, none⟩ = false := (by simp [World.frozen?, k2])
        have z1 : WD.frozen? ⟨w.heap.size + 1 + 1, 1, none⟩ = false := (by simp [World.frozen?, k2])
        have z2 : WD.frozen? ⟨w.heap.size + 1 + 1, 2, none⟩ = false := (by simp [World.frozen?, k2])
        have z3 : WD.frozen? ⟨w.heap.size + 1 + 1 + 1, 0, none⟩ = false := (by simp [World.frozen?, k3])
        have c6' : WD.cell? ⟨w.heap.size + 1 + 1 + 1 + 1, 0, none⟩ = some (.int .i64 0) := c6
        have HPL := hidE (hId.pl.mono (Nat.le_succ m))
        have HK2 := hidE k2
        have HK3 := hidE k3
        have HKD := hidE hKD
        have HX0 := hidE X0
        clear hId hKD key X0 hir hst hq0 hq1 hN H c6 k2 k3
        gi_wp2_with (refine ⟨trivial, ?_⟩; gi_at_call 15; refine (callsIn_wide.2 HS.out).mono ?_; rintro e W3 ⟨rfl, rfl⟩)
        obtain ⟨V, hV, dV, HV, XV, e0, e1, e2, e3⟩ := store4 0 0 6 false HK2.out HK3.out hpb hmk HPL.out HKD.out (Nat.le_refl _) HX0.out
        subst hV
        refine ⟨by simp, .inl ⟨_, _, rfl, run_takeDeferred dV, ?_⟩⟩
        refine ⟨_, results_cells2 rfl _ _ _ ⟨w.heap.size + 1 + 1, 0, none⟩ ⟨w.heap.size + 1 + 1 + 1, 0, none⟩ (.agg #[.int .i64 0, .int .i64 0, .bool false]) (.int .i64 6) rfl rfl (by simp [loadVar, go_sem, e0, e1, e2]) (by simp [loadVar, go_sem, e3]), ?_⟩
        exact .inr (.inr (.inl ⟨HALL.out, by omega, rfl, rfl, HV, XV (by omega)⟩))
      | cons x r =>
        obtain ⟨hxr, sx, hqx⟩ := hir x (List.mem_cons_self ..)
        have elx : lastR (x :: r).reverse = x := by rw [List.reverse_cons, lastR_snoc]
        rw [elx] at c6
        have HS : Hid (Calls Try.prog 15 #[.pointer (some ⟨pb, 0, none⟩), .int .i64 x] WD fun e w' => e = .returned (.bool true) ∧ ∃ v', PL w' pb mk m (N - 1) most last (updI q x none) ((x :: r).filter (butH x)) v' ∧ PX pb mk v v' WD w') := (plshut_any x pb mk m N most last q (x :: r) v WD hId.pl hxr hst (by omega)).mono fun e w' hq => by
          rcases hq with ⟨_, h2, h3⟩ | ⟨h1, _⟩
          · exact ⟨h2, h3⟩
          · rw [hqx] at h1; cases h1
        have hqn : updI q x none (last + 1) = none := by
          by_cases e : last + 1 = x
          · rw [e, updI_same]
          · rw [updI_other _ _ e]; exact hq1
        have hN1 : N - 1 + 1 = N := by
          rcases hN with h | h
          · omega
          · cases h
        have PS : Hid (∀ W3 v', PL W3 pb mk m (N - 1) most last (updI q x none) ((x :: r).filter (butH x)) v' → PX pb mk v v' WD W3 → (W3.cell? ⟨w.heap.size, 0, none⟩ = some (.pointer (some ⟨pb, 0, none⟩)) ∧ W3.cell? ⟨w.heap.size + 1, 0, none⟩ = some (.string aim) ∧ W3.cell? ⟨w.heap.size + 1 + 1 + 1 + 1, 0, none⟩ = some (.int .i64 x) ∧ Hid (Calls Try.prog 35 #[.pointer (some ⟨pb, 0, none⟩), .string aim] W3.drew fun e w' => e = .returned (.int .i64 (last + 1)) ∧ w'.cell? ⟨w.heap.size + 1 + 1 + 1 + 1, 0, none⟩ = some (.int .i64 x) ∧ w'.heap[w.heap.size + 1 + 1]? = some (.cells #[.int .i64 0, .int .i64 0, .bool false] 39) ∧ w'.heap[w.heap.size + 1 + 1 + 1]? = some (.cells #[.int .i64 0] 40) ∧ Hid (w'.heap[D]? = some (.deferred (some [])) ∧ PL w' pb mk (m + 1) N most (last + 1) (updI (updI q x none) (last + 1) (some (aim, 1))) ((x :: r).filter (butH x)) v' ∧ PX pb mk v v' w w')))) := fun W3 v' H3 X3 => by
          have f : ∀ {j : Nat} {o : Obj}, WD.heap[j]? = some o → w.heap.size ≤ j → W3.heap[j]? = some o := fun {j o} hj hle => key X3 hj hle
          have k4 := hId.k4
          rw [elx] at k4
          refine ⟨tblk_cell (f hId.k0 (by omega)) rfl, tblk_cell (f hId.k1 (by omega)) rfl, tblk_cell (f k4 (by omega)) rfl, ?_⟩
          have Hd : PL W3.drew pb mk m (N - 1) most last (updI q x none) ((x :: r).filter (butH x)) v' := H3.keep (Below.refl _ _).drew
          have k := pldial_any aim pb mk m (N - 1) most last (updI q x none) ((x :: r).filter (butH x)) v' W3.drew Hd ha (by omega) hqn (by omega)
          rw [hN1] at k
          refine k.mono fun e w' ⟨he, H5, X5⟩ => ?_
          have hv' : ∀ g, v'.ownBlock = some g → g < w.heap.size ∨ WD.heap.size ≤ g := fun g hg => by
            rcases X3.own with e | ⟨g', e, hge⟩
            · rw [e] at hg; exact .inl (hgg g hg)
            · rw [e] at hg; cases hg; exact .inr hge
          have g5 : ∀ {j : Nat} {o : Obj}, WD.heap[j]? = some o → w.heap.size ≤ j → w'.heap[j]? = some o := fun {j o} hj hle => (X5.block j (Array.getElem?_eq_some_iff.1 (f hj hle)).1 (by omega) (by omega) (fun e => by
            have h1 := hv' j e
            have h2 := (Array.getElem?_eq_some_iff.1 hj).1
            omega)).trans (f hj hle)
          exact ⟨he, tblk_cell (g5 k4 (by omega)) rfl, g5 hId.k2 (by omega), g5 hId.k3 (by omega), g5 hKD (by omega), H5, (X0.trans X3).trans ((PX.refl pb mk v' W3).bel (Below.refl _ _).drew |>.trans X5)⟩
        obtain ⟨lv, hlv⟩ : ∃ lv, lv = last + 1 := ⟨_, rfl⟩
        rw [← hlv] at PS
        have HLV := hidE hlv
        clear hId hKD key X0 hir hst hq0 hq1 hN H hqx hqn hN1 elx hlv
        gi_wp2_with (refine ⟨trivial, ?_⟩; gi_at_call 15; refine (callsIn_wide.2 HS.out).mono ?_; rintro e W3 ⟨rfl, v', H3, X3⟩; obtain ⟨b2, b3, b6, HD⟩ := PS.out W3 v' H3 X3; clear PS H3 X3)
        rename_i K9 H9
        refine wpIn_mono (Q := Exit.then K9 (fun _ _ _ => False)) ?_ (fun e a w h => by cases e <;> first | exact h | exact h.elim)
        rw [wpIn_wide]
        go_region_law (go_simp; go_at_call 35; refine HD.out.mono ?_; rintro e W5 ⟨rfl, b5, k2, k3, HR⟩; have q1 : W5.cell? ⟨w.heap.size + 1 + 1, 0, none⟩ = some (.int .i64 0) := tblk_cell k2 rfl; have q2 : W5.cell? ⟨w.heap.size + 1 + 1, 1, none⟩ = some (.int .i64 0) := tblk_cell k2 rfl; have q3 : W5.cell? ⟨w.heap.size + 1 + 1, 2, none⟩ = some (.bool false) := tblk_cell k2 rfl; have q4 : W5.cell? ⟨w.heap.size + 1 + 1 + 1, 0, none⟩ = some (.int .i64 0) := tblk_cell k3 rfl; have z0 : W5.frozen? ⟨w.heap.size + 1 + 1, 0, none⟩ = false := (by simp [World.frozen?, k2]); have z1 : W5.frozen? ⟨w.heap.size + 1 + 1, 1, none⟩ = false := (by simp [World.frozen?, k2]); have z2 : W5.frozen? ⟨w.heap.size + 1 + 1, 2, none⟩ = false := (by simp [World.frozen?, k2]); have z3 : W5.frozen? ⟨w.heap.size + 1 + 1 + 1, 0, none⟩ = false := (by simp [World.frozen?, k3]))
        all_goals
          refine H9 _ _ ?_
          clear H9 K9 q1 q2 q3 q4 z0 z1 z2 z3 b2 b3 b6 b5 HD
          gi_wp2
          obtain ⟨V, hV, dV, HV, XV, e0, e1, e2, e3⟩ := store4 lv x 0 true k2 k3 hpb hmk HR.out.2.1 HR.out.1 (Nat.le_refl _) HR.out.2.2
          subst hV
          refine ⟨by simp, .inl ⟨_, _, rfl, run_takeDeferred dV, ?_⟩⟩
          refine ⟨_, results_cells2 rfl _ _ _ ⟨w.heap.size + 1 + 1, 0, none⟩ ⟨w.heap.size + 1 + 1 + 1, 0, none⟩ (.agg #[.int .i64 lv, .int .i64 x, .bool true]) (.int .i64 0) rfl rfl (by simp [loadVar, go_sem, e0, e1, e2]) (by simp [loadVar, go_sem, e3]), ?_⟩
          exact .inr (.inr (.inr ⟨HALL.out, by omega, x, r, v', rfl, by rw [HLV.out], by rw [← HLV.out]; exact HV, XV (by omega)⟩))
  case stop =>
    intro D pre W hD hpre hX hK
    clear HKK hI0
    rw [hsz0] at hD
    clear hsz0
    obtain ⟨p0, x, v', rfl, h1, h2, k2, k3, HP, XP⟩ := hX
    gi_wp2
    refine ⟨by simp, .inl ⟨_, _, rfl, run_takeDeferred hK, ?_⟩⟩
    have k2' := put_same (o' := .deferred none) hK rfl k2
    have k3' := put_same (o' := .deferred none) hK rfl k3
    have c0 : (W.putObj D (.deferred none)).cell? ⟨w.heap.size + 1 + 1, 0, none⟩ = some (.int .i64 x) := tblk_cell k2' rfl
    have c1 : (W.putObj D (.deferred none)).cell? ⟨w.heap.size + 1 + 1, 1, none⟩ = some (.int .i64 0) := tblk_cell k2' rfl
    have c2 : (W.putObj D (.deferred none)).cell? ⟨w.heap.size + 1 + 1, 2, none⟩ = some (.bool false) := tblk_cell k2' rfl
    have c3 : (W.putObj D (.deferred none)).cell? ⟨w.heap.size + 1 + 1 + 1, 0, none⟩ = some (.int .i64 0) := tblk_cell k3' rfl
    refine ⟨_, results_cells2 rfl _ _ _ ⟨w.heap.size + 1 + 1, 0, none⟩ ⟨w.heap.size + 1 + 1 + 1, 0, none⟩ (.agg #[.int .i64 x, .int .i64 0, .bool false]) (.int .i64 0) rfl rfl (by simp [loadVar, go_sem, c0, c1, c2]) (by simp [loadVar, go_sem, c3]), ?_⟩
    obtain ⟨suf, hsuf⟩ := hpre
    exact .inl ⟨p0, x, suf, v', by rw [← hsuf]; simp, h1, h2, rfl, HP.putO _ hK rfl (by omega), XP.putO D _ (by omega)⟩
end Go.Proofs.Ytlaigjapnmgjeaa
