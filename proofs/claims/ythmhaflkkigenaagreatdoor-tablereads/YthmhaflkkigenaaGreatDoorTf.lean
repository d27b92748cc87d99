/- Texts that the proof leans on, one behind the other: TbP TbQ TbR TbT TbU -/
import Derived.Test.YthmhaflkkigenaaGreatDoorTc
import Derived.Test.YthmhaflkkigenaaGreatDoorTd
import Derived.Test.YthmhaflkkigenaaGreatDoorTe
import Derived.Test.YthmhaflkkigenaaGreatDoorTa
import Derived.Lib.ItoaLen
/- parse: the table, right or not, that has just this text. -/
namespace Go.Proofs.YthmhaflkkigenaaGreatDoor
open Go.RowKit Go.Shelf
attribute [local go_sem] Oper.semAt_some
set_option linter.unusedVariables false

def trimX (x : ByteArray) : ByteArray := ⟨(Lib.trimSuffix x.data.toList [10]).toArray⟩
def wordsX (x : ByteArray) : List ByteArray := piecew (trimX x)
def formX (x : ByteArray) : Bool := formB (wordsX x)
def slotX (x : ByteArray) : SlotP := slotP (wordsX x)
def rowsX (s : ByteArray) : List ByteArray := (linesL s.data.toList).map txt
/-- What parse answers. -/
def ParR (w : World) (s : ByteArray) (e : Ending) (w' : World) : Prop :=
  if (rowsX s).all formX = true then ∃ a c xs, e = .returned (.tuple #[.slice a xs.length c, .bool (tellP ((rowsX s).map slotX) == s.toList)]) ∧ xs.map (·.s) = (rowsX s).map slotX ∧ OwnS w.heap.size w' (.slice a xs.length c) xs ∧ Below w.heap.size w w'
  else e = .returned (.tuple #[.slice none 0 0, .bool false]) ∧ Below w.heap.size w w'
/-- Between two rounds. -/
def ParI (w : World) (pre : List ByteArray) (W : World) : Prop := ∃ v xs, W.heap[w.heap.size + 2]? = some (.cells #[v] 23) ∧ OwnS (w.heap.size + 4) W v xs ∧ xs.map (·.s) = pre.map slotX ∧ pre.all formX = true ∧ (∀ x ∈ xs, ∀ q, x.a = some q → q.block < W.heap.size) ∧ W.heap[w.heap.size]? = some (.cells #[.slice none 0 0] 23) ∧ W.heap[w.heap.size + 1]? = some (.cells #[.bool false] 4) ∧ Below w.heap.size w W ∧ w.heap.size + 4 ≤ W.heap.size
/-- A round has left. -/
def ParX (w : World) (pre : List ByteArray) (W : World) : Prop := pre.all formX = false ∧ W.heap[w.heap.size]? = some (.cells #[.slice none 0 0] 23) ∧ W.heap[w.heap.size + 1]? = some (.cells #[.bool false] 4) ∧ Below w.heap.size w W ∧ w.heap.size + 4 ≤ W.heap.size
theorem OwnS.mono {N M : Nat} {w : World} {v : Value} {xs : List SlotX} (h : OwnS N w v xs) (k : M ≤ N) : OwnS M w v xs := ⟨owns_mono h.row k, h.hosts, fun x hx q e => ⟨Nat.le_trans k (h.away x hx q e).1, (h.away x hx q e).2⟩⟩
theorem below_put {B : Nat} {w W : World} (h : Below B w W) (k : Nat) (o : Obj) (hk : B ≤ k) : Below B w (W.putObj k o) := ⟨h.os, h.tape, h.output, by rw [World.putObj_size]; exact h.size, fun j hj => (World.putObj_heap_other (by omega)).trans (h.block j hj)⟩
theorem put_cells {W : World} {j k : Nat} {o o' p : Obj} (hj : W.heap[j]? = some p) (hp : p.isCells = true) (h : W.heap[k]? = some o) (ho : o.isCells = false) : (W.putObj k o').heap[j]? = some p := by
  refine (World.putObj_heap_other ?_).trans hj
  intro e; subst e
  rw [h] at hj; cases hj; rw [ho] at hp; cases hp
theorem parI_put (w : World) : Off10 (w.heap.size + 4) (ParI w) := by
  rintro pre W k o o' ⟨v, xs, h1, h2, h3, h4, h5, h6, h7, h8, h9⟩ hk ho hN
  exact ⟨v, xs, put_cells h1 rfl hk ho, h2.kept (KpC.put W k o o' hk ho), h3, h4, by rw [World.putObj_size]; exact h5, put_cells h6 rfl hk ho, put_cells h7 rfl hk ho, below_put h8 k o' (by omega), by rw [World.putObj_size]; exact h9⟩
theorem parX_put (w : World) : Off10 (w.heap.size + 4) (ParX w) := by
  rintro pre W k o o' ⟨h4, h6, h7, h8, h9⟩ hk ho hN
  exact ⟨h4, put_cells h6 rfl hk ho, put_cells h7 rfl hk ho, below_put h8 k o' (by omega), by rw [World.putObj_size]; exact h9⟩
theorem heap_al {W : World} {k : Nat} {p : Obj} (o : Obj) (h : W.heap[k]? = some p) : (W.alloc o).heap[k]? = some p := (Below.heap_alloc W o k (Array.getElem?_eq_some_iff.1 h).1).trans h
theorem parI_alloc (w : World) (pre : List ByteArray) (W : World) (o : Obj) (h : ParI w pre W) : ParI w pre (W.alloc o) := by
  obtain ⟨v, xs, h1, h2, h3, h4, h5, h6, h7, h8, h9⟩ := h
  exact ⟨v, xs, heap_al o h1, h2.kept (KpC.alloc _ W o), h3, h4, (fun x hx q e => by rw [World.size_alloc]; exact Nat.lt_succ_of_lt (h5 x hx q e)), heap_al o h6, heap_al o h7, h8.alloc h8.size o, by rw [World.size_alloc]; omega⟩
theorem parI_set (w : World) (pre : List ByteArray) (W : World) (u : Value) (h : ParI w pre W) : ParI w pre (W.setCell ⟨w.heap.size + 3, 0, none⟩ u) := by
  obtain ⟨v, xs, h1, h2, h3, h4, h5, h6, h7, h8, h9⟩ := h
  have hs : (W.setCell ⟨w.heap.size + 3, 0, none⟩ u).heap.size = W.heap.size := by simp
  exact ⟨v, xs, setCell_off _ _ _ _ h1 (by omega), h2.kept (KpC.set W _ u (by simp)), h3, h4, by rw [hs]; exact h5, setCell_off _ _ _ _ h6 (by omega), setCell_off _ _ _ _ h7 (by omega), h8.setCell (p := ⟨w.heap.size + 3, 0, none⟩) (by simp) u, by rw [hs]; exact h9⟩
theorem parI_drew (w : World) (pre : List ByteArray) (W : World) (h : ParI w pre W) : ParI w pre W.drew := by
  obtain ⟨v, xs, h1, h2, h3, h4, h5, h6, h7, h8, h9⟩ := h
  exact ⟨v, xs, h1, h2.kept (KpC.drew _ W), h3, h4, h5, h6, h7, h8.drew, h9⟩

theorem setOff (W : World) (bc k : Nat) (v : Value) (hk : k ≠ bc) : (W.setCell ⟨bc, 0, none⟩ v).heap[k]? = W.heap[k]? := Below.heap_setCell W ⟨bc, 0, none⟩ v k hk
theorem par_step {w W W2 : World} {pre : List ByteArray} {x : ByteArray} {v : Value} {xs : List SlotX} {ha : Option Addr} {hc : Nat}
    (h1 : W.heap[w.heap.size + 2]? = some (.cells #[v] 23)) (h2 : OwnS (w.heap.size + 4) W v xs) (h3 : xs.map (·.s) = pre.map slotX) (h4 : pre.all formX = true) (h5 : ∀ x ∈ xs, ∀ q, x.a = some q → q.block < W.heap.size) (h6 : W.heap[w.heap.size]? = some (.cells #[.slice none 0 0] 23)) (h7 : W.heap[w.heap.size + 1]? = some (.cells #[.bool false] 4)) (h8 : Below w.heap.size w W) (h9 : w.heap.size + 4 ≤ W.heap.size)
    (hf : formX x = true) (hl : xs.length ≤ 1048576) (hTx : Txs W2.heap.size W2 (.slice ha (slotX x).h.length hc) (slotX x).h) (hnw : ∀ q, ha = some q → W.heap.size ≤ q.block ∧ q.block < W2.heap.size) (B2 : Below W.heap.size W W2) :
    (W2.alloc (.cells (slotV (slotX x) ha hc) 35)).cell? ⟨w.heap.size + 1 + 1, 0, none⟩ = some v ∧
    ∃ g' c' W5, (Builtin.append_ #[23, 23] 23 #[v, .slice (some ⟨W2.heap.size + 1, 0, none⟩) 1 1]).run Tryz.prog ((W2.alloc (.cells (slotV (slotX x) ha hc) 35)).alloc (.cells (slotV (slotX x) ha hc) 35)) = .ok (.slice (some ⟨g', 0, none⟩) (xs.length + 1) c') W5 ∧
      W5.cell? ⟨w.heap.size + 1 + 1, 0, none⟩ = some v ∧ W5.frozen? ⟨w.heap.size + 1 + 1, 0, none⟩ = false ∧
      Hid (∀ a, linPost (w.heap.size + 3) (ParI w) (ParX w) (pre ++ [x]) W .normal a (W5.setCell ⟨w.heap.size + 1 + 1, 0, none⟩ (.slice (some ⟨g', 0, none⟩) (xs.length + 1) c'))) := by
  have s4 : ((W2.alloc (.cells (slotV (slotX x) ha hc) 35)).alloc (.cells (slotV (slotX x) ha hc) 35)).heap.size = W2.heap.size + 2 := by simp
  have B4 : Below W2.heap.size W2 ((W2.alloc (.cells (slotV (slotX x) ha hc) 35)).alloc (.cells (slotV (slotX x) ha hc) 35)) := ((Below.refl _ _).alloc (Nat.le_refl _) _).alloc (by simp) _
  have D4 : Below W.heap.size W ((W2.alloc (.cells (slotV (slotX x) ha hc) 35)).alloc (.cells (slotV (slotX x) ha hc) 35)) := B2.trans (B4.mono B2.size)
  have hsz := B2.size
  have O4 := h2.kept (KpC.below D4)
  have n4 := World.alloc_heap_new (W2.alloc (.cells (slotV (slotX x) ha hc) 35)) (.cells (slotV (slotX x) ha hc) 35)
  rw [World.size_alloc] at n4
  have own : ∀ k, v.ownBlock = some k → w.heap.size + 4 ≤ k ∧ k < W.heap.size := fun k e => h2.row.lt k e
  obtain ⟨g', c', W5, r5, O5, G5, N5⟩ := ownS_append O4 ⟨slotX x, ha, hc⟩ ⟨W2.heap.size + 1, 0, none⟩ (fun i u hu => by rw [addr_add, Nat.zero_add]; exact ring_cell n4 hu)
    ((hTx.keep B4).mono (by omega)) (fun q e => ⟨by have := (hnw q e).1; omega, fun c => by have := (own _ c).2; have := (hnw q e).1; omega, by rw [s4]; have := (hnw q e).2; omega⟩) (fun y hy q e => by rw [s4]; have := h5 y hy q e; omega) hl (by omega)
  have key : ∀ k, k < w.heap.size + 4 → W5.heap[k]? = W.heap[k]? := fun k hk => (G5.block k (by omega) (fun e => by have := (own k e.symm).1; omega)).trans (D4.block k (by omega))
  have k1 : W5.heap[w.heap.size + 2]? = some (.cells #[v] 23) := (key _ (by omega)).trans h1
  have hcell : (W2.alloc (.cells (slotV (slotX x) ha hc) 35)).heap[w.heap.size + 2]? = some (.cells #[v] 23) := (Below.heap_alloc W2 _ _ (by omega)).trans ((B2.block _ (by omega)).trans h1)
  refine ⟨ring_cell hcell rfl, g', c', W5, r5, ring_cell k1 rfl, ring_z k1, ?_⟩
  have hs6 : (W5.setCell ⟨w.heap.size + 2, 0, none⟩ (.slice (some ⟨g', 0, none⟩) (xs.length + 1) c')).heap.size = W5.heap.size := by simp
  have hg5 := G5.size
  have KO : KeepsOthers W W5 := by
    refine (KeepsOthers.trans ⟨D4.size, fun k o h _ => (D4.block k (Array.getElem?_eq_some_iff.1 h).1).trans h⟩ (KeepsOthers.of_grownBy G5 fun j o e ho => ?_))
    rcases O4.row.2 with ⟨hv, _⟩ | ⟨g, cap, cur, hv, _, hh, _⟩
    · rw [hv] at e; cases e
    · rw [hv] at e
      have : g = j := by simpa [Value.ownBlock] using e
      subst this
      rw [hh] at ho; cases ho; rfl
  have e1 : (xs ++ [(⟨slotX x, ha, hc⟩ : SlotX)]).length = xs.length + 1 := by simp
  refine fun _ => ⟨KO.trans (KeepsOthers.setCell _ _ _), (setOff _ _ _ _ (by omega)).trans (key _ (by omega)), _, xs ++ [⟨slotX x, ha, hc⟩], ?_, O5.kept (KpC.set W5 _ _ (by simp)), ?_, ?_, ?_, setCell_off _ _ _ _ ((key _ (by omega)).trans h6) (by omega), setCell_off _ _ _ _ ((key _ (by omega)).trans h7) (by omega), ?_, by rw [hs6]; omega⟩
  · rw [ring_set k1]; rfl
  · rw [List.map_append, List.map_append, h3]; rfl
  · rw [List.all_append, h4, List.all_cons, hf]; rfl
  · intro y hy q e
    rw [hs6]
    rcases List.mem_append.1 hy with hy | hy
    · have := h5 y hy q e; omega
    · obtain rfl : y = ⟨slotX x, ha, hc⟩ := by simpa using hy
      have := (hnw q e).2; omega
  · exact ((h8.trans (D4.mono h8.size)).grown G5 (by omega) (fun k e => by have := (own k e).1; omega)).setCell (p := ⟨w.heap.size + 2, 0, none⟩) (by simp) _
theorem appIn_run {F : Fence} {n : Nat} {P : Program} {w : World} {ops : Array Oper} {rest : List Oper} {o : Oper} {a : Act} {Q : Exit → Act → World → Prop} (hgd : o.guard = none) (s x : Operand) (t : TypeId)
    (ho : o.op = .call { callee := .builtin .append, args := #[s, x], argTypes := #[t, t] }) (vs vx v' : Value) (w' : World) (hs : a.eval s = vs) (hx : a.eval x = vx) (hr : (Builtin.append_ #[t, t] o.type #[vs, vx]).run P w = .ok v' w')
    (h : wpListIn F n P ops Q rest (a.put o.dst v') w') : wpListIn F n P ops Q (o :: rest) a w := by
  refine wpListIn_plain hgd fun K hK => ?_
  unfold Oper.wpIn
  refine ⟨by simp [Oper.about, ho, resolve, Target.leads, Sem.run_pure], ?_⟩
  rw [Oper.semAt_plain F _ _ (by rw [ho]; intro c e; cases e)]
  simp [execOp, ho, resolve, invoke, builtin, hs, hx, hr, Result.andThen]
  exact hK _ _ h
theorem results_cells2 {fn : Func} {t u : Tmp} {ty tz : TypeId} (h : fn.results = #[.cell t ty, .cell u tz]) (tmps : Array Value) (P : Program) (w : World) (a b : Addr) (x y : Value)
    (ha : tmps.getD t undef = .pointer (some a)) (hb : tmps.getD u undef = .pointer (some b)) (hx : (loadVar ty a).run P w = .ok x w) (hy : (loadVar tz b).run P w = .ok y w) :
    (results fn tmps).run P w = .ok (.tuple #[x, y]) w := by
  unfold results
  rw [h]
  rw [Array.getD_eq_getD_getElem?] at ha hb
  simp [ Sem.run_bind, ha, hb, asAddr, hx, hy, Result.andThen]
theorem par_stop {w W W2 : World} {pre : List ByteArray} {x : ByteArray} (o : Obj) (h6 : W.heap[w.heap.size]? = some (.cells #[.slice none 0 0] 23)) (h7 : W.heap[w.heap.size + 1]? = some (.cells #[.bool false] 4)) (h8 : Below w.heap.size w W) (h9 : w.heap.size + 4 ≤ W.heap.size) (hf : formX x = false) (B2 : Below W.heap.size W W2) :
    (W2.alloc o).cell? ⟨w.heap.size, 0, none⟩ = some (.slice none 0 0) ∧ (W2.alloc o).frozen? ⟨w.heap.size, 0, none⟩ = false ∧ (W2.alloc o).cell? ⟨w.heap.size + 1, 0, none⟩ = some (.bool false) ∧ (W2.alloc o).frozen? ⟨w.heap.size + 1, 0, none⟩ = false ∧
    Hid (∀ a, linPost (w.heap.size + 3) (ParI w) (ParX w) (pre ++ [x]) W .ret a (((W2.alloc o).setCell ⟨w.heap.size, 0, none⟩ (.slice none 0 0)).setCell ⟨w.heap.size + 1, 0, none⟩ (.bool false))) := by
  have hsz := B2.size
  have D : Below W.heap.size W (W2.alloc o) := B2.alloc B2.size o
  have k6 := (D.block _ (by omega)).trans h6
  have k7 := (D.block _ (by omega)).trans h7
  refine ⟨ring_cell k6 rfl, ring_z k6, ring_cell k7 rfl, ring_z k7, fun a => ⟨?_, ?_, ?_, ?_, ?_, ?_⟩⟩
  · exact (KeepsOthers.trans ⟨D.size, fun k o h _ => (D.block k (Array.getElem?_eq_some_iff.1 h).1).trans h⟩ (KeepsOthers.setCell _ _ _)).trans (KeepsOthers.setCell _ _ _)
  · rw [List.all_append, List.all_cons, hf]; simp
  · rw [setOff _ _ _ _ (by omega), ring_set k6]; rfl
  · have k := (setOff (W2.alloc o) w.heap.size (w.heap.size + 1) (.slice none 0 0) (by omega)).trans k7
    rw [ring_set k]; rfl
  · exact ((h8.trans (D.mono h8.size)).setCell (p := ⟨w.heap.size, 0, none⟩) (by simp) _).setCell (p := ⟨w.heap.size + 1, 0, none⟩) (by simp) _
  · simp; omega
theorem lines_bd : ∀ (n : Nat) (l : List UInt8), l.length ≤ n → (linesL l).length ≤ l.length ∧ ∀ x ∈ linesL l, x.length ≤ l.length := by
  intro n
  induction n with
  | zero =>
    intro l h
    obtain rfl : l = [] := List.eq_nil_of_length_eq_zero (by omega)
    rw [lines_nil]; exact ⟨Nat.le_refl _, fun x hx => by cases hx⟩
  | succ n ih =>
    intro l h
    rcases Nat.eq_zero_or_pos l.length with z | z
    · obtain rfl : l = [] := List.eq_nil_of_length_eq_zero z
      rw [lines_nil]; exact ⟨Nat.le_refl _, fun x hx => by cases hx⟩
    by_cases hh : Lib.indexByte l 10 = -1
    · rw [lines_miss l hh (fun e => by rw [e] at z; exact absurd z (by decide))]
      exact ⟨z, fun x hx => by rw [List.mem_singleton.1 hx]; exact Nat.le_refl _⟩
    · have hge := Lib.indexByte_ge l 10
      obtain ⟨i, hi⟩ : ∃ i : Nat, Lib.indexByte l 10 = i := ⟨(Lib.indexByte l 10).toNat, by omega⟩
      have hd : (l.drop (i + 1)).length = l.length - (i + 1) := List.length_drop
      obtain ⟨k1, k2⟩ := ih (l.drop (i + 1)) (by omega)
      rw [lines_hit l i hi]
      refine ⟨by rw [List.length_cons]; omega, fun x hx => ?_⟩
      rcases List.mem_cons.1 hx with rfl | hx
      · rw [List.length_take]; omega
      · have := k2 x hx; omega
theorem rows_bd (s : ByteArray) : (rowsX s).length ≤ s.size ∧ ∀ x ∈ rowsX s, x.size ≤ s.size := by
  have k := lines_bd _ s.data.toList (Nat.le_refl _)
  have e : s.data.toList.length = s.size := Array.length_toList
  rw [e] at k
  refine ⟨by unfold rowsX; rw [List.length_map]; exact k.1, fun x hx => ?_⟩
  obtain ⟨y, hy, rfl⟩ := List.mem_map.1 hx
  have := k.2 y hy
  show y.toArray.size ≤ _
  simpa using this
theorem trimX_size (x : ByteArray) : (trimX x).size ≤ x.size := by
  show (Lib.trimSuffix x.data.toList [10]).toArray.size ≤ x.data.size
  unfold Lib.trimSuffix
  split
  · rw [List.size_toArray, List.length_take, Array.length_toList]; omega
  · simp
set_option maxRecDepth 100000 in
set_option maxHeartbeats 1000000 in
theorem parse_any (s : ByteArray) (w : World) (hs : s.size ≤ 4096) (hM : MaxL w) (hP : PowT w) (hT : (rowsX s).all formX = true → (tellP ((rowsX s).map slotX)).length ≤ 100000000 ∧ ∀ t ∈ (rowsX s).map slotX, NBd t) :
    Calls Tryz.prog 14 #[.string s] w (ParR w s) := by
  refine (callsIn_wide (n := 3)).1 (callsIn_of_wp_marks Tryz.func14 rfl trivial ?_)
  simp only [Tryz.ntmps14, List.size_toArray, List.length_cons, List.length_nil, Nat.reduceAdd, Nat.reduceSub, Array.replicate_succ, Array.replicate_zero, List.push_toArray, List.append_toArray, List.nil_append, List.cons_append]
  have HL : Hid (∀ W, Calls Tryz.prog 37 #[.string s] W fun e w' => e = .returned (.func (.func 51) #[] #[.pointer (some ⟨W.heap.size, 0, none⟩)]) ∧ w' = W.alloc (.cells #[.string s] 9)) := fun W => slines_any s W
  gi_wp2_with (refine ⟨trivial, ?_⟩; gi_at_call 37; refine (callsIn_wide.2 (HL.out _)).mono ?_; rintro e w' ⟨rfl, rfl⟩)
  rename_i KK HKK
  have hsz0 : ((((w.alloc (.cells #[.slice none 0 0] 23)).alloc (.cells #[.bool false] 4)).alloc (.cells #[.slice none 0 0] 23)).alloc (.cells #[.string s] 9)).heap.size = w.heap.size + 4 := by simp
  have hI0 : ParI w [] ((((w.alloc (.cells #[.slice none 0 0] 23)).alloc (.cells #[.bool false] 4)).alloc (.cells #[.slice none 0 0] 23)).alloc (.cells #[.string s] 9)) := by
    have n0 := World.alloc_heap_new w (.cells #[.slice none 0 0] 23)
    have n1 := World.alloc_heap_new (w.alloc (.cells #[.slice none 0 0] 23)) (.cells #[.bool false] 4)
    have n2 := World.alloc_heap_new ((w.alloc (.cells #[.slice none 0 0] 23)).alloc (.cells #[.bool false] 4)) (.cells #[.slice none 0 0] 23)
    simp only [World.size_alloc] at n1 n2
    exact ⟨_, [], heap_al _ n2, OwnS.nil _ _, rfl, rfl, (fun x hx => by cases hx), heap_al _ (heap_al _ (heap_al _ n0)), heap_al _ (heap_al _ n1), ((((Below.refl _ _).alloc (Nat.le_refl _) _).alloc (by simp) _).alloc (by simp; omega) _).alloc (by simp; omega) _, by rw [hsz0]; exact Nat.le_refl _⟩
  have hc0 : Left10 ((((w.alloc (.cells #[.slice none 0 0] 23)).alloc (.cells #[.bool false] 4)).alloc (.cells #[.slice none 0 0] 23)).alloc (.cells #[.string s] 9)) (w.heap.size + 3) s.data.toList := by
    have n3 := World.alloc_heap_new (((w.alloc (.cells #[.slice none 0 0] 23)).alloc (.cells #[.bool false] 4)).alloc (.cells #[.slice none 0 0] 23)) (.cells #[.string s] 9)
    simp only [World.size_alloc] at n3
    have e : txt s.data.toList = s := by unfold txt; rw [Array.toArray_toList]
    unfold Left10
    rw [e]; exact n3
  clear HL
  refine range_lines 3 (w.heap.size + 3) (by decide) (by rw [hsz0]; omega) s.data.toList (by rw [Array.length_toList]; exact Nat.le_trans hs (by decide)) hc0 rfl rfl (ParI w) (ParX w) (by rw [hsz0]; exact parI_put w) (by rw [hsz0]; exact parX_put w) (parI_alloc w) (parI_set w) (parI_drew w) hI0
    (fun x => { tmps := #[.string s, undef, .pointer (some ⟨w.heap.size, 0, none⟩), .pointer (some ⟨w.heap.size + 1, 0, none⟩), .pointer (some ⟨w.heap.size + 1 + 1, 0, none⟩), .string x, undef, undef, .string s, .func (.func 51) #[] #[.pointer (some ⟨w.heap.size + 1 + 1 + 1, 0, none⟩)], .string x, undef, undef, undef, undef, undef, undef, undef, undef, undef, undef, undef, undef, undef, undef, undef, undef, undef], defers := [] }) ?assign ?body ?done ?stop
  case assign =>
    intro l x W K hK
    gi_wp2
    exact hK
  case body =>
    intro l pre x W hI hpre
    clear hI0 hc0 hsz0
    obtain ⟨v, xs, h1, h2, h3, h4, h5, h6, h7, h8, h9⟩ := hI
    have hrb := rows_bd s
    have hx : x.size ≤ 4096 := Nat.le_trans (hrb.2 x (hpre.subset (by simp))) hs
    have hpl : xs.length ≤ 1048576 := by
      have e1 : xs.length = pre.length := by have := congrArg List.length h3; simpa using this
      have e2 := hpre.length_le
      have e3 : ((linesL s.data.toList).map txt).length = (rowsX s).length := rfl
      rw [e3, List.length_append] at e2
      omega
    have htx := trimX_size x
    have HT : Hid (Calls Tryz.prog 39 #[.string x, .string ⟨#[10]⟩] W fun e w' => e = .returned (.string (trimX x)) ∧ W = w') := (Tryz.strings_TrimSuffix x ⟨#[10]⟩ W (by omega)).mono fun e w' h => ⟨h.1, h.2.symm⟩
    have HS : Hid (Calls Tryz.prog 38 #[.string (trimX x)] W (SlotR W (wordsX x))) := slotof_any (trimX x) W (by omega) (hM.below h8)
    have c4 : W.cell? ⟨w.heap.size + 1 + 1, 0, none⟩ = some v := ring_cell h1 rfl
    have z4 : W.frozen? ⟨w.heap.size + 1 + 1, 0, none⟩ = false := ring_z h1
    have c2 : W.cell? ⟨w.heap.size, 0, none⟩ = some (.slice none 0 0) := ring_cell h6 rfl
    have z2 : W.frozen? ⟨w.heap.size, 0, none⟩ = false := ring_z h6
    have c3 : W.cell? ⟨w.heap.size + 1, 0, none⟩ = some (.bool false) := ring_cell h7 rfl
    have z3 : W.frozen? ⟨w.heap.size + 1, 0, none⟩ = false := ring_z h7
    by_cases hf : formX x = true
    · have HS2 : Hid (Calls Tryz.prog 38 #[.string (trimX x)] W fun e w' => ∃ ha hc, e = .returned (.tuple #[.agg #[.string (slotX x).n, .slice ha (slotX x).h.length hc, .int .i64 (slotX x).q, .int .i64 (slotX x).c, .int .i64 (slotX x).p, .int .i64 (slotX x).r, .int .i64 (slotX x).b, .int .i64 (slotX x).u], .bool true]) ∧ Txs w'.heap.size w' (.slice ha (slotX x).h.length hc) (slotX x).h ∧ (∀ q, ha = some q → W.heap.size ≤ q.block ∧ q.block < w'.heap.size) ∧ Below W.heap.size W w') := HS.out.mono fun e w' hq => by
        unfold SlotR at hq
        rw [if_pos (show formB (wordsX x) = true from hf)] at hq
        exact hq
      have PS : Hid (∀ W2 ha hc, Txs W2.heap.size W2 (.slice ha (slotX x).h.length hc) (slotX x).h → (∀ q, ha = some q → W.heap.size ≤ q.block ∧ q.block < W2.heap.size) → Below W.heap.size W W2 → _) := fun W2 ha hc k1 k2 k3 => par_step (pre := pre) h1 h2 h3 h4 h5 h6 h7 h8 h9 hf hpl k1 k2 k3
      clear HS h1 h2 h3 h4 h5 h6 h7 h8 h9 c4 z4 c2 z2 c3 z3 hT hM hP hrb hpl htx HKK hpre
      gi_wp2_with (first
        | (refine ⟨trivial, ?_⟩; gi_at_call 39; refine (CallsIn.inRound l (callsIn_wide.2 HT.out)).mono ?_; rintro e w' ⟨rfl, rfl⟩)
        | (refine ⟨trivial, ?_⟩; gi_at_call 38; refine (CallsIn.inRound l (callsIn_wide.2 HS2.out)).mono ?_; rintro e W2 ⟨ha, hc, rfl, hTx, hnw, B2⟩; obtain ⟨q1, g5, c5, W5, q2, q3, q4, q5⟩ := PS.out W2 ha hc hTx hnw B2; simp only [slotV] at q1 q2; clear PS hTx hnw B2)
        | (gi_at_builtin; refine appIn_run rfl _ _ 23 rfl _ _ _ _ rfl rfl q2 ?_))
      exact q5.out _
    · have hf' : formX x = false := by simpa using hf
      have HS2 : Hid (Calls Tryz.prog 38 #[.string (trimX x)] W fun e w' => e = .returned (.tuple #[.agg #[.string ⟨#[]⟩, .slice none 0 0, .int .i64 0, .int .i64 0, .int .i64 0, .int .i64 0, .int .i64 0, .int .i64 0], .bool false]) ∧ Below W.heap.size W w') := HS.out.mono fun e w' hq => by
        unfold SlotR at hq
        rw [if_neg (show ¬ formB (wordsX x) = true from hf)] at hq
        exact hq
      have PS : Hid (∀ W2, Below W.heap.size W W2 → ∀ o, _) := fun W2 k3 o => par_stop (pre := pre) o h6 h7 h8 h9 hf' k3
      clear HS h1 h2 h3 h4 h5 h6 h7 h8 h9 c4 z4 c2 z2 c3 z3 hT hM hP hrb hpl htx HKK hpre
      gi_wp2_with (first
        | (refine ⟨trivial, ?_⟩; gi_at_call 39; refine (CallsIn.inRound l (callsIn_wide.2 HT.out)).mono ?_; rintro e w' ⟨rfl, rfl⟩)
        | (refine ⟨trivial, ?_⟩; gi_at_call 38; refine (CallsIn.inRound l (callsIn_wide.2 HS2.out)).mono ?_; rintro e W2 ⟨rfl, B2⟩; obtain ⟨q1, q2, q3, q4, q5⟩ := PS.out W2 B2 (.cells #[.string ⟨#[]⟩, .slice none 0 0, .int .i64 0, .int .i64 0, .int .i64 0, .int .i64 0, .int .i64 0, .int .i64 0] 35); clear PS B2))
      exact q5.out _
  case done =>
    intro D W hD hI hK
    refine HKK _ _ ?_
    clear HKK hI0 hc0
    rw [hsz0] at hD
    clear hsz0
    obtain ⟨v, xs, h1, h2, h3, h4, h5, h6, h7, h8, h9⟩ := hI
    obtain ⟨hT1, hT2⟩ := hT h4
    obtain ⟨a, c, hv, hac⟩ := h2.form
    subst hv
    have e0 : (xs.map (·.s)).length = xs.length := List.length_map _
    have hS := (h2.kept (KpC.drew _ W)).sls
    rw [← e0] at hS
    have h3' : xs.map (·.s) = (rowsX s).map slotX := h3
    have HTL : Hid (Calls Tryz.prog 26 #[.slice a xs.length c] W.drew fun e w' => e = .returned (.string ⟨(tellP ((rowsX s).map slotX)).toArray⟩) ∧ Below W.drew.heap.size W.drew w') := by
      have k := tell_any (xs.map (·.s)) a c W.drew hS (by rw [h3']; exact hT1) (by rw [h3']; exact hT2) (hP.below h8.drew)
      rw [e0, h3'] at k
      exact k
    have PE : Hid (∀ W3, Below W.drew.heap.size W.drew W3 → W3.cell? ⟨w.heap.size + 1 + 1, 0, none⟩ = some (.slice a xs.length c) ∧ W3.cell? ⟨w.heap.size, 0, none⟩ = some (.slice none 0 0) ∧ W3.frozen? ⟨w.heap.size, 0, none⟩ = false ∧ W3.cell? ⟨w.heap.size + 1, 0, none⟩ = some (.bool false) ∧ W3.frozen? ⟨w.heap.size + 1, 0, none⟩ = false) := fun W3 hb => by
      have g1 := (hb.block _ (heap_lt h1)).trans h1
      have g6 := (hb.block _ (heap_lt h6)).trans h6
      have g7 := (hb.block _ (heap_lt h7)).trans h7
      exact ⟨ring_cell g1 rfl, ring_cell g6 rfl, ring_z g6, ring_cell g7 rfl, ring_z g7⟩
    obtain ⟨c4, c2, z2, c3, z3⟩ := PE.out W.drew (Below.refl _ _)
    clear hS hT hT1 hT2 hM hP e0
    gi_wp2
    rename_i K8 H8
    refine wpIn_mono (Q := Exit.then K8 (fun _ _ _ => False)) ?_ (fun e a w h => by cases e <;> first | exact h | exact h.elim)
    rw [wpIn_wide]
    go_region_law (go_simp; go_at_call 26; refine HTL.out.mono ?_; rintro e W3 ⟨rfl, B3⟩; obtain ⟨d4, d2, y2, d3, y3⟩ := PE.out W3 B3)
    all_goals
      refine H8 _ _ ?_
      clear H8 K8 c4 c2 z2 c3 z3 d4 d2 y2 d3 y3 HTL PE
      gi_wp2
      have hDl := heap_lt hK
      have s3 := B3.size
      have hK3 : ((W3.setCell ⟨w.heap.size, 0, none⟩ (.slice a xs.length c)).setCell ⟨w.heap.size + 1, 0, none⟩ (.bool (tellP ((rowsX s).map slotX) == s.toList))).heap[D]? = some (.deferred (some [])) := setCell_off _ _ _ _ (setCell_off _ _ _ _ ((B3.block D hDl).trans hK) (by omega)) (by omega)
      have g6 := (B3.block _ (heap_lt h6)).trans h6
      have g7 := (B3.block _ (heap_lt h7)).trans h7
      have g6a : (W3.setCell ⟨w.heap.size, 0, none⟩ (.slice a xs.length c)).heap[w.heap.size]? = some (.cells #[.slice a xs.length c] 23) := by rw [ring_set g6]; rfl
      have g7a : ((W3.setCell ⟨w.heap.size, 0, none⟩ (.slice a xs.length c)).setCell ⟨w.heap.size + 1, 0, none⟩ (.bool (tellP ((rowsX s).map slotX) == s.toList))).heap[w.heap.size + 1]? = some (.cells #[.bool (tellP ((rowsX s).map slotX) == s.toList)] 4) := by rw [ring_set (setCell_off _ _ _ _ g7 (by omega))]; rfl
      have g6b : ((W3.setCell ⟨w.heap.size, 0, none⟩ (.slice a xs.length c)).setCell ⟨w.heap.size + 1, 0, none⟩ (.bool (tellP ((rowsX s).map slotX) == s.toList))).heap[w.heap.size]? = some (.cells #[.slice a xs.length c] 23) := setCell_off _ _ _ _ g6a (by omega)
      have O3 : OwnS w.heap.size (((W3.setCell ⟨w.heap.size, 0, none⟩ (.slice a xs.length c)).setCell ⟨w.heap.size + 1, 0, none⟩ (.bool (tellP ((rowsX s).map slotX) == s.toList))).putObj D (.deferred none)) (.slice a xs.length c) xs := (h2.kept ((((KpC.drew _ W).trans (KpC.below B3)).trans (KpC.set W3 ⟨w.heap.size, 0, none⟩ _ (by simp))).trans ((KpC.set _ ⟨w.heap.size + 1, 0, none⟩ _ (by simp)).trans (KpC.put _ D _ (.deferred none) hK3 rfl)))).mono (by omega)
      have B9 : Below w.heap.size w (((W3.setCell ⟨w.heap.size, 0, none⟩ (.slice a xs.length c)).setCell ⟨w.heap.size + 1, 0, none⟩ (.bool (tellP ((rowsX s).map slotX) == s.toList))).putObj D (.deferred none)) := below_put (((h8.drew.trans (B3.mono h8.size)).setCell (p := ⟨w.heap.size, 0, none⟩) (by simp) _).setCell (p := ⟨w.heap.size + 1, 0, none⟩) (by simp) _) D _ (by omega)
      refine ⟨by simp, .inl ⟨_, _, rfl, run_takeDeferred hK3, ?_⟩⟩
      have k6 := put_cells (o' := .deferred none) g6b rfl hK3 rfl
      have k7 := put_cells (o' := .deferred none) g7a rfl hK3 rfl
      have c6 := ring_cell (i := 0) (v := .slice a xs.length c) k6 rfl
      have c7 := ring_cell (i := 0) (v := .bool (tellP ((rowsX s).map slotX) == s.toList)) k7 rfl
      refine ⟨_, results_cells2 rfl _ _ _ ⟨w.heap.size, 0, none⟩ ⟨w.heap.size + 1, 0, none⟩ (.slice a xs.length c) (.bool (tellP ((rowsX s).map slotX) == s.toList)) rfl rfl (by simp [loadVar, go_sem, c6]) (by simp [loadVar, go_sem, c7]), ?_⟩
      unfold ParR
      rw [if_pos (show (rowsX s).all formX = true from h4)]
      exact ⟨a, c, xs, rfl, h3, O3, B9⟩
  case stop =>
    intro D pre W hD hpre hX hK
    clear HKK hI0 hc0
    rw [hsz0] at hD
    clear hsz0
    obtain ⟨h4, h6, h7, h8, h9⟩ := hX
    gi_wp2
    refine ⟨by simp, .inl ⟨_, _, rfl, run_takeDeferred hK, ?_⟩⟩
    have k6 := put_cells (o' := .deferred none) h6 rfl hK rfl
    have k7 := put_cells (o' := .deferred none) h7 rfl hK rfl
    have c6 : (W.putObj D (.deferred none)).cell? ⟨w.heap.size, 0, none⟩ = some (.slice none 0 0) := ring_cell k6 rfl
    have c7 : (W.putObj D (.deferred none)).cell? ⟨w.heap.size + 1, 0, none⟩ = some (.bool false) := ring_cell k7 rfl
    refine ⟨_, results_cells2 rfl _ _ _ ⟨w.heap.size, 0, none⟩ ⟨w.heap.size + 1, 0, none⟩ (.slice none 0 0) (.bool false) rfl rfl (by simp [loadVar, go_sem, c6]) (by simp [loadVar, go_sem, c7]), ?_⟩
    unfold ParR
    have hn : ¬ (rowsX s).all formX = true := fun c => by
      obtain ⟨t, ht⟩ := hpre
      have e : rowsX s = pre ++ t := ht.symm
      rw [e, List.all_append, h4] at c
      cases c
    rw [if_neg hn]
    exact ⟨rfl, below_put h8 D _ (by omega)⟩
end Go.Proofs.YthmhaflkkigenaaGreatDoor

/- How long what is read may be told; Read, Write. -/
namespace Go.Proofs.YthmhaflkkigenaaGreatDoor
open Go.RowKit
set_option linter.unusedVariables false

theorem numI_bdT (s : ByteArray) : 0 ≤ numI 10 18 s ∧ numI 10 18 s < 1000000000000000000 := by
  unfold numI numV
  split
  · exact ⟨by decide, by decide⟩
  · rename_i h
    cases hv : vN 10 s.data.toList with
    | none => exact ⟨by decide, by decide⟩
    | some n =>
      have k := vN_take_lt 10 18 (by decide) s s.size (by omega) n (by rw [List.take_of_length_le (show s.data.toList.length ≤ s.size from Nat.le_refl _)]; exact hv)
      show 0 ≤ (n : Int) ∧ (n : Int) < _
      have e : (10 : Nat) ^ 18 = 1000000000000000000 := by decide
      omega
/-- As many bytes as these words take, with a sign behind each. -/
def smL (xs : List (List UInt8)) : Nat := (xs.map fun y => y.length + 1).sum
theorem smL_app (x y : List (List UInt8)) : smL (x ++ y) = smL x + smL y := by unfold smL; rw [List.map_append, List.sum_append]
theorem smL_cut : ∀ (l acc : List UInt8), smL (cutw acc l) = acc.length + l.length + 1
  | [], acc => by rw [cutw]; unfold smL; simp
  | b :: l, acc => by
    rw [cutw]
    split
    · have k := smL_cut l []
      unfold smL at *
      rw [List.map_cons, List.sum_cons, k]
      simp only [List.length_nil, List.length_cons]; omega
    · rw [smL_cut l (acc ++ [b])]
      simp only [List.length_append, List.length_cons, List.length_nil]; omega
theorem smL_drop (xs : List (List UInt8)) (k : Nat) : smL (xs.drop k) ≤ smL xs := by
  have e := smL_app (xs.take k) (xs.drop k)
  rw [List.take_append_drop] at e
  omega
theorem join_sm : ∀ xs : List (List UInt8), (Lib.join xs [32]).length ≤ smL xs
  | [] => by simp [Lib.join]
  | x :: r => by
    rw [Lib.join_cons, List.length_append]
    unfold Lib.joinTail
    have k : ∀ r : List (List UInt8), ((r.map ([32] ++ ·)).flatten).length = smL r := fun r => by
      induction r with
      | nil => rfl
      | cons y r ih =>
        have e : smL (y :: r) = y.length + 1 + smL r := by unfold smL; rw [List.map_cons, List.sum_cons]
        simp only [List.map_cons, List.flatten_cons, List.length_append, List.length_cons, List.length_nil]
        rw [ih, e]; omega
    rw [k r]
    have e : smL (x :: r) = x.length + 1 + smL r := by unfold smL; rw [List.map_cons, List.sum_cons]
    omega
theorem dec_bd (ws : List ByteArray) (i : Nat) : 0 ≤ (decsP ws).getD i 0 ∧ (decsP ws).getD i 0 < 1000000000000000000 := by
  rw [List.getD_eq_getElem?_getD]
  cases h : (decsP ws)[i]? with
  | none => exact ⟨by decide, by decide⟩
  | some v =>
    unfold decsP at h
    rw [List.getElem?_map] at h
    obtain ⟨y, _, rfl⟩ := Option.map_eq_some_iff.1 h
    exact numI_bdT y
theorem nums_bd (ws : List ByteArray) : ∀ n ∈ numsP (slotP ws), 0 ≤ n ∧ n < 1000000000000000000 := by
  intro n hn
  simp only [numsP, slotP, List.mem_cons, List.not_mem_nil, or_false] at hn
  rcases hn with rfl | rfl | rfl | rfl | rfl | rfl <;> exact dec_bd _ _
theorem nums_sm : ∀ l : List Int, (∀ n ∈ l, 0 ≤ n ∧ n < 1000000000000000000) → smL ((l.map itoaS).map (·.data.toList)) ≤ l.length * 22
  | [], _ => by simp [smL]
  | n :: l, h => by
    have k := nums_sm l (fun m hm => h m (List.mem_cons_of_mem _ hm))
    have q := h n List.mem_cons_self
    have z := Lib.itoa_length_le n (by omega) (by omega)
    have e : smL (((n :: l).map itoaS).map (·.data.toList)) = (Lib.itoa n).length + 1 + smL ((l.map itoaS).map (·.data.toList)) := by
      unfold smL
      rw [List.map_cons, List.map_cons, List.map_cons, List.sum_cons]; rfl
    rw [e, List.length_cons]
    omega
theorem line_bd (x : ByteArray) (hf : formX x = true) : (lineP (slotX x)).length ≤ 2 * x.size + 200 := by
  have hw : (wordsX x).map (·.data.toList) = cutw [] (trimX x).data.toList := piecew_cuts _
  have hs := trimX_size x
  have hz : (trimX x).data.toList.length = (trimX x).size := Array.length_toList
  have h1 : smL ((wordsX x).map (·.data.toList)) = (trimX x).size + 1 := by rw [hw, smL_cut, hz]; simp
  have h2 : smL ((slotX x).h.map (·.data.toList)) ≤ x.size + 1 := by
    show smL (((wordsX x).drop 8).map (·.data.toList)) ≤ _
    rw [List.map_drop]
    have := smL_drop ((wordsX x).map (·.data.toList)) 8
    omega
  have h3 : (slotX x).n.size ≤ x.size := by
    show ((wordsX x).getD 1 ⟨#[]⟩).size ≤ _
    rw [List.getD_eq_getElem?_getD]
    cases h : (wordsX x)[1]? with
    | none => exact Nat.zero_le _
    | some y =>
      have := piecew_size (trimX x) y (List.mem_of_getElem? h)
      show y.size ≤ _
      omega
  have h4 := nums_sm (numsP (slotX x)) (nums_bd _)
  have h5 : (numsP (slotX x)).length = 6 := rfl
  have h6 := join_sm ((wordsP (slotX x)).map (·.data.toList))
  have h7 : smL ((wordsP (slotX x)).map (·.data.toList)) = 5 + ((slotX x).n.size + 1) + smL (((numsP (slotX x)).map itoaS).map (·.data.toList)) + smL ((slotX x).h.map (·.data.toList)) := by
    unfold wordsP
    rw [List.map_append, List.map_append, smL_app, smL_app]
    have : smL (([⟨#[115, 108, 111, 116]⟩, (slotX x).n] : List ByteArray).map (·.data.toList)) = 5 + ((slotX x).n.size + 1) := by
      show (4 + 1) + (((slotX x).n.data.toList.length + 1) + 0) = _
      rw [Array.length_toList]; rfl
    rw [this]
  unfold lineP
  rw [List.length_append]
  simp only [List.length_cons, List.length_nil]
  omega
theorem tell_bd : ∀ (xs : List ByteArray) (m : Nat), (∀ x ∈ xs, formX x = true ∧ x.size ≤ m) → (tellP (xs.map slotX)).length ≤ xs.length * (2 * m + 200)
  | [], _, _ => by simp [tellP]
  | x :: xs, m, h => by
    have k := tell_bd xs m (fun y hy => h y (List.mem_cons_of_mem _ hy))
    have q := h x List.mem_cons_self
    have z := line_bd x q.1
    have e : tellP ((x :: xs).map slotX) = lineP (slotX x) ++ tellP (xs.map slotX) := by unfold tellP; rw [List.map_cons, List.flatMap_cons]
    rw [e, List.length_append, List.length_cons, Nat.add_mul, Nat.one_mul]
    omega
theorem parse_bd (s : ByteArray) (hs : s.size ≤ 4096) (h : (rowsX s).all formX = true) : (tellP ((rowsX s).map slotX)).length ≤ 100000000 ∧ ∀ t ∈ (rowsX s).map slotX, NBd t := by
  have hb := rows_bd s
  have k := tell_bd (rowsX s) 4096 (fun x hx => ⟨List.all_eq_true.1 h x hx, Nat.le_trans (hb.2 x hx) hs⟩)
  refine ⟨?_, fun t ht => ?_⟩
  · have : (rowsX s).length * (2 * 4096 + 200) ≤ 4096 * (2 * 4096 + 200) := Nat.mul_le_mul_right _ (by omega)
    omega
  · obtain ⟨x, _, rfl⟩ := List.mem_map.1 ht
    intro n hn
    have := nums_bd _ n hn
    omega
theorem slot_sbd (x : ByteArray) (hx : x.size ≤ 4096) : SBd (slotX x) := by
  have hs := trimX_size x
  have hc := Lib.countB_le ⟨#[32]⟩ (by decide) (trimX x).size (trimX x) (Nat.le_refl _)
  have hl : (wordsX x).length = Lib.countB (trimX x) ⟨#[32]⟩ + 1 := piecew_length _
  have hd : (slotX x).h.length = (wordsX x).length - 8 := List.length_drop
  have hp := piecew_size (trimX x)
  refine ⟨?_, fun y hy => ?_, by omega⟩
  · show ((wordsX x).getD 1 ⟨#[]⟩).size ≤ _
    rw [List.getD_eq_getElem?_getD]
    cases h : (wordsX x)[1]? with
    | none => exact Nat.zero_le _
    | some y =>
      have := hp y (List.mem_of_getElem? h)
      show y.size ≤ _
      omega
  · have := hp y (List.mem_of_mem_drop hy)
    omega
end Go.Proofs.YthmhaflkkigenaaGreatDoor

/- Read, Write. -/
namespace Go.Proofs.YthmhaflkkigenaaGreatDoor
open Go.ChangeShapes Go.WideShapes Go.ChangeAt Go.RowKit
set_option linter.unusedVariables false

def tabX (s : ByteArray) : List SlotP := (rowsX s).map slotX
def goodX (s : ByteArray) : Bool := (rowsX s).all formX && (tellP (tabX s) == s.toList)
def readE (s : ByteArray) : Int := if 4096 < s.size then 2 else if goodX s = false then 20 else if rightP (tabX s) = false then 60 else 0
/-- What Read answers. -/
def ReadR (w : World) (s : ByteArray) (e : Ending) (w' : World) : Prop :=
  if readE s = 0 then ∃ a c xs, e = .returned (.tuple #[.slice a xs.length c, .int .i64 0]) ∧ xs.map (·.s) = tabX s ∧ OwnS w.heap.size w' (.slice a xs.length c) xs ∧ Below w.heap.size w w'
  else e = .returned (.tuple #[.slice none 0 0, .int .i64 (readE s)]) ∧ Below w.heap.size w w'
theorem tabX_sbd (s : ByteArray) (hs : s.size ≤ 4096) : ∀ t ∈ tabX s, SBd t := by
  intro t ht
  obtain ⟨x, hx, rfl⟩ := List.mem_map.1 ht
  exact slot_sbd x (Nat.le_trans ((rows_bd s).2 x hx) hs)
set_option maxRecDepth 100000 in
set_option maxHeartbeats 1000000 in
theorem read_any (s : ByteArray) (w : World) (hz : s.size ≤ 281474976710656) (hM : MaxL w) (hP : PowT w) : Calls Tryz.prog 5 #[.string s] w (ReadR w s) := by
  unfold ReadR
  by_cases hs : 4096 < s.size
  · have e2 : readE s = 2 := by unfold readE; rw [if_pos hs]
    simp only [e2, if_neg (show ¬ (2 : Int) = 0 by decide)]
    have hsi : (4096 : Int) < (s.size : Int) := by omega
    clear e2 hs
    go_enter Tryz.func5, Tryz.ntmps5
    go_wp2
    refine bodyPost_ret (results_tmp2 rfl _ _ _) rfl ?_
    exact ⟨rfl, Below.refl _ _⟩
  · have hs1 : s.size ≤ 4096 := by omega
    have hsi : ¬ (4096 : Int) < (s.size : Int) := by omega
    have HC : Hid (Calls Tryz.prog 15 #[.string s] w fun e w' => e = .returned (.string s) ∧ Below w.heap.size w w') := clone_any s w hz
    have HP : Hid (∀ W, Below w.heap.size w W → Calls Tryz.prog 14 #[.string s] W (ParR W s)) := fun W hW => parse_any s W hs1 (hM.below hW) (hP.below hW) (parse_bd s hs1)
    by_cases hg : goodX s = true
    · have hg2 := hg
      unfold goodX at hg2
      rw [Bool.and_eq_true] at hg2
      have HP2 : Hid (∀ W, Below w.heap.size w W → Calls Tryz.prog 14 #[.string s] W fun e w' => ∃ a c n, e = .returned (.tuple #[.slice a n c, .bool true]) ∧ ∃ xs : List SlotX, Hid (xs.length = n) ∧ xs.map (·.s) = tabX s ∧ OwnS w.heap.size w' (.slice a n c) xs ∧ Below w.heap.size w w') := fun W hW => (HP.out W hW).mono fun e w' hq => by
        unfold ParR at hq
        rw [if_pos hg2.1] at hq
        obtain ⟨a, c, xs, rfl, q1, q2, q3⟩ := hq
        refine ⟨a, c, xs.length, ?_, xs, rfl, q1, q2.mono hW.size, hW.trans (q3.mono hW.size)⟩
        have : (tellP ((rowsX s).map slotX) == s.toList) = true := hg2.2
        rw [this]
      have HR : Hid (∀ W a c (xs : List SlotX) n, xs.length = n → xs.map (·.s) = tabX s → OwnS w.heap.size W (.slice a n c) xs → Below w.heap.size w W → Calls Tryz.prog 11 #[.slice a n c] W fun e w' => e = .returned (.bool (rightP (tabX s))) ∧ OwnS w.heap.size w' (.slice a n c) xs ∧ Below w.heap.size w w') := fun W a c xs n hn h1 h2 h3 => by
        subst hn
        have e0 : (xs.map (·.s)).length = xs.length := List.length_map _
        have hS := h2.sls
        rw [← e0] at hS
        have k := tright_any (xs.map (·.s)) a c W hS (by rw [h1]; exact tabX_sbd s hs1)
        rw [e0, h1] at k
        exact k.mono fun e w' ⟨q1, q2⟩ => ⟨q1, h2.kept (KpC.below q2), h3.trans (q2.mono h3.size)⟩
      clear HP hg2 hM hP hz
      by_cases hr : rightP (tabX s) = true
      · have e0 : readE s = 0 := by unfold readE; rw [if_neg hs, if_neg (by rw [hg]; decide), if_neg (by rw [hr]; decide)]
        simp only [e0]
        rw [hr] at HR
        clear e0 hs hg hr hs1
        go_enter Tryz.func5, Tryz.ntmps5
        go_wp2_with (first
          | (go_at_call 15; refine HC.out.mono ?_; rintro e W1 ⟨rfl, B1⟩)
          | (go_at_call 14; refine (HP2.out _ (by assumption)).mono ?_; rintro e W2 ⟨a, c, n, rfl, xs, hn, k1, k2, k3⟩; have HR2 := HR.out W2 a c xs n hn.out k1 k2 k3; clear k2 k3 B1 HP2 HR)
          | (go_at_call 11; refine HR2.mono ?_; rintro e W3 ⟨rfl, k4, k5⟩))
        refine bodyPost_ret (results_tmp2 rfl _ _ _) rfl ?_
        have hn2 := hn.out
        subst hn2
        exact ⟨a, c, xs, rfl, k1, k4, k5⟩
      · have hr' : rightP (tabX s) = false := by simpa using hr
        have e0 : readE s = 60 := by unfold readE; rw [if_neg hs, if_neg (by rw [hg]; decide), if_pos hr']
        simp only [e0, if_neg (show ¬ (60 : Int) = 0 by decide)]
        rw [hr'] at HR
        clear e0 hs hg hr hs1 hr'
        go_enter Tryz.func5, Tryz.ntmps5
        go_wp2_with (first
          | (go_at_call 15; refine HC.out.mono ?_; rintro e W1 ⟨rfl, B1⟩)
          | (go_at_call 14; refine (HP2.out _ (by assumption)).mono ?_; rintro e W2 ⟨a, c, n, rfl, xs, hn, k1, k2, k3⟩; have HR2 := HR.out W2 a c xs n hn.out k1 k2 k3; clear k2 k3 B1 HP2 HR)
          | (go_at_call 11; refine HR2.mono ?_; rintro e W3 ⟨rfl, k4, k5⟩))
        refine bodyPost_ret (results_tmp2 rfl _ _ _) rfl ?_
        exact ⟨rfl, k5⟩
    · have hg' : goodX s = false := by simpa using hg
      have HP2 : Hid (∀ W, Below w.heap.size w W → Calls Tryz.prog 14 #[.string s] W fun e w' => ∃ v, e = .returned (.tuple #[v, .bool false]) ∧ Below w.heap.size w w') := fun W hW => (HP.out W hW).mono fun e w' hq => by
        unfold ParR at hq
        by_cases h1 : (rowsX s).all formX = true
        · rw [if_pos h1] at hq
          obtain ⟨a, c, xs, rfl, q1, q2, q3⟩ := hq
          have : (tellP ((rowsX s).map slotX) == s.toList) = false := by
            unfold goodX tabX at hg'
            rw [h1, Bool.true_and] at hg'
            exact hg'
          rw [this]
          exact ⟨_, rfl, hW.trans (q3.mono hW.size)⟩
        · rw [if_neg h1] at hq
          exact ⟨_, hq.1, hW.trans (hq.2.mono hW.size)⟩
      have e0 : readE s = 20 := by unfold readE; rw [if_neg hs, if_pos hg']
      simp only [e0, if_neg (show ¬ (20 : Int) = 0 by decide)]
      clear HP hM hP hz e0 hs hg hs1 hg'
      go_enter Tryz.func5, Tryz.ntmps5
      go_wp2_with (first
        | (go_at_call 15; refine HC.out.mono ?_; rintro e W1 ⟨rfl, B1⟩)
        | (go_at_call 14; refine (HP2.out _ (by assumption)).mono ?_; rintro e W2 ⟨v, rfl, k3⟩))
      refine bodyPost_ret (results_tmp2 rfl _ _ _) rfl ?_
      exact ⟨rfl, k3⟩
set_option maxHeartbeats 1000000 in
theorem write_any (ts : List SlotP) (a : Option Addr) (c : Nat) (w : World) (hf : Sls w.heap.size w (.slice a ts.length c) ts) (hb : ∀ s ∈ ts, SBd s) (hT : rightP ts = true → (tellP ts).length ≤ 100000000 ∧ ∀ s ∈ ts, NBd s) (hP : PowT w) :
    Calls Tryz.prog 10 #[.slice a ts.length c] w fun e w' => e = .returned (if rightP ts = true then .tuple #[.string ⟨(tellP ts).toArray⟩, .int .i64 0] else .tuple #[.string ⟨#[]⟩, .int .i64 60]) ∧ Below w.heap.size w w' := by
  have HR : Hid (Calls Tryz.prog 11 #[.slice a ts.length c] w fun e w' => e = .returned (.bool (rightP ts)) ∧ Below w.heap.size w w') := tright_any ts a c w hf hb
  have HT : Hid (rightP ts = true → ∀ W, Below w.heap.size w W → Calls Tryz.prog 26 #[.slice a ts.length c] W fun e w' => e = .returned (.string ⟨(tellP ts).toArray⟩) ∧ Below w.heap.size w w') := fun hr W hW => (tell_any ts a c W ((hf.keep hW).mono hW.size) (hT hr).1 (hT hr).2 (hP.below hW)).mono fun e w' ⟨q1, q2⟩ => ⟨q1, hW.trans (q2.mono hW.size)⟩
  clear hf hb hT hP
  by_cases hr : rightP ts = true
  · rw [if_pos hr]
    have HT2 := HT.out hr
    rw [hr] at HR
    clear HT hr
    go_enter Tryz.func10, Tryz.ntmps10
    go_wp2_with (first
      | (go_at_call 11; refine HR.out.mono ?_; rintro e W1 ⟨rfl, B1⟩)
      | (go_at_call 26; refine (HT2 _ (by assumption)).mono ?_; rintro e W2 ⟨rfl, B2⟩))
    refine bodyPost_ret (results_tmp2 rfl _ _ _) rfl ?_
    exact ⟨rfl, B2⟩
  · rw [if_neg hr]
    have hr' : rightP ts = false := by simpa using hr
    rw [hr'] at HR
    clear HT hr hr'
    go_enter Tryz.func10, Tryz.ntmps10
    go_wp2_with (go_at_call 11; refine HR.out.mono ?_; rintro e W1 ⟨rfl, B1⟩)
    refine bodyPost_ret (results_tmp2 rfl _ _ _) rfl ?_
    exact ⟨rfl, B1⟩
end Go.Proofs.YthmhaflkkigenaaGreatDoor

/- The document's example, plain. -/
namespace Go.Proofs.YthmhaflkkigenaaGreatDoor
open Go.RowKit
set_option linter.unusedVariables false
def exA : ByteArray := ⟨#[115, 108, 111, 116, 32, 97, 32, 49, 48, 48, 48, 32, 50, 32, 50, 32, 53, 32, 53, 32, 54, 52, 32, 97, 46, 101, 120, 97, 109, 112, 108, 101, 32, 98, 10]⟩
def exB : ByteArray := ⟨#[115, 108, 111, 116, 32, 97, 10]⟩
set_option maxRecDepth 100000
theorem exA_rows : rowsX exA = [exA] := by decide +kernel
theorem exA_words : wordsX exA = [⟨#[115, 108, 111, 116]⟩, ⟨#[97]⟩, ⟨#[49, 48, 48, 48]⟩, ⟨#[50]⟩, ⟨#[50]⟩, ⟨#[53]⟩, ⟨#[53]⟩, ⟨#[54, 52]⟩, ⟨#[97, 46, 101, 120, 97, 109, 112, 108, 101]⟩, ⟨#[98]⟩] := by decide +kernel
theorem exA_form : formX exA = true := by decide +kernel
theorem exB_read : readE exB = 20 := by decide +kernel
theorem exA_read : readE exA = 0 := by decide +kernel
theorem exA_right : rightP (tabX exA) = true := by decide +kernel
theorem exA_tell : tellP (tabX exA) = exA.data.toList := by decide +kernel
theorem ex_name : nameP ⟨#[97, 45, 49]⟩ = true ∧ nameP ⟨#[49, 97]⟩ = false := by decide +kernel
end Go.Proofs.YthmhaflkkigenaaGreatDoor

/- alive: the document's example, run. -/
namespace Go.Proofs.YthmhaflkkigenaaGreatDoor
open Go.ChangeShapes Go.WideShapes Go.ChangeAt Go.RowKit
set_option linter.unusedVariables false

/-- What holds behind the example's table is read. -/
structure AlvT (W1 : World) (g c : Nat) (ha : Option Addr) (hc : Nat) (W : World) : Prop where
  q : W.cell? ⟨g, 7, none⟩ = some (.int .i64 64)
  h : W.cell? ⟨g, 1, none⟩ = some (.slice ha 2 hc)
  wr : Calls Tryz.prog 10 #[.slice (some ⟨g, 0, none⟩) 1 c] W fun e w' => e = .returned (.tuple #[.string ⟨#[115, 108, 111, 116, 32, 97, 32, 49, 48, 48, 48, 32, 50, 32, 50, 32, 53, 32, 53, 32, 54, 52, 32, 97, 46, 101, 120, 97, 109, 112, 108, 101, 32, 98, 10]⟩, .int .i64 0]) ∧ Below W1.heap.size W1 w'
  rd : Calls Tryz.prog 5 #[.string ⟨#[115, 108, 111, 116, 32, 97, 10]⟩] W fun e w' => e = .returned (.tuple #[.slice none 0 0, .int .i64 20]) ∧ Below W1.heap.size W1 w'
  rt : Calls Tryz.prog 11 #[.slice (some ⟨g, 0, none⟩) 1 c] W fun e w' => e = .returned (.bool true) ∧ Below W1.heap.size W1 w'
  rn : Calls Tryz.prog 11 #[.slice none 0 0] W fun e w' => e = .returned (.bool false) ∧ Below W1.heap.size W1 w'
  fb : Calls Tryz.prog 12 #[.slice (some ⟨g, 0, none⟩) 1 c, .string ⟨#[98]⟩] W fun e w' => e = .returned (.int .i64 0) ∧ Below W1.heap.size W1 w'
  fc : Calls Tryz.prog 12 #[.slice (some ⟨g, 0, none⟩) 1 c, .string ⟨#[99]⟩] W fun e w' => e = .returned (.int .i64 (-1)) ∧ Below W1.heap.size W1 w'
  nm : Calls Tryz.prog 13 #[.slice (some ⟨g, 0, none⟩) 1 c, .string ⟨#[97]⟩] W fun e w' => e = .returned (.int .i64 0) ∧ Below W1.heap.size W1 w'
  na : Calls Tryz.prog 8 #[.string ⟨#[97, 45, 49]⟩] W fun e w' => e = .returned (.bool true) ∧ Below W1.heap.size W1 w'
  nb : Calls Tryz.prog 8 #[.string ⟨#[49, 97]⟩] W fun e w' => e = .returned (.bool false) ∧ Below W1.heap.size W1 w'
set_option maxRecDepth 100000
def slA : SlotP := ⟨⟨#[97]⟩, [⟨#[97, 46, 101, 120, 97, 109, 112, 108, 101]⟩, ⟨#[98]⟩], 1000, 2, 2, 5, 5, 64⟩
theorem exA_tab : tabX exA = [slA] := by
  show (rowsX exA).map slotX = _
  rw [exA_rows]
  show [slotP (wordsX exA)] = _
  rw [exA_words]
  rfl
theorem exA_tabl : (tabX exA).length = 1 := by rw [exA_tab]; rfl
theorem ex_find : idxP (hasH ⟨#[98]⟩) [slA] = 0 ∧ idxP (hasH ⟨#[99]⟩) [slA] = -1 ∧ idxP (fun s => s.n.toList == (⟨#[97]⟩ : ByteArray).toList) [slA] = 0 := by decide +kernel
theorem ex_nil : rightP [] = false := by decide +kernel
set_option maxHeartbeats 1000000 in
theorem alv_read (w : World) (hM : MaxL w) (hP : PowT w) : Calls Tryz.prog 5 #[.string ⟨#[115, 108, 111, 116, 32, 97, 32, 49, 48, 48, 48, 32, 50, 32, 50, 32, 53, 32, 53, 32, 54, 52, 32, 97, 46, 101, 120, 97, 109, 112, 108, 101, 32, 98, 10]⟩] w fun e w' => ∃ g c, e = .returned (.tuple #[.slice (some ⟨g, 0, none⟩) 1 c, .int .i64 0]) ∧ Below w.heap.size w w' ∧ ∃ ha hc, Hid (∀ W, Below w'.heap.size w' W → AlvT w' g c ha hc W) := by
  refine (read_any exA w (by decide) hM hP).mono fun e w' hq => ?_
  unfold ReadR at hq
  rw [if_pos exA_read] at hq
  obtain ⟨a, c, xs, rfl, k1, k2, k3⟩ := hq
  have e1 : xs.length = 1 := by
    have := congrArg List.length k1
    rw [List.length_map, exA_tabl] at this
    exact this
  have hS := k2.sls
  rw [k1, exA_tab] at hS
  rw [e1] at hS ⊢
  have hS2 := hS
  obtain ⟨a', c', ev, _, hlc, hcm, hcell⟩ := hS2
  obtain ⟨rfl, _, rfl⟩ := slice_inj ev
  have hg0 : a = none ∨ ∃ g, a = some ⟨g, 0, none⟩ := by
    obtain ⟨_, ⟨hv, _⟩ | ⟨g, cap, cur, hv, _⟩⟩ := k2.row
    · exact .inl (slice_inj hv).1
    · exact .inr ⟨g, (slice_inj hv).1⟩
  obtain ⟨g, off, ea, hg, hat⟩ := hcell (by decide)
  rcases hg0 with hg0 | ⟨g2, hg0⟩
  · rw [hg0] at ea; cases ea
  rw [hg0] at ea
  have e5 : g2 = g ∧ 0 = off := by simpa using ea
  obtain ⟨rfl, rfl⟩ := e5
  subst hg0
  obtain ⟨ha, hc, p0, p1, p2, p3, p4, p5, p6, p7, pt⟩ := hat 0 (by decide)
  refine ⟨g2, c, rfl, k3, ha, hc, fun W hW => ?_⟩
  have hMW := hM.below k3
  have hPW := hP.below k3
  have S1 : Sls W.heap.size W (.slice (some ⟨g2, 0, none⟩) [slA].length c) [slA] := (hS.keep hW).mono hW.size
  have SB : ∀ s ∈ [slA], SBd s := by rw [← exA_tab]; exact tabX_sbd exA (by decide)
  have RT : rightP [slA] = true := by rw [← exA_tab]; exact exA_right
  have hb := parse_bd exA (by decide) (by rw [exA_rows, List.all_cons, exA_form]; rfl)
  have hb2 : (tellP [slA]).length ≤ 100000000 ∧ ∀ t ∈ [slA], NBd t := by rw [← exA_tab]; exact hb
  refine ⟨(hW.cell (p := ⟨g2, 7, none⟩) hg).trans p7, (hW.cell (p := ⟨g2, 1, none⟩) hg).trans p1, ?_, ?_, ?_, ?_, ?_, ?_, ?_, ?_, ?_⟩
  · refine (write_any [slA] _ c W S1 SB (fun _ => hb2) (hPW.below hW)).mono fun e v ⟨q1, q2⟩ => ⟨?_, hW.trans (q2.mono hW.size)⟩
    rw [q1, if_pos RT]
    have et := exA_tell
    rw [exA_tab] at et
    rw [et]
    rfl
  · refine (read_any exB W (by decide) (hMW.below hW) (hPW.below hW)).mono fun e v hq => ?_
    unfold ReadR at hq
    rw [exB_read, if_neg (by decide)] at hq
    exact ⟨hq.1, hW.trans (hq.2.mono hW.size)⟩
  · refine (tright_any [slA] _ c W S1 SB).mono fun e v ⟨q1, q2⟩ => ⟨?_, hW.trans (q2.mono hW.size)⟩
    rw [q1, RT]
  · refine (tright_any [] none 0 W ⟨none, 0, rfl, fun _ => rfl, Nat.le_refl _, Nat.zero_le _, fun h => absurd h (Nat.lt_irrefl _)⟩ (fun s hs => by cases hs)).mono fun e v ⟨q1, q2⟩ => ⟨?_, hW.trans (q2.mono hW.size)⟩
    rw [q1, ex_nil]
  · refine (find_any [slA] _ c ⟨#[98]⟩ W S1).mono fun e v ⟨q1, q2⟩ => ⟨?_, hW.trans (q2.mono hW.size)⟩
    rw [q1, ex_find.1]
  · refine (find_any [slA] _ c ⟨#[99]⟩ W S1).mono fun e v ⟨q1, q2⟩ => ⟨?_, hW.trans (q2.mono hW.size)⟩
    rw [q1, ex_find.2.1]
  · refine (named_any [slA] _ c ⟨#[97]⟩ W S1).mono fun e v ⟨q1, q2⟩ => ⟨?_, hW.trans (q2.mono hW.size)⟩
    rw [q1, ex_find.2.2]
  · refine (name_any ⟨#[97, 45, 49]⟩ W (by decide)).mono fun e v ⟨q1, q2⟩ => ⟨?_, by rw [q2]; exact hW⟩
    rw [q1, ex_name.1]
  · refine (name_any ⟨#[49, 97]⟩ W (by decide)).mono fun e v ⟨q1, q2⟩ => ⟨?_, by rw [q2]; exact hW⟩
    rw [q1, ex_name.2]
set_option maxHeartbeats 2000000 in
theorem alive9_any (w : World) (hM : MaxL w) (hP : PowT w) : Calls Tryz.prog 4 #[] w fun e w' => e = .returned (.bool true) ∧ Below w.heap.size w w' := by
  have HR : Hid (Calls Tryz.prog 5 #[.string ⟨#[115, 108, 111, 116, 32, 97, 32, 49, 48, 48, 48, 32, 50, 32, 50, 32, 53, 32, 53, 32, 54, 52, 32, 97, 46, 101, 120, 97, 109, 112, 108, 101, 32, 98, 10]⟩] w fun e w' => ∃ g c, e = .returned (.tuple #[.slice (some ⟨g, 0, none⟩) 1 c, .int .i64 0]) ∧ Below w.heap.size w w' ∧ ∃ ha hc, Hid (∀ W, Below w'.heap.size w' W → AlvT w' g c ha hc W)) := alv_read w hM hP
  clear hM hP
  go_enter Tryz.func4, Tryz.ntmps4
  go_wp2_with (first
    | (go_at_call 5; refine HR.out.mono ?_; rintro e W1 ⟨g, c, rfl, B1, ha, hc, HA⟩; clear HR; have T1 := HA.out W1 (Below.refl _ _))
    | (go_at_call 10; refine T1.wr.mono ?_; rintro e W2 ⟨rfl, B2⟩; clear T1; have T2 := HA.out W2 B2)
    | (go_at_call 5; refine T2.rd.mono ?_; rintro e W3 ⟨rfl, B3⟩; clear T2; have T3 := HA.out W3 B3; have q3 := T3.q; have h3 := T3.h)
    | (go_at_call 11; refine T3.rt.mono ?_; rintro e W4 ⟨rfl, B4⟩; clear T3; have T4 := HA.out W4 B4)
    | (go_at_call 11; refine T4.rn.mono ?_; rintro e W5 ⟨rfl, B5⟩; clear T4; have T5 := HA.out W5 B5)
    | (go_at_call 12; refine T5.fb.mono ?_; rintro e W6 ⟨rfl, B6⟩; clear T5; have T6 := HA.out W6 B6)
    | (go_at_call 12; refine T6.fc.mono ?_; rintro e W7 ⟨rfl, B7⟩; clear T6; have T7 := HA.out W7 B7)
    | (go_at_call 13; refine T7.nm.mono ?_; rintro e W8 ⟨rfl, B8⟩; clear T7; have T8 := HA.out W8 B8)
    | (go_at_call 8; refine T8.na.mono ?_; rintro e W9 ⟨rfl, B9⟩; clear T8; have T9 := HA.out W9 B9)
    | (go_at_call 8; refine T9.nb.mono ?_; rintro e W10 ⟨rfl, B10⟩; clear T9))
  go_ret
  exact ⟨rfl, B1.trans (B10.mono B1.size)⟩
end Go.Proofs.YthmhaflkkigenaaGreatDoor
