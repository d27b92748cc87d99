/- What the reference's rings hold, step by step; a row that is written over. -/
import Derived.Test.YtenajbefknlalaaRpF
namespace Go.Proofs.Ytenajbefknlalaa
open Go.RowKit
set_option linter.unusedVariables false

structure RI (wr : World) (G : Nat → Prop) (bx br : Nat) (rs : List Nat) (Ls : List (List UInt8)) (m q : Int) (xa xc : Nat) : Prop where
  mat : Mat G wr (.slice (some ⟨xa, 0, none⟩) 3 xc) Ls
  len : Ls.length = 3
  lenr : rs.length = 3
  nb : ¬ G bx
  gr : G br
  glt : ∀ k, G k → k < wr.heap.size
  xb : wr.heap[bx]? = some (.cells #[.int .i64 (tot Ls : Nat), .int .i64 q, .int .i64 m, .slice (some ⟨xa, 0, none⟩) 3 xc] 33)
  rb : wr.heap[br]? = some (.cells (rs.map ptr).toArray 26)
section
variable {w wr : World} {G : Nat → Prop} {mb bx br : Nat} {rs : List Nat} {Ls : List (List UInt8)} {m p q : Int} {xa xc : Nat}
theorem PI.ri (h : PI w wr G mb bx br rs Ls m p xa xc) : RI wr G bx br rs Ls m (pst (tot Ls : Nat) p) xa xc :=
  ⟨h.mat, h.len, h.lenr, h.nb, h.gr, h.glt, h.xb, h.rb⟩
theorem RI.pi {w' : World} (h : RI wr G bx br rs Ls m (pst (tot Ls : Nat) p) xa xc) (hk : ∀ k, (G k ∨ k = bx) → w'.heap[k]? = wr.heap[k]?) (hx : w.heap.size ≤ bx) (old : ∀ k, k < w.heap.size → G k) (hm : Many (fun k => G k ∨ k = bx) w w' mb rs Ls m p) : PI w w' G mb bx br rs Ls m p xa xc :=
  ⟨hm, h.mat.frame (fun k hk' => hk k (.inl hk')) (fun _ h => h), h.len, h.lenr, h.nb, hx, old, h.gr, (hk bx (.inr rfl)).trans h.xb, (hk br (.inl h.gr)).trans h.rb⟩
theorem RI.below {w' : World} (h : RI wr G bx br rs Ls m q xa xc) (B : Below wr.heap.size wr w') : RI w' G bx br rs Ls m q xa xc :=
  ⟨h.mat.frame (fun k hk => B.block k (h.glt k hk)) (fun _ h => h), h.len, h.lenr, h.nb, h.gr, fun k hk => Nat.lt_of_lt_of_le (h.glt k hk) B.size, (B.block bx (heap_lt h.xb)).trans h.xb, (B.block br (heap_lt h.rb)).trans h.rb⟩
/-- The reference's rings are laid into their cells anew. -/
theorem RI.store {w5 : World} {Ls' : List (List UInt8)} {q' : Int} {xa' xc' : Nat} {o : Obj} (h : RI wr G bx br rs Ls m q xa xc) (B : Below wr.heap.size wr w5) (M : Mat (fun i => G i ∨ (wr.heap.size ≤ i ∧ i < w5.heap.size)) w5 (.slice (some ⟨xa', 0, none⟩) 3 xc') Ls') (hl : Ls'.length = 3) :
    RI (((((w5.setCell ⟨bx, 0, none⟩ (.int .i64 (tot Ls' : Nat))).setCell ⟨bx, 1, none⟩ (.int .i64 q')).setCell ⟨bx, 2, none⟩ (.int .i64 m)).setCell ⟨bx, 3, none⟩ (.slice (some ⟨xa', 0, none⟩) 3 xc')).alloc o) (fun i => G i ∨ (wr.heap.size ≤ i ∧ i < w5.heap.size)) bx br rs Ls' m q' xa' xc' ∧
    Kp (fun k => k = bx) wr (((((w5.setCell ⟨bx, 0, none⟩ (.int .i64 (tot Ls' : Nat))).setCell ⟨bx, 1, none⟩ (.int .i64 q')).setCell ⟨bx, 2, none⟩ (.int .i64 m)).setCell ⟨bx, 3, none⟩ (.slice (some ⟨xa', 0, none⟩) 3 xc')).alloc o) ∧
    w5.heap.size < (((((w5.setCell ⟨bx, 0, none⟩ (.int .i64 (tot Ls' : Nat))).setCell ⟨bx, 1, none⟩ (.int .i64 q')).setCell ⟨bx, 2, none⟩ (.int .i64 m)).setCell ⟨bx, 3, none⟩ (.slice (some ⟨xa', 0, none⟩) 3 xc')).alloc o).heap.size := by
  have hbx := heap_lt h.xb
  have K := set4_kp w5 bx (.int .i64 (tot Ls' : Nat)) (.int .i64 q') (.int .i64 m) (.slice (some ⟨xa', 0, none⟩) 3 xc')
  have hb5 := (B.block bx hbx).trans h.xb
  have X := rblk_set hb5 (.int .i64 (tot Ls' : Nat)) (.int .i64 q') (.int .i64 m) (.slice (some ⟨xa', 0, none⟩) 3 xc')
  generalize (((w5.setCell ⟨bx, 0, none⟩ (.int .i64 (tot Ls' : Nat))).setCell ⟨bx, 1, none⟩ (.int .i64 q')).setCell ⟨bx, 2, none⟩ (.int .i64 m)).setCell ⟨bx, 3, none⟩ (.slice (some ⟨xa', 0, none⟩) 3 xc') = w6 at *
  have A : Below w6.heap.size w6 (w6.alloc o) := (Below.refl _ _).alloc (Nat.le_refl _) _
  have ks := K.size
  have bs := B.size
  have hne : ∀ k, G k → k ≠ bx := fun k hk e => h.nb (e ▸ hk)
  have hs6 : (w6.alloc o).heap.size = w6.heap.size + 1 := by simp
  have hlt : ∀ k, (G k ∨ (wr.heap.size ≤ k ∧ k < w5.heap.size)) → k < w5.heap.size ∧ k ≠ bx := fun k hk => by
    rcases hk with c | c
    · exact ⟨Nat.lt_of_lt_of_le (h.glt k c) bs, hne k c⟩
    · exact ⟨c.2, by omega⟩
  refine ⟨⟨M.frame (fun k hk => (A.block k (by have := hlt k hk; omega)).trans (K.block k (hlt k hk).1 (hlt k hk).2)) (fun _ h => h), hl, h.lenr, fun c => (hlt bx c).2 rfl, .inl h.gr, fun k hk => by have := hlt k hk; omega, (A.block bx (heap_lt X)).trans X, ?_⟩, ?_, by omega⟩
  · have := hlt br (.inl h.gr)
    rw [A.block br (by omega), K.block br this.1 this.2, B.block br (h.glt br h.gr)]
    exact h.rb
  · exact ((Kp.ofBelow B).then K).then (Kp.ofBelow A)
theorem RI.store0 {w5 : World} {Ls' : List (List UInt8)} {q' : Int} {xa' xc' : Nat} (h : RI wr G bx br rs Ls m q xa xc) (B : Below wr.heap.size wr w5) (M : Mat (fun i => G i ∨ (wr.heap.size ≤ i ∧ i < w5.heap.size)) w5 (.slice (some ⟨xa', 0, none⟩) 3 xc') Ls') (hl : Ls'.length = 3) :
    RI (((((w5.setCell ⟨bx, 0, none⟩ (.int .i64 (tot Ls' : Nat))).setCell ⟨bx, 1, none⟩ (.int .i64 q')).setCell ⟨bx, 2, none⟩ (.int .i64 m)).setCell ⟨bx, 3, none⟩ (.slice (some ⟨xa', 0, none⟩) 3 xc'))) (fun i => G i ∨ (wr.heap.size ≤ i ∧ i < w5.heap.size)) bx br rs Ls' m q' xa' xc' ∧
    Kp (fun k => k = bx) wr (((((w5.setCell ⟨bx, 0, none⟩ (.int .i64 (tot Ls' : Nat))).setCell ⟨bx, 1, none⟩ (.int .i64 q')).setCell ⟨bx, 2, none⟩ (.int .i64 m)).setCell ⟨bx, 3, none⟩ (.slice (some ⟨xa', 0, none⟩) 3 xc'))) ∧
    w5.heap.size ≤ (((((w5.setCell ⟨bx, 0, none⟩ (.int .i64 (tot Ls' : Nat))).setCell ⟨bx, 1, none⟩ (.int .i64 q')).setCell ⟨bx, 2, none⟩ (.int .i64 m)).setCell ⟨bx, 3, none⟩ (.slice (some ⟨xa', 0, none⟩) 3 xc'))).heap.size := by
  have hbx := heap_lt h.xb
  have K := set4_kp w5 bx (.int .i64 (tot Ls' : Nat)) (.int .i64 q') (.int .i64 m) (.slice (some ⟨xa', 0, none⟩) 3 xc')
  have hb5 := (B.block bx hbx).trans h.xb
  have X := rblk_set hb5 (.int .i64 (tot Ls' : Nat)) (.int .i64 q') (.int .i64 m) (.slice (some ⟨xa', 0, none⟩) 3 xc')
  generalize (((w5.setCell ⟨bx, 0, none⟩ (.int .i64 (tot Ls' : Nat))).setCell ⟨bx, 1, none⟩ (.int .i64 q')).setCell ⟨bx, 2, none⟩ (.int .i64 m)).setCell ⟨bx, 3, none⟩ (.slice (some ⟨xa', 0, none⟩) 3 xc') = w6 at *
  have ks := K.size
  have bs := B.size
  have hne : ∀ k, G k → k ≠ bx := fun k hk e => h.nb (e ▸ hk)
  have hlt : ∀ k, (G k ∨ (wr.heap.size ≤ k ∧ k < w5.heap.size)) → k < w5.heap.size ∧ k ≠ bx := fun k hk => by
    rcases hk with c | c
    · exact ⟨Nat.lt_of_lt_of_le (h.glt k c) bs, hne k c⟩
    · exact ⟨c.2, by omega⟩
  refine ⟨⟨M.frame (fun k hk => K.block k (hlt k hk).1 (hlt k hk).2) (fun _ h => h), hl, h.lenr, fun c => (hlt bx c).2 rfl, .inl h.gr, fun k hk => by have := hlt k hk; omega, X, ?_⟩, ?_, by omega⟩
  · have := hlt br (.inl h.gr)
    rw [K.block br this.1 this.2, B.block br (h.glt br h.gr)]
    exact h.rb
  · exact (Kp.ofBelow B).then K
end
/-- The first n cells of block g are bytes, and may be written. -/
def Wrt (w : World) (g n : Nat) : Prop := ∃ cur : Array Value, w.heap[g]? = some (.cells cur 5) ∧ n ≤ cur.size ∧ ∀ i, i < n → ∃ z : Int, cur[i]? = some (.int .u8 z)
theorem Wrt.cell {w : World} {g n i : Nat} (h : Wrt w g n) (hi : i < n) : ∃ z : Int, w.cell? ⟨g, i, none⟩ = some (.int .u8 z) := by
  obtain ⟨cur, h1, h2, h3⟩ := h
  obtain ⟨z, hz⟩ := h3 i hi
  exact ⟨z, ring_cell h1 hz⟩
theorem Wrt.z {w : World} {g n i : Nat} (h : Wrt w g n) : w.frozen? ⟨g, i, none⟩ = false := by
  obtain ⟨cur, h1, h2, h3⟩ := h
  exact ring_z h1
theorem Wrt.set {w : World} {g n i : Nat} (h : Wrt w g n) (z : Int) : Wrt (w.setCell ⟨g, i, none⟩ (.int .u8 z)) g n := by
  obtain ⟨cur, h1, h2, h3⟩ := h
  refine ⟨_, ring_set h1, by simpa using h2, fun k hk => ?_⟩
  obtain ⟨x, hx⟩ := h3 k hk
  by_cases e : i = k
  · subst e
    exact ⟨z, by rw [Array.getElem?_setIfInBounds_self_of_lt (by omega)]⟩
  · exact ⟨x, by rw [Array.getElem?_setIfInBounds_ne e]; exact hx⟩
theorem Wrt.frame {w w' : World} {g n : Nat} (h : Wrt w g n) (hk : w'.heap[g]? = w.heap[g]?) : Wrt w' g n := by
  obtain ⟨cur, h1, h2, h3⟩ := h
  exact ⟨cur, hk.trans h1, h2, h3⟩
theorem Wrt.row {w : World} {g : Nat} {l : List UInt8} (h : w.heap[g]? = some (.cells (rowB l).toArray 5)) : Wrt w g l.length :=
  ⟨_, h, by simp [rowB_length], fun i hi => ⟨_, by rw [List.getElem?_toArray]; unfold rowB; rw [List.getElem?_map, List.getElem?_eq_getElem hi]; rfl⟩⟩
theorem Acc.wrt {w : World} {g : Nat} {v : Value} {X : List UInt8} (h : Acc w g v X) : Wrt w g X.length := by
  have hS := h.src
  obtain ⟨h1, h2, h3 | ⟨g', c, cur, hv, hb, hg, hl, hm, hs, ht⟩⟩ := h
  · rw [h3.1] at h1; cases h1
  · rw [hv] at h1
    have : g' = g := by simpa [Value.ownBlock] using h1
    subst this
    refine ⟨cur, hg, by omega, fun i hi => ?_⟩
    obtain ⟨a, c', e, q1, q2, q3⟩ := hS
    obtain ⟨off, ea, hc⟩ := q3 (by omega)
    rw [hv] at e
    obtain ⟨z1, _, _⟩ := slice_inj e
    rw [ea] at z1
    have hoff : off = 0 := by simpa using z1.symm
    subst hoff
    have k := hc i hi
    rw [Nat.zero_add] at k
    refine ⟨(X[i].toNat : Int), ?_⟩
    rw [World.cell?, hg] at k
    simpa [bv] using k
end Go.Proofs.Ytenajbefknlalaa
