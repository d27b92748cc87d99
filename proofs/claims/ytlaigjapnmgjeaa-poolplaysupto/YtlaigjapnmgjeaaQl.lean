/- PoolPlays: the document's New; stores and new blocks in another order. -/
import Derived.Test.YtlaigjapnmgjeaaQk
namespace Go.Proofs.Ytlaigjapnmgjeaa
open Go.RowKit Go.Shelf
set_option linter.unusedVariables false

def btw17 (n lo hi : Int) : Int := if n < lo then lo else if n > hi then hi else n
set_option maxHeartbeats 400000 in
theorem between17_any (n lo hi : Int) (w : World) :
    Calls Try.prog 31 #[.int .i64 n, .int .i64 lo, .int .i64 hi] w fun e w' => e = .returned (.int .i64 (btw17 n lo hi)) ∧ w' = w := by
  by_cases c : n < lo
  · have f : btw17 n lo hi = lo := by unfold btw17; rw [if_pos c]
    rw [f]; clear f
    go_enter Try.func31, Try.ntmps31
    go_wp2
    go_ret
    exact ⟨rfl, rfl⟩
  · by_cases d : n > hi
    · have f : btw17 n lo hi = hi := by unfold btw17; rw [if_neg c, if_pos d]
      rw [f]; clear f
      go_enter Try.func31, Try.ntmps31
      go_wp2
      go_ret
      exact ⟨rfl, rfl⟩
    · have f : btw17 n lo hi = n := by unfold btw17; rw [if_neg c, if_neg d]
      rw [f]; clear f
      go_enter Try.func31, Try.ntmps31
      go_wp2
      go_ret
      exact ⟨rfl, rfl⟩
theorem r17new_any (m b : Int) (hb : min (max m 0) 64 = b) (w : World) : Calls Try.prog 7 #[.int .i64 m] w fun e w' => e = .returned (.agg #[.int .i64 b, .int .i64 0, .int .i64 0, .slice none 0 0]) ∧ Below w.heap.size w w' := by
  have e : btw17 m 0 64 = b := by unfold btw17; split <;> omega
  have HB := hidE (fun W => between17_any m 0 64 W)
  rw [e] at HB
  have h0 := hidE (tblk_new w (.cells #[.int .i64 0, .int .i64 0, .int .i64 0, .slice none 0 0] 28))
  have B0 := hidE (below_four (x := .int .i64 b) (y := .int .i64 0) (z := .int .i64 0) (u := .slice none 0 0) ((Below.refl w.heap.size w).alloc (Nat.le_refl _) (.cells #[.int .i64 0, .int .i64 0, .int .i64 0, .slice none 0 0] 28)) (Nat.le_refl w.heap.size))
  clear e hb
  go_enter Try.func7, Try.ntmps7
  go_wp2_with fail
  refine (HB.out _).mono ?_
  rintro e w3 ⟨rfl, rfl⟩
  clear HB
  go_wp2
  refine bodyPost_ret (v := .agg #[.int .i64 b, .int .i64 0, .int .i64 0, .slice none 0 0]) (by simp [results, Try.results7, go_sem]) rfl ?_
  exact ⟨rfl, (Below.refl w.heap.size w).alloc (Nat.le_refl _) _⟩
theorem set1_alloc (W : World) (p : Addr) (x : Value) (o : Obj) (h : p.block < W.heap.size) : (W.setCell p x).alloc o = (W.alloc o).setCell p x := by
  have : ∀ (f : Obj → Obj) (H : Array Obj) (b : Nat), b < H.size → (H.modify b f).push o = (H.push o).modify b f := by
    intro f H b hb
    refine Array.ext_getElem? fun i => ?_
    rw [Array.getElem?_push, Array.getElem?_modify, Array.getElem?_modify, Array.getElem?_push, Array.size_modify]
    by_cases e : i = H.size
    · rw [if_pos e, if_pos e, if_neg (by omega)]
    · rw [if_neg e, if_neg e]
  unfold World.setCell World.alloc
  simp only
  rw [this _ _ _ h]
theorem set1_size (W : World) (p : Addr) (x : Value) : (W.setCell p x).heap.size = W.heap.size := by simp [World.setCell]
theorem set4_alloc (W : World) (b : Nat) (x y z u : Value) (o : Obj) (h : b < W.heap.size) : ((((W.setCell ⟨b, 0, none⟩ x).setCell ⟨b, 1, none⟩ y).setCell ⟨b, 2, none⟩ z).setCell ⟨b, 3, none⟩ u).alloc o = ((((W.alloc o).setCell ⟨b, 0, none⟩ x).setCell ⟨b, 1, none⟩ y).setCell ⟨b, 2, none⟩ z).setCell ⟨b, 3, none⟩ u := by
  rw [set1_alloc _ _ _ _ (by simp only [set1_size]; exact h), set1_alloc _ _ _ _ (by simp only [set1_size]; exact h), set1_alloc _ _ _ _ (by simp only [set1_size]; exact h), set1_alloc _ _ _ _ h]
theorem PD.mono {w : World} {F : List (Nat × Obj)} {pb mk mb n n' : Nat} {most last : Int} {q : HF} {rs : List Int} {R : Int} {a : Option Addr} {c : Nat} {L : List Hn} {W : World} (h : PD w F pb mk mb n most last q rs R a c L W) (hn : n ≤ n') : PD w F pb mk mb n' most last q rs R a c L W := by
  obtain ⟨G, s, g1, g2⟩ := h.pm.pi
  have hr := h.r
  refine ⟨⟨⟨G, ?_, g1, g2⟩, h.pm.rd, h.pm.lo, h.pm.ne⟩, h.k, h.s, ⟨hr.1, by omega⟩, Nat.le_trans h.n hn⟩
  obtain ⟨v, H, hv⟩ := s.pl
  exact ⟨⟨v, ⟨H.bk, by obtain ⟨D, h1, h2⟩ := H.hm; exact ⟨D, h1.mono hn, h2⟩, H.ro, H.qs⟩, hv⟩, s.fr, s.qi.mono hn, s.be, s.hp, s.hm⟩
theorem two_kept (V : World) (A B : Obj) : ∀ p ∈ [(V.heap.size, A), (V.heap.size + 1, B)], V.heap.size ≤ p.1 ∧ ((V.alloc A).alloc B).heap[p.1]? = some p.2 := by
  intro p hp
  have s1 : (V.alloc A).heap.size = V.heap.size + 1 := by simp
  rcases List.mem_cons.1 hp with rfl | hp
  · exact ⟨Nat.le_refl _, (Below.heap_alloc _ _ _ (by rw [s1]; exact Nat.lt_succ_self _)).trans (tblk_new _ _)⟩
  · rw [List.mem_singleton.1 hp]
    have := tblk_new (V.alloc A) B
    rw [s1] at this
    exact ⟨Nat.le_succ _, this⟩
end Go.Proofs.Ytlaigjapnmgjeaa
