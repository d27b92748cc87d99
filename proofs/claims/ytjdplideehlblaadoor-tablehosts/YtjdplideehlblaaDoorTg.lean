/- Texts that the proof leans on, one behind the other: TcA TcB TcC TcD TcE -/
import Derived.Test.YtjdplideehlblaaDoorTd
import Derived.Deep.RegionHeld3
import Derived.Test.YtjdplideehlblaaDoorTf
/- TableBounds, plain: which numbers of hosts and of slots are right. -/
namespace Go.Proofs.YtjdplideehlblaaDoor
open Go.RowKit
set_option linter.unusedVariables false

def wordB (i : Nat) : ByteArray := ⟨#[104, UInt8.ofNat (97 + i)]⟩
def wordsB (k : Nat) : List ByteArray := (List.range k).map wordB
def slotB (i : Nat) : SlotP := ⟨wordB i, [wordB i], 256, 1, 1, 1, 1, 1⟩
def manyB (k : Nat) : List SlotP := (List.range k).map slotB
def wideB (k : Nat) : SlotP := ⟨⟨#[116]⟩, wordsB k, 256, 1, 1, 1, 1, 1⟩
theorem wordsB_succ (k : Nat) : wordsB (k + 1) = wordsB k ++ [wordB k] := by unfold wordsB; rw [List.range_succ, List.map_append]; rfl
theorem manyB_succ (k : Nat) : manyB (k + 1) = manyB k ++ [slotB k] := by unfold manyB; rw [List.range_succ, List.map_append]; rfl
theorem wordsB_len (k : Nat) : (wordsB k).length = k := by unfold wordsB; simp
theorem manyB_len (k : Nat) : (manyB k).length = k := by unfold manyB; simp
set_option maxRecDepth 100000
theorem many_right : ∀ k : Fin 32, rightP (manyB k.val) = (decide (1 ≤ k.val) && decide (k.val ≤ 16)) := by decide +kernel
theorem wide_right : ∀ k : Fin 32, rightP [wideB k.val] = (decide (1 ≤ k.val) && decide (k.val ≤ 8)) := by decide +kernel
/-- A table of one slot, whose name and one host are right. -/
def oneB (q c p r b u : Int) : SlotP := ⟨⟨#[116]⟩, [⟨#[104]⟩], q, c, p, r, b, u⟩
theorem oneB_name : nameP ⟨#[116]⟩ = true ∧ rhB [⟨#[104]⟩] = true ∧ dstB [⟨#[116]⟩] = true ∧ dstB [⟨#[104]⟩] = true := by decide +kernel
theorem one_right (q c p r b u : Int) : rightP [oneB q c p r b u] = (wiB q 256 1048576 && (wiB c 1 64 && (wiB p 1 64 && (wiB r 1 1048576 && (wiB b 1 1048576 && wiB u 1 1048576))))) := by
  obtain ⟨h1, h2, h3, h4⟩ := oneB_name
  have e1 : namesP [oneB q c p r b u] = [⟨#[116]⟩] := rfl
  have e2 : hostsP [oneB q c p r b u] = [⟨#[104]⟩] := rfl
  have e3 : wrS (oneB q c p r b u) = !(wiB q 256 1048576 && (wiB c 1 64 && (wiB p 1 64 && (wiB r 1 1048576 && (wiB b 1 1048576 && wiB u 1 1048576))))) := by
    unfold wrS oneB
    dsimp only
    rw [h1, h2, Bool.true_and, Bool.true_and]
  unfold rightP
  rw [e1, e2, h3, h4, List.any_cons, e3]
  simp
/-- The number at one place turned: it alone decides. -/
theorem bounds_right (n : Int) : rightP [oneB n 1 1 1 1 1] = wiB n 256 1048576 ∧ rightP [oneB 256 n 1 1 1 1] = wiB n 1 64 ∧ rightP [oneB 256 1 n 1 1 1] = wiB n 1 64 ∧ rightP [oneB 256 1 1 n 1 1] = wiB n 1 1048576 ∧ rightP [oneB 256 1 1 1 n 1] = wiB n 1 1048576 ∧ rightP [oneB 256 1 1 1 1 n] = wiB n 1 1048576 := by
  have a1 : wiB 256 256 1048576 = true := by decide
  have a2 : wiB 1 1 64 = true := by decide
  have a3 : wiB 1 1 1048576 = true := by decide
  refine ⟨?_, ?_, ?_, ?_, ?_, ?_⟩ <;> rw [one_right] <;> simp only [a1, a2, a3, Bool.and_true, Bool.true_and]
end Go.Proofs.YtjdplideehlblaaDoor

/- TableBounds: a table of one slot, called; two rows that grow side by side. -/
namespace Go.Proofs.YtjdplideehlblaaDoor
open Go.ChangeShapes Go.WideShapes Go.ChangeAt Go.RowKit
set_option linter.unusedVariables false
theorem mod6 (k : Nat) : (k : Int).tmod 6 = ((k % 6 : Nat) : Int) := by rw [Int.tmod_eq_emod_of_nonneg (by omega)]; omega
/-- A slot in a row of its own, its hosts in another. -/
theorem one_sls (W : World) (s : SlotP) (g : Nat) (ha : Option Addr) (hc : Nat) (hg : W.heap[g]? = some (.cells (slotV s ha hc) 32)) (ht : Txs W.heap.size W (.slice ha s.h.length hc) s.h) : Sls W.heap.size W (.slice (some ⟨g, 0, none⟩) 1 1) [s] := by
  refine ⟨_, 1, rfl, (fun e => by cases e), Nat.le_refl _, by decide, fun _ => ⟨g, 0, rfl, heap_lt hg, fun j hj => ?_⟩⟩
  have : j = 0 := by simpa using hj
  subst this
  exact ⟨ha, hc, ring_cell hg rfl, ring_cell hg rfl, ring_cell hg rfl, ring_cell hg rfl, ring_cell hg rfl, ring_cell hg rfl, ring_cell hg rfl, ring_cell hg rfl, ht⟩
theorem one_txt (W : World) (x : ByteArray) (g : Nat) (hg : W.heap[g]? = some (.cells #[.string x] 9)) : Txs W.heap.size W (.slice (some ⟨g, 0, none⟩) 1 1) [x] :=
  ⟨_, 1, rfl, (fun e => by cases e), Nat.le_refl _, by decide, fun _ => ⟨g, 0, rfl, heap_lt hg, fun j hj => by
    have : j = 0 := by simpa using hj
    subst this
    exact ring_cell hg rfl⟩⟩
theorem OwnS.frame {N : Nat} {W V : World} {v : Value} {xs : List SlotX} (h : OwnS N W v xs) (hs : W.heap.size ≤ V.heap.size) (hv : ∀ k, v.ownBlock = some k → V.heap[k]? = W.heap[k]?) (hx : ∀ x ∈ xs, ∀ q, x.a = some q → V.heap[q.block]? = W.heap[q.block]?) : OwnS N V v xs := by
  refine ⟨?_, fun x hm => ?_, h.away⟩
  · obtain ⟨h1, h2⟩ := h.row
    refine ⟨h1, ?_⟩
    rcases h2 with h2 | ⟨g, cap, cur, e, hg, hh, r⟩
    · exact .inl h2
    · exact .inr ⟨g, cap, cur, e, hg, (hv g (by rw [e]; rfl)).trans hh, r⟩
  · obtain ⟨a', c', e, h1, h2, h3, h4⟩ := h.hosts x hm
    refine ⟨a', c', e, h1, h2, h3, fun hp => ?_⟩
    obtain ⟨g, off, ea, hg, hc⟩ := h4 hp
    obtain ⟨ea', _, _⟩ := slice_inj e
    refine ⟨g, off, ea, Nat.lt_of_lt_of_le hg hs, fun j hj => ?_⟩
    exact (World.cell?_of_block (a := ⟨g, off + j, none⟩) (hx x hm ⟨g, off, none⟩ (ea'.trans ea))).trans (hc j hj)
/-- The slots' row and the texts' row. -/
structure TwoR (N : Nat) (W : World) (v10 v11 : Value) (xs : List SlotX) (hs : List ByteArray) : Prop where
  s : OwnS N W v10 xs
  t : OwnT N W v11 hs
  ne : ∀ k, v10.ownBlock = some k → v11.ownBlock ≠ some k
  hb : ∀ x ∈ xs, ∀ q, x.a = some q → v11.ownBlock ≠ some q.block ∧ q.block < W.heap.size
theorem TwoR.below {N : Nat} {W V : World} {v10 v11 : Value} {xs : List SlotX} {hs : List ByteArray} (h : TwoR N W v10 v11 xs hs) (b : Below W.heap.size W V) : TwoR N V v10 v11 xs hs :=
  ⟨h.s.kept (KpC.below b), h.t.keep b, h.ne, fun x hx q e => ⟨(h.hb x hx q e).1, Nat.lt_of_lt_of_le (h.hb x hx q e).2 b.size⟩⟩
/-- One round: a text, and a slot with that text as its name and its one host. -/
theorem TwoR.step {N : Nat} {W : World} {v10 v11 : Value} {xs : List SlotX} {hs : List ByteArray} (h : TwoR N W v10 v11 xs hs) (hN : N ≤ W.heap.size) (x : ByteArray) (s : SlotP) (es : s.h = [x]) (hl : hs.length ≤ 1048576) (hx : xs.length ≤ 1048576) :
    ∃ g1 c1 W2, (Builtin.append_ #[30, 30] 30 #[v11, .slice (some ⟨W.heap.size, 0, none⟩) 1 1]).run Tryd.prog (W.alloc (.cells #[.string x] 9)) = .ok (.slice (some ⟨g1, 0, none⟩) (hs.length + 1) c1) W2 ∧ Below N W W2 ∧
      ∃ g2 c2 W4, (Builtin.append_ #[22, 22] 22 #[v10, .slice (some ⟨W2.heap.size + 1, 0, none⟩) 1 1]).run Tryd.prog ((W2.alloc (.cells #[.string x] 9)).alloc (.cells (slotV s (some ⟨W2.heap.size, 0, none⟩) 1) 32)) = .ok (.slice (some ⟨g2, 0, none⟩) (xs.length + 1) c2) W4 ∧ Below N W W4 ∧
        TwoR N W4 (.slice (some ⟨g2, 0, none⟩) (xs.length + 1) c2) (.slice (some ⟨g1, 0, none⟩) (hs.length + 1) c1) (xs ++ [⟨s, some ⟨W2.heap.size, 0, none⟩, 1⟩]) (hs ++ [x]) := by
  have B0 : Below W.heap.size W (W.alloc (.cells #[.string x] 9)) := (Below.refl _ _).alloc (Nat.le_refl _) _
  have H1 := h.below B0
  have s1 : (W.alloc (.cells #[.string x] 9)).heap.size = W.heap.size + 1 := by simp
  obtain ⟨g1, c1, W2, r1, O1, K1, G1⟩ := ownT_app3 H1.t (one_txs W x _ (Nat.lt_succ_self _)) (Nat.succ_pos _) (by show _ + 1 ≤ _; omega) (by omega)
  have e1 : (hs ++ [x]).length = hs.length + 1 := by simp
  rw [e1] at r1 O1
  have own11 : ∀ k, v11.ownBlock = some k → N ≤ k ∧ k < W.heap.size := fun k e => h.t.lt k e
  have own10 : ∀ k, v10.ownBlock = some k → N ≤ k ∧ k < W.heap.size := fun k e => h.s.row.lt k e
  have B2 : Below N W W2 := (B0.mono hN).trans (K1.below (by omega) (fun k hk c => by have := (own11 k c).1; omega))
  have z2 := K1.size
  rw [s1] at z2
  have S2 : OwnS N W2 v10 xs := H1.s.frame K1.size (fun k e => K1.block k (by rw [s1]; have := (own10 k e).2; omega) (fun c => h.ne k e c)) (fun y hy q e => K1.block q.block (by rw [s1]; have := (h.hb y hy q e).2; omega) (fun c => (h.hb y hy q e).1 c))
  refine ⟨g1, c1, W2, r1, B2, ?_⟩
  have g1lt : g1 < W2.heap.size := by
    rcases O1.2 with ⟨_, q⟩ | ⟨g', c', cur, e, _, hh, _⟩
    · rw [e1] at q; omega
    · obtain ⟨e, _, _⟩ := slice_inj e
      have : g1 = g' := by simpa using e
      subst this
      exact heap_lt hh
  have D2 : Below W2.heap.size W2 ((W2.alloc (.cells #[.string x] 9)).alloc (.cells (slotV s (some ⟨W2.heap.size, 0, none⟩) 1) 32)) := ((Below.refl _ _).alloc (Nat.le_refl _) _).alloc (by simp) _
  have s4 : ((W2.alloc (.cells #[.string x] 9)).alloc (.cells (slotV s (some ⟨W2.heap.size, 0, none⟩) 1) 32)).heap.size = W2.heap.size + 2 := by simp
  have n0 := World.alloc_heap_new W2 (.cells #[.string x] 9)
  have n1 := World.alloc_heap_new (W2.alloc (.cells #[.string x] 9)) (.cells (slotV s (some ⟨W2.heap.size, 0, none⟩) 1) 32)
  rw [World.size_alloc] at n1
  have n2 := heap_al (.cells (slotV s (some ⟨W2.heap.size, 0, none⟩) 1) 32) n0
  have hT := one_txt _ x W2.heap.size n2
  obtain ⟨g2, c2, W4, r4, O4, G4, N4⟩ := ownS_append (S2.kept (KpC.below D2)) ⟨s, some ⟨W2.heap.size, 0, none⟩, 1⟩ ⟨W2.heap.size + 1, 0, none⟩ (fun i u hu => by rw [addr_add, Nat.zero_add]; exact ring_cell n1 hu)
    (by show Txs _ _ (.slice _ s.h.length 1) s.h; rw [es]; exact hT) (fun q e => by
      have e' : q = ⟨W2.heap.size, 0, none⟩ := by simpa using e.symm
      subst e'
      exact ⟨by show N ≤ W2.heap.size; omega, fun c => by have : W2.heap.size < W.heap.size := (own10 _ c).2; omega, by rw [s4]; show W2.heap.size < _; omega⟩) (fun y hy q e => by rw [s4]; have := (h.hb y hy q e).2; omega) hx (by omega)
  refine ⟨g2, c2, W4, r4, (B2.trans (D2.mono (by omega))).grown G4 (by omega) (fun k e => (own10 k e).1), ?_⟩
  have z4 := G4.size
  rw [s4] at z4
  have k11 : ∀ k, k < W2.heap.size → v10.ownBlock ≠ some k → W4.heap[k]? = W2.heap[k]? := fun k hk hn => (G4.block k (by omega) (fun c => hn c.symm)).trans (D2.block k hk)
  have hne1 : v10.ownBlock ≠ some g1 := fun c => by
    rcases G1 with q | q
    · exact h.ne g1 c q
    · have := (own10 g1 c).2; omega
  have T4 : OwnT N W4 (.slice (some ⟨g1, 0, none⟩) (hs.length + 1) c1) (hs ++ [x]) := by
    have O1' : OwnT N W2 (.slice (some ⟨g1, 0, none⟩) (hs ++ [x]).length c1) (hs ++ [x]) := by rw [e1]; exact O1
    have := O1'.frame (w' := W4) (k11 g1 g1lt hne1)
    rw [e1] at this
    exact this
  refine ⟨O4, T4, ?_, ?_⟩
  · intro k e c
    have e' : g2 = k := by simpa [Value.ownBlock] using e
    have c' : g1 = k := by simpa [Value.ownBlock] using c
    subst e'
    subst c'
    rcases O4.row.2 with ⟨q, _⟩ | ⟨ga, _, _, ea, _, ha, _⟩
    · cases q
    rcases T4.2 with ⟨q, _⟩ | ⟨gb, _, _, eb, _, hb, _⟩
    · cases q
    obtain ⟨ea, _, _⟩ := slice_inj ea
    obtain ⟨eb, _, _⟩ := slice_inj eb
    have ea : g1 = ga := by simpa using ea
    have eb : g1 = gb := by simpa using eb
    rw [← ea] at ha
    rw [← eb, ha] at hb
    simp at hb
  · intro y hy q e
    rw [show (Value.slice (some ⟨g1, 0, none⟩) (hs.length + 1) c1).ownBlock = some g1 from rfl]
    rcases List.mem_append.1 hy with hy | hy
    · have q1 := h.hb y hy q e
      refine ⟨fun c => ?_, by omega⟩
      have c' : g1 = q.block := by simpa using c
      rcases G1 with z | z
      · exact q1.1 (c' ▸ z)
      · omega
    · obtain rfl : y = ⟨s, some ⟨W2.heap.size, 0, none⟩, 1⟩ := by simpa using hy
      have e' : q = ⟨W2.heap.size, 0, none⟩ := by simpa using e.symm
      subst e'
      exact ⟨fun c => by have : g1 = W2.heap.size := by simpa using c
                         omega, by show W2.heap.size < _; omega⟩
end Go.Proofs.YtjdplideehlblaaDoor

/- TableBounds' walk (written by tcc.py). -/
namespace Go.Proofs.YtjdplideehlblaaDoor
open Go.ChangeShapes Go.WideShapes Go.ChangeAt Go.RowKit
set_option linter.unusedVariables false
theorem one_call0 (n : Int) (W1 : World) : Calls Tryd.prog 11 #[.slice (some ⟨W1.heap.size + 1 + 1 + 1 + 1, 0, none⟩) 1 1] (((((W1.alloc (.cells #[.int .i64 256, .int .i64 1, .int .i64 1, .int .i64 1, .int .i64 1, .int .i64 1] 3)).alloc (.cells #[.int .i64 1048576, .int .i64 64, .int .i64 64, .int .i64 1048576, .int .i64 1048576, .int .i64 1048576] 3)).alloc (.cells #[.string ⟨#[104]⟩] 9)).alloc (.cells #[.string ⟨#[116]⟩, .slice (some ⟨W1.heap.size + 1 + 1, 0, none⟩) 1 1, .int .i64 n, .int .i64 1, .int .i64 1, .int .i64 1, .int .i64 1, .int .i64 1] 32)).drew.alloc (.cells #[.string ⟨#[116]⟩, .slice (some ⟨W1.heap.size + 1 + 1, 0, none⟩) 1 1, .int .i64 n, .int .i64 1, .int .i64 1, .int .i64 1, .int .i64 1, .int .i64 1] 32)) fun e w' => e = .returned (.bool (wiB n 256 1048576)) ∧ Below (W1.heap.size + 4) ((((W1.alloc (.cells #[.int .i64 256, .int .i64 1, .int .i64 1, .int .i64 1, .int .i64 1, .int .i64 1] 3)).alloc (.cells #[.int .i64 1048576, .int .i64 64, .int .i64 64, .int .i64 1048576, .int .i64 1048576, .int .i64 1048576] 3)).alloc (.cells #[.string ⟨#[104]⟩] 9)).alloc (.cells #[.string ⟨#[116]⟩, .slice (some ⟨W1.heap.size + 1 + 1, 0, none⟩) 1 1, .int .i64 n, .int .i64 1, .int .i64 1, .int .i64 1, .int .i64 1, .int .i64 1] 32)) w' := by
  have n1 := World.alloc_heap_new ((((W1.alloc (.cells #[.int .i64 256, .int .i64 1, .int .i64 1, .int .i64 1, .int .i64 1, .int .i64 1] 3)).alloc (.cells #[.int .i64 1048576, .int .i64 64, .int .i64 64, .int .i64 1048576, .int .i64 1048576, .int .i64 1048576] 3)).alloc (.cells #[.string ⟨#[104]⟩] 9)).alloc (.cells #[.string ⟨#[116]⟩, .slice (some ⟨W1.heap.size + 1 + 1, 0, none⟩) 1 1, .int .i64 n, .int .i64 1, .int .i64 1, .int .i64 1, .int .i64 1, .int .i64 1] 32)).drew (.cells #[.string ⟨#[116]⟩, .slice (some ⟨W1.heap.size + 1 + 1, 0, none⟩) 1 1, .int .i64 n, .int .i64 1, .int .i64 1, .int .i64 1, .int .i64 1, .int .i64 1] 32)
  have s1 : ((((W1.alloc (.cells #[.int .i64 256, .int .i64 1, .int .i64 1, .int .i64 1, .int .i64 1, .int .i64 1] 3)).alloc (.cells #[.int .i64 1048576, .int .i64 64, .int .i64 64, .int .i64 1048576, .int .i64 1048576, .int .i64 1048576] 3)).alloc (.cells #[.string ⟨#[104]⟩] 9)).alloc (.cells #[.string ⟨#[116]⟩, .slice (some ⟨W1.heap.size + 1 + 1, 0, none⟩) 1 1, .int .i64 n, .int .i64 1, .int .i64 1, .int .i64 1, .int .i64 1, .int .i64 1] 32)).drew.heap.size = W1.heap.size + 1 + 1 + 1 + 1 := by show ((((W1.alloc (.cells #[.int .i64 256, .int .i64 1, .int .i64 1, .int .i64 1, .int .i64 1, .int .i64 1] 3)).alloc (.cells #[.int .i64 1048576, .int .i64 64, .int .i64 64, .int .i64 1048576, .int .i64 1048576, .int .i64 1048576] 3)).alloc (.cells #[.string ⟨#[104]⟩] 9)).alloc (.cells #[.string ⟨#[116]⟩, .slice (some ⟨W1.heap.size + 1 + 1, 0, none⟩) 1 1, .int .i64 n, .int .i64 1, .int .i64 1, .int .i64 1, .int .i64 1, .int .i64 1] 32)).heap.size = _; simp
  rw [s1] at n1
  have n2 := World.alloc_heap_new ((W1.alloc (.cells #[.int .i64 256, .int .i64 1, .int .i64 1, .int .i64 1, .int .i64 1, .int .i64 1] 3)).alloc (.cells #[.int .i64 1048576, .int .i64 64, .int .i64 64, .int .i64 1048576, .int .i64 1048576, .int .i64 1048576] 3)) (.cells #[.string ⟨#[104]⟩] 9)
  simp only [World.size_alloc] at n2
  have n3 : ((((W1.alloc (.cells #[.int .i64 256, .int .i64 1, .int .i64 1, .int .i64 1, .int .i64 1, .int .i64 1] 3)).alloc (.cells #[.int .i64 1048576, .int .i64 64, .int .i64 64, .int .i64 1048576, .int .i64 1048576, .int .i64 1048576] 3)).alloc (.cells #[.string ⟨#[104]⟩] 9)).alloc (.cells #[.string ⟨#[116]⟩, .slice (some ⟨W1.heap.size + 1 + 1, 0, none⟩) 1 1, .int .i64 n, .int .i64 1, .int .i64 1, .int .i64 1, .int .i64 1, .int .i64 1] 32)).drew.heap[W1.heap.size + 1 + 1]? = some (.cells #[.string ⟨#[104]⟩] 9) := heap_al (.cells #[.string ⟨#[116]⟩, .slice (some ⟨W1.heap.size + 1 + 1, 0, none⟩) 1 1, .int .i64 n, .int .i64 1, .int .i64 1, .int .i64 1, .int .i64 1, .int .i64 1] 32) n2
  have n4 := heap_al (.cells #[.string ⟨#[116]⟩, .slice (some ⟨W1.heap.size + 1 + 1, 0, none⟩) 1 1, .int .i64 n, .int .i64 1, .int .i64 1, .int .i64 1, .int .i64 1, .int .i64 1] 32) n3
  have hS := one_sls _ (oneB n 1 1 1 1 1) (W1.heap.size + 1 + 1 + 1 + 1) (some ⟨W1.heap.size + 1 + 1, 0, none⟩) 1 n1 (one_txt _ ⟨#[104]⟩ _ n4)
  refine (tright_any [oneB n 1 1 1 1 1] _ 1 _ hS (fun s hs => ?_)).mono fun e v ⟨q1, q2⟩ => ⟨?_, ?_⟩
  · obtain rfl : s = oneB n 1 1 1 1 1 := by simpa using hs
    exact ⟨(by show 1 ≤ 140737488355328; decide), (fun y hy => by (obtain rfl : y = ⟨#[104]⟩ := by (simpa [oneB] using hy)); decide), (by show 1 ≤ 140737488355328; decide)⟩
  · rw [q1, (bounds_right n).1]
  · have b0 : Below (W1.heap.size + 4) ((((W1.alloc (.cells #[.int .i64 256, .int .i64 1, .int .i64 1, .int .i64 1, .int .i64 1, .int .i64 1] 3)).alloc (.cells #[.int .i64 1048576, .int .i64 64, .int .i64 64, .int .i64 1048576, .int .i64 1048576, .int .i64 1048576] 3)).alloc (.cells #[.string ⟨#[104]⟩] 9)).alloc (.cells #[.string ⟨#[116]⟩, .slice (some ⟨W1.heap.size + 1 + 1, 0, none⟩) 1 1, .int .i64 n, .int .i64 1, .int .i64 1, .int .i64 1, .int .i64 1, .int .i64 1] 32)) (((((W1.alloc (.cells #[.int .i64 256, .int .i64 1, .int .i64 1, .int .i64 1, .int .i64 1, .int .i64 1] 3)).alloc (.cells #[.int .i64 1048576, .int .i64 64, .int .i64 64, .int .i64 1048576, .int .i64 1048576, .int .i64 1048576] 3)).alloc (.cells #[.string ⟨#[104]⟩] 9)).alloc (.cells #[.string ⟨#[116]⟩, .slice (some ⟨W1.heap.size + 1 + 1, 0, none⟩) 1 1, .int .i64 n, .int .i64 1, .int .i64 1, .int .i64 1, .int .i64 1, .int .i64 1] 32)).drew.alloc (.cells #[.string ⟨#[116]⟩, .slice (some ⟨W1.heap.size + 1 + 1, 0, none⟩) 1 1, .int .i64 n, .int .i64 1, .int .i64 1, .int .i64 1, .int .i64 1, .int .i64 1] 32)) := ((Below.refl _ _).drew).alloc (by rw [s1]; exact Nat.le_refl _) _
    exact b0.trans (q2.mono (by have := b0.size; have e9 : ((((W1.alloc (.cells #[.int .i64 256, .int .i64 1, .int .i64 1, .int .i64 1, .int .i64 1, .int .i64 1] 3)).alloc (.cells #[.int .i64 1048576, .int .i64 64, .int .i64 64, .int .i64 1048576, .int .i64 1048576, .int .i64 1048576] 3)).alloc (.cells #[.string ⟨#[104]⟩] 9)).alloc (.cells #[.string ⟨#[116]⟩, .slice (some ⟨W1.heap.size + 1 + 1, 0, none⟩) 1 1, .int .i64 n, .int .i64 1, .int .i64 1, .int .i64 1, .int .i64 1, .int .i64 1] 32)).heap.size = W1.heap.size + 1 + 1 + 1 + 1 := s1; omega))
theorem one_cells0 (n : Int) (W1 V : World) (hV : Below (W1.heap.size + 4) ((((W1.alloc (.cells #[.int .i64 256, .int .i64 1, .int .i64 1, .int .i64 1, .int .i64 1, .int .i64 1] 3)).alloc (.cells #[.int .i64 1048576, .int .i64 64, .int .i64 64, .int .i64 1048576, .int .i64 1048576, .int .i64 1048576] 3)).alloc (.cells #[.string ⟨#[104]⟩] 9)).alloc (.cells #[.string ⟨#[116]⟩, .slice (some ⟨W1.heap.size + 1 + 1, 0, none⟩) 1 1, .int .i64 n, .int .i64 1, .int .i64 1, .int .i64 1, .int .i64 1, .int .i64 1] 32)) V) : V.cell? ⟨W1.heap.size, 0, none⟩ = some (.int .i64 256) ∧ V.cell? ⟨W1.heap.size + 1, 0, none⟩ = some (.int .i64 1048576) ∧ V.cell? ⟨W1.heap.size + 1 + 1 + 1, 0, none⟩ = some (.string ⟨#[116]⟩) ∧ V.cell? ⟨W1.heap.size + 1 + 1 + 1, 1, none⟩ = some (.slice (some ⟨W1.heap.size + 1 + 1, 0, none⟩) 1 1) ∧ V.cell? ⟨W1.heap.size + 1 + 1 + 1, 2, none⟩ = some (.int .i64 n) ∧ V.cell? ⟨W1.heap.size + 1 + 1 + 1, 3, none⟩ = some (.int .i64 1) ∧ V.cell? ⟨W1.heap.size + 1 + 1 + 1, 4, none⟩ = some (.int .i64 1) ∧ V.cell? ⟨W1.heap.size + 1 + 1 + 1, 5, none⟩ = some (.int .i64 1) ∧ V.cell? ⟨W1.heap.size + 1 + 1 + 1, 6, none⟩ = some (.int .i64 1) ∧ V.cell? ⟨W1.heap.size + 1 + 1 + 1, 7, none⟩ = some (.int .i64 1) := by
  have m0 := World.alloc_heap_new W1 (.cells #[.int .i64 256, .int .i64 1, .int .i64 1, .int .i64 1, .int .i64 1, .int .i64 1] 3)
  have m1 := World.alloc_heap_new (W1.alloc (.cells #[.int .i64 256, .int .i64 1, .int .i64 1, .int .i64 1, .int .i64 1, .int .i64 1] 3)) (.cells #[.int .i64 1048576, .int .i64 64, .int .i64 64, .int .i64 1048576, .int .i64 1048576, .int .i64 1048576] 3)
  have m3 := World.alloc_heap_new (((W1.alloc (.cells #[.int .i64 256, .int .i64 1, .int .i64 1, .int .i64 1, .int .i64 1, .int .i64 1] 3)).alloc (.cells #[.int .i64 1048576, .int .i64 64, .int .i64 64, .int .i64 1048576, .int .i64 1048576, .int .i64 1048576] 3)).alloc (.cells #[.string ⟨#[104]⟩] 9)) (.cells #[.string ⟨#[116]⟩, .slice (some ⟨W1.heap.size + 1 + 1, 0, none⟩) 1 1, .int .i64 n, .int .i64 1, .int .i64 1, .int .i64 1, .int .i64 1, .int .i64 1] 32)
  simp only [World.size_alloc] at m1 m3
  have k0 := (hV.block _ (by omega)).trans (heap_al (.cells #[.string ⟨#[116]⟩, .slice (some ⟨W1.heap.size + 1 + 1, 0, none⟩) 1 1, .int .i64 n, .int .i64 1, .int .i64 1, .int .i64 1, .int .i64 1, .int .i64 1] 32) (heap_al (.cells #[.string ⟨#[104]⟩] 9) (heap_al (.cells #[.int .i64 1048576, .int .i64 64, .int .i64 64, .int .i64 1048576, .int .i64 1048576, .int .i64 1048576] 3) m0)))
  have k1 := (hV.block _ (by omega)).trans (heap_al (.cells #[.string ⟨#[116]⟩, .slice (some ⟨W1.heap.size + 1 + 1, 0, none⟩) 1 1, .int .i64 n, .int .i64 1, .int .i64 1, .int .i64 1, .int .i64 1, .int .i64 1] 32) (heap_al (.cells #[.string ⟨#[104]⟩] 9) m1))
  have k3 := (hV.block _ (by omega)).trans m3
  exact ⟨ring_cell k0 rfl, ring_cell k1 rfl, ring_cell k3 rfl, ring_cell k3 rfl, ring_cell k3 rfl, ring_cell k3 rfl, ring_cell k3 rfl, ring_cell k3 rfl, ring_cell k3 rfl, ring_cell k3 rfl⟩
theorem one_call1 (n : Int) (W1 : World) : Calls Tryd.prog 11 #[.slice (some ⟨W1.heap.size + 1 + 1 + 1 + 1, 0, none⟩) 1 1] (((((W1.alloc (.cells #[.int .i64 256, .int .i64 1, .int .i64 1, .int .i64 1, .int .i64 1, .int .i64 1] 3)).alloc (.cells #[.int .i64 1048576, .int .i64 64, .int .i64 64, .int .i64 1048576, .int .i64 1048576, .int .i64 1048576] 3)).alloc (.cells #[.string ⟨#[104]⟩] 9)).alloc (.cells #[.string ⟨#[116]⟩, .slice (some ⟨W1.heap.size + 1 + 1, 0, none⟩) 1 1, .int .i64 256, .int .i64 n, .int .i64 1, .int .i64 1, .int .i64 1, .int .i64 1] 32)).drew.alloc (.cells #[.string ⟨#[116]⟩, .slice (some ⟨W1.heap.size + 1 + 1, 0, none⟩) 1 1, .int .i64 256, .int .i64 n, .int .i64 1, .int .i64 1, .int .i64 1, .int .i64 1] 32)) fun e w' => e = .returned (.bool (wiB n 1 64)) ∧ Below (W1.heap.size + 4) ((((W1.alloc (.cells #[.int .i64 256, .int .i64 1, .int .i64 1, .int .i64 1, .int .i64 1, .int .i64 1] 3)).alloc (.cells #[.int .i64 1048576, .int .i64 64, .int .i64 64, .int .i64 1048576, .int .i64 1048576, .int .i64 1048576] 3)).alloc (.cells #[.string ⟨#[104]⟩] 9)).alloc (.cells #[.string ⟨#[116]⟩, .slice (some ⟨W1.heap.size + 1 + 1, 0, none⟩) 1 1, .int .i64 256, .int .i64 n, .int .i64 1, .int .i64 1, .int .i64 1, .int .i64 1] 32)) w' := by
  have n1 := World.alloc_heap_new ((((W1.alloc (.cells #[.int .i64 256, .int .i64 1, .int .i64 1, .int .i64 1, .int .i64 1, .int .i64 1] 3)).alloc (.cells #[.int .i64 1048576, .int .i64 64, .int .i64 64, .int .i64 1048576, .int .i64 1048576, .int .i64 1048576] 3)).alloc (.cells #[.string ⟨#[104]⟩] 9)).alloc (.cells #[.string ⟨#[116]⟩, .slice (some ⟨W1.heap.size + 1 + 1, 0, none⟩) 1 1, .int .i64 256, .int .i64 n, .int .i64 1, .int .i64 1, .int .i64 1, .int .i64 1] 32)).drew (.cells #[.string ⟨#[116]⟩, .slice (some ⟨W1.heap.size + 1 + 1, 0, none⟩) 1 1, .int .i64 256, .int .i64 n, .int .i64 1, .int .i64 1, .int .i64 1, .int .i64 1] 32)
  have s1 : ((((W1.alloc (.cells #[.int .i64 256, .int .i64 1, .int .i64 1, .int .i64 1, .int .i64 1, .int .i64 1] 3)).alloc (.cells #[.int .i64 1048576, .int .i64 64, .int .i64 64, .int .i64 1048576, .int .i64 1048576, .int .i64 1048576] 3)).alloc (.cells #[.string ⟨#[104]⟩] 9)).alloc (.cells #[.string ⟨#[116]⟩, .slice (some ⟨W1.heap.size + 1 + 1, 0, none⟩) 1 1, .int .i64 256, .int .i64 n, .int .i64 1, .int .i64 1, .int .i64 1, .int .i64 1] 32)).drew.heap.size = W1.heap.size + 1 + 1 + 1 + 1 := by show ((((W1.alloc (.cells #[.int .i64 256, .int .i64 1, .int .i64 1, .int .i64 1, .int .i64 1, .int .i64 1] 3)).alloc (.cells #[.int .i64 1048576, .int .i64 64, .int .i64 64, .int .i64 1048576, .int .i64 1048576, .int .i64 1048576] 3)).alloc (.cells #[.string ⟨#[104]⟩] 9)).alloc (.cells #[.string ⟨#[116]⟩, .slice (some ⟨W1.heap.size + 1 + 1, 0, none⟩) 1 1, .int .i64 256, .int .i64 n, .int .i64 1, .int .i64 1, .int .i64 1, .int .i64 1] 32)).heap.size = _; simp
  rw [s1] at n1
  have n2 := World.alloc_heap_new ((W1.alloc (.cells #[.int .i64 256, .int .i64 1, .int .i64 1, .int .i64 1, .int .i64 1, .int .i64 1] 3)).alloc (.cells #[.int .i64 1048576, .int .i64 64, .int .i64 64, .int .i64 1048576, .int .i64 1048576, .int .i64 1048576] 3)) (.cells #[.string ⟨#[104]⟩] 9)
  simp only [World.size_alloc] at n2
  have n3 : ((((W1.alloc (.cells #[.int .i64 256, .int .i64 1, .int .i64 1, .int .i64 1, .int .i64 1, .int .i64 1] 3)).alloc (.cells #[.int .i64 1048576, .int .i64 64, .int .i64 64, .int .i64 1048576, .int .i64 1048576, .int .i64 1048576] 3)).alloc (.cells #[.string ⟨#[104]⟩] 9)).alloc (.cells #[.string ⟨#[116]⟩, .slice (some ⟨W1.heap.size + 1 + 1, 0, none⟩) 1 1, .int .i64 256, .int .i64 n, .int .i64 1, .int .i64 1, .int .i64 1, .int .i64 1] 32)).drew.heap[W1.heap.size + 1 + 1]? = some (.cells #[.string ⟨#[104]⟩] 9) := heap_al (.cells #[.string ⟨#[116]⟩, .slice (some ⟨W1.heap.size + 1 + 1, 0, none⟩) 1 1, .int .i64 256, .int .i64 n, .int .i64 1, .int .i64 1, .int .i64 1, .int .i64 1] 32) n2
  have n4 := heap_al (.cells #[.string ⟨#[116]⟩, .slice (some ⟨W1.heap.size + 1 + 1, 0, none⟩) 1 1, .int .i64 256, .int .i64 n, .int .i64 1, .int .i64 1, .int .i64 1, .int .i64 1] 32) n3
  have hS := one_sls _ (oneB 256 n 1 1 1 1) (W1.heap.size + 1 + 1 + 1 + 1) (some ⟨W1.heap.size + 1 + 1, 0, none⟩) 1 n1 (one_txt _ ⟨#[104]⟩ _ n4)
  refine (tright_any [oneB 256 n 1 1 1 1] _ 1 _ hS (fun s hs => ?_)).mono fun e v ⟨q1, q2⟩ => ⟨?_, ?_⟩
  · obtain rfl : s = oneB 256 n 1 1 1 1 := by simpa using hs
    exact ⟨(by show 1 ≤ 140737488355328; decide), (fun y hy => by (obtain rfl : y = ⟨#[104]⟩ := by (simpa [oneB] using hy)); decide), (by show 1 ≤ 140737488355328; decide)⟩
  · rw [q1, (bounds_right n).2.1]
  · have b0 : Below (W1.heap.size + 4) ((((W1.alloc (.cells #[.int .i64 256, .int .i64 1, .int .i64 1, .int .i64 1, .int .i64 1, .int .i64 1] 3)).alloc (.cells #[.int .i64 1048576, .int .i64 64, .int .i64 64, .int .i64 1048576, .int .i64 1048576, .int .i64 1048576] 3)).alloc (.cells #[.string ⟨#[104]⟩] 9)).alloc (.cells #[.string ⟨#[116]⟩, .slice (some ⟨W1.heap.size + 1 + 1, 0, none⟩) 1 1, .int .i64 256, .int .i64 n, .int .i64 1, .int .i64 1, .int .i64 1, .int .i64 1] 32)) (((((W1.alloc (.cells #[.int .i64 256, .int .i64 1, .int .i64 1, .int .i64 1, .int .i64 1, .int .i64 1] 3)).alloc (.cells #[.int .i64 1048576, .int .i64 64, .int .i64 64, .int .i64 1048576, .int .i64 1048576, .int .i64 1048576] 3)).alloc (.cells #[.string ⟨#[104]⟩] 9)).alloc (.cells #[.string ⟨#[116]⟩, .slice (some ⟨W1.heap.size + 1 + 1, 0, none⟩) 1 1, .int .i64 256, .int .i64 n, .int .i64 1, .int .i64 1, .int .i64 1, .int .i64 1] 32)).drew.alloc (.cells #[.string ⟨#[116]⟩, .slice (some ⟨W1.heap.size + 1 + 1, 0, none⟩) 1 1, .int .i64 256, .int .i64 n, .int .i64 1, .int .i64 1, .int .i64 1, .int .i64 1] 32)) := ((Below.refl _ _).drew).alloc (by rw [s1]; exact Nat.le_refl _) _
    exact b0.trans (q2.mono (by have := b0.size; have e9 : ((((W1.alloc (.cells #[.int .i64 256, .int .i64 1, .int .i64 1, .int .i64 1, .int .i64 1, .int .i64 1] 3)).alloc (.cells #[.int .i64 1048576, .int .i64 64, .int .i64 64, .int .i64 1048576, .int .i64 1048576, .int .i64 1048576] 3)).alloc (.cells #[.string ⟨#[104]⟩] 9)).alloc (.cells #[.string ⟨#[116]⟩, .slice (some ⟨W1.heap.size + 1 + 1, 0, none⟩) 1 1, .int .i64 256, .int .i64 n, .int .i64 1, .int .i64 1, .int .i64 1, .int .i64 1] 32)).heap.size = W1.heap.size + 1 + 1 + 1 + 1 := s1; omega))
theorem one_cells1 (n : Int) (W1 V : World) (hV : Below (W1.heap.size + 4) ((((W1.alloc (.cells #[.int .i64 256, .int .i64 1, .int .i64 1, .int .i64 1, .int .i64 1, .int .i64 1] 3)).alloc (.cells #[.int .i64 1048576, .int .i64 64, .int .i64 64, .int .i64 1048576, .int .i64 1048576, .int .i64 1048576] 3)).alloc (.cells #[.string ⟨#[104]⟩] 9)).alloc (.cells #[.string ⟨#[116]⟩, .slice (some ⟨W1.heap.size + 1 + 1, 0, none⟩) 1 1, .int .i64 256, .int .i64 n, .int .i64 1, .int .i64 1, .int .i64 1, .int .i64 1] 32)) V) : V.cell? ⟨W1.heap.size, 1, none⟩ = some (.int .i64 1) ∧ V.cell? ⟨W1.heap.size + 1, 1, none⟩ = some (.int .i64 64) ∧ V.cell? ⟨W1.heap.size + 1 + 1 + 1, 0, none⟩ = some (.string ⟨#[116]⟩) ∧ V.cell? ⟨W1.heap.size + 1 + 1 + 1, 1, none⟩ = some (.slice (some ⟨W1.heap.size + 1 + 1, 0, none⟩) 1 1) ∧ V.cell? ⟨W1.heap.size + 1 + 1 + 1, 2, none⟩ = some (.int .i64 256) ∧ V.cell? ⟨W1.heap.size + 1 + 1 + 1, 3, none⟩ = some (.int .i64 n) ∧ V.cell? ⟨W1.heap.size + 1 + 1 + 1, 4, none⟩ = some (.int .i64 1) ∧ V.cell? ⟨W1.heap.size + 1 + 1 + 1, 5, none⟩ = some (.int .i64 1) ∧ V.cell? ⟨W1.heap.size + 1 + 1 + 1, 6, none⟩ = some (.int .i64 1) ∧ V.cell? ⟨W1.heap.size + 1 + 1 + 1, 7, none⟩ = some (.int .i64 1) := by
  have m0 := World.alloc_heap_new W1 (.cells #[.int .i64 256, .int .i64 1, .int .i64 1, .int .i64 1, .int .i64 1, .int .i64 1] 3)
  have m1 := World.alloc_heap_new (W1.alloc (.cells #[.int .i64 256, .int .i64 1, .int .i64 1, .int .i64 1, .int .i64 1, .int .i64 1] 3)) (.cells #[.int .i64 1048576, .int .i64 64, .int .i64 64, .int .i64 1048576, .int .i64 1048576, .int .i64 1048576] 3)
  have m3 := World.alloc_heap_new (((W1.alloc (.cells #[.int .i64 256, .int .i64 1, .int .i64 1, .int .i64 1, .int .i64 1, .int .i64 1] 3)).alloc (.cells #[.int .i64 1048576, .int .i64 64, .int .i64 64, .int .i64 1048576, .int .i64 1048576, .int .i64 1048576] 3)).alloc (.cells #[.string ⟨#[104]⟩] 9)) (.cells #[.string ⟨#[116]⟩, .slice (some ⟨W1.heap.size + 1 + 1, 0, none⟩) 1 1, .int .i64 256, .int .i64 n, .int .i64 1, .int .i64 1, .int .i64 1, .int .i64 1] 32)
  simp only [World.size_alloc] at m1 m3
  have k0 := (hV.block _ (by omega)).trans (heap_al (.cells #[.string ⟨#[116]⟩, .slice (some ⟨W1.heap.size + 1 + 1, 0, none⟩) 1 1, .int .i64 256, .int .i64 n, .int .i64 1, .int .i64 1, .int .i64 1, .int .i64 1] 32) (heap_al (.cells #[.string ⟨#[104]⟩] 9) (heap_al (.cells #[.int .i64 1048576, .int .i64 64, .int .i64 64, .int .i64 1048576, .int .i64 1048576, .int .i64 1048576] 3) m0)))
  have k1 := (hV.block _ (by omega)).trans (heap_al (.cells #[.string ⟨#[116]⟩, .slice (some ⟨W1.heap.size + 1 + 1, 0, none⟩) 1 1, .int .i64 256, .int .i64 n, .int .i64 1, .int .i64 1, .int .i64 1, .int .i64 1] 32) (heap_al (.cells #[.string ⟨#[104]⟩] 9) m1))
  have k3 := (hV.block _ (by omega)).trans m3
  exact ⟨ring_cell k0 rfl, ring_cell k1 rfl, ring_cell k3 rfl, ring_cell k3 rfl, ring_cell k3 rfl, ring_cell k3 rfl, ring_cell k3 rfl, ring_cell k3 rfl, ring_cell k3 rfl, ring_cell k3 rfl⟩
theorem one_call2 (n : Int) (W1 : World) : Calls Tryd.prog 11 #[.slice (some ⟨W1.heap.size + 1 + 1 + 1 + 1, 0, none⟩) 1 1] (((((W1.alloc (.cells #[.int .i64 256, .int .i64 1, .int .i64 1, .int .i64 1, .int .i64 1, .int .i64 1] 3)).alloc (.cells #[.int .i64 1048576, .int .i64 64, .int .i64 64, .int .i64 1048576, .int .i64 1048576, .int .i64 1048576] 3)).alloc (.cells #[.string ⟨#[104]⟩] 9)).alloc (.cells #[.string ⟨#[116]⟩, .slice (some ⟨W1.heap.size + 1 + 1, 0, none⟩) 1 1, .int .i64 256, .int .i64 1, .int .i64 n, .int .i64 1, .int .i64 1, .int .i64 1] 32)).drew.alloc (.cells #[.string ⟨#[116]⟩, .slice (some ⟨W1.heap.size + 1 + 1, 0, none⟩) 1 1, .int .i64 256, .int .i64 1, .int .i64 n, .int .i64 1, .int .i64 1, .int .i64 1] 32)) fun e w' => e = .returned (.bool (wiB n 1 64)) ∧ Below (W1.heap.size + 4) ((((W1.alloc (.cells #[.int .i64 256, .int .i64 1, .int .i64 1, .int .i64 1, .int .i64 1, .int .i64 1] 3)).alloc (.cells #[.int .i64 1048576, .int .i64 64, .int .i64 64, .int .i64 1048576, .int .i64 1048576, .int .i64 1048576] 3)).alloc (.cells #[.string ⟨#[104]⟩] 9)).alloc (.cells #[.string ⟨#[116]⟩, .slice (some ⟨W1.heap.size + 1 + 1, 0, none⟩) 1 1, .int .i64 256, .int .i64 1, .int .i64 n, .int .i64 1, .int .i64 1, .int .i64 1] 32)) w' := by
  have n1 := World.alloc_heap_new ((((W1.alloc (.cells #[.int .i64 256, .int .i64 1, .int .i64 1, .int .i64 1, .int .i64 1, .int .i64 1] 3)).alloc (.cells #[.int .i64 1048576, .int .i64 64, .int .i64 64, .int .i64 1048576, .int .i64 1048576, .int .i64 1048576] 3)).alloc (.cells #[.string ⟨#[104]⟩] 9)).alloc (.cells #[.string ⟨#[116]⟩, .slice (some ⟨W1.heap.size + 1 + 1, 0, none⟩) 1 1, .int .i64 256, .int .i64 1, .int .i64 n, .int .i64 1, .int .i64 1, .int .i64 1] 32)).drew (.cells #[.string ⟨#[116]⟩, .slice (some ⟨W1.heap.size + 1 + 1, 0, none⟩) 1 1, .int .i64 256, .int .i64 1, .int .i64 n, .int .i64 1, .int .i64 1, .int .i64 1] 32)
  have s1 : ((((W1.alloc (.cells #[.int .i64 256, .int .i64 1, .int .i64 1, .int .i64 1, .int .i64 1, .int .i64 1] 3)).alloc (.cells #[.int .i64 1048576, .int .i64 64, .int .i64 64, .int .i64 1048576, .int .i64 1048576, .int .i64 1048576] 3)).alloc (.cells #[.string ⟨#[104]⟩] 9)).alloc (.cells #[.string ⟨#[116]⟩, .slice (some ⟨W1.heap.size + 1 + 1, 0, none⟩) 1 1, .int .i64 256, .int .i64 1, .int .i64 n, .int .i64 1, .int .i64 1, .int .i64 1] 32)).drew.heap.size = W1.heap.size + 1 + 1 + 1 + 1 := by show ((((W1.alloc (.cells #[.int .i64 256, .int .i64 1, .int .i64 1, .int .i64 1, .int .i64 1, .int .i64 1] 3)).alloc (.cells #[.int .i64 1048576, .int .i64 64, .int .i64 64, .int .i64 1048576, .int .i64 1048576, .int .i64 1048576] 3)).alloc (.cells #[.string ⟨#[104]⟩] 9)).alloc (.cells #[.string ⟨#[116]⟩, .slice (some ⟨W1.heap.size + 1 + 1, 0, none⟩) 1 1, .int .i64 256, .int .i64 1, .int .i64 n, .int .i64 1, .int .i64 1, .int .i64 1] 32)).heap.size = _; simp
  rw [s1] at n1
  have n2 := World.alloc_heap_new ((W1.alloc (.cells #[.int .i64 256, .int .i64 1, .int .i64 1, .int .i64 1, .int .i64 1, .int .i64 1] 3)).alloc (.cells #[.int .i64 1048576, .int .i64 64, .int .i64 64, .int .i64 1048576, .int .i64 1048576, .int .i64 1048576] 3)) (.cells #[.string ⟨#[104]⟩] 9)
  simp only [World.size_alloc] at n2
  have n3 : ((((W1.alloc (.cells #[.int .i64 256, .int .i64 1, .int .i64 1, .int .i64 1, .int .i64 1, .int .i64 1] 3)).alloc (.cells #[.int .i64 1048576, .int .i64 64, .int .i64 64, .int .i64 1048576, .int .i64 1048576, .int .i64 1048576] 3)).alloc (.cells #[.string ⟨#[104]⟩] 9)).alloc (.cells #[.string ⟨#[116]⟩, .slice (some ⟨W1.heap.size + 1 + 1, 0, none⟩) 1 1, .int .i64 256, .int .i64 1, .int .i64 n, .int .i64 1, .int .i64 1, .int .i64 1] 32)).drew.heap[W1.heap.size + 1 + 1]? = some (.cells #[.string ⟨#[104]⟩] 9) := heap_al (.cells #[.string ⟨#[116]⟩, .slice (some ⟨W1.heap.size + 1 + 1, 0, none⟩) 1 1, .int .i64 256, .int .i64 1, .int .i64 n, .int .i64 1, .int .i64 1, .int .i64 1] 32) n2
  have n4 := heap_al (.cells #[.string ⟨#[116]⟩, .slice (some ⟨W1.heap.size + 1 + 1, 0, none⟩) 1 1, .int .i64 256, .int .i64 1, .int .i64 n, .int .i64 1, .int .i64 1, .int .i64 1] 32) n3
  have hS := one_sls _ (oneB 256 1 n 1 1 1) (W1.heap.size + 1 + 1 + 1 + 1) (some ⟨W1.heap.size + 1 + 1, 0, none⟩) 1 n1 (one_txt _ ⟨#[104]⟩ _ n4)
  refine (tright_any [oneB 256 1 n 1 1 1] _ 1 _ hS (fun s hs => ?_)).mono fun e v ⟨q1, q2⟩ => ⟨?_, ?_⟩
  · obtain rfl : s = oneB 256 1 n 1 1 1 := by simpa using hs
    exact ⟨(by show 1 ≤ 140737488355328; decide), (fun y hy => by (obtain rfl : y = ⟨#[104]⟩ := by (simpa [oneB] using hy)); decide), (by show 1 ≤ 140737488355328; decide)⟩
  · rw [q1, (bounds_right n).2.2.1]
  · have b0 : Below (W1.heap.size + 4) ((((W1.alloc (.cells #[.int .i64 256, .int .i64 1, .int .i64 1, .int .i64 1, .int .i64 1, .int .i64 1] 3)).alloc (.cells #[.int .i64 1048576, .int .i64 64, .int .i64 64, .int .i64 1048576, .int .i64 1048576, .int .i64 1048576] 3)).alloc (.cells #[.string ⟨#[104]⟩] 9)).alloc (.cells #[.string ⟨#[116]⟩, .slice (some ⟨W1.heap.size + 1 + 1, 0, none⟩) 1 1, .int .i64 256, .int .i64 1, .int .i64 n, .int .i64 1, .int .i64 1, .int .i64 1] 32)) (((((W1.alloc (.cells #[.int .i64 256, .int .i64 1, .int .i64 1, .int .i64 1, .int .i64 1, .int .i64 1] 3)).alloc (.cells #[.int .i64 1048576, .int .i64 64, .int .i64 64, .int .i64 1048576, .int .i64 1048576, .int .i64 1048576] 3)).alloc (.cells #[.string ⟨#[104]⟩] 9)).alloc (.cells #[.string ⟨#[116]⟩, .slice (some ⟨W1.heap.size + 1 + 1, 0, none⟩) 1 1, .int .i64 256, .int .i64 1, .int .i64 n, .int .i64 1, .int .i64 1, .int .i64 1] 32)).drew.alloc (.cells #[.string ⟨#[116]⟩, .slice (some ⟨W1.heap.size + 1 + 1, 0, none⟩) 1 1, .int .i64 256, .int .i64 1, .int .i64 n, .int .i64 1, .int .i64 1, .int .i64 1] 32)) := ((Below.refl _ _).drew).alloc (by rw [s1]; exact Nat.le_refl _) _
    exact b0.trans (q2.mono (by have := b0.size; have e9 : ((((W1.alloc (.cells #[.int .i64 256, .int .i64 1, .int .i64 1, .int .i64 1, .int .i64 1, .int .i64 1] 3)).alloc (.cells #[.int .i64 1048576, .int .i64 64, .int .i64 64, .int .i64 1048576, .int .i64 1048576, .int .i64 1048576] 3)).alloc (.cells #[.string ⟨#[104]⟩] 9)).alloc (.cells #[.string ⟨#[116]⟩, .slice (some ⟨W1.heap.size + 1 + 1, 0, none⟩) 1 1, .int .i64 256, .int .i64 1, .int .i64 n, .int .i64 1, .int .i64 1, .int .i64 1] 32)).heap.size = W1.heap.size + 1 + 1 + 1 + 1 := s1; omega))
theorem one_cells2 (n : Int) (W1 V : World) (hV : Below (W1.heap.size + 4) ((((W1.alloc (.cells #[.int .i64 256, .int .i64 1, .int .i64 1, .int .i64 1, .int .i64 1, .int .i64 1] 3)).alloc (.cells #[.int .i64 1048576, .int .i64 64, .int .i64 64, .int .i64 1048576, .int .i64 1048576, .int .i64 1048576] 3)).alloc (.cells #[.string ⟨#[104]⟩] 9)).alloc (.cells #[.string ⟨#[116]⟩, .slice (some ⟨W1.heap.size + 1 + 1, 0, none⟩) 1 1, .int .i64 256, .int .i64 1, .int .i64 n, .int .i64 1, .int .i64 1, .int .i64 1] 32)) V) : V.cell? ⟨W1.heap.size, 2, none⟩ = some (.int .i64 1) ∧ V.cell? ⟨W1.heap.size + 1, 2, none⟩ = some (.int .i64 64) ∧ V.cell? ⟨W1.heap.size + 1 + 1 + 1, 0, none⟩ = some (.string ⟨#[116]⟩) ∧ V.cell? ⟨W1.heap.size + 1 + 1 + 1, 1, none⟩ = some (.slice (some ⟨W1.heap.size + 1 + 1, 0, none⟩) 1 1) ∧ V.cell? ⟨W1.heap.size + 1 + 1 + 1, 2, none⟩ = some (.int .i64 256) ∧ V.cell? ⟨W1.heap.size + 1 + 1 + 1, 3, none⟩ = some (.int .i64 1) ∧ V.cell? ⟨W1.heap.size + 1 + 1 + 1, 4, none⟩ = some (.int .i64 n) ∧ V.cell? ⟨W1.heap.size + 1 + 1 + 1, 5, none⟩ = some (.int .i64 1) ∧ V.cell? ⟨W1.heap.size + 1 + 1 + 1, 6, none⟩ = some (.int .i64 1) ∧ V.cell? ⟨W1.heap.size + 1 + 1 + 1, 7, none⟩ = some (.int .i64 1) := by
  have m0 := World.alloc_heap_new W1 (.cells #[.int .i64 256, .int .i64 1, .int .i64 1, .int .i64 1, .int .i64 1, .int .i64 1] 3)
  have m1 := World.alloc_heap_new (W1.alloc (.cells #[.int .i64 256, .int .i64 1, .int .i64 1, .int .i64 1, .int .i64 1, .int .i64 1] 3)) (.cells #[.int .i64 1048576, .int .i64 64, .int .i64 64, .int .i64 1048576, .int .i64 1048576, .int .i64 1048576] 3)
  have m3 := World.alloc_heap_new (((W1.alloc (.cells #[.int .i64 256, .int .i64 1, .int .i64 1, .int .i64 1, .int .i64 1, .int .i64 1] 3)).alloc (.cells #[.int .i64 1048576, .int .i64 64, .int .i64 64, .int .i64 1048576, .int .i64 1048576, .int .i64 1048576] 3)).alloc (.cells #[.string ⟨#[104]⟩] 9)) (.cells #[.string ⟨#[116]⟩, .slice (some ⟨W1.heap.size + 1 + 1, 0, none⟩) 1 1, .int .i64 256, .int .i64 1, .int .i64 n, .int .i64 1, .int .i64 1, .int .i64 1] 32)
  simp only [World.size_alloc] at m1 m3
  have k0 := (hV.block _ (by omega)).trans (heap_al (.cells #[.string ⟨#[116]⟩, .slice (some ⟨W1.heap.size + 1 + 1, 0, none⟩) 1 1, .int .i64 256, .int .i64 1, .int .i64 n, .int .i64 1, .int .i64 1, .int .i64 1] 32) (heap_al (.cells #[.string ⟨#[104]⟩] 9) (heap_al (.cells #[.int .i64 1048576, .int .i64 64, .int .i64 64, .int .i64 1048576, .int .i64 1048576, .int .i64 1048576] 3) m0)))
  have k1 := (hV.block _ (by omega)).trans (heap_al (.cells #[.string ⟨#[116]⟩, .slice (some ⟨W1.heap.size + 1 + 1, 0, none⟩) 1 1, .int .i64 256, .int .i64 1, .int .i64 n, .int .i64 1, .int .i64 1, .int .i64 1] 32) (heap_al (.cells #[.string ⟨#[104]⟩] 9) m1))
  have k3 := (hV.block _ (by omega)).trans m3
  exact ⟨ring_cell k0 rfl, ring_cell k1 rfl, ring_cell k3 rfl, ring_cell k3 rfl, ring_cell k3 rfl, ring_cell k3 rfl, ring_cell k3 rfl, ring_cell k3 rfl, ring_cell k3 rfl, ring_cell k3 rfl⟩
theorem one_call3 (n : Int) (W1 : World) : Calls Tryd.prog 11 #[.slice (some ⟨W1.heap.size + 1 + 1 + 1 + 1, 0, none⟩) 1 1] (((((W1.alloc (.cells #[.int .i64 256, .int .i64 1, .int .i64 1, .int .i64 1, .int .i64 1, .int .i64 1] 3)).alloc (.cells #[.int .i64 1048576, .int .i64 64, .int .i64 64, .int .i64 1048576, .int .i64 1048576, .int .i64 1048576] 3)).alloc (.cells #[.string ⟨#[104]⟩] 9)).alloc (.cells #[.string ⟨#[116]⟩, .slice (some ⟨W1.heap.size + 1 + 1, 0, none⟩) 1 1, .int .i64 256, .int .i64 1, .int .i64 1, .int .i64 n, .int .i64 1, .int .i64 1] 32)).drew.alloc (.cells #[.string ⟨#[116]⟩, .slice (some ⟨W1.heap.size + 1 + 1, 0, none⟩) 1 1, .int .i64 256, .int .i64 1, .int .i64 1, .int .i64 n, .int .i64 1, .int .i64 1] 32)) fun e w' => e = .returned (.bool (wiB n 1 1048576)) ∧ Below (W1.heap.size + 4) ((((W1.alloc (.cells #[.int .i64 256, .int .i64 1, .int .i64 1, .int .i64 1, .int .i64 1, .int .i64 1] 3)).alloc (.cells #[.int .i64 1048576, .int .i64 64, .int .i64 64, .int .i64 1048576, .int .i64 1048576, .int .i64 1048576] 3)).alloc (.cells #[.string ⟨#[104]⟩] 9)).alloc (.cells #[.string ⟨#[116]⟩, .slice (some ⟨W1.heap.size + 1 + 1, 0, none⟩) 1 1, .int .i64 256, .int .i64 1, .int .i64 1, .int .i64 n, .int .i64 1, .int .i64 1] 32)) w' := by
  have n1 := World.alloc_heap_new ((((W1.alloc (.cells #[.int .i64 256, .int .i64 1, .int .i64 1, .int .i64 1, .int .i64 1, .int .i64 1] 3)).alloc (.cells #[.int .i64 1048576, .int .i64 64, .int .i64 64, .int .i64 1048576, .int .i64 1048576, .int .i64 1048576] 3)).alloc (.cells #[.string ⟨#[104]⟩] 9)).alloc (.cells #[.string ⟨#[116]⟩, .slice (some ⟨W1.heap.size + 1 + 1, 0, none⟩) 1 1, .int .i64 256, .int .i64 1, .int .i64 1, .int .i64 n, .int .i64 1, .int .i64 1] 32)).drew (.cells #[.string ⟨#[116]⟩, .slice (some ⟨W1.heap.size + 1 + 1, 0, none⟩) 1 1, .int .i64 256, .int .i64 1, .int .i64 1, .int .i64 n, .int .i64 1, .int .i64 1] 32)
  have s1 : ((((W1.alloc (.cells #[.int .i64 256, .int .i64 1, .int .i64 1, .int .i64 1, .int .i64 1, .int .i64 1] 3)).alloc (.cells #[.int .i64 1048576, .int .i64 64, .int .i64 64, .int .i64 1048576, .int .i64 1048576, .int .i64 1048576] 3)).alloc (.cells #[.string ⟨#[104]⟩] 9)).alloc (.cells #[.string ⟨#[116]⟩, .slice (some ⟨W1.heap.size + 1 + 1, 0, none⟩) 1 1, .int .i64 256, .int .i64 1, .int .i64 1, .int .i64 n, .int .i64 1, .int .i64 1] 32)).drew.heap.size = W1.heap.size + 1 + 1 + 1 + 1 := by show ((((W1.alloc (.cells #[.int .i64 256, .int .i64 1, .int .i64 1, .int .i64 1, .int .i64 1, .int .i64 1] 3)).alloc (.cells #[.int .i64 1048576, .int .i64 64, .int .i64 64, .int .i64 1048576, .int .i64 1048576, .int .i64 1048576] 3)).alloc (.cells #[.string ⟨#[104]⟩] 9)).alloc (.cells #[.string ⟨#[116]⟩, .slice (some ⟨W1.heap.size + 1 + 1, 0, none⟩) 1 1, .int .i64 256, .int .i64 1, .int .i64 1, .int .i64 n, .int .i64 1, .int .i64 1] 32)).heap.size = _; simp
  rw [s1] at n1
  have n2 := World.alloc_heap_new ((W1.alloc (.cells #[.int .i64 256, .int .i64 1, .int .i64 1, .int .i64 1, .int .i64 1, .int .i64 1] 3)).alloc (.cells #[.int .i64 1048576, .int .i64 64, .int .i64 64, .int .i64 1048576, .int .i64 1048576, .int .i64 1048576] 3)) (.cells #[.string ⟨#[104]⟩] 9)
  simp only [World.size_alloc] at n2
  have n3 : ((((W1.alloc (.cells #[.int .i64 256, .int .i64 1, .int .i64 1, .int .i64 1, .int .i64 1, .int .i64 1] 3)).alloc (.cells #[.int .i64 1048576, .int .i64 64, .int .i64 64, .int .i64 1048576, .int .i64 1048576, .int .i64 1048576] 3)).alloc (.cells #[.string ⟨#[104]⟩] 9)).alloc (.cells #[.string ⟨#[116]⟩, .slice (some ⟨W1.heap.size + 1 + 1, 0, none⟩) 1 1, .int .i64 256, .int .i64 1, .int .i64 1, .int .i64 n, .int .i64 1, .int .i64 1] 32)).drew.heap[W1.heap.size + 1 + 1]? = some (.cells #[.string ⟨#[104]⟩] 9) := heap_al (.cells #[.string ⟨#[116]⟩, .slice (some ⟨W1.heap.size + 1 + 1, 0, none⟩) 1 1, .int .i64 256, .int .i64 1, .int .i64 1, .int .i64 n, .int .i64 1, .int .i64 1] 32) n2
  have n4 := heap_al (.cells #[.string ⟨#[116]⟩, .slice (some ⟨W1.heap.size + 1 + 1, 0, none⟩) 1 1, .int .i64 256, .int .i64 1, .int .i64 1, .int .i64 n, .int .i64 1, .int .i64 1] 32) n3
  have hS := one_sls _ (oneB 256 1 1 n 1 1) (W1.heap.size + 1 + 1 + 1 + 1) (some ⟨W1.heap.size + 1 + 1, 0, none⟩) 1 n1 (one_txt _ ⟨#[104]⟩ _ n4)
  refine (tright_any [oneB 256 1 1 n 1 1] _ 1 _ hS (fun s hs => ?_)).mono fun e v ⟨q1, q2⟩ => ⟨?_, ?_⟩
  · obtain rfl : s = oneB 256 1 1 n 1 1 := by simpa using hs
    exact ⟨(by show 1 ≤ 140737488355328; decide), (fun y hy => by (obtain rfl : y = ⟨#[104]⟩ := by (simpa [oneB] using hy)); decide), (by show 1 ≤ 140737488355328; decide)⟩
  · rw [q1, (bounds_right n).2.2.2.1]
  · have b0 : Below (W1.heap.size + 4) ((((W1.alloc (.cells #[.int .i64 256, .int .i64 1, .int .i64 1, .int .i64 1, .int .i64 1, .int .i64 1] 3)).alloc (.cells #[.int .i64 1048576, .int .i64 64, .int .i64 64, .int .i64 1048576, .int .i64 1048576, .int .i64 1048576] 3)).alloc (.cells #[.string ⟨#[104]⟩] 9)).alloc (.cells #[.string ⟨#[116]⟩, .slice (some ⟨W1.heap.size + 1 + 1, 0, none⟩) 1 1, .int .i64 256, .int .i64 1, .int .i64 1, .int .i64 n, .int .i64 1, .int .i64 1] 32)) (((((W1.alloc (.cells #[.int .i64 256, .int .i64 1, .int .i64 1, .int .i64 1, .int .i64 1, .int .i64 1] 3)).alloc (.cells #[.int .i64 1048576, .int .i64 64, .int .i64 64, .int .i64 1048576, .int .i64 1048576, .int .i64 1048576] 3)).alloc (.cells #[.string ⟨#[104]⟩] 9)).alloc (.cells #[.string ⟨#[116]⟩, .slice (some ⟨W1.heap.size + 1 + 1, 0, none⟩) 1 1, .int .i64 256, .int .i64 1, .int .i64 1, .int .i64 n, .int .i64 1, .int .i64 1] 32)).drew.alloc (.cells #[.string ⟨#[116]⟩, .slice (some ⟨W1.heap.size + 1 + 1, 0, none⟩) 1 1, .int .i64 256, .int .i64 1, .int .i64 1, .int .i64 n, .int .i64 1, .int .i64 1] 32)) := ((Below.refl _ _).drew).alloc (by rw [s1]; exact Nat.le_refl _) _
    exact b0.trans (q2.mono (by have := b0.size; have e9 : ((((W1.alloc (.cells #[.int .i64 256, .int .i64 1, .int .i64 1, .int .i64 1, .int .i64 1, .int .i64 1] 3)).alloc (.cells #[.int .i64 1048576, .int .i64 64, .int .i64 64, .int .i64 1048576, .int .i64 1048576, .int .i64 1048576] 3)).alloc (.cells #[.string ⟨#[104]⟩] 9)).alloc (.cells #[.string ⟨#[116]⟩, .slice (some ⟨W1.heap.size + 1 + 1, 0, none⟩) 1 1, .int .i64 256, .int .i64 1, .int .i64 1, .int .i64 n, .int .i64 1, .int .i64 1] 32)).heap.size = W1.heap.size + 1 + 1 + 1 + 1 := s1; omega))
theorem one_cells3 (n : Int) (W1 V : World) (hV : Below (W1.heap.size + 4) ((((W1.alloc (.cells #[.int .i64 256, .int .i64 1, .int .i64 1, .int .i64 1, .int .i64 1, .int .i64 1] 3)).alloc (.cells #[.int .i64 1048576, .int .i64 64, .int .i64 64, .int .i64 1048576, .int .i64 1048576, .int .i64 1048576] 3)).alloc (.cells #[.string ⟨#[104]⟩] 9)).alloc (.cells #[.string ⟨#[116]⟩, .slice (some ⟨W1.heap.size + 1 + 1, 0, none⟩) 1 1, .int .i64 256, .int .i64 1, .int .i64 1, .int .i64 n, .int .i64 1, .int .i64 1] 32)) V) : V.cell? ⟨W1.heap.size, 3, none⟩ = some (.int .i64 1) ∧ V.cell? ⟨W1.heap.size + 1, 3, none⟩ = some (.int .i64 1048576) ∧ V.cell? ⟨W1.heap.size + 1 + 1 + 1, 0, none⟩ = some (.string ⟨#[116]⟩) ∧ V.cell? ⟨W1.heap.size + 1 + 1 + 1, 1, none⟩ = some (.slice (some ⟨W1.heap.size + 1 + 1, 0, none⟩) 1 1) ∧ V.cell? ⟨W1.heap.size + 1 + 1 + 1, 2, none⟩ = some (.int .i64 256) ∧ V.cell? ⟨W1.heap.size + 1 + 1 + 1, 3, none⟩ = some (.int .i64 1) ∧ V.cell? ⟨W1.heap.size + 1 + 1 + 1, 4, none⟩ = some (.int .i64 1) ∧ V.cell? ⟨W1.heap.size + 1 + 1 + 1, 5, none⟩ = some (.int .i64 n) ∧ V.cell? ⟨W1.heap.size + 1 + 1 + 1, 6, none⟩ = some (.int .i64 1) ∧ V.cell? ⟨W1.heap.size + 1 + 1 + 1, 7, none⟩ = some (.int .i64 1) := by
  have m0 := World.alloc_heap_new W1 (.cells #[.int .i64 256, .int .i64 1, .int .i64 1, .int .i64 1, .int .i64 1, .int .i64 1] 3)
  have m1 := World.alloc_heap_new (W1.alloc (.cells #[.int .i64 256, .int .i64 1, .int .i64 1, .int .i64 1, .int .i64 1, .int .i64 1] 3)) (.cells #[.int .i64 1048576, .int .i64 64, .int .i64 64, .int .i64 1048576, .int .i64 1048576, .int .i64 1048576] 3)
  have m3 := World.alloc_heap_new (((W1.alloc (.cells #[.int .i64 256, .int .i64 1, .int .i64 1, .int .i64 1, .int .i64 1, .int .i64 1] 3)).alloc (.cells #[.int .i64 1048576, .int .i64 64, .int .i64 64, .int .i64 1048576, .int .i64 1048576, .int .i64 1048576] 3)).alloc (.cells #[.string ⟨#[104]⟩] 9)) (.cells #[.string ⟨#[116]⟩, .slice (some ⟨W1.heap.size + 1 + 1, 0, none⟩) 1 1, .int .i64 256, .int .i64 1, .int .i64 1, .int .i64 n, .int .i64 1, .int .i64 1] 32)
  simp only [World.size_alloc] at m1 m3
  have k0 := (hV.block _ (by omega)).trans (heap_al (.cells #[.string ⟨#[116]⟩, .slice (some ⟨W1.heap.size + 1 + 1, 0, none⟩) 1 1, .int .i64 256, .int .i64 1, .int .i64 1, .int .i64 n, .int .i64 1, .int .i64 1] 32) (heap_al (.cells #[.string ⟨#[104]⟩] 9) (heap_al (.cells #[.int .i64 1048576, .int .i64 64, .int .i64 64, .int .i64 1048576, .int .i64 1048576, .int .i64 1048576] 3) m0)))
  have k1 := (hV.block _ (by omega)).trans (heap_al (.cells #[.string ⟨#[116]⟩, .slice (some ⟨W1.heap.size + 1 + 1, 0, none⟩) 1 1, .int .i64 256, .int .i64 1, .int .i64 1, .int .i64 n, .int .i64 1, .int .i64 1] 32) (heap_al (.cells #[.string ⟨#[104]⟩] 9) m1))
  have k3 := (hV.block _ (by omega)).trans m3
  exact ⟨ring_cell k0 rfl, ring_cell k1 rfl, ring_cell k3 rfl, ring_cell k3 rfl, ring_cell k3 rfl, ring_cell k3 rfl, ring_cell k3 rfl, ring_cell k3 rfl, ring_cell k3 rfl, ring_cell k3 rfl⟩
theorem one_call4 (n : Int) (W1 : World) : Calls Tryd.prog 11 #[.slice (some ⟨W1.heap.size + 1 + 1 + 1 + 1, 0, none⟩) 1 1] (((((W1.alloc (.cells #[.int .i64 256, .int .i64 1, .int .i64 1, .int .i64 1, .int .i64 1, .int .i64 1] 3)).alloc (.cells #[.int .i64 1048576, .int .i64 64, .int .i64 64, .int .i64 1048576, .int .i64 1048576, .int .i64 1048576] 3)).alloc (.cells #[.string ⟨#[104]⟩] 9)).alloc (.cells #[.string ⟨#[116]⟩, .slice (some ⟨W1.heap.size + 1 + 1, 0, none⟩) 1 1, .int .i64 256, .int .i64 1, .int .i64 1, .int .i64 1, .int .i64 n, .int .i64 1] 32)).drew.alloc (.cells #[.string ⟨#[116]⟩, .slice (some ⟨W1.heap.size + 1 + 1, 0, none⟩) 1 1, .int .i64 256, .int .i64 1, .int .i64 1, .int .i64 1, .int .i64 n, .int .i64 1] 32)) fun e w' => e = .returned (.bool (wiB n 1 1048576)) ∧ Below (W1.heap.size + 4) ((((W1.alloc (.cells #[.int .i64 256, .int .i64 1, .int .i64 1, .int .i64 1, .int .i64 1, .int .i64 1] 3)).alloc (.cells #[.int .i64 1048576, .int .i64 64, .int .i64 64, .int .i64 1048576, .int .i64 1048576, .int .i64 1048576] 3)).alloc (.cells #[.string ⟨#[104]⟩] 9)).alloc (.cells #[.string ⟨#[116]⟩, .slice (some ⟨W1.heap.size + 1 + 1, 0, none⟩) 1 1, .int .i64 256, .int .i64 1, .int .i64 1, .int .i64 1, .int .i64 n, .int .i64 1] 32)) w' := by
  have n1 := World.alloc_heap_new ((((W1.alloc (.cells #[.int .i64 256, .int .i64 1, .int .i64 1, .int .i64 1, .int .i64 1, .int .i64 1] 3)).alloc (.cells #[.int .i64 1048576, .int .i64 64, .int .i64 64, .int .i64 1048576, .int .i64 1048576, .int .i64 1048576] 3)).alloc (.cells #[.string ⟨#[104]⟩] 9)).alloc (.cells #[.string ⟨#[116]⟩, .slice (some ⟨W1.heap.size + 1 + 1, 0, none⟩) 1 1, .int .i64 256, .int .i64 1, .int .i64 1, .int .i64 1, .int .i64 n, .int .i64 1] 32)).drew (.cells #[.string ⟨#[116]⟩, .slice (some ⟨W1.heap.size + 1 + 1, 0, none⟩) 1 1, .int .i64 256, .int .i64 1, .int .i64 1, .int .i64 1, .int .i64 n, .int .i64 1] 32)
  have s1 : ((((W1.alloc (.cells #[.int .i64 256, .int .i64 1, .int .i64 1, .int .i64 1, .int .i64 1, .int .i64 1] 3)).alloc (.cells #[.int .i64 1048576, .int .i64 64, .int .i64 64, .int .i64 1048576, .int .i64 1048576, .int .i64 1048576] 3)).alloc (.cells #[.string ⟨#[104]⟩] 9)).alloc (.cells #[.string ⟨#[116]⟩, .slice (some ⟨W1.heap.size + 1 + 1, 0, none⟩) 1 1, .int .i64 256, .int .i64 1, .int .i64 1, .int .i64 1, .int .i64 n, .int .i64 1] 32)).drew.heap.size = W1.heap.size + 1 + 1 + 1 + 1 := by show ((((W1.alloc (.cells #[.int .i64 256, .int .i64 1, .int .i64 1, .int .i64 1, .int .i64 1, .int .i64 1] 3)).alloc (.cells #[.int .i64 1048576, .int .i64 64, .int .i64 64, .int .i64 1048576, .int .i64 1048576, .int .i64 1048576] 3)).alloc (.cells #[.string ⟨#[104]⟩] 9)).alloc (.cells #[.string ⟨#[116]⟩, .slice (some ⟨W1.heap.size + 1 + 1, 0, none⟩) 1 1, .int .i64 256, .int .i64 1, .int .i64 1, .int .i64 1, .int .i64 n, .int .i64 1] 32)).heap.size = _; simp
  rw [s1] at n1
  have n2 := World.alloc_heap_new ((W1.alloc (.cells #[.int .i64 256, .int .i64 1, .int .i64 1, .int .i64 1, .int .i64 1, .int .i64 1] 3)).alloc (.cells #[.int .i64 1048576, .int .i64 64, .int .i64 64, .int .i64 1048576, .int .i64 1048576, .int .i64 1048576] 3)) (.cells #[.string ⟨#[104]⟩] 9)
  simp only [World.size_alloc] at n2
  have n3 : ((((W1.alloc (.cells #[.int .i64 256, .int .i64 1, .int .i64 1, .int .i64 1, .int .i64 1, .int .i64 1] 3)).alloc (.cells #[.int .i64 1048576, .int .i64 64, .int .i64 64, .int .i64 1048576, .int .i64 1048576, .int .i64 1048576] 3)).alloc (.cells #[.string ⟨#[104]⟩] 9)).alloc (.cells #[.string ⟨#[116]⟩, .slice (some ⟨W1.heap.size + 1 + 1, 0, none⟩) 1 1, .int .i64 256, .int .i64 1, .int .i64 1, .int .i64 1, .int .i64 n, .int .i64 1] 32)).drew.heap[W1.heap.size + 1 + 1]? = some (.cells #[.string ⟨#[104]⟩] 9) := heap_al (.cells #[.string ⟨#[116]⟩, .slice (some ⟨W1.heap.size + 1 + 1, 0, none⟩) 1 1, .int .i64 256, .int .i64 1, .int .i64 1, .int .i64 1, .int .i64 n, .int .i64 1] 32) n2
  have n4 := heap_al (.cells #[.string ⟨#[116]⟩, .slice (some ⟨W1.heap.size + 1 + 1, 0, none⟩) 1 1, .int .i64 256, .int .i64 1, .int .i64 1, .int .i64 1, .int .i64 n, .int .i64 1] 32) n3
  have hS := one_sls _ (oneB 256 1 1 1 n 1) (W1.heap.size + 1 + 1 + 1 + 1) (some ⟨W1.heap.size + 1 + 1, 0, none⟩) 1 n1 (one_txt _ ⟨#[104]⟩ _ n4)
  refine (tright_any [oneB 256 1 1 1 n 1] _ 1 _ hS (fun s hs => ?_)).mono fun e v ⟨q1, q2⟩ => ⟨?_, ?_⟩
  · obtain rfl : s = oneB 256 1 1 1 n 1 := by simpa using hs
    exact ⟨(by show 1 ≤ 140737488355328; decide), (fun y hy => by (obtain rfl : y = ⟨#[104]⟩ := by (simpa [oneB] using hy)); decide), (by show 1 ≤ 140737488355328; decide)⟩
  · rw [q1, (bounds_right n).2.2.2.2.1]
  · have b0 : Below (W1.heap.size + 4) ((((W1.alloc (.cells #[.int .i64 256, .int .i64 1, .int .i64 1, .int .i64 1, .int .i64 1, .int .i64 1] 3)).alloc (.cells #[.int .i64 1048576, .int .i64 64, .int .i64 64, .int .i64 1048576, .int .i64 1048576, .int .i64 1048576] 3)).alloc (.cells #[.string ⟨#[104]⟩] 9)).alloc (.cells #[.string ⟨#[116]⟩, .slice (some ⟨W1.heap.size + 1 + 1, 0, none⟩) 1 1, .int .i64 256, .int .i64 1, .int .i64 1, .int .i64 1, .int .i64 n, .int .i64 1] 32)) (((((W1.alloc (.cells #[.int .i64 256, .int .i64 1, .int .i64 1, .int .i64 1, .int .i64 1, .int .i64 1] 3)).alloc (.cells #[.int .i64 1048576, .int .i64 64, .int .i64 64, .int .i64 1048576, .int .i64 1048576, .int .i64 1048576] 3)).alloc (.cells #[.string ⟨#[104]⟩] 9)).alloc (.cells #[.string ⟨#[116]⟩, .slice (some ⟨W1.heap.size + 1 + 1, 0, none⟩) 1 1, .int .i64 256, .int .i64 1, .int .i64 1, .int .i64 1, .int .i64 n, .int .i64 1] 32)).drew.alloc (.cells #[.string ⟨#[116]⟩, .slice (some ⟨W1.heap.size + 1 + 1, 0, none⟩) 1 1, .int .i64 256, .int .i64 1, .int .i64 1, .int .i64 1, .int .i64 n, .int .i64 1] 32)) := ((Below.refl _ _).drew).alloc (by rw [s1]; exact Nat.le_refl _) _
    exact b0.trans (q2.mono (by have := b0.size; have e9 : ((((W1.alloc (.cells #[.int .i64 256, .int .i64 1, .int .i64 1, .int .i64 1, .int .i64 1, .int .i64 1] 3)).alloc (.cells #[.int .i64 1048576, .int .i64 64, .int .i64 64, .int .i64 1048576, .int .i64 1048576, .int .i64 1048576] 3)).alloc (.cells #[.string ⟨#[104]⟩] 9)).alloc (.cells #[.string ⟨#[116]⟩, .slice (some ⟨W1.heap.size + 1 + 1, 0, none⟩) 1 1, .int .i64 256, .int .i64 1, .int .i64 1, .int .i64 1, .int .i64 n, .int .i64 1] 32)).heap.size = W1.heap.size + 1 + 1 + 1 + 1 := s1; omega))
theorem one_cells4 (n : Int) (W1 V : World) (hV : Below (W1.heap.size + 4) ((((W1.alloc (.cells #[.int .i64 256, .int .i64 1, .int .i64 1, .int .i64 1, .int .i64 1, .int .i64 1] 3)).alloc (.cells #[.int .i64 1048576, .int .i64 64, .int .i64 64, .int .i64 1048576, .int .i64 1048576, .int .i64 1048576] 3)).alloc (.cells #[.string ⟨#[104]⟩] 9)).alloc (.cells #[.string ⟨#[116]⟩, .slice (some ⟨W1.heap.size + 1 + 1, 0, none⟩) 1 1, .int .i64 256, .int .i64 1, .int .i64 1, .int .i64 1, .int .i64 n, .int .i64 1] 32)) V) : V.cell? ⟨W1.heap.size, 4, none⟩ = some (.int .i64 1) ∧ V.cell? ⟨W1.heap.size + 1, 4, none⟩ = some (.int .i64 1048576) ∧ V.cell? ⟨W1.heap.size + 1 + 1 + 1, 0, none⟩ = some (.string ⟨#[116]⟩) ∧ V.cell? ⟨W1.heap.size + 1 + 1 + 1, 1, none⟩ = some (.slice (some ⟨W1.heap.size + 1 + 1, 0, none⟩) 1 1) ∧ V.cell? ⟨W1.heap.size + 1 + 1 + 1, 2, none⟩ = some (.int .i64 256) ∧ V.cell? ⟨W1.heap.size + 1 + 1 + 1, 3, none⟩ = some (.int .i64 1) ∧ V.cell? ⟨W1.heap.size + 1 + 1 + 1, 4, none⟩ = some (.int .i64 1) ∧ V.cell? ⟨W1.heap.size + 1 + 1 + 1, 5, none⟩ = some (.int .i64 1) ∧ V.cell? ⟨W1.heap.size + 1 + 1 + 1, 6, none⟩ = some (.int .i64 n) ∧ V.cell? ⟨W1.heap.size + 1 + 1 + 1, 7, none⟩ = some (.int .i64 1) := by
  have m0 := World.alloc_heap_new W1 (.cells #[.int .i64 256, .int .i64 1, .int .i64 1, .int .i64 1, .int .i64 1, .int .i64 1] 3)
  have m1 := World.alloc_heap_new (W1.alloc (.cells #[.int .i64 256, .int .i64 1, .int .i64 1, .int .i64 1, .int .i64 1, .int .i64 1] 3)) (.cells #[.int .i64 1048576, .int .i64 64, .int .i64 64, .int .i64 1048576, .int .i64 1048576, .int .i64 1048576] 3)
  have m3 := World.alloc_heap_new (((W1.alloc (.cells #[.int .i64 256, .int .i64 1, .int .i64 1, .int .i64 1, .int .i64 1, .int .i64 1] 3)).alloc (.cells #[.int .i64 1048576, .int .i64 64, .int .i64 64, .int .i64 1048576, .int .i64 1048576, .int .i64 1048576] 3)).alloc (.cells #[.string ⟨#[104]⟩] 9)) (.cells #[.string ⟨#[116]⟩, .slice (some ⟨W1.heap.size + 1 + 1, 0, none⟩) 1 1, .int .i64 256, .int .i64 1, .int .i64 1, .int .i64 1, .int .i64 n, .int .i64 1] 32)
  simp only [World.size_alloc] at m1 m3
  have k0 := (hV.block _ (by omega)).trans (heap_al (.cells #[.string ⟨#[116]⟩, .slice (some ⟨W1.heap.size + 1 + 1, 0, none⟩) 1 1, .int .i64 256, .int .i64 1, .int .i64 1, .int .i64 1, .int .i64 n, .int .i64 1] 32) (heap_al (.cells #[.string ⟨#[104]⟩] 9) (heap_al (.cells #[.int .i64 1048576, .int .i64 64, .int .i64 64, .int .i64 1048576, .int .i64 1048576, .int .i64 1048576] 3) m0)))
  have k1 := (hV.block _ (by omega)).trans (heap_al (.cells #[.string ⟨#[116]⟩, .slice (some ⟨W1.heap.size + 1 + 1, 0, none⟩) 1 1, .int .i64 256, .int .i64 1, .int .i64 1, .int .i64 1, .int .i64 n, .int .i64 1] 32) (heap_al (.cells #[.string ⟨#[104]⟩] 9) m1))
  have k3 := (hV.block _ (by omega)).trans m3
  exact ⟨ring_cell k0 rfl, ring_cell k1 rfl, ring_cell k3 rfl, ring_cell k3 rfl, ring_cell k3 rfl, ring_cell k3 rfl, ring_cell k3 rfl, ring_cell k3 rfl, ring_cell k3 rfl, ring_cell k3 rfl⟩
theorem one_call5 (n : Int) (W1 : World) : Calls Tryd.prog 11 #[.slice (some ⟨W1.heap.size + 1 + 1 + 1 + 1, 0, none⟩) 1 1] (((((W1.alloc (.cells #[.int .i64 256, .int .i64 1, .int .i64 1, .int .i64 1, .int .i64 1, .int .i64 1] 3)).alloc (.cells #[.int .i64 1048576, .int .i64 64, .int .i64 64, .int .i64 1048576, .int .i64 1048576, .int .i64 1048576] 3)).alloc (.cells #[.string ⟨#[104]⟩] 9)).alloc (.cells #[.string ⟨#[116]⟩, .slice (some ⟨W1.heap.size + 1 + 1, 0, none⟩) 1 1, .int .i64 256, .int .i64 1, .int .i64 1, .int .i64 1, .int .i64 1, .int .i64 n] 32)).drew.alloc (.cells #[.string ⟨#[116]⟩, .slice (some ⟨W1.heap.size + 1 + 1, 0, none⟩) 1 1, .int .i64 256, .int .i64 1, .int .i64 1, .int .i64 1, .int .i64 1, .int .i64 n] 32)) fun e w' => e = .returned (.bool (wiB n 1 1048576)) ∧ Below (W1.heap.size + 4) ((((W1.alloc (.cells #[.int .i64 256, .int .i64 1, .int .i64 1, .int .i64 1, .int .i64 1, .int .i64 1] 3)).alloc (.cells #[.int .i64 1048576, .int .i64 64, .int .i64 64, .int .i64 1048576, .int .i64 1048576, .int .i64 1048576] 3)).alloc (.cells #[.string ⟨#[104]⟩] 9)).alloc (.cells #[.string ⟨#[116]⟩, .slice (some ⟨W1.heap.size + 1 + 1, 0, none⟩) 1 1, .int .i64 256, .int .i64 1, .int .i64 1, .int .i64 1, .int .i64 1, .int .i64 n] 32)) w' := by
  have n1 := World.alloc_heap_new ((((W1.alloc (.cells #[.int .i64 256, .int .i64 1, .int .i64 1, .int .i64 1, .int .i64 1, .int .i64 1] 3)).alloc (.cells #[.int .i64 1048576, .int .i64 64, .int .i64 64, .int .i64 1048576, .int .i64 1048576, .int .i64 1048576] 3)).alloc (.cells #[.string ⟨#[104]⟩] 9)).alloc (.cells #[.string ⟨#[116]⟩, .slice (some ⟨W1.heap.size + 1 + 1, 0, none⟩) 1 1, .int .i64 256, .int .i64 1, .int .i64 1, .int .i64 1, .int .i64 1, .int .i64 n] 32)).drew (.cells #[.string ⟨#[116]⟩, .slice (some ⟨W1.heap.size + 1 + 1, 0, none⟩) 1 1, .int .i64 256, .int .i64 1, .int .i64 1, .int .i64 1, .int .i64 1, .int .i64 n] 32)
  have s1 : ((((W1.alloc (.cells #[.int .i64 256, .int .i64 1, .int .i64 1, .int .i64 1, .int .i64 1, .int .i64 1] 3)).alloc (.cells #[.int .i64 1048576, .int .i64 64, .int .i64 64, .int .i64 1048576, .int .i64 1048576, .int .i64 1048576] 3)).alloc (.cells #[.string ⟨#[104]⟩] 9)).alloc (.cells #[.string ⟨#[116]⟩, .slice (some ⟨W1.heap.size + 1 + 1, 0, none⟩) 1 1, .int .i64 256, .int .i64 1, .int .i64 1, .int .i64 1, .int .i64 1, .int .i64 n] 32)).drew.heap.size = W1.heap.size + 1 + 1 + 1 + 1 := by show ((((W1.alloc (.cells #[.int .i64 256, .int .i64 1, .int .i64 1, .int .i64 1, .int .i64 1, .int .i64 1] 3)).alloc (.cells #[.int .i64 1048576, .int .i64 64, .int .i64 64, .int .i64 1048576, .int .i64 1048576, .int .i64 1048576] 3)).alloc (.cells #[.string ⟨#[104]⟩] 9)).alloc (.cells #[.string ⟨#[116]⟩, .slice (some ⟨W1.heap.size + 1 + 1, 0, none⟩) 1 1, .int .i64 256, .int .i64 1, .int .i64 1, .int .i64 1, .int .i64 1, .int .i64 n] 32)).heap.size = _; simp
  rw [s1] at n1
  have n2 := World.alloc_heap_new ((W1.alloc (.cells #[.int .i64 256, .int .i64 1, .int .i64 1, .int .i64 1, .int .i64 1, .int .i64 1] 3)).alloc (.cells #[.int .i64 1048576, .int .i64 64, .int .i64 64, .int .i64 1048576, .int .i64 1048576, .int .i64 1048576] 3)) (.cells #[.string ⟨#[104]⟩] 9)
  simp only [World.size_alloc] at n2
  have n3 : ((((W1.alloc (.cells #[.int .i64 256, .int .i64 1, .int .i64 1, .int .i64 1, .int .i64 1, .int .i64 1] 3)).alloc (.cells #[.int .i64 1048576, .int .i64 64, .int .i64 64, .int .i64 1048576, .int .i64 1048576, .int .i64 1048576] 3)).alloc (.cells #[.string ⟨#[104]⟩] 9)).alloc (.cells #[.string ⟨#[116]⟩, .slice (some ⟨W1.heap.size + 1 + 1, 0, none⟩) 1 1, .int .i64 256, .int .i64 1, .int .i64 1, .int .i64 1, .int .i64 1, .int .i64 n] 32)).drew.heap[W1.heap.size + 1 + 1]? = some (.cells #[.string ⟨#[104]⟩] 9) := heap_al (.cells #[.string ⟨#[116]⟩, .slice (some ⟨W1.heap.size + 1 + 1, 0, none⟩) 1 1, .int .i64 256, .int .i64 1, .int .i64 1, .int .i64 1, .int .i64 1, .int .i64 n] 32) n2
  have n4 := heap_al (.cells #[.string ⟨#[116]⟩, .slice (some ⟨W1.heap.size + 1 + 1, 0, none⟩) 1 1, .int .i64 256, .int .i64 1, .int .i64 1, .int .i64 1, .int .i64 1, .int .i64 n] 32) n3
  have hS := one_sls _ (oneB 256 1 1 1 1 n) (W1.heap.size + 1 + 1 + 1 + 1) (some ⟨W1.heap.size + 1 + 1, 0, none⟩) 1 n1 (one_txt _ ⟨#[104]⟩ _ n4)
  refine (tright_any [oneB 256 1 1 1 1 n] _ 1 _ hS (fun s hs => ?_)).mono fun e v ⟨q1, q2⟩ => ⟨?_, ?_⟩
  · obtain rfl : s = oneB 256 1 1 1 1 n := by simpa using hs
    exact ⟨(by show 1 ≤ 140737488355328; decide), (fun y hy => by (obtain rfl : y = ⟨#[104]⟩ := by (simpa [oneB] using hy)); decide), (by show 1 ≤ 140737488355328; decide)⟩
  · rw [q1, (bounds_right n).2.2.2.2.2]
  · have b0 : Below (W1.heap.size + 4) ((((W1.alloc (.cells #[.int .i64 256, .int .i64 1, .int .i64 1, .int .i64 1, .int .i64 1, .int .i64 1] 3)).alloc (.cells #[.int .i64 1048576, .int .i64 64, .int .i64 64, .int .i64 1048576, .int .i64 1048576, .int .i64 1048576] 3)).alloc (.cells #[.string ⟨#[104]⟩] 9)).alloc (.cells #[.string ⟨#[116]⟩, .slice (some ⟨W1.heap.size + 1 + 1, 0, none⟩) 1 1, .int .i64 256, .int .i64 1, .int .i64 1, .int .i64 1, .int .i64 1, .int .i64 n] 32)) (((((W1.alloc (.cells #[.int .i64 256, .int .i64 1, .int .i64 1, .int .i64 1, .int .i64 1, .int .i64 1] 3)).alloc (.cells #[.int .i64 1048576, .int .i64 64, .int .i64 64, .int .i64 1048576, .int .i64 1048576, .int .i64 1048576] 3)).alloc (.cells #[.string ⟨#[104]⟩] 9)).alloc (.cells #[.string ⟨#[116]⟩, .slice (some ⟨W1.heap.size + 1 + 1, 0, none⟩) 1 1, .int .i64 256, .int .i64 1, .int .i64 1, .int .i64 1, .int .i64 1, .int .i64 n] 32)).drew.alloc (.cells #[.string ⟨#[116]⟩, .slice (some ⟨W1.heap.size + 1 + 1, 0, none⟩) 1 1, .int .i64 256, .int .i64 1, .int .i64 1, .int .i64 1, .int .i64 1, .int .i64 n] 32)) := ((Below.refl _ _).drew).alloc (by rw [s1]; exact Nat.le_refl _) _
    exact b0.trans (q2.mono (by have := b0.size; have e9 : ((((W1.alloc (.cells #[.int .i64 256, .int .i64 1, .int .i64 1, .int .i64 1, .int .i64 1, .int .i64 1] 3)).alloc (.cells #[.int .i64 1048576, .int .i64 64, .int .i64 64, .int .i64 1048576, .int .i64 1048576, .int .i64 1048576] 3)).alloc (.cells #[.string ⟨#[104]⟩] 9)).alloc (.cells #[.string ⟨#[116]⟩, .slice (some ⟨W1.heap.size + 1 + 1, 0, none⟩) 1 1, .int .i64 256, .int .i64 1, .int .i64 1, .int .i64 1, .int .i64 1, .int .i64 n] 32)).heap.size = W1.heap.size + 1 + 1 + 1 + 1 := s1; omega))
theorem one_cells5 (n : Int) (W1 V : World) (hV : Below (W1.heap.size + 4) ((((W1.alloc (.cells #[.int .i64 256, .int .i64 1, .int .i64 1, .int .i64 1, .int .i64 1, .int .i64 1] 3)).alloc (.cells #[.int .i64 1048576, .int .i64 64, .int .i64 64, .int .i64 1048576, .int .i64 1048576, .int .i64 1048576] 3)).alloc (.cells #[.string ⟨#[104]⟩] 9)).alloc (.cells #[.string ⟨#[116]⟩, .slice (some ⟨W1.heap.size + 1 + 1, 0, none⟩) 1 1, .int .i64 256, .int .i64 1, .int .i64 1, .int .i64 1, .int .i64 1, .int .i64 n] 32)) V) : V.cell? ⟨W1.heap.size, 5, none⟩ = some (.int .i64 1) ∧ V.cell? ⟨W1.heap.size + 1, 5, none⟩ = some (.int .i64 1048576) ∧ V.cell? ⟨W1.heap.size + 1 + 1 + 1, 0, none⟩ = some (.string ⟨#[116]⟩) ∧ V.cell? ⟨W1.heap.size + 1 + 1 + 1, 1, none⟩ = some (.slice (some ⟨W1.heap.size + 1 + 1, 0, none⟩) 1 1) ∧ V.cell? ⟨W1.heap.size + 1 + 1 + 1, 2, none⟩ = some (.int .i64 256) ∧ V.cell? ⟨W1.heap.size + 1 + 1 + 1, 3, none⟩ = some (.int .i64 1) ∧ V.cell? ⟨W1.heap.size + 1 + 1 + 1, 4, none⟩ = some (.int .i64 1) ∧ V.cell? ⟨W1.heap.size + 1 + 1 + 1, 5, none⟩ = some (.int .i64 1) ∧ V.cell? ⟨W1.heap.size + 1 + 1 + 1, 6, none⟩ = some (.int .i64 1) ∧ V.cell? ⟨W1.heap.size + 1 + 1 + 1, 7, none⟩ = some (.int .i64 n) := by
  have m0 := World.alloc_heap_new W1 (.cells #[.int .i64 256, .int .i64 1, .int .i64 1, .int .i64 1, .int .i64 1, .int .i64 1] 3)
  have m1 := World.alloc_heap_new (W1.alloc (.cells #[.int .i64 256, .int .i64 1, .int .i64 1, .int .i64 1, .int .i64 1, .int .i64 1] 3)) (.cells #[.int .i64 1048576, .int .i64 64, .int .i64 64, .int .i64 1048576, .int .i64 1048576, .int .i64 1048576] 3)
  have m3 := World.alloc_heap_new (((W1.alloc (.cells #[.int .i64 256, .int .i64 1, .int .i64 1, .int .i64 1, .int .i64 1, .int .i64 1] 3)).alloc (.cells #[.int .i64 1048576, .int .i64 64, .int .i64 64, .int .i64 1048576, .int .i64 1048576, .int .i64 1048576] 3)).alloc (.cells #[.string ⟨#[104]⟩] 9)) (.cells #[.string ⟨#[116]⟩, .slice (some ⟨W1.heap.size + 1 + 1, 0, none⟩) 1 1, .int .i64 256, .int .i64 1, .int .i64 1, .int .i64 1, .int .i64 1, .int .i64 n] 32)
  simp only [World.size_alloc] at m1 m3
  have k0 := (hV.block _ (by omega)).trans (heap_al (.cells #[.string ⟨#[116]⟩, .slice (some ⟨W1.heap.size + 1 + 1, 0, none⟩) 1 1, .int .i64 256, .int .i64 1, .int .i64 1, .int .i64 1, .int .i64 1, .int .i64 n] 32) (heap_al (.cells #[.string ⟨#[104]⟩] 9) (heap_al (.cells #[.int .i64 1048576, .int .i64 64, .int .i64 64, .int .i64 1048576, .int .i64 1048576, .int .i64 1048576] 3) m0)))
  have k1 := (hV.block _ (by omega)).trans (heap_al (.cells #[.string ⟨#[116]⟩, .slice (some ⟨W1.heap.size + 1 + 1, 0, none⟩) 1 1, .int .i64 256, .int .i64 1, .int .i64 1, .int .i64 1, .int .i64 1, .int .i64 n] 32) (heap_al (.cells #[.string ⟨#[104]⟩] 9) m1))
  have k3 := (hV.block _ (by omega)).trans m3
  exact ⟨ring_cell k0 rfl, ring_cell k1 rfl, ring_cell k3 rfl, ring_cell k3 rfl, ring_cell k3 rfl, ring_cell k3 rfl, ring_cell k3 rfl, ring_cell k3 rfl, ring_cell k3 rfl, ring_cell k3 rfl⟩
end Go.Proofs.YtjdplideehlblaaDoor

/- TableBounds: the loop's start. -/
namespace Go.Proofs.YtjdplideehlblaaDoor
open Go.ChangeShapes Go.WideShapes Go.ChangeAt Go.RowKit
set_option linter.unusedVariables false
theorem two_new (W : World) : TwoR W.heap.size ((W.alloc (.cells #[] 32)).alloc (.cells #[] 9)) (.slice (some ⟨W.heap.size, 0, none⟩) 0 0) (.slice (some ⟨W.heap.size + 1, 0, none⟩) 0 0) [] [] := by
  have n0 := heap_al (.cells #[] 9) (World.alloc_heap_new W (.cells #[] 32))
  have n1 := World.alloc_heap_new (W.alloc (.cells #[] 32)) (.cells #[] 9)
  rw [World.size_alloc] at n1
  refine ⟨⟨⟨rfl, .inr ⟨_, 0, #[], rfl, Nat.le_refl _, n0, Nat.le_refl _, by decide, rfl, rfl⟩⟩, (fun x hx => by cases hx), (fun x hx => by cases hx)⟩, ⟨rfl, .inr ⟨_, 0, #[], rfl, Nat.le_succ _, n1, Nat.le_refl _, by decide, rfl, rfl⟩⟩, ?_, (fun x hx => by cases hx)⟩
  intro k e c
  have e' : W.heap.size = k := by simpa [Value.ownBlock] using e
  have c' : W.heap.size + 1 = k := by simpa [Value.ownBlock] using c
  omega
end Go.Proofs.YtjdplideehlblaaDoor

/- TableBounds' walk (written by tce.py). -/
namespace Go.Proofs.YtjdplideehlblaaDoor
open Go.ChangeShapes Go.WideShapes Go.ChangeAt Go.RowKit
set_option linter.unusedVariables false
theorem u8_97 (i : Nat) (h : i ≤ 31) : (UInt8.ofNat (97 + i)).toNat = 97 + i := by
  have : 97 + i < 256 := by omega
  simp [UInt8.toNat_ofNat', Nat.mod_eq_of_lt this]
theorem bconv1 (W : World) (x : Int) (b : UInt8) (h : (b.toNat : Int) = x) : (convert 38 9 (.slice (some ⟨W.heap.size, 0, none⟩) 1 1)).run Tryd.prog (W.alloc (.cells #[.int .u8 x] 5)) = .ok (.string ⟨#[b]⟩) (W.alloc (.cells #[.int .u8 x] 5)) := by
  have k := run_convert_bytes_back (P := Tryd.prog) (W.alloc (.cells #[.int .u8 x] 5)) 38 9 5 ⟨W.heap.size, 0, none⟩ 1 [b] Tryd.underlying38 Tryd.underlying5 Tryd.underlying9 (fun j hj => by
    obtain rfl : j = 0 := by simpa using hj
    rw [addr_add]
    exact ring_cell (new_at _ _) (by simp [h]))
  exact k
theorem wordB_cat (W : World) (i : Nat) : (Op.stringOp .add ⟨#[104]⟩ ⟨#[UInt8.ofNat (97 + i)]⟩).run Tryd.prog W = .ok (.string (wordB i)) W := by
  have k := run_string_add_sum (P := Tryd.prog) W ⟨#[104]⟩ ⟨#[UInt8.ofNat (97 + i)]⟩ (by show 1 + 1 ≤ _; decide)
  rw [k]
  have e : (⟨#[104]⟩ : ByteArray) ++ ⟨#[UInt8.ofNat (97 + i)]⟩ = wordB i := by
    apply ByteArray.ext
    apply Array.toList_inj.1
    rw [ByteArray.data_append]
    simp [wordB]
  rw [e]
theorem wordB_sz (i : Nat) : (wordB i).size = 2 := rfl
theorem slotB_bd (i : Nat) : SBd (slotB i) := ⟨by show 2 ≤ _; decide, (fun x hx => by rw [show (slotB i).h = [wordB i] from rfl, List.mem_singleton] at hx; rw [hx]; show 2 ≤ _; decide), by show 1 ≤ _; decide⟩
theorem manyB_bd (k : Nat) : ∀ s ∈ manyB k, SBd s := fun s hs => by
  unfold manyB at hs
  obtain ⟨i, _, rfl⟩ := List.mem_map.1 hs
  exact slotB_bd i
theorem wideB_bd (k : Nat) (h : k ≤ 31) : SBd (wideB k) := by
  refine ⟨by show 1 ≤ _; decide, fun x hx => ?_, by show (wordsB k).length ≤ _; rw [wordsB_len]; omega⟩
  have hx' : x ∈ wordsB k := hx
  unfold wordsB at hx'
  obtain ⟨i, _, rfl⟩ := List.mem_map.1 hx'
  show 2 ≤ _; decide
def wideO (k g11 c11 : Nat) : Obj := .cells (slotV (wideB k) (some ⟨g11, 0, none⟩) c11) 32
theorem wideO_eq (k g11 c11 : Nat) : wideO k g11 c11 = .cells #[.string ⟨#[116]⟩, .slice (some ⟨g11, 0, none⟩) k c11, .int .i64 256, .int .i64 1, .int .i64 1, .int .i64 1, .int .i64 1, .int .i64 1] 32 := by
  unfold wideO slotV
  rw [show (wideB k).h.length = k from wordsB_len k]
  rfl
theorem mright (k : Nat) (hk : k ≤ 31) (g10 c10 g11 c11 : Nat) (W : World) (h1 : Sls W.heap.size W (.slice (some ⟨g10, 0, none⟩) k c10) (manyB k)) (h2 : Txs W.heap.size W (.slice (some ⟨g11, 0, none⟩) k c11) (wordsB k)) :
    Hid (Calls Tryd.prog 11 #[.slice (some ⟨g10, 0, none⟩) k c10] (W.alloc (.cells #[.string ⟨#[116]⟩, .slice (some ⟨g11, 0, none⟩) k c11, .int .i64 256, .int .i64 1, .int .i64 1, .int .i64 1, .int .i64 1, .int .i64 1] 32)) fun e w' => e = .returned (.bool (rightP (manyB k))) ∧ Below (W.heap.size + 1) (W.alloc (wideO k g11 c11)) w' ∧ w'.cell? ⟨W.heap.size, 0, none⟩ = some (.string ⟨#[116]⟩) ∧ w'.cell? ⟨W.heap.size, 1, none⟩ = some (.slice (some ⟨g11, 0, none⟩) k c11) ∧ w'.cell? ⟨W.heap.size, 2, none⟩ = some (.int .i64 256) ∧ w'.cell? ⟨W.heap.size, 3, none⟩ = some (.int .i64 1) ∧ w'.cell? ⟨W.heap.size, 4, none⟩ = some (.int .i64 1) ∧ w'.cell? ⟨W.heap.size, 5, none⟩ = some (.int .i64 1) ∧ w'.cell? ⟨W.heap.size, 6, none⟩ = some (.int .i64 1) ∧ w'.cell? ⟨W.heap.size, 7, none⟩ = some (.int .i64 1)) := by
  rw [Hid, ← wideO_eq]
  have B0 : Below W.heap.size W (W.alloc (wideO k g11 c11)) := (Below.refl _ _).alloc (Nat.le_refl _) _
  have hl := manyB_len k
  have q := tright_any (manyB k) (some ⟨g10, 0, none⟩) c10 (W.alloc (wideO k g11 c11)) (by rw [hl]; exact (h1.keep B0).mono B0.size) (manyB_bd k)
  rw [hl] at q
  refine q.mono fun e w' ⟨he, b⟩ => ⟨he, by rw [World.size_alloc] at b; exact b, ?_⟩
  have n0 := World.alloc_heap_new W (wideO k g11 c11)
  have n1 : w'.heap[W.heap.size]? = some (.cells #[.string ⟨#[116]⟩, .slice (some ⟨g11, 0, none⟩) k c11, .int .i64 256, .int .i64 1, .int .i64 1, .int .i64 1, .int .i64 1, .int .i64 1] 32) := by rw [← wideO_eq]; exact (b.block _ (heap_lt n0)).trans n0
  exact ⟨ring_cell n1 rfl, ring_cell n1 rfl, ring_cell n1 rfl, ring_cell n1 rfl, ring_cell n1 rfl, ring_cell n1 rfl, ring_cell n1 rfl, ring_cell n1 rfl⟩
theorem wright (k : Nat) (hk : k ≤ 31) (g10 c10 g11 c11 : Nat) (W : World) (h1 : Sls W.heap.size W (.slice (some ⟨g10, 0, none⟩) k c10) (manyB k)) (h2 : Txs W.heap.size W (.slice (some ⟨g11, 0, none⟩) k c11) (wordsB k)) :
    Hid (∀ V, Below (W.heap.size + 1) (W.alloc (wideO k g11 c11)) V → Calls Tryd.prog 11 #[.slice (some ⟨V.heap.size, 0, none⟩) 1 1] (V.alloc (.cells #[.string ⟨#[116]⟩, .slice (some ⟨g11, 0, none⟩) k c11, .int .i64 256, .int .i64 1, .int .i64 1, .int .i64 1, .int .i64 1, .int .i64 1] 32)) fun e w' => e = .returned (.bool (rightP [wideB k])) ∧ Below W.heap.size W w') := by
  intro V hV
  rw [← wideO_eq]
  have B0 : Below W.heap.size W (W.alloc (wideO k g11 c11)) := (Below.refl _ _).alloc (Nat.le_refl _) _
  have B1 : Below W.heap.size W V := B0.trans (hV.mono (Nat.le_succ _))
  have B2 : Below W.heap.size W (V.alloc (wideO k g11 c11)) := B1.alloc B1.size _
  have n0 : (V.alloc (wideO k g11 c11)).heap[V.heap.size]? = some (.cells (slotV (wideB k) (some ⟨g11, 0, none⟩) c11) 32) := World.alloc_heap_new V (wideO k g11 c11)
  have q := tright_any [wideB k] (some ⟨V.heap.size, 0, none⟩) 1 (V.alloc (wideO k g11 c11)) (one_sls _ (wideB k) V.heap.size _ c11 n0 (by
    show Txs _ _ (.slice _ (wordsB k).length c11) (wordsB k)
    rw [wordsB_len]
    exact (h2.keep B2).mono B2.size)) (fun s hs => by rw [List.mem_singleton] at hs; rw [hs]; exact wideB_bd k hk)
  exact q.mono fun e w' ⟨he, b⟩ => ⟨he, B2.trans (b.mono B2.size)⟩
end Go.Proofs.YtjdplideehlblaaDoor
