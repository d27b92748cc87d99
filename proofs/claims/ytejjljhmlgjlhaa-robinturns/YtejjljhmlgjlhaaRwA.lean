/- Flows that want as much each (plain): grants go round. -/
import Derived.Test.YtejjljhmlgjlhaaRbS
namespace Go.Proofs.Ytejjljhmlgjlhaa
open Go.RowKit
set_option linter.unusedVariables false

/-- Whose turn the grant number T + j is, of n flows. -/
def cy (n T j : Nat) : Int := 7 * (((T + j) % n : Nat) : Int) + 7
theorem cy_succ (n T j : Nat) : cy n (T + 1) j = cy n T (j + 1) := by unfold cy; rw [show T + 1 + j = T + (j + 1) by omega]
theorem cy_round (n T : Nat) : cy n T n = cy n T 0 := by unfold cy; rw [Nat.add_mod_right, Nat.add_zero]
theorem range_cy (n T : Nat) (hn : 0 < n) : (List.range n).map (cy n (T + 1)) = ((List.range n).map (cy n T)).drop 1 ++ [cy n T 0] := by
  obtain ⟨m, rfl⟩ : ∃ m, n = m + 1 := ⟨n - 1, by omega⟩
  have e1 : (List.range m).map (cy (m + 1) T ∘ Nat.succ) = (List.range m).map (cy (m + 1) (T + 1)) := List.map_congr_left fun j _ => (cy_succ (m + 1) T j).symm
  have e3 : (List.range (m + 1)).map (cy (m + 1) (T + 1)) = (List.range m).map (cy (m + 1) (T + 1)) ++ [cy (m + 1) (T + 1) m] := by rw [List.range_succ, List.map_append]; rfl
  have e4 : cy (m + 1) (T + 1) m = cy (m + 1) T 0 := by rw [cy_succ]; exact cy_round (m + 1) T
  have e5 : ((List.range (m + 1)).map (cy (m + 1) T)).drop 1 = (List.range m).map (cy (m + 1) (T + 1)) := by
    rw [List.range_succ_eq_map, List.map_cons]
    show List.map _ (List.map Nat.succ _) = _
    rw [List.map_map]; exact e1
  rw [e3, e4, e5]
/-- The grants of one round, where each wants a lot. -/
theorem turn_loop (n : Nat) (hn : 0 < n) : ∀ (k T : Nat) (qu : List Fl) (cr la : Int) (gs : List Fl), qu.map (fun f => f.1) = (List.range n).map (cy n T) → (∀ f ∈ qu, 64 * (k : Int) + 64 < f.2) → 64 * (k : Int) ≤ cr → cr < 64 * (k : Int) + 64 →
    loopQ qu cr la gs = (cr - 64 * (k : Int), if k = 0 then la else cy n T (k - 1), gs ++ (List.range k).map (fun j => (cy n T j, 64)))
  | k, T, [], cr, la, gs, hq, _, _, _ => by
    have := congrArg List.length hq
    simp at this
    omega
  | 0, T, f :: t, cr, la, gs, hq, hw, h1, h2 => by
    have hf := hw f (List.mem_cons_self ..)
    rw [loopQ_stop (by omega) (by omega)]
    simp
  | k + 1, T, f :: t, cr, la, gs, hq, hw, h1, h2 => by
    have hf := hw f (List.mem_cons_self ..)
    have hm : min f.2 64 = 64 := by omega
    have hk : ((k + 1 : Nat) : Int) = (k : Int) + 1 := by omega
    rw [loopQ_go (by omega) (by omega)]
    have hnx : nxt f t = t ++ [(f.1, f.2 - 64)] := by unfold nxt; rw [hm, if_pos (by omega)]
    have hd := congrArg (List.drop 1) hq
    have hh := congrArg List.head? hq
    have h0 : f.1 = cy n T 0 := by
      obtain ⟨m, rfl⟩ : ∃ m, n = m + 1 := ⟨n - 1, by omega⟩
      rw [List.range_succ_eq_map] at hh
      simpa using hh
    rw [hnx, hm]
    have ih := turn_loop n hn k (T + 1) (t ++ [(f.1, f.2 - 64)]) (cr - 64) f.1 (gs ++ [(f.1, 64)]) (by
      rw [range_cy n T hn, ← hd, List.map_append, ← h0]; rfl) (fun x hx => by
      rcases List.mem_append.1 hx with q | q
      · have := hw x (List.mem_cons_of_mem _ q); omega
      · have e : x = (f.1, f.2 - 64) := by simpa using q
        rw [e]; show 64 * (k : Int) + 64 < f.2 - 64; omega) (by omega) (by omega)
    rw [ih]
    have e1 : cr - 64 - 64 * (k : Int) = cr - 64 * ((k + 1 : Nat) : Int) := by omega
    have e2 : (if k = 0 then f.1 else cy n (T + 1) (k - 1)) = (if k + 1 = 0 then la else cy n T (k + 1 - 1)) := by
      rw [if_neg (show ¬ k + 1 = 0 by omega), Nat.add_sub_cancel]
      by_cases q : k = 0
      · rw [if_pos q, q, h0]
      · rw [if_neg q, cy_succ, show k - 1 + 1 = k by omega]
    have e3 : gs ++ [(f.1, 64)] ++ (List.range k).map (fun j => (cy n (T + 1) j, (64 : Int))) = gs ++ (List.range (k + 1)).map (fun j => (cy n T j, (64 : Int))) := by
      rw [List.append_assoc, List.range_succ_eq_map, List.map_cons, List.map_map, ← h0, List.singleton_append]
      congr 2
      refine List.map_congr_left fun j _ => ?_
      rw [cy_succ]; rfl
    rw [e1, e2, e3]
/-- The last connection behind T grants. -/
def laT (n T : Nat) : Int := if T = 0 then 9223372036854775807 else cy n (T - 1) 0
/-- The flows as they are told, and as their turn is. -/
def flD (n m : Nat) : List Fl := (List.range m).map fun (t : Nat) => ((7 * ((n : Int) - (t : Int)), 1048576) : Fl)
def flX (n T : Nat) : List Fl := (List.range n).map fun (j : Nat) => ((cy n T j, 1048576) : Fl)
theorem n8 {n : Nat} (h1 : 1 ≤ n) (h2 : n ≤ 8) : n = 1 ∨ n = 2 ∨ n = 3 ∨ n = 4 ∨ n = 5 ∨ n = 6 ∨ n = 7 ∨ n = 8 := by omega
theorem away_up {la c : Int} (h : la < c) (h2 : c - la - 1 < 18446744073709551616) : awayK la c = c - la - 1 := Int.emod_eq_of_lt (by omega) h2
theorem away_dn {la c : Int} (h : c ≤ la) (h2 : la - c < 18446744073709551616) : awayK la c = c - la - 1 + 18446744073709551616 := by
  unfold awayK
  rw [← Int.add_emod_right (a := c - la - 1), Int.emod_eq_of_lt (by omega) (by omega)]
theorem mod_turn {n S i j : Nat} (h1 : 1 ≤ n) (h2 : n ≤ 8) (hij : i < j) (hj : j < n) :
    (S % n < (S + 1 + i) % n → S % n < (S + 1 + j) % n → (S + 1 + i) % n < (S + 1 + j) % n) ∧ ((S + 1 + i) % n ≤ S % n → (S + 1 + j) % n ≤ S % n ∧ (S + 1 + i) % n < (S + 1 + j) % n) := by
  rcases n8 h1 h2 with rfl | rfl | rfl | rfl | rfl | rfl | rfl | rfl <;> omega
theorem cy_lt {n T i j : Nat} (h1 : 1 ≤ n) (h2 : n ≤ 8) (hij : i < j) (hj : j < n) : awayK (laT n T) (cy n T i) < awayK (laT n T) (cy n T j) := by
  by_cases h0 : T = 0
  · subst h0
    unfold laT cy
    rw [if_pos rfl, Nat.zero_add, Nat.zero_add, Nat.mod_eq_of_lt (by omega), Nat.mod_eq_of_lt hj]
    rw [away_dn (by omega) (by omega), away_dn (by omega) (by omega)]
    omega
  · unfold laT cy
    rw [if_neg h0]
    obtain ⟨S, rfl⟩ : ∃ S, T = S + 1 := ⟨T - 1, by omega⟩
    rw [Nat.add_sub_cancel, Nat.add_zero]
    obtain ⟨m1, m2⟩ := mod_turn (S := S) h1 h2 hij hj
    have l1 := Nat.mod_lt S (show 0 < n by omega)
    have l2 := Nat.mod_lt (S + 1 + i) (show 0 < n by omega)
    have l3 := Nat.mod_lt (S + 1 + j) (show 0 < n by omega)
    generalize S % n = a at *
    generalize (S + 1 + i) % n = x at *
    generalize (S + 1 + j) % n = y at *
    by_cases cx : a < x
    · rw [away_up (c := 7 * (x : Int) + 7) (by omega) (by omega)]
      by_cases cy : a < y
      · rw [away_up (by omega) (by omega)]
        have := m1 cx cy
        omega
      · rw [away_dn (by omega) (by omega)]
        omega
    · obtain ⟨m3, m4⟩ := m2 (by omega)
      rw [away_dn (c := 7 * (x : Int) + 7) (by omega) (by omega), away_dn (by omega) (by omega)]
      omega
theorem turn_mem {n T : Nat} (h1 : 1 ≤ n) (h2 : n ≤ 8) (f : Fl) : f ∈ flX n T ↔ 0 < f.2 ∧ f ∈ flD n n := by
  unfold flX flD
  simp only [List.mem_map, List.mem_range]
  constructor
  · rintro ⟨j, hj, rfl⟩
    refine ⟨(by decide : (0 : Int) < 1048576), n - 1 - (T + j) % n, by have := Nat.mod_lt (T + j) (show 0 < n by omega); omega, ?_⟩
    have hm := Nat.mod_lt (T + j) (show 0 < n by omega)
    unfold cy
    rw [show ((n - 1 - (T + j) % n : Nat) : Int) = (n : Int) - 1 - (((T + j) % n : Nat) : Int) by omega]
    congr 1
    omega
  · rintro ⟨_, t, ht, rfl⟩
    have key : ∃ j, j < n ∧ (T + j) % n = n - 1 - t := by
      rcases n8 h1 h2 with rfl | rfl | rfl | rfl | rfl | rfl | rfl | rfl
      · exact ⟨0, by omega, by omega⟩
      · exact ⟨(2 - 1 - t + 2 - T % 2) % 2, by omega, by omega⟩
      · exact ⟨(3 - 1 - t + 3 - T % 3) % 3, by omega, by omega⟩
      · exact ⟨(4 - 1 - t + 4 - T % 4) % 4, by omega, by omega⟩
      · exact ⟨(5 - 1 - t + 5 - T % 5) % 5, by omega, by omega⟩
      · exact ⟨(6 - 1 - t + 6 - T % 6) % 6, by omega, by omega⟩
      · exact ⟨(7 - 1 - t + 7 - T % 7) % 7, by omega, by omega⟩
      · exact ⟨(8 - 1 - t + 8 - T % 8) % 8, by omega, by omega⟩
    obtain ⟨j, hj, e⟩ := key
    refine ⟨j, hj, ?_⟩
    unfold cy
    rw [e]
    congr 1
    omega
theorem flD_dist (n m : Nat) : (flD n m).Pairwise (fun a b => a.1 ≠ b.1) := by
  unfold flD
  rw [List.pairwise_map]
  exact List.Pairwise.imp (fun {a b} (h : a < b) => by show 7 * ((n : Int) - (a : Int)) ≠ 7 * ((n : Int) - (b : Int)); omega) List.pairwise_lt_range
theorem turn_wait {n T : Nat} {W : List Fl} (h1 : 1 ≤ n) (h2 : n ≤ 8) (h : WaitP (laT n T) (flD n n) W) : W = flX n T := by
  refine wait_dist h (fun f hf => ?_) (flD_dist n n) ?_ (turn_mem h1 h2)
  · unfold flD at hf
    obtain ⟨t, ht, rfl⟩ := List.mem_map.1 hf
    have := List.mem_range.1 ht
    unfold InR
    show _ ≤ 7 * ((n : Int) - (t : Int)) ∧ 7 * ((n : Int) - (t : Int)) ≤ _
    omega
  · unfold flX
    rw [List.pairwise_map]
    rw [List.pairwise_iff_getElem]
    intro i j hi hj hij
    simp only [List.getElem_range]
    exact cy_lt h1 h2 hij (by simpa using hj)
/-- How often the i-th of n flows has had its turn behind T grants. -/
def ct (n T i : Nat) : Nat := (T + n - i) / n
theorem ct_step {n T i : Nat} (h1 : 1 ≤ n) (h2 : n ≤ 8) (hi1 : 1 ≤ i) (hi2 : i ≤ n) : ct n (T + 1) i = ct n T i + if i = T % n + 1 then 1 else 0 := by
  unfold ct
  rcases n8 h1 h2 with rfl | rfl | rfl | rfl | rfl | rfl | rfl | rfl <;> split <;> omega
theorem ct_bd {n T i : Nat} (h1 : 1 ≤ n) (h2 : n ≤ 8) (hi1 : 1 ≤ i) (hi2 : i ≤ n) : T / n ≤ ct n T i ∧ ct n T i ≤ T / n + 1 := by
  unfold ct
  rcases n8 h1 h2 with rfl | rfl | rfl | rfl | rfl | rfl | rfl | rfl <;> omega
def sm (n T : Nat) : Nat → Nat
  | 0 => 0
  | k + 1 => sm n T k + ct n T (k + 1)
theorem ct_val {n T i : Nat} (hi1 : 1 ≤ i) (hi2 : i ≤ n) (h1 : 1 ≤ n) (h2 : n ≤ 8) : ct n T i = T / n + if i ≤ T % n then 1 else 0 := by
  unfold ct
  rcases n8 h1 h2 with rfl | rfl | rfl | rfl | rfl | rfl | rfl | rfl <;> split <;> omega
theorem sm_val {n T : Nat} (h1 : 1 ≤ n) (h2 : n ≤ 8) : ∀ k, k ≤ n → sm n T k = k * (T / n) + min k (T % n)
  | 0, _ => by simp [sm]
  | k + 1, h => by
    have ih := sm_val (T := T) h1 h2 k (by omega)
    show sm n T k + ct n T (k + 1) = _
    rw [ih, ct_val (by omega) h h1 h2, Nat.add_mul, Nat.one_mul]
    split <;> omega
theorem sm_all {n T : Nat} (h1 : 1 ≤ n) (h2 : n ≤ 8) : sm n T n = T := by
  rw [sm_val h1 h2 n (Nat.le_refl _)]
  have := Nat.div_add_mod T n
  have := Nat.mod_lt T (show 0 < n by omega)
  omega
theorem sm_le {n T : Nat} (h1 : 1 ≤ n) (h2 : n ≤ 8) : ∀ k, k ≤ n → sm n T k ≤ k * (T / n + 1)
  | 0, _ => by simp [sm]
  | k + 1, h => by
    have := sm_le (T := T) h1 h2 k (by omega)
    have := (ct_bd (T := T) h1 h2 (show 1 ≤ k + 1 by omega) h).2
    show sm n T k + ct n T (k + 1) ≤ _
    rw [Nat.add_mul, Nat.one_mul]
    omega
end Go.Proofs.Ytejjljhmlgjlhaa
