/- PoolBound, plain: which handles are lent, and how many. -/
import Derived.Test.YthiidhlmjhjjcaaPoK
namespace Go.Proofs.Ythiidhlmjhjjcaa
open Go.RowKit
set_option linter.unusedVariables false

/-- Lent are those that are dialled or busy. -/
def lentB (q : HF) : Int → Bool := fun h => (lookH (q h)).2 == 1 || (lookH (q h)).2 == 2
theorem lentB_none {q : HF} {h : Int} (e : q h = none) : lentB q h = false := by unfold lentB lookH; rw [e]; rfl
theorem lentB_some {q : HF} {h : Int} {s : KS} {t : Int} (e : q h = some (s, t)) : lentB q h = (t == 1 || t == 2) := by unfold lentB lookH; rw [e]; rfl
theorem lentB_upd (q : HF) (h : Int) (o : Option Hd) (b : Bool) (hb : ((lookH o).2 == 1 || (lookH o).2 == 2) = b) : lentB (updI q h o) = updI (lentB q) h b := funext fun g => by
  by_cases c : g = h
  · subst c
    rw [updI_same]
    unfold lentB
    rw [updI_same]
    exact hb
  · rw [updI_other _ _ c]
    unfold lentB
    rw [updI_other _ _ c]
theorem updI_self {α : Type} (t : Int → α) (h : Int) (b : α) (e : t h = b) : updI t h b = t := funext fun g => by
  by_cases c : g = h
  · subst c; rw [updI_same, e]
  · rw [updI_other _ _ c]
/-- How many are lent. -/
structure LI (N K : Nat) (most : Int) (rs : List Int) : Prop where
  k : K + rs.length = N
  m : (N : Int) ≤ most
theorem but_len {h : Int} : ∀ {rs : List Int}, rs.Nodup → h ∈ rs → (rs.filter (butH h)).length + 1 = rs.length
  | [], _, m => by cases m
  | x :: r, nd, m => by
    obtain ⟨n1, n2⟩ := List.nodup_cons.1 nd
    by_cases c : x = h
    · subst c
      rw [List.filter_cons, if_neg (by simp [butH]), filt_notin n1, List.length_cons]
    · have m' : h ∈ r := by
        rcases List.mem_cons.1 m with e | e
        · exact absurd e.symm c
        · exact e
      rw [List.filter_cons, if_pos (by simp [butH, c]), List.length_cons, List.length_cons, but_len n2 m']
theorem LI.new {most : Int} (h : 0 ≤ most) : LI 0 0 most [] := ⟨rfl, h⟩
/-- An idle one is lent. -/
theorem LI.old {N K : Nat} {most : Int} {rs : List Int} {x : Int} (i : LI N K most rs) (nd : rs.Nodup) (hx : x ∈ rs) : LI N (K + 1) most (rs.filter (butH x)) := ⟨by have := but_len nd hx; have := i.k; omega, i.m⟩
/-- A new one is lent. -/
theorem LI.dial {N K : Nat} {most : Int} {rs : List Int} (i : LI N K most rs) (h : (N : Int) < most) : LI (N + 1) (K + 1) most rs := ⟨by have := i.k; omega, by omega⟩
theorem LI.rest {N K : Nat} {most : Int} {rs : List Int} {x : Int} (i : LI N K most rs) (h : 1 ≤ K) : LI N (K - 1) most (rs ++ [x]) := ⟨by have := i.k; simp; omega, i.m⟩
theorem LI.shut3 {N K : Nat} {most : Int} {rs : List Int} {x : Int} (i : LI N K most rs) (nd : rs.Nodup) (hx : x ∈ rs) : LI (N - 1) K most (rs.filter (butH x)) := ⟨by have := but_len nd hx; have := i.k; omega, by have := i.m; omega⟩
theorem LI.shut12 {N K : Nat} {most : Int} {rs : List Int} {x : Int} (i : LI N K most rs) (hx : x ∉ rs) (h : 1 ≤ K) : LI (N - 1) (K - 1) most (rs.filter (butH x)) := ⟨by rw [filt_notin hx]; have := i.k; omega, by have := i.m; omega⟩
theorem LI.full {N K : Nat} {most : Int} (i : LI N K most []) (h : ¬ (N : Int) < most) : ¬ (K : Int) < most := by have := i.k; simp at this; omega
theorem LI.le {N K : Nat} {most : Int} {rs : List Int} (i : LI N K most rs) : K ≤ N := by have := i.k; omega
/-- One that is lent is none of the idle ones; one that is there and isn't lent is idle. -/
theorem lent_idle {n N : Nat} {last : Int} {q : HF} {rs : List Int} (k : QI n N last q rs) {h : Int} (e : lentB q h = true) : h ∉ rs := fun m => by
  obtain ⟨s, f⟩ := (k.r h).1 m
  rw [lentB_some f] at e
  exact absurd e (by decide)
theorem idle_lent {n N : Nat} {last : Int} {q : HF} {rs : List Int} (k : QI n N last q rs) {h : Int} (hs : (q h).isSome = true) (e : lentB q h = false) : h ∈ rs := by
  obtain ⟨⟨s, t⟩, hy⟩ := Option.isSome_iff_exists.1 hs
  have hb := (k.b h _ hy).2.2
  rw [lentB_some hy] at e
  have hb' : t = 1 ∨ t = 2 ∨ t = 3 := hb
  rcases hb' with rfl | rfl | rfl
  · exact absurd e (by decide)
  · exact absurd e (by decide)
  · exact (k.r h).2 ⟨s, hy⟩
end Go.Proofs.Ythiidhlmjhjjcaa
