/- The document's pool: Take (plain): who rested last, who first. -/
import Derived.Test.YtlaigjapnmgjeaaQf
namespace Go.Proofs.Ytlaigjapnmgjeaa
open Go.RowKit
set_option linter.unusedVariables false

def eqA (a b : KS) : Bool := ByteArray.toList a == ByteArray.toList b
/-- Among the first k: who leads to the aim and rested last. -/
def NewR (aim : KS) (L : List Hn) (k : Nat) (f : Int) : Prop := (f = -1 ∧ ∀ (j : Nat) y, j < k → L[j]? = some y → y.st = 3 → eqA y.a aim = false) ∨ ∃ (i : Nat) (x : Hn), f = i ∧ i < k ∧ L[i]? = some x ∧ x.st = 3 ∧ eqA x.a aim = true ∧ ∀ (j : Nat) y, j < k → L[j]? = some y → y.st = 3 → eqA y.a aim = true → y.si ≤ x.si
/-- Among the first k: who rested first. -/
def OldR (L : List Hn) (k : Nat) (f : Int) : Prop := (f = -1 ∧ ∀ (j : Nat) y, j < k → L[j]? = some y → y.st ≠ 3) ∨ ∃ (i : Nat) (x : Hn), f = i ∧ i < k ∧ L[i]? = some x ∧ x.st = 3 ∧ ∀ (j : Nat) y, j < k → L[j]? = some y → y.st = 3 → x.si ≤ y.si
theorem NewR.start (aim : KS) (L : List Hn) : NewR aim L 0 (-1) := .inl ⟨rfl, fun j y h => absurd h (Nat.not_lt_zero _)⟩
theorem OldR.start (L : List Hn) : OldR L 0 (-1) := .inl ⟨rfl, fun j y h => absurd h (Nat.not_lt_zero _)⟩
theorem lt_snoc {L : List Hn} {k j : Nat} {p y : Hn} (hp : L[k]? = some p) (hj : j < k + 1) (hy : L[j]? = some y) : (j < k) ∨ (j = k ∧ y = p) := by
  by_cases e : j = k
  · subst e
    rw [hp] at hy
    exact .inr ⟨rfl, (Option.some.inj hy).symm⟩
  · exact .inl (by omega)
theorem NewR.skip {aim : KS} {L : List Hn} {k : Nat} {f : Int} {p : Hn} (h : NewR aim L k f) (hp : L[k]? = some p) (hn : p.st = 3 → eqA p.a aim = false) : NewR aim L (k + 1) f := by
  rcases h with ⟨e, h⟩ | ⟨i, x, e, hi, hx, h3, ha, h⟩
  · refine .inl ⟨e, fun j y hj hy hs => ?_⟩
    rcases lt_snoc hp hj hy with c | ⟨c, rfl⟩
    · exact h j y c hy hs
    · exact hn hs
  · refine .inr ⟨i, x, e, by omega, hx, h3, ha, fun j y hj hy hs hq => ?_⟩
    rcases lt_snoc hp hj hy with c | ⟨c, rfl⟩
    · exact h j y c hy hs hq
    · rw [hn hs] at hq; cases hq
theorem NewR.keep {aim : KS} {L : List Hn} {k i : Nat} {p x : Hn} (h : NewR aim L k i) (hp : L[k]? = some p) (hx : L[i]? = some x) (hn : p.si ≤ x.si) : NewR aim L (k + 1) i := by
  rcases h with ⟨e, h⟩ | ⟨i', x', e, hi, hx', h3, ha, h⟩
  · omega
  · have e2 : i = i' := by omega
    subst e2
    rw [hx] at hx'
    cases hx'
    refine .inr ⟨i, x, rfl, by omega, hx, h3, ha, fun j y hj hy hs hq => ?_⟩
    rcases lt_snoc hp hj hy with c | ⟨c, rfl⟩
    · exact h j y c hy hs hq
    · exact hn
theorem NewR.first {aim : KS} {L : List Hn} {k : Nat} {p : Hn} (h : NewR aim L k (-1)) (hp : L[k]? = some p) (h3 : p.st = 3) (ha : eqA p.a aim = true) : NewR aim L (k + 1) k := by
  rcases h with ⟨e, h⟩ | ⟨i', x', e, _⟩
  · refine .inr ⟨k, p, rfl, by omega, hp, h3, ha, fun j y hj hy hs hq => ?_⟩
    rcases lt_snoc hp hj hy with c | ⟨c, rfl⟩
    · rw [h j y c hy hs] at hq; cases hq
    · exact Int.le_refl _
  · omega
theorem NewR.more {aim : KS} {L : List Hn} {k i : Nat} {p x : Hn} (h : NewR aim L k i) (hp : L[k]? = some p) (hx : L[i]? = some x) (h3 : p.st = 3) (ha : eqA p.a aim = true) (hn : x.si < p.si) : NewR aim L (k + 1) k := by
  rcases h with ⟨e, h⟩ | ⟨i', x', e, hi, hx', _, _, h⟩
  · omega
  · have e2 : i = i' := by omega
    subst e2
    rw [hx] at hx'
    cases hx'
    refine .inr ⟨k, p, rfl, by omega, hp, h3, ha, fun j y hj hy hs hq => ?_⟩
    rcases lt_snoc hp hj hy with c | ⟨c, rfl⟩
    · have := h j y c hy hs hq; omega
    · exact Int.le_refl _
theorem OldR.skip {L : List Hn} {k : Nat} {f : Int} {p : Hn} (h : OldR L k f) (hp : L[k]? = some p) (hn : p.st ≠ 3) : OldR L (k + 1) f := by
  rcases h with ⟨e, h⟩ | ⟨i, x, e, hi, hx, h3, h⟩
  · refine .inl ⟨e, fun j y hj hy => ?_⟩
    rcases lt_snoc hp hj hy with c | ⟨c, rfl⟩
    · exact h j y c hy
    · exact hn
  · refine .inr ⟨i, x, e, by omega, hx, h3, fun j y hj hy hs => ?_⟩
    rcases lt_snoc hp hj hy with c | ⟨c, rfl⟩
    · exact h j y c hy hs
    · exact absurd hs hn
theorem OldR.keep {L : List Hn} {k i : Nat} {p x : Hn} (h : OldR L k i) (hp : L[k]? = some p) (hx : L[i]? = some x) (hn : x.si ≤ p.si) : OldR L (k + 1) i := by
  rcases h with ⟨e, h⟩ | ⟨i', x', e, hi, hx', h3, h⟩
  · omega
  · have e2 : i = i' := by omega
    subst e2
    rw [hx] at hx'
    cases hx'
    refine .inr ⟨i, x, rfl, by omega, hx, h3, fun j y hj hy hs => ?_⟩
    rcases lt_snoc hp hj hy with c | ⟨c, rfl⟩
    · exact h j y c hy hs
    · exact hn
theorem OldR.first {L : List Hn} {k : Nat} {p : Hn} (h : OldR L k (-1)) (hp : L[k]? = some p) (h3 : p.st = 3) : OldR L (k + 1) k := by
  rcases h with ⟨e, h⟩ | ⟨i', x', e, _⟩
  · refine .inr ⟨k, p, rfl, by omega, hp, h3, fun j y hj hy hs => ?_⟩
    rcases lt_snoc hp hj hy with c | ⟨c, rfl⟩
    · exact absurd hs (h j y c hy)
    · exact Int.le_refl _
  · omega
theorem OldR.less {L : List Hn} {k i : Nat} {p x : Hn} (h : OldR L k i) (hp : L[k]? = some p) (hx : L[i]? = some x) (h3 : p.st = 3) (hn : p.si < x.si) : OldR L (k + 1) k := by
  rcases h with ⟨e, h⟩ | ⟨i', x', e, hi, hx', _, h⟩
  · omega
  · have e2 : i = i' := by omega
    subst e2
    rw [hx] at hx'
    cases hx'
    refine .inr ⟨k, p, rfl, by omega, hp, h3, fun j y hj hy hs => ?_⟩
    rcases lt_snoc hp hj hy with c | ⟨c, rfl⟩
    · have := h j y c hy hs; omega
    · exact Int.le_refl _
/-- No one of the aim rests; or the one that rested last is the first from the back. -/
theorem NewR.none {q : HF} {L : List Hn} {aim : KS} {rs : List Int} (K : RQH q L) (hr : ∀ h, h ∈ rs → ∃ s, q h = some (s, 3)) (h : NewR aim L L.length (-1)) : ∀ y ∈ rs, neA q aim y := by
  intro y hy
  obtain ⟨s, e⟩ := hr y hy
  obtain ⟨x, hx, e2⟩ := K.b y _ e
  have hxm := K.a x hx
  rw [e2, e] at hxm
  injection hxm with hxm
  obtain ⟨e3, e4⟩ := Prod.mk.inj hxm
  rcases h with ⟨_, h⟩ | ⟨i, _, e5, _⟩
  · obtain ⟨j, hj, e6⟩ := List.getElem_of_mem hx
    have := h j x hj (by rw [List.getElem?_eq_getElem hj, e6]) e4.symm
    unfold neA
    rw [e]
    show (ByteArray.toList s == ByteArray.toList aim) = false
    rw [e3]
    exact this
  · omega
theorem rest_of {q : HF} {L : List Hn} (K : RQH q L) {y : Int} {s : KS} (e : q y = some (s, 3)) : ∃ (j : Nat) (z : Hn), j < L.length ∧ L[j]? = some z ∧ z ∈ L ∧ z.h = y ∧ z.st = 3 ∧ z.a = s := by
  obtain ⟨x, hx, e2⟩ := K.b y _ e
  have hxm := K.a x hx
  rw [e2, e] at hxm
  injection hxm with hxm
  obtain ⟨e3, e4⟩ := Prod.mk.inj hxm
  obtain ⟨j, hj, e6⟩ := List.getElem_of_mem hx
  exact ⟨j, x, hj, by rw [List.getElem?_eq_getElem hj, e6], hx, e2, e4.symm, e3.symm⟩
theorem OldR.none {q : HF} {L : List Hn} {rs : List Int} (K : RQH q L) (hr : ∀ h, h ∈ rs → ∃ s, q h = some (s, 3)) (h : OldR L L.length (-1)) : rs = [] := by
  cases rs with
  | nil => rfl
  | cons y r =>
    obtain ⟨s, e⟩ := hr y List.mem_cons_self
    obtain ⟨j, z, hj, hz, _, _, h3, _⟩ := rest_of K e
    rcases h with ⟨_, h⟩ | ⟨i, _, e5, _⟩
    · exact absurd h3 (h j z hj hz)
    · omega
theorem OldR.some {q : HF} {L : List Hn} {rs : List Int} {R : Int} {i : Nat} (K : RQH q L) (S : SO rs L R) (hr : ∀ h, h ∈ rs ↔ ∃ s, q h = some (s, 3)) (h : OldR L L.length i) : ∃ x r, L[i]? = some x ∧ rs = x.h :: r ∧ x.st = 3 := by
  rcases h with ⟨e, _⟩ | ⟨i', x, e, _, hx, h3, h⟩
  · omega
  · have e2 : i = i' := by omega
    subst e2
    have hxm := K.a x (List.mem_of_getElem? hx)
    rw [h3] at hxm
    have hin := (hr x.h).2 ⟨_, hxm⟩
    obtain ⟨σ, sa, sb, _⟩ := S
    cases rs with
    | nil => cases hin
    | cons y r =>
      by_cases c : y = x.h
      · exact ⟨x, r, hx, by rw [c], h3⟩
      · have hxr : x.h ∈ r := (List.mem_cons.1 hin).resolve_left fun k => c k.symm
        have l1 := (List.pairwise_cons.1 sb).1 _ hxr
        obtain ⟨s, e⟩ := (hr y).1 List.mem_cons_self
        obtain ⟨j, z, hj, hz, hzm, hzh, hz3, _⟩ := rest_of K e
        have l2 := h j z hj hz hz3
        rw [sa z hzm hz3, sa x (List.mem_of_getElem? hx) h3, hzh] at l2
        omega
theorem NewR.some {q : HF} {L : List Hn} {aim : KS} {rs : List Int} {R : Int} {i : Nat} (K : RQH q L) (S : SO rs L R) (hr : ∀ h, h ∈ rs ↔ ∃ s, q h = some (s, 3)) (h : NewR aim L L.length i) : ∃ x p0 t, L[i]? = some x ∧ rs.reverse = p0 ++ x.h :: t ∧ (∀ y ∈ p0, neA q aim y) ∧ ¬ neA q aim x.h ∧ x.st = 3 := by
  rcases h with ⟨e, _⟩ | ⟨i', x, e, _, hx, h3, ha, h⟩
  · omega
  · have e2 : i = i' := by omega
    subst e2
    have hxm := K.a x (List.mem_of_getElem? hx)
    rw [h3] at hxm
    have hin := List.mem_reverse.2 ((hr x.h).2 ⟨_, hxm⟩)
    obtain ⟨σ, sa, sb, _⟩ := S
    obtain ⟨p0, t, e3⟩ := List.append_of_mem hin
    have sr := List.pairwise_reverse.2 sb
    rw [e3] at sr
    refine ⟨x, p0, t, hx, e3, fun y hy => ?_, fun k => ?_, h3⟩
    · have hyr : y ∈ rs := List.mem_reverse.1 (by rw [e3]; exact List.mem_append_left _ hy)
      obtain ⟨s, e⟩ := (hr y).1 hyr
      obtain ⟨j, z, hj, hz, hzm, hzh, hz3, hza⟩ := rest_of K e
      have l1 := (List.pairwise_append.1 sr).2.2 y hy x.h List.mem_cons_self
      cases hq : eqA z.a aim with
      | false =>
        unfold neA
        rw [e]
        show (ByteArray.toList s == ByteArray.toList aim) = false
        rw [← hza]
        exact hq
      | true =>
        have l2 := h j z hj hz hz3 hq
        rw [sa z hzm hz3, sa x (List.mem_of_getElem? hx) h3, hzh] at l2
        omega
    · unfold neA at k
      rw [hxm] at k
      have k2 : eqA x.a aim = false := k
      rw [ha] at k2
      cases k2
end Go.Proofs.Ytlaigjapnmgjeaa
