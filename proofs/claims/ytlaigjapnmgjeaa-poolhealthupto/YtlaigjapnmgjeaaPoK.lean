/- Pool: what holds of every pool (plain). -/
import Derived.Test.YtlaigjapnmgjeaaPoJ
namespace Go.Proofs.Ytlaigjapnmgjeaa
open Go.RowKit Go.Shelf
set_option linter.unusedVariables false

theorem mem_but (h x : Int) (rs : List Int) : x ∈ rs.filter (butH h) ↔ x ∈ rs ∧ x ≠ h := by simp [List.mem_filter, butH]
theorem filt_notin {h : Int} {rs : List Int} (k : h ∉ rs) : rs.filter (butH h) = rs := List.filter_eq_self.2 fun x hx => by
  have : x ≠ h := fun e => k (e ▸ hx)
  simp [butH, this]
structure QI (n N : Nat) (last : Int) (q : HF) (rs : List Int) : Prop where
  b : ∀ h x, q h = some x → 1 ≤ h ∧ h ≤ last ∧ (x.2 = 1 ∨ x.2 = 2 ∨ x.2 = 3)
  r : ∀ h, h ∈ rs ↔ ∃ s, q h = some (s, 3)
  nd : rs.Nodup
  cnt : ∃ L : List Int, L.Nodup ∧ L.length = N ∧ ∀ h, h ∈ L ↔ (q h).isSome = true
  l0 : 0 ≤ last
  ln : last ≤ (n : Int)
  rl : rs.length ≤ n
theorem QI.new : QI 0 0 0 (fun _ => none) [] := ⟨fun h x e => (by cases e), fun h => ⟨fun e => (by simp at e), fun ⟨s, e⟩ => (by cases e)⟩, List.nodup_nil, ⟨[], List.nodup_nil, rfl, fun h => by simp⟩, by omega, by omega, by simp⟩
theorem QI.mono {n n' N : Nat} {last : Int} {q : HF} {rs : List Int} (k : QI n N last q rs) (h : n ≤ n') : QI n' N last q rs := ⟨k.b, k.r, k.nd, k.cnt, k.l0, by have := k.ln; omega, Nat.le_trans k.rl h⟩
theorem filt_len (h : Int) (rs : List Int) : (rs.filter (butH h)).length ≤ rs.length := List.length_filter_le _ _
/-- One turned to a state that isn't resting. -/
theorem QI.set {n N : Nat} {last : Int} {q : HF} {rs : List Int} (k : QI n N last q rs) {h : Int} (hs : (q h).isSome = true) (s : KS) (st : Int) (h1 : st = 1 ∨ st = 2) : QI n N last (updI q h (some (s, st))) (rs.filter (butH h)) := by
  refine ⟨fun g x e => ?_, fun g => ?_, k.nd.filter _, ?_, k.l0, k.ln, Nat.le_trans (filt_len _ _) k.rl⟩
  · by_cases c : g = h
    · subst c
      rw [updI_same] at e
      cases e
      obtain ⟨y, hy⟩ := Option.isSome_iff_exists.1 hs
      exact ⟨(k.b g y hy).1, (k.b g y hy).2.1, by show st = 1 ∨ st = 2 ∨ st = 3; omega⟩
    · rw [updI_other _ _ c] at e
      exact k.b g x e
  · rw [mem_but]
    by_cases c : g = h
    · subst c
      rw [updI_same]
      exact ⟨fun z => absurd rfl z.2, fun ⟨s', e⟩ => by injection e with e; injection e with _ e; omega⟩
    · rw [updI_other _ _ c, k.r g]
      exact ⟨fun z => z.1, fun z => ⟨z, c⟩⟩
  · obtain ⟨L, l1, l2, l3⟩ := k.cnt
    refine ⟨L, l1, l2, fun g => ?_⟩
    by_cases c : g = h
    · subst c
      rw [updI_same, l3 g, hs]; simp
    · rw [updI_other _ _ c]; exact l3 g
theorem QI.set' {n N : Nat} {last : Int} {q : HF} {rs : List Int} (k : QI n N last q rs) {h : Int} {x : Hd} (hq : q h = some x) (hx : x.2 ≠ 3) (s : KS) (st : Int) (h1 : st = 1 ∨ st = 2) : QI n N last (updI q h (some (s, st))) rs := by
  have := k.set (h := h) (by rw [hq]; rfl) s st h1
  rwa [filt_notin (fun m => by
    obtain ⟨s', e⟩ := (k.r h).1 m
    rw [hq] at e
    cases e
    exact hx rfl)] at this
/-- One laid to rest. -/
theorem QI.rest {n N : Nat} {last : Int} {q : HF} {rs : List Int} (k : QI n N last q rs) {h : Int} {x : Hd} (hq : q h = some x) (hx : x.2 ≠ 3) (s : KS) : QI (n + 1) N last (updI q h (some (s, 3))) (rs ++ [h]) := by
  have hno : h ∉ rs := fun m => by
    obtain ⟨s', e⟩ := (k.r h).1 m
    rw [hq] at e
    cases e
    exact hx rfl
  refine ⟨fun g y e => ?_, fun g => ?_, ?_, ?_, k.l0, by have := k.ln; omega, by have := k.rl; simp; omega⟩
  · by_cases c : g = h
    · subst c
      rw [updI_same] at e
      cases e
      exact ⟨(k.b g x hq).1, (k.b g x hq).2.1, .inr (.inr rfl)⟩
    · rw [updI_other _ _ c] at e
      exact k.b g y e
  · rw [List.mem_append, List.mem_singleton]
    by_cases c : g = h
    · subst c
      rw [updI_same]
      exact ⟨fun _ => ⟨s, rfl⟩, fun _ => .inr rfl⟩
    · rw [updI_other _ _ c, k.r g]
      exact ⟨fun z => z.resolve_right c, fun z => .inl z⟩
  · refine List.nodup_append.2 ⟨k.nd, List.nodup_cons.2 ⟨by simp, List.nodup_nil⟩, fun a ha b hb e => ?_⟩
    rw [List.mem_singleton.1 hb] at e
    exact hno (e ▸ ha)
  · obtain ⟨L, l1, l2, l3⟩ := k.cnt
    refine ⟨L, l1, l2, fun g => ?_⟩
    by_cases c : g = h
    · subst c
      rw [updI_same, l3 g, hq]; simp
    · rw [updI_other _ _ c]; exact l3 g
/-- One gone. -/
theorem QI.drop {n N : Nat} {last : Int} {q : HF} {rs : List Int} (k : QI n N last q rs) {h : Int} (hs : (q h).isSome = true) : QI n (N - 1) last (updI q h none) (rs.filter (butH h)) := by
  refine ⟨fun g x e => ?_, fun g => ?_, k.nd.filter _, ?_, k.l0, k.ln, Nat.le_trans (filt_len _ _) k.rl⟩
  · by_cases c : g = h
    · subst c
      rw [updI_same] at e
      cases e
    · rw [updI_other _ _ c] at e
      exact k.b g x e
  · rw [mem_but]
    by_cases c : g = h
    · subst c
      rw [updI_same]
      exact ⟨fun z => absurd rfl z.2, fun ⟨s', e⟩ => by cases e⟩
    · rw [updI_other _ _ c, k.r g]
      exact ⟨fun z => z.1, fun z => ⟨z, c⟩⟩
  · obtain ⟨L, l1, l2, l3⟩ := k.cnt
    refine ⟨L.erase h, l1.erase _, by rw [List.length_erase_of_mem ((l3 h).2 hs), l2], fun g => ?_⟩
    rw [l1.mem_erase_iff]
    by_cases c : g = h
    · subst c
      rw [updI_same]; simp
    · rw [updI_other _ _ c, l3 g]
      exact ⟨fun z => z.2, fun z => ⟨c, z⟩⟩
theorem QI.next {n N : Nat} {last : Int} {q : HF} {rs : List Int} (k : QI n N last q rs) : q (last + 1) = none := by
  cases e : q (last + 1) with
  | none => rfl
  | some x => have := (k.b _ _ e).2.1; omega
theorem QI.none0 {n N : Nat} {last : Int} {q : HF} {rs : List Int} (k : QI n N last q rs) : q 0 = none := by
  cases e : q 0 with
  | none => rfl
  | some x => have := (k.b _ _ e).1; omega
/-- One dialled. -/
theorem QI.dial {n N : Nat} {last : Int} {q : HF} {rs : List Int} (k : QI n N last q rs) (s : KS) : QI (n + 1) (N + 1) (last + 1) (updI q (last + 1) (some (s, 1))) rs := by
  have hn := k.next
  have h0 := k.l0
  refine ⟨fun g x e => ?_, fun g => ?_, k.nd, ?_, by omega, by have := k.ln; omega, by have := k.rl; omega⟩
  · by_cases c : g = last + 1
    · subst c
      rw [updI_same] at e
      cases e
      exact ⟨by omega, by omega, .inl rfl⟩
    · rw [updI_other _ _ c] at e
      have := k.b g x e
      exact ⟨this.1, by omega, this.2.2⟩
  · by_cases c : g = last + 1
    · subst c
      rw [updI_same, k.r, hn]
      exact ⟨fun ⟨s', e⟩ => (by cases e), fun ⟨s', e⟩ => (by injection e with e; injection e with _ e; omega)⟩
    · rw [updI_other _ _ c, k.r g]
  · obtain ⟨L, l1, l2, l3⟩ := k.cnt
    have hno : last + 1 ∉ L := fun m => by
      have := (l3 _).1 m
      rw [hn] at this
      cases this
    refine ⟨(last + 1) :: L, List.nodup_cons.2 ⟨hno, l1⟩, by rw [List.length_cons, l2], fun g => ?_⟩
    rw [List.mem_cons]
    by_cases c : g = last + 1
    · subst c
      rw [updI_same]; simp
    · rw [updI_other _ _ c, ← l3 g]
      exact ⟨fun z => z.resolve_left c, .inr⟩
theorem QI.some1 {n N : Nat} {last : Int} {q : HF} {rs : List Int} (k : QI n N last q rs) {h : Int} (hs : (q h).isSome = true) : 1 ≤ N := by
  obtain ⟨L, l1, l2, l3⟩ := k.cnt
  have := List.length_pos_of_mem ((l3 h).2 hs)
  omega
theorem QI.one {n N : Nat} {last : Int} {q : HF} {rs : List Int} (k : QI n N last q rs) : 1 ≤ N ∨ rs = [] := by
  cases rs with
  | nil => exact .inr rfl
  | cons x r =>
    obtain ⟨s, e⟩ := (k.r x).1 (by simp)
    exact .inl (k.some1 (h := x) (by rw [e]; rfl))
theorem QI.inr {n N : Nat} {last : Int} {q : HF} {rs : List Int} (k : QI n N last q rs) (hn : n ≤ 900) : ∀ x ∈ rs, InR x ∧ ∃ s, q x = some (s, 3) := fun x hx => by
  obtain ⟨s, e⟩ := (k.r x).1 hx
  have := k.b x _ e
  have := k.ln
  exact ⟨by unfold InR; omega, s, e⟩
theorem QI.st {n N : Nat} {last : Int} {q : HF} {rs : List Int} (k : QI n N last q rs) : ∀ g x, q g = some x → x.2 ≠ 0 := fun g x e => by
  have := (k.b g x e).2.2
  omega
/-- A pool of one's own, with all of it; the blocks of F are others. -/
structure PI (w : World) (F : List (Nat × Obj)) (pb mk n N : Nat) (most last : Int) (q : HF) (rs : List Int) (W : World) : Prop where
  pl : ∃ v, PL W pb mk n N most last q rs v ∧ (∀ g, v.ownBlock = some g → w.heap.size ≤ g) ∧ ∀ p ∈ F, v.ownBlock ≠ some p.1
  fr : ∀ p ∈ F, W.heap[p.1]? = some p.2 ∧ p.1 ≠ pb ∧ p.1 ≠ mk
  qi : QI n N last q rs
  be : Below w.heap.size w W
  hp : w.heap.size ≤ pb
  hm : w.heap.size ≤ mk
theorem PI.step {w : World} {F : List (Nat × Obj)} {pb mk n n' N N' : Nat} {most last last' : Int} {q q' : HF} {rs rs' : List Int} {W W' : World} (s : PI w F pb mk n N most last q rs W) {v v' : Value} (hv : (∀ g, v.ownBlock = some g → w.heap.size ≤ g) ∧ ∀ p ∈ F, v.ownBlock ≠ some p.1) (H : PL W' pb mk n' N' most last' q' rs' v') (X : PX pb mk v v' W W') (k : QI n' N' last' q' rs') : PI w F pb mk n' N' most last' q' rs' W' := by
  have lt : ∀ p ∈ F, p.1 < W.heap.size := fun p hp => (Array.getElem?_eq_some_iff.1 (s.fr p hp).1).1
  have sz := s.be.size
  refine ⟨⟨v', H, fun g hg => ?_, fun p hp e => ?_⟩, fun p hp => ⟨(X.block p.1 (lt p hp) (s.fr p hp).2.1 (s.fr p hp).2.2 (hv.2 p hp)).trans (s.fr p hp).1, (s.fr p hp).2⟩, k, s.be.trans (X.below s.hp s.hm hv.1 s.be.size), s.hp, s.hm⟩
  · rcases X.own with e | ⟨g', e1, e2⟩
    · rw [e] at hg; exact hv.1 g hg
    · rw [e1] at hg
      cases hg
      omega
  · rcases X.own with e' | ⟨g', e1, e2⟩
    · rw [e'] at e; exact hv.2 p hp e
    · rw [e1] at e
      have := lt p hp
      injection e with e
      omega
theorem PI.newF {w W : World} {F : List (Nat × Obj)} {pb mk n N : Nat} {most last : Int} {q : HF} {rs : List Int} (s : PI w F pb mk n N most last q rs W) (o : Obj) : PI w ((W.heap.size, o) :: F) pb mk n N most last q rs (W.alloc o) := by
  obtain ⟨v, H, hv⟩ := s.pl
  have s' := s.step hv (H.keep ((Below.refl _ _).alloc (Nat.le_refl _) o)) ((PX.refl _ _ _ _).bel ((Below.refl _ _).alloc (Nat.le_refl _) o)) s.qi
  have h1 := H.lt
  have h2 := H.hm.lt
  refine ⟨⟨v, H.keep ((Below.refl _ _).alloc (Nat.le_refl _) o), hv.1, fun p hp e => ?_⟩, fun p hp => ?_, s.qi, s'.be, s.hp, s.hm⟩
  · rcases List.mem_cons.1 hp with rfl | hp
    · have := H.ro.lt _ e
      exact absurd this (Nat.lt_irrefl _)
    · exact hv.2 p hp e
  · rcases List.mem_cons.1 hp with rfl | hp
    · exact ⟨tblk_new _ _, by show W.heap.size ≠ pb; omega, by show W.heap.size ≠ mk; omega⟩
    · exact s'.fr p hp
end Go.Proofs.Ytlaigjapnmgjeaa
