/- The document's pool and the map: plain. -/
import Derived.Test.YtlaigjapnmgjeaaQe
namespace Go.Proofs.Ytlaigjapnmgjeaa
open Go.RowKit
set_option linter.unusedVariables false

theorem hasH_iff {h : Int} {L : List Hn} : hasH h L = true ↔ ∃ x ∈ L, x.h = h := by unfold hasH; simp [List.any_eq_true]
theorem rep_h (x y : Hn) : (repH x y).h = y.h := by
  unfold repH
  by_cases e : y.h = x.h
  · rw [if_pos (by simpa using e)]; exact e.symm
  · rw [if_neg (by simpa using e)]
theorem rep_maph (x : Hn) (L : List Hn) : (L.map (repH x)).map Hn.h = L.map Hn.h := by
  rw [List.map_map]
  exact List.map_congr_left fun y _ => rep_h x y
theorem with_mem {x y : Hn} {L : List Hn} : y ∈ withL x L ↔ y = x ∨ (y ∈ L ∧ y.h ≠ x.h) := by
  have hm : y ∈ L.map (repH x) ↔ (y = x ∧ hasH x.h L = true) ∨ (y ∈ L ∧ y.h ≠ x.h) := by
    rw [List.mem_map]
    constructor
    · rintro ⟨z, hz, e⟩
      unfold repH at e
      by_cases c : z.h = x.h
      · rw [if_pos (by simpa using c)] at e
        exact .inl ⟨e.symm, hasH_iff.2 ⟨z, hz, c⟩⟩
      · rw [if_neg (by simpa using c)] at e
        subst e
        exact .inr ⟨hz, c⟩
    · rintro (⟨e, hh⟩ | ⟨hy, c⟩)
      · obtain ⟨z, hz, e2⟩ := hasH_iff.1 hh
        exact ⟨z, hz, by unfold repH; rw [if_pos (by simpa using e2), e]⟩
      · exact ⟨y, hy, by unfold repH; rw [if_neg (by simpa using c)]⟩
  unfold withL
  by_cases hh : hasH x.h L = true
  · rw [if_pos hh, hm]
    exact ⟨fun k => k.imp (fun k => k.1) id, fun k => k.imp (fun k => ⟨k, hh⟩) id⟩
  · rw [if_neg hh, List.mem_append, List.mem_singleton, hm]
    constructor
    · rintro ((⟨e, _⟩ | k) | e)
      · exact .inl e
      · exact .inr k
      · exact .inl e
    · rintro (e | k)
      · exact .inr e
      · exact .inl (.inr k)
theorem with_nd {x : Hn} {L : List Hn} (h : (L.map Hn.h).Nodup) : ((withL x L).map Hn.h).Nodup := by
  unfold withL
  by_cases hh : hasH x.h L = true
  · rw [if_pos hh, rep_maph]; exact h
  · rw [if_neg hh, List.map_append, rep_maph]
    refine List.nodup_append.2 ⟨h, by simp, fun a ha b hb e => ?_⟩
    obtain ⟨y, hy, e2⟩ := List.mem_map.1 ha
    rw [List.map_cons, List.map_nil, List.mem_singleton] at hb
    exact hh (hasH_iff.2 ⟨y, hy, by rw [e2, e, hb]⟩)
theorem with_len {x : Hn} {L : List Hn} : (withL x L).length = if hasH x.h L = true then L.length else L.length + 1 := by
  unfold withL
  by_cases hh : hasH x.h L = true
  · rw [if_pos hh, if_pos hh, List.length_map]
  · rw [if_neg hh, if_neg hh, List.length_append, List.length_map]; rfl
theorem offH_mem {h : Int} {L : List Hn} {x : Hn} : x ∈ offH h L ↔ x ∈ L ∧ x.h ≠ h := by unfold offH; simp [List.mem_filter]
theorem RQH.has {q : HF} {L : List Hn} (k : RQH q L) (h : Int) : hasH h L = (q h).isSome := by
  cases e : q h with
  | some y => rw [hasH_iff.2 (k.b h y e)]; rfl
  | none =>
    cases hh : hasH h L with
    | false => rfl
    | true =>
      obtain ⟨x, hx, e2⟩ := hasH_iff.1 hh
      have := k.a x hx
      rw [e2, e] at this
      cases this
theorem RQH.with {q : HF} {L : List Hn} (k : RQH q L) (x : Hn) : RQH (updI q x.h (some (x.a, x.st))) (withL x L) := by
  refine ⟨with_nd k.nd, fun y hy => ?_, fun g y e => ?_⟩
  · rcases with_mem.1 hy with r | ⟨r1, r2⟩
    · rw [r, updI_same]
    · rw [updI_other _ _ r2]; exact k.a y r1
  · by_cases c : g = x.h
    · exact ⟨x, with_mem.2 (.inl rfl), c.symm⟩
    · rw [updI_other _ _ c] at e
      obtain ⟨z, hz, e2⟩ := k.b g y e
      exact ⟨z, with_mem.2 (.inr ⟨hz, by rw [e2]; exact c⟩), e2⟩
theorem RQH.off {q : HF} {L : List Hn} (k : RQH q L) (h : Int) : RQH (updI q h Option.none) (offH h L) := by
  refine ⟨List.Nodup.sublist (List.Sublist.map _ List.filter_sublist) k.nd, fun y hy => ?_, fun g y e => ?_⟩
  · obtain ⟨r1, r2⟩ := offH_mem.1 hy
    rw [updI_other _ _ r2]; exact k.a y r1
  · by_cases c : g = h
    · rw [c, updI_same] at e; cases e
    · rw [updI_other _ _ c] at e
      obtain ⟨z, hz, e2⟩ := k.b g y e
      exact ⟨z, offH_mem.2 ⟨hz, by rw [e2]; exact c⟩, e2⟩
theorem offH_no {h : Int} {L : List Hn} (hn : hasH h L = false) : offH h L = L := List.filter_eq_self.2 fun x hx => by
  have : x.h ≠ h := fun e => by rw [hasH_iff.2 ⟨x, hx, e⟩] at hn; cases hn
  simpa using this
theorem offH_yes {h : Int} : ∀ {L : List Hn}, (L.map Hn.h).Nodup → hasH h L = true → (offH h L).length + 1 = L.length
  | [], _, k => by cases k
  | x :: t, nd, k => by
    rw [List.map_cons] at nd
    obtain ⟨n1, n2⟩ := List.nodup_cons.1 nd
    by_cases e : x.h = h
    · have hno : hasH h t = false := by
        cases hh : hasH h t with
        | false => rfl
        | true =>
          obtain ⟨y, hy, e2⟩ := hasH_iff.1 hh
          exact absurd (List.mem_map.2 ⟨y, hy, e2.trans e.symm⟩) n1
      have : offH h (x :: t) = offH h t := by unfold offH; rw [List.filter_cons, if_neg (by simpa using e)]
      rw [this, offH_no hno]; rfl
    · have h2 : hasH h t = true := by
        obtain ⟨y, hy, e2⟩ := hasH_iff.1 k
        rcases List.mem_cons.1 hy with r | r
        · exact absurd (r ▸ e2) e
        · exact hasH_iff.2 ⟨y, r, e2⟩
      have ih := offH_yes n2 h2
      have : offH h (x :: t) = x :: offH h t := by unfold offH; rw [List.filter_cons, if_pos (by simpa using e)]
      rw [this, List.length_cons, List.length_cons, ih]
/-- The resting ones stand in the order of their moments. -/
structure SO (rs : List Int) (L : List Hn) (R : Int) : Prop where
  x : ∃ σ : Int → Int, (∀ x ∈ L, x.st = 3 → x.si = σ x.h) ∧ rs.Pairwise (fun a b => σ a < σ b) ∧ ∀ h ∈ rs, σ h ≤ R
theorem SO.nil : SO [] [] 0 := ⟨fun _ => 0, fun x hx => (by cases hx), List.Pairwise.nil, fun h hh => (by cases hh)⟩
theorem SO.with {rs : List Int} {L : List Hn} {R : Int} (k : SO rs L R) {x : Hn} (hx : x.st ≠ 3) : SO (rs.filter (butH x.h)) (withL x L) R := by
  obtain ⟨σ, a, b, c⟩ := k
  refine ⟨σ, fun y hy hs => ?_, b.sublist List.filter_sublist, fun h hh => c h (List.mem_filter.1 hh).1⟩
  rcases with_mem.1 hy with r | ⟨r, _⟩
  · exact absurd (r ▸ hs) hx
  · exact a y r hs
theorem SO.off {rs : List Int} {L : List Hn} {R : Int} (k : SO rs L R) (h : Int) : SO (rs.filter (butH h)) (offH h L) R := by
  obtain ⟨σ, a, b, c⟩ := k
  exact ⟨σ, fun y hy hs => a y (offH_mem.1 hy).1 hs, b.sublist List.filter_sublist, fun h hh => c h (List.mem_filter.1 hh).1⟩
theorem SO.rest {rs : List Int} {L : List Hn} {R : Int} (k : SO rs L R) {h : Int} (s : KS) (hn : h ∉ rs) : SO (rs ++ [h]) (withL ⟨h, 3, R + 1, s⟩ L) (R + 1) := by
  obtain ⟨σ, a, b, c⟩ := k
  have ne : ∀ g ∈ rs, g ≠ h := fun g hg e => hn (e ▸ hg)
  refine ⟨updI σ h (R + 1), fun y hy hs => ?_, ?_, fun g hg => ?_⟩
  · rcases with_mem.1 hy with r | ⟨r, r2⟩
    · rw [r, updI_same]
    · rw [updI_other _ _ r2]; exact a y r hs
  · refine List.pairwise_append.2 ⟨b.imp_of_mem fun {u v} hu hv huv => by rw [updI_other _ _ (ne u hu), updI_other _ _ (ne v hv)]; exact huv, List.pairwise_singleton _ _, fun u hu v hv => ?_⟩
    rw [List.mem_singleton.1 hv, updI_same, updI_other _ _ (ne u hu)]
    have := c u hu
    omega
  · rcases List.mem_append.1 hg with r | r
    · rw [updI_other _ _ (ne g r)]
      have := c g r
      omega
    · rw [List.mem_singleton.1 r, updI_same]; exact Int.le_refl _
end Go.Proofs.Ytlaigjapnmgjeaa
