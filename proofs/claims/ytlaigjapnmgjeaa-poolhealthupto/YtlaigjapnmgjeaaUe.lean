/- PoolHealth: a health beside the document's: what is kept, and what they tell. -/
import Derived.Test.YtlaigjapnmgjeaaUd
namespace Go.Proofs.Ytlaigjapnmgjeaa
open Go.RowKit
set_option linter.unusedVariables false

theorem markR_put (m : Mk) (M : List Mk) (s : KS) : markR (putR m M) s = if m.a = s then m else markR M s := by
  unfold markR putR
  rw [List.find?_cons]
  by_cases e : m.a = s
  · rw [if_pos e]; simp [e]
  · rw [if_neg e]
    have h0 : decide (m.a = s) = false := decide_eq_false e
    simp only [h0]
    rw [List.find?_filter]
    congr 2
    funext x
    by_cases c : x.a = s
    · simp [c]
      exact fun k => e k.symm
    · simp [c]
theorem atR_new (nm : KS) (T : List Tn) (v : Int) (s : KS) : atR (newT nm T v) s = if nm = s then v else atR T s := by
  unfold newT
  rw [atR_snoc]
  by_cases e : nm = s
  · rw [if_pos e, if_pos e]
  · rw [if_neg e, if_neg e]
    have : ∀ (T : List Tn) (acc : Int), (offT nm T).foldl (fun acc x => if x.n = s then x.k else acc) acc = T.foldl (fun acc x => if x.n = s then x.k else acc) acc := by
      intro T
      induction T with
      | nil => intro acc; rfl
      | cons x t ih =>
        intro acc
        unfold offT
        rw [List.filter_cons]
        by_cases c : x.n = nm
        · have h1 : (!decide (x.n = nm)) = false := by simp [c]
          rw [h1, if_neg (by decide), List.foldl_cons, if_neg (by rw [c]; exact e)]
          exact ih acc
        · have h1 : (!decide (x.n = nm)) = true := by simp [c]
          rw [h1, if_pos rfl, List.foldl_cons, List.foldl_cons]
          exact ih _
    exact this T 0
theorem newT_len (nm : KS) (T : List Tn) (v : Int) : (newT nm T v).length ≤ T.length + 1 := by unfold newT; rw [List.length_append]; exact Nat.succ_le_succ (offT_len _ _)
/-- What the maps and the rows tell is the same. -/
structure RH (t f : KS → Int) (q : BF) (M : List Mk) (T : List Tn) (n : Nat) : Prop where
  ef : ∀ s, f s = (markR M s).f
  eq : ∀ s, (q s = none ∧ (markR M s).u = 0) ∨ ∃ x y, q s = some (x, y) ∧ (markR M s).u = x + y
  et : ∀ s, t s = atR T s
  f0 : ∀ s, 0 ≤ f s ∧ f s ≤ n
  t0 : ∀ s, 0 ≤ t s ∧ t s ≤ 1000
  ml : M.length ≤ n
  tl : T.length ≤ n
theorem RH.new : RH (fun _ => 0) (fun _ => 0) (fun _ => none) [] [] 0 := ⟨fun _ => rfl, fun _ => .inl ⟨rfl, rfl⟩, fun _ => rfl, fun _ => ⟨Int.le_refl _, Int.le_refl _⟩, fun _ => ⟨Int.le_refl _, by decide⟩, Nat.le_refl _, Nat.le_refl _⟩
theorem RH.sick {t f : KS → Int} {q : BF} {M : List Mk} {T : List Tn} {n : Nat} (k : RH t f q M T n) (s : KS) {now : Int} (h : 0 ≤ now) : sickB (q s) now = decide (now < (markR M s).u) := by
  rcases k.eq s with ⟨e1, e2⟩ | ⟨x, y, e1, e2⟩
  · rw [e1, e2]
    unfold sickB
    exact (decide_eq_false (by omega)).symm
  · rw [e1, e2]; rfl
theorem RH.mono {t f : KS → Int} {q : BF} {M : List Mk} {T : List Tn} {n n' : Nat} (k : RH t f q M T n) (h : n ≤ n') : RH t f q M T n' := ⟨k.ef, k.eq, k.et, fun s => ⟨(k.f0 s).1, by have := (k.f0 s).2; omega⟩, k.t0, Nat.le_trans k.ml h, Nat.le_trans k.tl h⟩
/-- A mark is put: the fails f', the bouts q'. -/
theorem RH.put {t f f' : KS → Int} {q q' : BF} {M : List Mk} {T : List Tn} {n : Nat} (k : RH t f q M T n) (s : KS) (z u : Int) (hf : f' = upd f s z) (hz : 0 ≤ z ∧ z ≤ (n : Int) + 1) (hq : ∀ x, x ≠ s → q' x = q x) (hu : (q' s = none ∧ u = 0) ∨ ∃ x y, q' s = some (x, y) ∧ u = x + y) : RH t f' q' (putR ⟨s, z, u⟩ M) T (n + 1) := by
  subst hf
  refine ⟨fun x => ?_, fun x => ?_, k.et, fun x => ?_, k.t0, Nat.le_trans (putR_len _ _) (Nat.succ_le_succ k.ml), Nat.le_succ_of_le k.tl⟩
  · rw [markR_put]
    by_cases e : x = s
    · rw [e, upd_same, if_pos rfl]
    · rw [upd_other _ _ e, if_neg (fun c => e c.symm)]; exact k.ef x
  · rw [markR_put]
    by_cases e : x = s
    · rw [e, if_pos rfl]; exact hu
    · rw [hq x e, if_neg (fun c => e c.symm)]; exact k.eq x
  · by_cases e : x = s
    · rw [e, upd_same]; exact ⟨hz.1, by omega⟩
    · rw [upd_other _ _ e]; have := k.f0 x; exact ⟨this.1, by omega⟩
theorem RH.turn {t f : KS → Int} {q : BF} {M : List Mk} {T : List Tn} {n : Nat} (k : RH t f q M T n) (nm : KS) (v : Int) (h0 : 0 ≤ v) (h1 : v ≤ 1000) : RH (upd t nm v) f q M (newT nm T v) (n + 1) := by
  refine ⟨k.ef, k.eq, fun x => ?_, fun s => ⟨(k.f0 s).1, by have := (k.f0 s).2; omega⟩, fun x => ?_, Nat.le_succ_of_le k.ml, Nat.le_trans (newT_len _ _ _) (Nat.succ_le_succ k.tl)⟩
  · rw [atR_new]
    by_cases e : x = nm
    · rw [e, upd_same, if_pos rfl]
    · rw [upd_other _ _ e, if_neg (fun c => e c.symm)]; exact k.et x
  · by_cases e : x = nm
    · rw [e, upd_same]; exact ⟨h0, h1⟩
    · rw [upd_other _ _ e]; exact k.t0 x
/-- No block of the health's. -/
def Off (h a b c mb g : Nat) : Prop := g ≠ h ∧ g ≠ a ∧ g ≠ b ∧ g ≠ c ∧ g ≠ mb
structure HD (w : World) (F : List (Nat × Obj)) (h a b c mb n : Nat) (t f : KS → Int) (q : BF) (am : Option Addr) (cm : Nat) (M : List Mk) (at' : Option Addr) (ct : Nat) (T : List Tn) (W : World) : Prop where
  hl : HL W h a b c n t f q
  bk : HBk W mb (.slice am M.length cm) (.slice at' T.length ct)
  rm : RdR 3 encM W am cm M
  rt : RdR 2 encT W at' ct T
  fr : ∀ p ∈ F, W.heap[p.1]? = some p.2 ∧ Off h a b c mb p.1
  be : Below w.heap.size w W
  lo : w.heap.size ≤ h ∧ w.heap.size ≤ a ∧ w.heap.size ≤ b ∧ w.heap.size ≤ c ∧ w.heap.size ≤ mb
  nm : mb ≠ h ∧ mb ≠ a ∧ mb ≠ b ∧ mb ≠ c
  gm : ∀ g off, am = some ⟨g, off, none⟩ → Off h a b c mb g
  gt : ∀ g off, at' = some ⟨g, off, none⟩ → Off h a b c mb g
theorem HD.lts {w : World} {F : List (Nat × Obj)} {h a b c mb n : Nat} {t f : KS → Int} {q : BF} {am : Option Addr} {cm : Nat} {M : List Mk} {at' : Option Addr} {ct : Nat} {T : List Tn} {W : World} (k : HD w F h a b c mb n t f q am cm M at' ct T W) {g : Nat} (hg : W.heap.size ≤ g) : Off h a b c mb g := by
  have := k.hl.lt
  have := k.hl.ta.lt
  have := k.hl.fa.lt
  have := k.hl.qa.lt
  have := k.bk.lt
  exact ⟨by omega, by omega, by omega, by omega, by omega⟩
theorem HD.grow {w : World} {F G : List (Nat × Obj)} {h a b c mb n : Nat} {t f : KS → Int} {q : BF} {am : Option Addr} {cm : Nat} {M : List Mk} {at' : Option Addr} {ct : Nat} {T : List Tn} {W V : World} (k : HD w F h a b c mb n t f q am cm M at' ct T W) (B : Below W.heap.size W V) (hG : ∀ p ∈ G, W.heap.size ≤ p.1 ∧ V.heap[p.1]? = some p.2) : HD w (G ++ F) h a b c mb n t f q am cm M at' ct T V :=
  ⟨k.hl.keep B, k.bk.keep B k.bk.lt, k.rm.keep B, k.rt.keep B, fun p hp => by
    rcases List.mem_append.1 hp with e | e
    · exact ⟨(hG p e).2, k.lts (hG p e).1⟩
    · exact ⟨(B.block _ (Array.getElem?_eq_some_iff.1 (k.fr p e).1).1).trans (k.fr p e).1, (k.fr p e).2⟩, k.be.trans (B.mono k.be.size), k.lo, k.nm, k.gm, k.gt⟩
theorem HD.bel {w : World} {F : List (Nat × Obj)} {h a b c mb n : Nat} {t f : KS → Int} {q : BF} {am : Option Addr} {cm : Nat} {M : List Mk} {at' : Option Addr} {ct : Nat} {T : List Tn} {W V : World} (k : HD w F h a b c mb n t f q am cm M at' ct T W) (B : Below W.heap.size W V) : HD w F h a b c mb n t f q am cm M at' ct T V := k.grow (G := []) B (fun p hp => by cases hp)
theorem HD.newF {w : World} {F : List (Nat × Obj)} {h a b c mb n : Nat} {t f : KS → Int} {q : BF} {am : Option Addr} {cm : Nat} {M : List Mk} {at' : Option Addr} {ct : Nat} {T : List Tn} {W : World} (k : HD w F h a b c mb n t f q am cm M at' ct T W) (o : Obj) : HD w ((W.heap.size, o) :: F) h a b c mb n t f q am cm M at' ct T (W.alloc o) :=
  k.grow (G := [(W.heap.size, o)]) ((Below.refl _ _).alloc (Nat.le_refl _) o) (fun p hp => by rw [List.mem_singleton.1 hp]; exact ⟨Nat.le_refl _, tblk_new _ _⟩)
theorem HD.less {w : World} {F F' : List (Nat × Obj)} {h a b c mb n : Nat} {t f : KS → Int} {q : BF} {am : Option Addr} {cm : Nat} {M : List Mk} {at' : Option Addr} {ct : Nat} {T : List Tn} {W : World} (k : HD w F h a b c mb n t f q am cm M at' ct T W) (hF : ∀ p ∈ F', p ∈ F) : HD w F' h a b c mb n t f q am cm M at' ct T W := ⟨k.hl, k.bk, k.rm, k.rt, fun p hp => k.fr p (hF p hp), k.be, k.lo, k.nm, k.gm, k.gt⟩
/-- A call of the health. -/
theorem HD.call {w : World} {F : List (Nat × Obj)} {h a b c mb n n' : Nat} {t t' f f' : KS → Int} {q q' : BF} {am : Option Addr} {cm : Nat} {M : List Mk} {at' : Option Addr} {ct : Nat} {T : List Tn} {W W' : World} (k : HD w F h a b c mb n t f q am cm M at' ct T W) (H : HL W' h a b c n' t' f' q') (X : FrM a b c W W') : HD w F h a b c mb n' t' f' q' am cm M at' ct T W' :=
  ⟨H, (X.block mb k.bk.lt k.nm.2.1 k.nm.2.2.1 k.nm.2.2.2).trans k.bk, k.rm.move fun g off e hg => X.block g hg (k.gm g off e).2.1 (k.gm g off e).2.2.1 (k.gm g off e).2.2.2.1, k.rt.move fun g off e hg => X.block g hg (k.gt g off e).2.1 (k.gt g off e).2.2.1 (k.gt g off e).2.2.2.1, fun p hp => ⟨(X.block _ (Array.getElem?_eq_some_iff.1 (k.fr p hp).1).1 (k.fr p hp).2.2.1 (k.fr p hp).2.2.2.1 (k.fr p hp).2.2.2.2.1).trans (k.fr p hp).1, (k.fr p hp).2⟩, k.be.trans (X.below k.lo.2.1 k.lo.2.2.1 k.lo.2.2.2.1 k.be.size), k.lo, k.nm, k.gm, k.gt⟩
theorem off_two {W : World} {b c : Nat} {x y : Value} (h : c ≠ b) : ((W.setCell ⟨b, 0, none⟩ x).setCell ⟨b, 1, none⟩ y).heap[c]? = W.heap[c]? := (Below.heap_setCell _ _ _ _ h).trans (Below.heap_setCell _ _ _ _ h)
/-- The document's is written. -/
theorem HD.put {w : World} {F : List (Nat × Obj)} {h a b c mb n : Nat} {t f : KS → Int} {q : BF} {am am' : Option Addr} {cm cm' : Nat} {M M' : List Mk} {at' at2 : Option Addr} {ct ct' : Nat} {T T' : List Tn} {W : World} (k : HD w F h a b c mb n t f q am cm M at' ct T W) (rm : RdR 3 encM W am' cm' M') (rt : RdR 2 encT W at2 ct' T') (gm : ∀ g off, am' = some ⟨g, off, none⟩ → Off h a b c mb g) (gt : ∀ g off, at2 = some ⟨g, off, none⟩ → Off h a b c mb g) :
    HD w F h a b c mb n t f q am' cm' M' at2 ct' T' ((W.setCell ⟨mb, 0, none⟩ (.slice am' M'.length cm')).setCell ⟨mb, 1, none⟩ (.slice at2 T'.length ct')) := by
  have hb := k.bk
  unfold HBk at hb
  refine ⟨⟨(off_two (Ne.symm k.nm.1)).trans k.hl.bk, k.hl.ta.move (off_two (Ne.symm k.nm.2.1)), k.hl.fa.move (off_two (Ne.symm k.nm.2.2.1)), k.hl.qa.move (off_two (Ne.symm k.nm.2.2.2)), k.hl.d1, k.hl.d2, k.hl.d3, k.hl.qr⟩, ?_, rm.move fun g off e hg => off_two (gm g off e).2.2.2.2, rt.move fun g off e hg => off_two (gt g off e).2.2.2.2, fun p hp => ⟨(off_two (k.fr p hp).2.2.2.2.2).trans (k.fr p hp).1, (k.fr p hp).2⟩, (k.be.setCell (p := ⟨mb, 0, none⟩) k.lo.2.2.2.2 _).setCell (p := ⟨mb, 1, none⟩) k.lo.2.2.2.2 _, k.lo, k.nm, gm, gt⟩
  unfold HBk
  simp [World.setCell, Array.getElem?_modify, hb]
/-- New rows of marks, or of turns. -/
theorem HD.putM {w : World} {F G : List (Nat × Obj)} {h a b c mb n : Nat} {t f : KS → Int} {q : BF} {am am' : Option Addr} {cm cm' : Nat} {M M' : List Mk} {at' : Option Addr} {ct : Nat} {T : List Tn} {W V V2 : World} (k : HD w F h a b c mb n t f q am cm M at' ct T W) (B : Below W.heap.size W V) (O : OwR 99 3 encM W.heap.size V (.slice am' M'.length cm') M') (B2 : Below V.heap.size V V2) (hG : ∀ p ∈ G, V.heap.size ≤ p.1 ∧ V2.heap[p.1]? = some p.2) :
    HD w (G ++ F) h a b c mb n t f q am' cm' M' at' ct T ((V2.setCell ⟨mb, 0, none⟩ (.slice am' M'.length cm')).setCell ⟨mb, 1, none⟩ (.slice at' T.length ct)) := by
  have B3 : Below W.heap.size W V2 := B.trans (B2.mono B.size)
  have K2 := k.grow (G := G) B3 (fun p hp => ⟨Nat.le_trans B.size (hG p hp).1, (hG p hp).2⟩)
  obtain ⟨a3, c3, e3, R3, own⟩ := (O.grow B2).rd EM
  injection e3 with e31 e32 e33
  subst e31 e33
  exact K2.put R3 K2.rt (fun g off e => k.lts (own g off e).1) K2.gt
theorem HD.putT {w : World} {F G : List (Nat × Obj)} {h a b c mb n : Nat} {t f : KS → Int} {q : BF} {am : Option Addr} {cm : Nat} {M : List Mk} {at' at2 : Option Addr} {ct ct' : Nat} {T T' : List Tn} {W V V2 : World} (k : HD w F h a b c mb n t f q am cm M at' ct T W) (B : Below W.heap.size W V) (O : OwR 97 2 encT W.heap.size V (.slice at2 T'.length ct') T') (B2 : Below V.heap.size V V2) (hG : ∀ p ∈ G, V.heap.size ≤ p.1 ∧ V2.heap[p.1]? = some p.2) :
    HD w (G ++ F) h a b c mb n t f q am cm M at2 ct' T' ((V2.setCell ⟨mb, 0, none⟩ (.slice am M.length cm)).setCell ⟨mb, 1, none⟩ (.slice at2 T'.length ct')) := by
  have B3 : Below W.heap.size W V2 := B.trans (B2.mono B.size)
  have K2 := k.grow (G := G) B3 (fun p hp => ⟨Nat.le_trans B.size (hG p hp).1, (hG p hp).2⟩)
  obtain ⟨a3, c3, e3, R3, own⟩ := (O.grow B2).rd ET
  injection e3 with e31 e32 e33
  subst e31 e33
  exact K2.put K2.rm R3 K2.gm (fun g off e => k.lts (own g off e).1)
end Go.Proofs.Ytlaigjapnmgjeaa
