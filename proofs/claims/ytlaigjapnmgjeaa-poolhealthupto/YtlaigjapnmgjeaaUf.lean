/- PoolHealth: the calls, first on the document's health, then on the health. -/
import Derived.Test.YtlaigjapnmgjeaaUe
namespace Go.Proofs.Ytlaigjapnmgjeaa
open Go.RowKit
set_option linter.unusedVariables false

theorem HD.mono {w : World} {F : List (Nat × Obj)} {h a b c mb n n' : Nat} {t f : KS → Int} {q : BF} {am : Option Addr} {cm : Nat} {M : List Mk} {at' : Option Addr} {ct : Nat} {T : List Tn} {W : World} (k : HD w F h a b c mb n t f q am cm M at' ct T W) (hn : n ≤ n') : HD w F h a b c mb n' t f q am cm M at' ct T W := ⟨k.hl.mono hn, k.bk, k.rm, k.rt, k.fr, k.be, k.lo, k.nm, k.gm, k.gt⟩
set_option maxHeartbeats 1000000 in
theorem HD.pick {w : World} {F : List (Nat × Obj)} {h a b c mb n : Nat} {t f : KS → Int} {q : BF} {am : Option Addr} {cm : Nat} {M : List Mk} {at' : Option Addr} {ct : Nat} {T : List Tn} {W : World} (k : HD w F h a b c mb n t f q am cm M at' ct T W) (r : RH t f q M T n) (hn : n ≤ 900) (nm : KS) (xs : List KS) (a1 : Option Addr) (cx : Nat) (hX : Tx w a1 xs) (hnm : nm.size ≤ 281474976710656) (now : Int) (h0 : 0 ≤ now) (h1 : now ≤ 2199023255552) :
    Calls Try.prog 23 #[.agg #[.slice am M.length cm, .slice at' T.length ct], .agg #[.string nm, .slice a1 xs.length cx], .int .i64 now] W fun e V => ∃ at2 ct2 T2 s er, e = .returned (.tuple #[.agg #[.slice am M.length cm, .slice at2 T2.length ct2], .string s, .int .i64 er]) ∧ Below W.heap.size W V ∧ ∀ V2 G, Below V.heap.size V V2 → (∀ p ∈ G, V.heap.size ≤ p.1 ∧ V2.heap[p.1]? = some p.2) → Calls Try.prog 24 #[.pointer (some ⟨h, 0, none⟩), .agg #[.string nm, .slice a1 xs.length cx], .int .i64 now] ((V2.setCell ⟨mb, 0, none⟩ (.slice am M.length cm)).setCell ⟨mb, 1, none⟩ (.slice at2 T2.length ct2)) fun e V3 => e = .returned (.tuple #[.string s, .int .i64 er]) ∧ ∃ t', HD w (G ++ F) h a b c mb (n + 1) t' f q am cm M at2 ct2 T2 V3 ∧ RH t' f q M T2 (n + 1) := by
  have ht := r.t0 nm
  obtain ⟨tn, htn⟩ : ∃ tn : Nat, t nm = (tn : Int) := ⟨(t nm).toNat, by omega⟩
  have hml := r.ml
  have htl := r.tl
  have hxl := hX.1
  have hin : InR now := by unfold InR; omega
  have hs : ∀ s, sickB (q s) now = decide (now < (markR M s).u) := fun s => r.sick s h0
  refine rpick_any M T nm xs now am at' a1 cm ct cx tn W k.rm k.rt (hX.keep k.be) (by omega) (by omega) ((r.et nm).symm.trans htn) (by omega) ?_ ?_
  · intro i a' c' V hi hall hno O B
    refine ⟨a', c', _, _, 0, rfl, B, fun V2 G B2 hG => ?_⟩
    have K2 := k.putT B O B2 hG
    refine (hlpick_any nm xs a1 cx now tn h a b c n t f q _ K2.hl (hX.keep K2.be) hnm (by omega) hin htn (by omega)).mono ?_
    rintro e V3 (⟨i', hi', hall', hno', rfl, H', X⟩ | ⟨hall', _⟩)
    · have hii : i' = i := by
        rcases Nat.lt_trichotomy i i' with l | l | l
        · have := hall' i l
          rw [hs, hno] at this
          cases this
        · exact l.symm
        · have := hall i' l
          rw [← hs, hno'] at this
          cases this
      subst hii
      refine ⟨rfl, _, K2.call H' X, ?_⟩
      have hlt : (tn + i') % xs.length < xs.length := Nat.mod_lt _ (by omega)
      exact r.turn nm ((((tn + i') % xs.length : Nat) : Int) + 1) (by omega) (by omega)
    · have := hall' i hi
      rw [hs, hno] at this
      cases this
  · intro V hall B
    refine ⟨at', ct, T, ⟨#[]⟩, 4, rfl, B, fun V2 G B2 hG => ?_⟩
    have B3 : Below W.heap.size W V2 := B.trans (B2.mono B.size)
    have K1 := k.grow (G := G) B3 (fun p hp => ⟨Nat.le_trans B.size (hG p hp).1, (hG p hp).2⟩)
    have K2 := K1.put K1.rm K1.rt K1.gm K1.gt
    refine (hlpick_any nm xs a1 cx now tn h a b c n t f q _ K2.hl (hX.keep K2.be) hnm (by omega) hin htn (by omega)).mono ?_
    rintro e V3 (⟨i', hi', hall', hno', _⟩ | ⟨hall', rfl, B4⟩)
    · have := hall i' hi'
      rw [← hs, hno'] at this
      cases this
    · exact ⟨rfl, t, (K2.bel B4).mono (Nat.le_succ _), r.mono (Nat.le_succ _)⟩
theorem HD.bad {w : World} {F : List (Nat × Obj)} {h a b c mb n : Nat} {t f : KS → Int} {q : BF} {am : Option Addr} {cm : Nat} {M : List Mk} {at' : Option Addr} {ct : Nat} {T : List Tn} {W : World} (k : HD w F h a b c mb n t f q am cm M at' ct T W) (r : RH t f q M T n) (hn : n ≤ 900) (s : KS) (hs : s.size ≤ 281474976710656) (now fl co : Int) (h0 : 0 ≤ now) (h1 : now ≤ 2199023255552) (c0 : 0 ≤ co) (c1 : co ≤ 2199023255552) :
    Calls Try.prog 25 #[.agg #[.slice am M.length cm, .slice at' T.length ct], .string s, .int .i64 now, confV fl co] W fun e V => ∃ a2 c2 M2 bb, e = .returned (.tuple #[.agg #[.slice a2 M2.length c2, .slice at' T.length ct], .bool bb]) ∧ Below W.heap.size W V ∧ ∀ V2 G, Below V.heap.size V V2 → (∀ p ∈ G, V.heap.size ≤ p.1 ∧ V2.heap[p.1]? = some p.2) → Calls Try.prog 26 #[.pointer (some ⟨h, 0, none⟩), .string s, .int .i64 now, confV fl co] ((V2.setCell ⟨mb, 0, none⟩ (.slice a2 M2.length c2)).setCell ⟨mb, 1, none⟩ (.slice at' T.length ct)) fun e V3 => e = .returned (.bool bb) ∧ ∃ f' q', HD w (G ++ F) h a b c mb (n + 1) t f' q' a2 c2 M2 at' ct T V3 ∧ RH t f' q' M2 T (n + 1) := by
  have hf := r.f0 s
  have he := r.ef s
  have hml := r.ml
  have hin : InR now := by unfold InR; omega
  have hic : InR co := by unfold InR; omega
  by_cases hlt : f s + 1 < fl
  · refine (rbad_no M s now fl co am cm at' T.length ct W k.rm (by omega) (by omega) (by omega) (by omega)).mono ?_
    rintro e V ⟨a', c', rfl, O, B⟩
    refine ⟨a', c', _, false, rfl, B, fun V2 G B2 hG => ?_⟩
    have K2 := k.putM B O B2 hG
    refine (hlbad_no s now fl co h a b c n t f q _ K2.hl hs (by omega) ⟨hf.1, by omega⟩ hlt).mono ?_
    rintro e V3 ⟨rfl, H', X⟩
    refine ⟨rfl, _, q, K2.call H' X, ?_⟩
    refine r.put s _ _ (by rw [he]) (by omega) (fun x _ => rfl) ?_
    exact r.eq s
  · refine (rbad_yes M s now fl co am cm at' T.length ct W k.rm (by omega) (by omega) (by omega) (by omega) h0 h1 c0 c1).mono ?_
    rintro e V ⟨a', c', rfl, O, B⟩
    refine ⟨a', c', _, true, rfl, B, fun V2 G B2 hG => ?_⟩
    have K2 := k.putM B O B2 hG
    refine (hlbad_yes s now fl co h a b c n t f q _ K2.hl hs (by omega) ⟨hf.1, by omega⟩ hlt hin hic).mono ?_
    rintro e V3 ⟨rfl, H', X⟩
    refine ⟨rfl, _, _, K2.call H' X, ?_⟩
    exact r.put s 0 _ rfl (by omega) (fun x e => upd_other _ _ e) (.inr ⟨now, co, upd_same _ _ _, rfl⟩)
theorem HD.good1 {w : World} {F : List (Nat × Obj)} {h a b c mb n : Nat} {t f : KS → Int} {q : BF} {am : Option Addr} {cm : Nat} {M : List Mk} {at' : Option Addr} {ct : Nat} {T : List Tn} {W : World} (k : HD w F h a b c mb n t f q am cm M at' ct T W) (s : KS) (hs : s.size ≤ 281474976710656) :
    Calls Try.prog 27 #[.pointer (some ⟨h, 0, none⟩), .string s] W fun e V => e = .returned (.tuple #[]) ∧ HD w F h a b c mb n t (upd f s 0) q am cm M at' ct T V := by
  refine (hlgood_any s h a b c n t f q W k.hl (by unfold maxLen; omega)).mono ?_
  rintro e V ⟨rfl, H, X⟩
  exact ⟨rfl, k.call H X⟩
theorem HD.good2 {w : World} {F : List (Nat × Obj)} {h a b c mb n : Nat} {t f : KS → Int} {q : BF} {am : Option Addr} {cm : Nat} {M : List Mk} {at' : Option Addr} {ct : Nat} {T : List Tn} {V : World} (s : KS) (k : HD w F h a b c mb n t (upd f s 0) q am cm M at' ct T V) (r : RH t f q M T n) (hn : n ≤ 900) :
    Calls Try.prog 28 #[.agg #[.slice am M.length cm, .slice at' T.length ct], .string s] V fun e V1 => ∃ a2 c2 M2, e = .returned (.agg #[.slice a2 M2.length c2, .slice at' T.length ct]) ∧ Below V.heap.size V V1 ∧ HD w F h a b c mb (n + 1) t (upd f s 0) q a2 c2 M2 at' ct T ((V1.setCell ⟨mb, 0, none⟩ (.slice a2 M2.length c2)).setCell ⟨mb, 1, none⟩ (.slice at' T.length ct)) ∧ RH t (upd f s 0) q M2 T (n + 1) := by
  have hml := r.ml
  refine (rgood_any M s am cm at' T.length ct V k.rm (by omega)).mono ?_
  rintro e V1 ⟨a', c', rfl, O, B⟩
  refine ⟨a', c', _, rfl, B, (k.putM (G := []) B O (Below.refl _ _) (fun p hp => by cases hp)).mono (Nat.le_succ _), ?_⟩
  exact r.put s 0 _ rfl (by omega) (fun x _ => rfl) (r.eq s)
theorem HD.sick {w : World} {F : List (Nat × Obj)} {h a b c mb n : Nat} {t f : KS → Int} {q : BF} {am : Option Addr} {cm : Nat} {M : List Mk} {at' : Option Addr} {ct : Nat} {T : List Tn} {W : World} (k : Hid (HD w F h a b c mb n t f q am cm M at' ct T W)) (s : KS) (hs : s.size ≤ 281474976710656) (now : Int) (hn : InR now) (sk : Bool) (e : sickB (q s) now = sk) :
    Calls Try.prog 29 #[.pointer (some ⟨h, 0, none⟩), .string s, .int .i64 now] W fun e W' => e = .returned (.bool sk) ∧ Hid (HD w F h a b c mb n t f q am cm M at' ct T W') := by
  subst e
  refine (hlsick_any s now h a b c n t f q W k.out.hl (by unfold maxLen; omega) hn).mono ?_
  rintro e W' ⟨rfl, B⟩
  exact ⟨rfl, k.out.bel B⟩
theorem HD.rsick {w : World} {F : List (Nat × Obj)} {h a b c mb n : Nat} {t f : KS → Int} {q : BF} {am : Option Addr} {cm : Nat} {M : List Mk} {at' : Option Addr} {ct : Nat} {T : List Tn} {W : World} (k : Hid (HD w F h a b c mb n t f q am cm M at' ct T W)) (r : RH t f q M T n) (hn : n ≤ 1000) (s : KS) (now : Int) (h0 : 0 ≤ now) (sk : Bool) (e : sickB (q s) now = sk) :
    Calls Try.prog 30 #[.agg #[.slice am M.length cm, .slice at' T.length ct], .string s, .int .i64 now] W fun e W' => e = .returned (.bool sk) ∧ Hid (HD w F h a b c mb n t f q am cm M at' ct T W') := by
  rw [r.sick s h0] at e
  subst e
  have hml := r.ml
  refine (rsick_any M am cm (.slice at' T.length ct) rfl s now W k.out.rm (by omega)).mono ?_
  rintro e W' ⟨rfl, B⟩
  exact ⟨rfl, k.out.bel B⟩
theorem HD.start {w W : World} {h a b c : Nat} (H : HL W h a b c 0 (fun _ => 0) (fun _ => 0) (fun _ => none)) (B : Below w.heap.size w W) (lo : w.heap.size ≤ h ∧ w.heap.size ≤ a ∧ w.heap.size ≤ b ∧ w.heap.size ≤ c) : HD w [] h a b c W.heap.size 0 (fun _ => 0) (fun _ => 0) (fun _ => none) none 0 [] none 0 [] (W.alloc (.cells #[.slice none 0 0, .slice none 0 0] 57)) := by
  have BA : Below W.heap.size W (W.alloc (.cells #[.slice none 0 0, .slice none 0 0] 57)) := (Below.refl _ _).alloc (Nat.le_refl _) _
  have := H.lt
  have := H.ta.lt
  have := H.fa.lt
  have := H.qa.lt
  exact ⟨H.keep BA, tblk_new _ _, RdR.emp _ _ _, RdR.emp _ _ _, fun p hp => (by cases hp), B.trans (BA.mono B.size), ⟨lo.1, lo.2.1, lo.2.2.1, lo.2.2.2, B.size⟩, ⟨by omega, by omega, by omega, by omega⟩, fun g off e => (by cases e), fun g off e => (by cases e)⟩
end Go.Proofs.Ytlaigjapnmgjeaa
