/- PoolPlays: Take, and what is asked behind each call. -/
import Derived.Test.YtlaigjapnmgjeaaQj
namespace Go.Proofs.Ytlaigjapnmgjeaa
open Go.RowKit Go.Shelf
set_option linter.unusedVariables false

theorem last_off {w : World} {F : List (Nat × Obj)} {pb mk mb n : Nat} {most last : Int} {q : HF} {rs : List Int} {R : Int} {a : Option Addr} {c : Nat} {L : List Hn} {W : World} (h : PD w F pb mk mb n most last q rs R a c L W) : hasH (last + 1) L = false ∧ last + 1 ∉ rs := by
  have hn := h.pm.qi.next
  refine ⟨by rw [h.k.has, hn]; rfl, fun m => ?_⟩
  obtain ⟨s', e⟩ := (h.pm.qi.r _).1 m
  rw [hn] at e
  cases e
theorem hasH_off {h g : Int} {L : List Hn} (e : hasH h L = false) : hasH h (offH g L) = false := by
  cases k : hasH h (offH g L) with
  | false => rfl
  | true =>
    obtain ⟨x, hx, e2⟩ := hasH_iff.1 k
    have : hasH h L = true := hasH_iff.2 ⟨x, (offH_mem.1 hx).1, e2⟩
    rw [e] at this
    cases this
set_option maxHeartbeats 1000000 in
theorem PD.take {w : World} {F : List (Nat × Obj)} {pb mk mb n : Nat} {most last : Int} {q : HF} {rs : List Int} {R : Int} {a : Option Addr} {c : Nat} {L : List Hn} {W : World} (h : PD w F pb mk mb n most last q rs R a c L W) (hn : n ≤ 900) (aim : KS) (ha : aim.size ≤ 281474976710656) :
    Calls Try.prog 8 #[.agg #[.int .i64 most, .int .i64 last, .int .i64 R, .slice a L.length c], .string aim] W fun e V => ∃ a' c' L' l' x s f er, e = .returned (.tuple #[.agg #[.int .i64 most, .int .i64 l', .int .i64 R, .slice a' L'.length c'], .agg #[.int .i64 x, .int .i64 s, .bool f], .int .i64 er]) ∧ Below W.heap.size W V ∧ Then17 w F pb mk mb n most l' R a' c' L' 9 #[.pointer (some ⟨pb, 0, none⟩), .string aim] (.tuple #[.agg #[.int .i64 x, .int .i64 s, .bool f], .int .i64 er]) V := by
  have hl : L.length ≤ 1000000 := by have := h.n; omega
  have hr := h.r
  have hln := h.n
  have hq := h.pm.qi
  have h0 := hq.l0
  have h1 := hq.ln
  have hrr : ∀ x, x ∈ rs → ∃ s, q x = some (s, 3) := fun x => (hq.r x).1
  obtain ⟨o1, o2⟩ := last_off h
  refine rtake_any L a c most last R aim W h.pm.rd hl h0 (by omega) ?_ ?_ ?_ ?_
  · intro i x V a' c' hN hx O B
    refine ⟨a', c', _, last, _, _, _, _, rfl, B, fun V2 G' b2 hG => ?_⟩
    obtain ⟨x', p0, t, hx', e0, e1, e2, e3⟩ := hN.some h.k h.s hq.r
    rw [hx] at hx'
    cases hx'
    have hm := List.mem_of_getElem? hx
    have hxm := h.k.a x hm
    have hh := hasH_of hm
    have hlen : (withL ⟨x.h, 2, x.si, x.a⟩ L).length = L.length := by rw [with_len]; exact if_pos hh
    refine ((h.pm.put B O b2 hG most last R).op fun F' s => take_old s aim ha hn p0 x.h t e0 e1 e2).mono ?_
    rintro e V3 ⟨rfl, M⟩
    rw [show (lookH (q x.h)).1 = x.a by rw [hxm]; rfl] at M
    refine ⟨rfl, _, _, ⟨?_, h.k.with ⟨x.h, 2, x.si, x.a⟩, h.s.with (x := ⟨x.h, 2, x.si, x.a⟩) (by show (2 : Int) ≠ 3; decide), ⟨hr.1, by omega⟩, by rw [hlen]; omega⟩⟩
    have M2 := M
    rw [← hlen] at M2
    exact M2
  · intro V a' c' hN hlt O B
    refine ⟨a', c', _, last + 1, _, _, _, _, rfl, B, fun V2 G' b2 hG => ?_⟩
    have e1 := hN.none h.k hrr
    have hlen : (withL ⟨last + 1, 1, 0, aim⟩ L).length = L.length + 1 := by rw [with_len]; exact if_neg (by rw [o1]; decide)
    refine ((h.pm.put B O b2 hG most (last + 1) R).op fun F' s => take_new s aim ha hn e1 hlt (last + 1) rfl).mono ?_
    rintro e V3 ⟨rfl, M⟩
    have S2 := h.s.with (x := ⟨last + 1, 1, 0, aim⟩) (by show (1 : Int) ≠ 3; decide)
    rw [filt_notin o2] at S2
    refine ⟨rfl, _, _, ⟨?_, h.k.with ⟨last + 1, 1, 0, aim⟩, S2, ⟨hr.1, by omega⟩, by rw [hlen]; omega⟩⟩
    have M2 := M
    rw [← hlen] at M2
    exact M2
  · intro V hN hge hO B
    refine ⟨a, c, L, last, _, _, _, _, rfl, B, fun V2 G' b2 hG => ?_⟩
    have e1 := hO.none h.k hrr
    subst e1
    refine ((h.pm.same (B.trans (b2.mono B.size)) (fun p hp => ⟨Nat.le_trans B.size (hG p hp).1, (hG p hp).2⟩) most last R).op fun F' s => take_full s aim ha hn hge).mono ?_
    rintro e V3 ⟨rfl, M⟩
    exact ⟨rfl, q, [], ⟨M, h.k, h.s, ⟨hr.1, by omega⟩, by omega⟩⟩
  · intro i x V a' c' hN hge hO hx O B
    refine ⟨a', c', _, last + 1, _, _, _, _, rfl, B, fun V2 G' b2 hG => ?_⟩
    have e1 := hN.none h.k hrr
    obtain ⟨x', r, hx', e0, e3⟩ := hO.some h.k h.s hq.r
    rw [hx] at hx'
    cases hx'
    subst e0
    have hm := List.mem_of_getElem? hx
    have hh := hasH_of hm
    have hoff := offH_yes h.k.nd hh
    have hlen : (withL ⟨last + 1, 1, 0, aim⟩ (offH x.h L)).length = L.length := by rw [with_len, if_neg (by rw [hasH_off o1]; decide)]; exact hoff
    refine ((h.pm.put B O b2 hG most (last + 1) R).op fun F' s => take_out s aim ha hn e1 hge (last + 1) rfl).mono ?_
    rintro e V3 ⟨rfl, M⟩
    have S2 := (h.s.off x.h).with (x := ⟨last + 1, 1, 0, aim⟩) (by show (1 : Int) ≠ 3; decide)
    rw [filt_notin (fun m => o2 ((List.mem_filter.1 m).1))] at S2
    refine ⟨rfl, _, _, ⟨?_, (h.k.off x.h).with ⟨last + 1, 1, 0, aim⟩, S2, ⟨hr.1, by omega⟩, by rw [hlen]; omega⟩⟩
    have M2 := M
    rw [← hlen] at M2
    exact M2
/-- What is asked behind each call. -/
theorem PD.len {w : World} {F : List (Nat × Obj)} {pb mk mb n : Nat} {most last : Int} {q : HF} {rs : List Int} {R : Int} {a : Option Addr} {c : Nat} {L : List Hn} {W : World} (h : Hid (PD w F pb mk mb n most last q rs R a c L W)) :
    Calls Try.prog 16 #[.pointer (some ⟨pb, 0, none⟩)] W fun e W' => e = .returned (.int .i64 L.length) ∧ Hid (PD w F pb mk mb n most last q rs R a c L W') := by
  obtain ⟨G, s, _⟩ := h.out.pm.pi
  refine (len_pi s).mono ?_
  rintro e W' ⟨rfl, rfl⟩
  exact ⟨rfl, h⟩
theorem PD.state {w : World} {F : List (Nat × Obj)} {pb mk mb n : Nat} {most last : Int} {q : HF} {rs : List Int} {R : Int} {a : Option Addr} {c : Nat} {L : List Hn} {W : World} (h : Hid (PD w F pb mk mb n most last q rs R a c L W)) (x : Int) (hx : InR x) (st : Int) (hs : (lookH (q x)).2 = st) :
    Calls Try.prog 17 #[.pointer (some ⟨pb, 0, none⟩), .int .i64 x] W fun e W' => e = .returned (.int .i64 st) ∧ Hid (PD w F pb mk mb n most last q rs R a c L W') := by
  obtain ⟨G, s, _⟩ := h.out.pm.pi
  refine (state_pi s x hx st hs).mono ?_
  rintro e W' ⟨rfl, rfl⟩
  exact ⟨rfl, h⟩
theorem PD.aim {w : World} {F : List (Nat × Obj)} {pb mk mb n : Nat} {most last : Int} {q : HF} {rs : List Int} {R : Int} {a : Option Addr} {c : Nat} {L : List Hn} {W : World} (h : Hid (PD w F pb mk mb n most last q rs R a c L W)) (x : Int) (hx : InR x) (A : KS) (hs : (lookH (q x)).1 = A) :
    Calls Try.prog 19 #[.pointer (some ⟨pb, 0, none⟩), .int .i64 x] W fun e W' => e = .returned (.string A) ∧ Hid (PD w F pb mk mb n most last q rs R a c L W') := by
  refine (h.out.pm.op fun F' s => aim_pi s x hx A hs).mono ?_
  rintro e W' ⟨rfl, M⟩
  exact ⟨rfl, ⟨M, h.out.k, h.out.s, h.out.r, h.out.n⟩⟩
theorem PD.rstate {w : World} {F : List (Nat × Obj)} {pb mk mb n : Nat} {most last : Int} {q : HF} {rs : List Int} {R : Int} {a : Option Addr} {c : Nat} {L : List Hn} {W : World} (h : Hid (PD w F pb mk mb n most last q rs R a c L W)) (hn : n ≤ 900) (x : Int) (st : Int) (hs : (lookH (q x)).2 = st) :
    Calls Try.prog 18 #[.agg #[.int .i64 most, .int .i64 last, .int .i64 R, .slice a L.length c], .int .i64 x] W fun e W' => e = .returned (.int .i64 st) ∧ Hid (PD w F pb mk mb n most last q rs R a c L W') := by
  subst hs
  refine (rstate_any q L h.out.k a c most last R x W h.out.pm.rd (by have := h.out.n; omega)).mono ?_
  rintro e W' ⟨rfl, B⟩
  exact ⟨rfl, h.out.bel B⟩
theorem PD.raim {w : World} {F : List (Nat × Obj)} {pb mk mb n : Nat} {most last : Int} {q : HF} {rs : List Int} {R : Int} {a : Option Addr} {c : Nat} {L : List Hn} {W : World} (h : Hid (PD w F pb mk mb n most last q rs R a c L W)) (hn : n ≤ 900) (x : Int) (A : KS) (hs : (lookH (q x)).1 = A) :
    Calls Try.prog 20 #[.agg #[.int .i64 most, .int .i64 last, .int .i64 R, .slice a L.length c], .int .i64 x] W fun e W' => e = .returned (.string A) ∧ Hid (PD w F pb mk mb n most last q rs R a c L W') := by
  subst hs
  refine (raim_any q L h.out.k a c most last R x W h.out.pm.rd (by have := h.out.n; omega)).mono ?_
  rintro e W' ⟨rfl, B⟩
  exact ⟨rfl, h.out.bel B⟩
theorem PD.start {w W : World} {pb mk : Nat} {most : Int} (s : PI w [] pb mk 0 0 most 0 (fun _ => Option.none) [] W) : PD w [] pb mk W.heap.size 0 most 0 (fun _ => Option.none) [] 0 Option.none 0 [] (W.alloc (.cells #[.int .i64 most, .int .i64 0, .int .i64 0, .slice Option.none 0 0] 28)) :=
  ⟨⟨⟨[], s.newF _, fun g off e => (by cases e), fun p hp => (by cases hp)⟩, RdR.emp _ _ _, s.be.size, fun p hp => by cases hp⟩, RQH.nil, SO.nil, ⟨Int.le_refl _, by omega⟩, Nat.le_refl _⟩
theorem PD.newF {w : World} {F : List (Nat × Obj)} {pb mk mb n : Nat} {most last : Int} {q : HF} {rs : List Int} {R : Int} {a : Option Addr} {c : Nat} {L : List Hn} {W : World} (h : PD w F pb mk mb n most last q rs R a c L W) (o : Obj) : PD w ((W.heap.size, o) :: F) pb mk mb n most last q rs R a c L (W.alloc o) :=
  ⟨h.pm.grow (G' := [(W.heap.size, o)]) ((Below.refl _ _).alloc (Nat.le_refl _) o) (fun p hp => by rw [List.mem_singleton.1 hp]; exact ⟨Nat.le_refl _, tblk_new _ _⟩), h.k, h.s, h.r, h.n⟩
end Go.Proofs.Ytlaigjapnmgjeaa
