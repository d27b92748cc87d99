/- Rounds of flows that came in. -/
import Derived.Test.YtejjljhmlgjlhaaRbR
import Derived.Test.YtejjljhmlgjlhaaRvF
namespace Go.Proofs.Ytejjljhmlgjlhaa
open Go.ChangeShapes Go.WideShapes Go.ChangeAt Go.RowKit
set_option linter.unusedVariables false

theorem cellB_lt {w : World} {x : Addr} {v : Value} (h : w.cell? x = some v) : x.block < w.heap.size := by
  unfold World.cell? at h
  rcases Nat.lt_or_ge x.block w.heap.size with c | c
  · exact c
  · simp [Array.getElem?_eq_none c] at h
def FlsS (w : World) (a : Option Addr) (len : Nat) : Prop := len ≤ maxLen ∧ (0 < len → ∃ b off, a = some ⟨b, off, none⟩ ∧ b < w.heap.size ∧ ∀ i, i < len → ∃ (a' : Option Addr) (c' : Nat) (fs : List Fl), w.cell? ⟨b, off + i, none⟩ = some (.slice a' fs.length c') ∧ Fls w a' c' fs ∧ ∀ f ∈ fs, InR f.1 ∧ InR f.2)
theorem FlsS.keep {w w' : World} {a : Option Addr} {len : Nat} (h : FlsS w a len) (b : Below w.heap.size w w') : FlsS w' a len := by
  refine ⟨h.1, fun hp => ?_⟩
  obtain ⟨g, off, e, hg, hc⟩ := h.2 hp
  refine ⟨g, off, e, Nat.lt_of_lt_of_le hg b.size, fun i hi => ?_⟩
  obtain ⟨a', c', fs, h1, h2, h3⟩ := hc i hi
  exact ⟨a', c', fs, (b.cell (p := ⟨g, off + i, none⟩) hg).trans h1, h2.keep b, h3⟩
theorem cells_flows : Try.prog.cellsOf 29 = 1 := by kernel_rfl
set_option maxRecDepth 100000 in
theorem open_flowss {H : Type} {enc : TypeId × Value → H} {w : World} {base : Nat} {held : Bool} {a : Option Addr} {len cap : Nat} {x : DataW H × List MemPlace}
    (h : ∃ fuel, DataW.trod enc Try.prog w base (fun _ => true) held fuel 22 (Value.slice a len cap).cells.toList = some x) : FlsS w a len := by
  obtain ⟨fuel, hf⟩ := h
  rcases Go.Deep.open_slice Try.underlying22 hf with ⟨hcs, hx⟩ | ⟨ad, l, c, m, n, D, Pl, hcs, hb, hl, hm, hmm, hx, hc⟩
  · simp [Value.cells] at hcs
    obtain ⟨rfl, rfl, rfl⟩ := hcs
    exact ⟨Nat.zero_le _, fun h => absurd h (Nat.lt_irrefl _)⟩
  · simp [Value.cells] at hcs
    obtain ⟨rfl, rfl, rfl⟩ := hcs
    have hmm' : m = cap := by simpa using hmm
    subst hmm'
    have each : ∀ i, i < len → ∃ (a' : Option Addr) (c' : Nat) (fs : List Fl), w.cell? (ad.add i) = some (.slice a' fs.length c') ∧ Fls w a' c' fs ∧ ∀ f ∈ fs, InR f.1 ∧ InR f.2 := by
      intro i hi
      obtain ⟨cs', h1, h2⟩ := hc i (by omega)
      rw [cells_flows] at h1
      obtain ⟨_, hlen, hcell⟩ := World.cells?_some h1
      match cs', hlen with
      | [v], _ =>
        have e0 := hcell 0 (by omega)
        rw [Go.Deep.add_add] at e0
        have e0' : w.cell? (ad.add i) = some v := by simpa using e0
        have h2' := h2
        rcases Go.Deep.open_slice Try.underlying29 h2 with ⟨hcs, _⟩ | ⟨ad2, l2, c2, m2, n2, D2, Pl2, hcs, _⟩
        · have hv : v = .slice none 0 0 := by simpa [Value.cells] using hcs
          subst hv
          obtain ⟨fs, hl, hF, hI⟩ := open_flows (a := none) (len := 0) (cap := 0) ⟨_, h2'⟩
          exact ⟨none, 0, fs, by rw [hl]; exact e0', hF, hI⟩
        · have hv : v = .slice (some ad2) l2 c2 := by simpa [Value.cells] using hcs
          subst hv
          obtain ⟨fs, hl, hF, hI⟩ := open_flows (a := some ad2) (len := l2) (cap := c2) ⟨_, h2'⟩
          exact ⟨some ad2, c2, fs, by rw [hl]; exact e0', hF, hI⟩
    refine ⟨by omega, fun hp => ?_⟩
    obtain ⟨b, off, spot⟩ := ad
    obtain ⟨_, _, _, hc0, _⟩ := each 0 hp
    have hspot : spot = none := by simpa [Addr.add] using World.cell?_spot hc0
    subst hspot
    refine ⟨b, off, rfl, ?_, fun j hj => ?_⟩
    · have := cellB_lt hc0
      rwa [addr_add] at this
    · obtain ⟨a', c', fs, k0, k1, k2⟩ := each j hj
      rw [addr_add] at k0
      exact ⟨a', c', fs, k0, k1, k2⟩
theorem sml_inr {fs : List Fl} {m : Int} {k : Nat} (h : ∀ f ∈ fs, InR f.1 ∧ InR f.2) (hm : m ≤ 9223372036854775807) : ∀ f ∈ smlL m fs k, InR f.1 ∧ f.2 ≤ 9223372036854775807 := by
  intro f hf
  obtain ⟨x, hx, rfl⟩ := List.mem_map.1 hf
  have := h x (List.mem_of_mem_take hx)
  exact ⟨this.1, by show min x.2 m ≤ _; omega⟩
theorem loopQ_la : ∀ (n : Nat) (qu : List Fl) (cr la : Int) (gs : List Fl), qsum qu ≤ n → Ask qu → InR la → (∀ f ∈ qu, InR f.1) → InR (loopQ qu cr la gs).2.1
  | n, [], cr, la, gs, _, _, h, _ => by rw [loopQ_nil]; exact h
  | n, f :: t, cr, la, gs, hn, ha, h, hr => by
    have hf := ha f (List.mem_cons_self ..)
    by_cases c : cr < min f.2 64
    · rw [loopQ_stop hf.1 c]; exact h
    · rw [loopQ_go hf.1 c]
      have hl := nxt_less f t (by omega)
      cases n with
      | zero => omega
      | succ n => exact loopQ_la n (nxt f t) _ _ _ (by omega) ha.nxt (hr f (List.mem_cons_self ..)) (fun x hx => by
          obtain ⟨y, hy, e⟩ := nxt_conn hx
          rw [← e]; exact hr y hy)
theorem sort_exists (la : Int) : ∀ l : List Fl, l.Pairwise (fun a b => a.1 ≠ b.1) → (∀ f ∈ l, InR f.1) → ∃ V : List Fl, V.Pairwise (Klt la) ∧ ∀ f, f ∈ V ↔ f ∈ l
  | [], _, _ => ⟨[], List.Pairwise.nil, fun f => Iff.rfl⟩
  | x :: t, hd, hr => by
    obtain ⟨d1, d2⟩ := List.pairwise_cons.1 hd
    obtain ⟨V, v1, v2⟩ := sort_exists la t d2 (fun f hf => hr f (List.mem_cons_of_mem _ hf))
    have hx := hr x (List.mem_cons_self ..)
    refine ⟨V.filter (fun f => decide (awayK la f.1 < awayK la x.1)) ++ x :: V.filter (fun f => decide (awayK la x.1 < awayK la f.1)), ?_, fun f => ?_⟩
    · rw [List.pairwise_append]
      refine ⟨v1.sublist List.filter_sublist, List.pairwise_cons.2 ⟨fun f hf => ?_, v1.sublist List.filter_sublist⟩, fun a ha b hb => ?_⟩
      · have := of_decide_eq_true (List.mem_filter.1 hf).2
        unfold Klt
        exact this
      · have ha' := of_decide_eq_true (List.mem_filter.1 ha).2
        rcases List.mem_cons.1 hb with q | q
        · rw [q]; exact ha'
        · have hb' := of_decide_eq_true (List.mem_filter.1 q).2
          unfold Klt
          omega
    · rw [List.mem_append, List.mem_cons, List.mem_cons, List.mem_filter, List.mem_filter, v2 f]
      constructor
      · rintro (q | q | q)
        · exact .inr q.1
        · exact .inl q
        · exact .inr q.1
      · rintro (q | q)
        · exact .inr (.inl q)
        · have hne := d1 f q
          have hfr := hr f (List.mem_cons_of_mem _ q)
          rcases Int.lt_trichotomy (awayK la f.1) (awayK la x.1) with c | c | c
          · exact .inl ⟨q, decide_eq_true c⟩
          · exact absurd (awayK_inj hfr hx c).symm hne
          · exact .inr (.inr ⟨q, decide_eq_true c⟩)
theorem inv_exists (la : Int) (X : List Fl) (h : ∀ f ∈ X, InR f.1 ∧ f.2 ≤ 9223372036854775807) : ∃ V, Inv la (cnt X X.length) V ∧ Ask V := by
  have hin : ∀ f ∈ cnt X X.length, f ∈ X := fun f hf => by
    obtain ⟨i, h1, h2, _⟩ := (cnt_mem X f _).1 hf
    rw [← h2]; exact getD_mem h1
  obtain ⟨V, v1, v2⟩ := sort_exists la (cnt X X.length) (cnt_dist X _) (fun f hf => (h f (hin f hf)).1)
  have hpos : ∀ f ∈ cnt X X.length, 0 < f.2 := fun f hf => by
    obtain ⟨i, _, _, h3, _⟩ := (cnt_mem X f _).1 hf
    exact h3
  refine ⟨V, ⟨fun f => ?_, v1, cnt_dist X _, fun f hf => (h f (hin f hf)).1⟩, fun f hf => ?_⟩
  · rw [v2 f]
    exact ⟨fun q => ⟨hpos f q, q⟩, fun q => q.2⟩
  · have q := (v2 f).1 hf
    exact ⟨hpos f q, (h f (hin f q)).2⟩
theorem inv_uniq {la : Int} {F V W : List Fl} (h : Inv la F V) (k : Inv la F W) : W = V := srt_uniq W V k.s h.s fun f => (k.m f).trans (h.m f).symm
end Go.Proofs.Ytejjljhmlgjlhaa
