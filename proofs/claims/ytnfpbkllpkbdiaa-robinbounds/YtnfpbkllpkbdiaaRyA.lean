/- RobinBounds: rows of rows of numbers that came in; its state; the sum over a map. -/
import Derived.Test.YtnfpbkllpkbdiaaRxB
import Derived.Test.YtnfpbkllpkbdiaaRvS
import Derived.Test.YtnfpbkllpkbdiaaRbR
import Derived.Test.YtnfpbkllpkbdiaaRbT
import Derived.Maps.RangeWalk
namespace Go.Proofs.Ytnfpbkllpkbdiaa
open Go.ChangeShapes Go.WideShapes Go.ChangeAt Go.RowKit
set_option linter.unusedVariables false

theorem Nums.keep {w w' : World} {a : Option Addr} {len : Nat} (h : Nums w a len) (b : Below w.heap.size w w') : Nums w' a len := ⟨h.1, fun hp => by
  obtain ⟨g, off, e, hg, hc⟩ := h.2 hp
  exact ⟨g, off, e, Nat.lt_of_lt_of_le hg b.size, fun i hi => by
    obtain ⟨z, hz⟩ := hc i hi
    exact ⟨z, (b.cell (p := ⟨g, off + i, none⟩) hg).trans hz⟩⟩⟩
def NumS (w : World) (a : Option Addr) (len : Nat) : Prop := len ≤ maxLen ∧ (0 < len → ∃ b off, a = some ⟨b, off, none⟩ ∧ b < w.heap.size ∧ ∀ i, i < len → ∃ (a' : Option Addr) (l' c' : Nat), w.cell? ⟨b, off + i, none⟩ = some (.slice a' l' c') ∧ Nums w a' l')
theorem NumS.keep {w w' : World} {a : Option Addr} {len : Nat} (h : NumS w a len) (b : Below w.heap.size w w') : NumS w' a len := ⟨h.1, fun hp => by
  obtain ⟨g, off, e, hg, hc⟩ := h.2 hp
  exact ⟨g, off, e, Nat.lt_of_lt_of_le hg b.size, fun i hi => by
    obtain ⟨a', l', c', hz, hn⟩ := hc i hi
    exact ⟨a', l', c', (b.cell (p := ⟨g, off + i, none⟩) hg).trans hz, hn.keep b⟩⟩⟩
theorem cells_ints : Try.prog.cellsOf 28 = 1 := by kernel_rfl
set_option maxRecDepth 100000 in
theorem open_intss {H : Type} {enc : TypeId × Value → H} {w : World} {base : Nat} {held : Bool} {a : Option Addr} {len cap : Nat} {x : DataW H × List MemPlace}
    (h : ∃ fuel, DataW.trod enc Try.prog w base (fun _ => true) held fuel 23 (Value.slice a len cap).cells.toList = some x) : NumS w a len := by
  obtain ⟨fuel, hf⟩ := h
  rcases Go.Deep.open_slice Try.underlying23 hf with ⟨hcs, hx⟩ | ⟨ad, l, c, m, n, D, Pl, hcs, hb, hl, hm, hmm, hx, hc⟩
  · simp [Value.cells] at hcs
    obtain ⟨rfl, rfl, rfl⟩ := hcs
    exact ⟨Nat.zero_le _, fun h => absurd h (Nat.lt_irrefl _)⟩
  · simp [Value.cells] at hcs
    obtain ⟨rfl, rfl, rfl⟩ := hcs
    have hmm' : m = cap := by simpa using hmm
    subst hmm'
    have each : ∀ i, i < len → ∃ (a' : Option Addr) (l' c' : Nat), w.cell? (ad.add i) = some (.slice a' l' c') ∧ Nums w a' l' := by
      intro i hi
      obtain ⟨cs', h1, h2⟩ := hc i (by omega)
      rw [cells_ints] at h1
      obtain ⟨_, hlen, hcell⟩ := World.cells?_some h1
      match cs', hlen with
      | [v], _ =>
        have e0 := hcell 0 (by omega)
        rw [Go.Deep.add_add] at e0
        have e0' : w.cell? (ad.add i) = some v := by simpa using e0
        have h2' := h2
        rcases Go.Deep.open_slice Try.underlying28 h2 with ⟨hcs, _⟩ | ⟨ad2, l2, c2, m2, n2, D2, Pl2, hcs, _⟩
        · have hv : v = .slice none 0 0 := by simpa [Value.cells] using hcs
          subst hv
          exact ⟨none, 0, 0, e0', open_nums (a := none) (len := 0) (cap := 0) ⟨_, h2'⟩⟩
        · have hv : v = .slice (some ad2) l2 c2 := by simpa [Value.cells] using hcs
          subst hv
          exact ⟨some ad2, l2, c2, e0', open_nums (a := some ad2) (len := l2) (cap := c2) ⟨_, h2'⟩⟩
    refine ⟨by omega, fun hp => ?_⟩
    obtain ⟨b, off, spot⟩ := ad
    obtain ⟨_, _, _, hc0, _⟩ := each 0 hp
    have hspot : spot = none := by simpa [Addr.add] using World.cell?_spot hc0
    subst hspot
    refine ⟨b, off, rfl, ?_, fun j hj => ?_⟩
    · have := cell_lt hc0
      rwa [addr_add] at this
    · obtain ⟨a', l', c', k0, k1⟩ := each j hj
      rw [addr_add] at k0
      exact ⟨a', l', c', k0, k1⟩
/-- As many grants at most as bytes are granted. -/
theorem fair_len : ∀ (G : List Fl) (U : Int → Int), Fair U G → (G.length : Int) ≤ sumG G
  | [], U, _ => Int.le_refl _
  | g :: t, U, ⟨h1, _, _, h4⟩ => by
    have := fair_len t _ h4
    rw [sumG_cons, List.length_cons]
    omega
theorem fair_at : ∀ (G : List Fl) (U : Int → Int) (j : Nat), Fair U G → j < G.length → 1 ≤ (G.getD j (0, 0)).2 ∧ (G.getD j (0, 0)).2 ≤ 64 ∧ (G.getD j (0, 0)).2 ≤ apG U (G.take j) (G.getD j (0, 0)).1
  | [], U, j, _, hj => absurd hj (Nat.not_lt_zero _)
  | g :: t, U, 0, ⟨h1, h2, h3, h4⟩, _ => ⟨h1, h2, h3⟩
  | g :: t, U, j + 1, ⟨h1, h2, h3, h4⟩, hj => fair_at t (ap1 U g) j h4 (by simpa using hj)
theorem apG_snoc (U : Int → Int) (G : List Fl) (j : Nat) (hj : j < G.length) : apG U (G.take (j + 1)) = ap1 (apG U (G.take j)) (G.getD j (0, 0)) := by
  rw [take_snoc G j hj, apG_app]
  rfl
theorem sumG_snoc (G : List Fl) (j : Nat) (hj : j < G.length) : sumG (G.take (j + 1)) = sumG (G.take j) + (G.getD j (0, 0)).2 := by
  rw [take_snoc G j hj, sumG_app, sumG_cons]
  show _ + (_ + 0) = _
  omega
theorem sumG_take {U : Int → Int} {G : List Fl} (h : Fair U G) : ∀ j, j ≤ G.length → 0 ≤ sumG (G.take j) ∧ sumG (G.take j) ≤ 64 * (j : Int)
  | 0, _ => ⟨by simp [sumG], by simp [sumG]⟩
  | j + 1, hj => by
    have ih := sumG_take h j (by omega)
    have hf := fair_at G U j h (by omega)
    rw [sumG_snoc G j (by omega)]
    omega
theorem sumG_mono {U : Int → Int} {G : List Fl} (h : Fair U G) : ∀ d j, j + d = G.length → sumG (G.take j) ≤ sumG G
  | 0, j, hj => by rw [List.take_of_length_le (by omega)]; exact Int.le_refl _
  | d + 1, j, hj => by
    have ih := sumG_mono h d (j + 1) (by omega)
    have hf := fair_at G U j h (by omega)
    rw [sumG_snoc G j (by omega)] at ih
    omega
/-- The sum over those that have come. -/
def seenS (U : Int → Int) (left : Lit → Bool) (C : List Int) : Int := usum U (C.filter fun c => !left (.int .i64 c))
theorem seenS_cons (U : Int → Int) (left : Lit → Bool) (c : Int) (C : List Int) : seenS U left (c :: C) = (if left (.int .i64 c) then 0 else U c) + seenS U left C := by
  unfold seenS
  rw [List.filter_cons]
  cases h : left (.int .i64 c)
  · show usum U (c :: _) = U c + _
    rfl
  · show usum U _ = 0 + _
    rw [Int.zero_add]
    rfl
theorem sameKey_int (a b : Int) : (Lit.int .i64 a).sameKey (.int .i64 b) = decide (a = b) := by
  by_cases h : a = b
  · subst h
    rw [decide_eq_true rfl]
    simp [Lit.sameKey]
  · rw [decide_eq_false h]
    exact Maps.sameKey_ne (fun e => h (by injection e))
theorem seenS_off (U : Int → Int) (left : Lit → Bool) (x : Int) : ∀ C : List Int, x ∉ C → seenS U (fun z => left z && !z.sameKey (.int .i64 x)) C = seenS U left C
  | [], _ => rfl
  | c :: C, h => by
    have hne : c ≠ x := fun e => h (by rw [e]; exact List.mem_cons_self ..)
    rw [seenS_cons, seenS_cons, seenS_off U left x C (fun q => h (List.mem_cons_of_mem _ q)), sameKey_int, decide_eq_false hne]
    simp
theorem seenS_step (U : Int → Int) (left : Lit → Bool) (x : Int) (hl : left (.int .i64 x) = true) : ∀ C : List Int, C.Nodup → x ∈ C → seenS U (fun z => left z && !z.sameKey (.int .i64 x)) C = seenS U left C + U x
  | [], _, h => by cases h
  | c :: C, hd, h => by
    obtain ⟨d1, d2⟩ := List.nodup_cons.1 hd
    rw [seenS_cons, seenS_cons, sameKey_int]
    by_cases e : c = x
    · subst e
      rw [seenS_off U left c C d1, hl, decide_eq_true rfl]
      simp
      omega
    · have hx : x ∈ C := by
        rcases List.mem_cons.1 h with q | q
        · exact absurd q.symm e
        · exact q
      rw [seenS_step U left x hl C d2 hx, decide_eq_false e]
      simp only [Bool.not_false, Bool.and_true]
      omega
theorem seenS_all (U : Int → Int) (left : Lit → Bool) (C : List Int) (h : ∀ kl, left kl = false) : seenS U left C = usum U C := by
  unfold seenS
  rw [List.filter_eq_self.2 (fun c _ => by rw [h]; rfl)]
theorem seenS_none (U : Int → Int) (left : Lit → Bool) (C : List Int) (h : ∀ c ∈ C, left (.int .i64 c) = true) : seenS U left C = 0 := by
  unfold seenS
  rw [List.filter_eq_nil_iff.2 (fun c hc => by rw [h c hc]; simp)]
  rfl
theorem seenS_bd {U : Int → Int} {left : Lit → Bool} {C : List Int} {b : Int} (hb : 0 ≤ b) (h : ∀ c ∈ C, 0 ≤ U c ∧ U c ≤ b) : 0 ≤ seenS U left C ∧ seenS U left C ≤ b * (C.length : Int) := by
  induction C with
  | nil => exact ⟨Int.le_refl _, by show (0 : Int) ≤ b * 0; omega⟩
  | cons c C ih =>
    have i := ih (fun x hx => h x (List.mem_cons_of_mem _ hx))
    have hc := h c (List.mem_cons_self ..)
    rw [seenS_cons, List.length_cons]
    have e : b * ((C.length + 1 : Nat) : Int) = b * (C.length : Int) + b := by
      show b * ((C.length : Int) + 1) = _
      rw [Int.mul_add, Int.mul_one]
    rw [e]
    split <;> omega
theorem om_blk {w w' : World} {b n : Nat} {D : DataW Nat} (h : w.ownsMap Try.prog 3 (plainElem Try.prog 3) b n D) (e : w'.heap[b]? = w.heap[b]?) : w'.ownsMap Try.prog 3 (plainElem Try.prog 3) b n D := by
  obtain ⟨es, cl, h1, r⟩ := h
  exact ⟨es, cl, e.trans h1, r⟩
/-- The state: the robin, the map, the connections. -/
structure SB (w : World) (rb mk : Nat) (q : Int) (C : List Int) (v9 : Value) (wr : World) (U : Int → Int) (cr la : Int) (n : Nat) (D : DataW Nat) (ub : Int) : Prop where
  ra : IsR wr rb q cr la
  om : wr.ownsMap Try.prog 3 (plainElem Try.prog 3) mk n D
  mw : MW C U D
  un : ∀ c ∈ C, 0 ≤ U c ∧ U c ≤ ub
  uz : ∀ c, c ∉ C → U c = 0
  oi : OI w.heap.size wr v9 C
  be : Below w.heap.size w wr
theorem SB.grow {w : World} {rb mk : Nat} {q : Int} {C : List Int} {v9 : Value} {wr wr' : World} {U : Int → Int} {cr la : Int} {n : Nat} {D : DataW Nat} {ub : Int} (h : SB w rb mk q C v9 wr U cr la n D ub) (b : Below wr.heap.size wr wr') : SB w rb mk q C v9 wr' U cr la n D ub :=
  ⟨h.ra.below b h.ra.lt, om_blk h.om (b.block mk h.om.lt), h.mw, h.un, h.uz, h.oi.grow b, h.be.trans (b.mono h.be.size)⟩
end Go.Proofs.Ytnfpbkllpkbdiaa
