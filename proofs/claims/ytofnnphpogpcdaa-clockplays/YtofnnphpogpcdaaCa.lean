/- Clock: calls that came in; a clock beside the document's. -/
import Derived.Test.YtofnnphpogpcdaaClX
import Derived.Test.YtofnnphpogpcdaaClZ
import Derived.Deep.SlicePairs
namespace Go.Proofs.Ytofnnphpogpcdaa
open Go.ChangeShapes Go.WideShapes Go.ChangeAt Go.RowKit
set_option linter.unusedVariables false

theorem addr_add' (b off n : Nat) : (Addr.add ⟨b, off, none⟩ n) = ⟨b, off + n, none⟩ := by simp [Addr.add]
def OpsC (w : World) (a : Option Addr) (len : Nat) : Prop := len ≤ maxLen ∧ (0 < len → ∃ b off, a = some ⟨b, off, none⟩ ∧ b < w.heap.size ∧ ∀ i, i < len → ∃ (k n t : Int), InR n ∧ InR t ∧ w.cell? ⟨b, off + i * 3, none⟩ = some (.int .i64 k) ∧ w.cell? ⟨b, off + i * 3 + 1, none⟩ = some (.int .i64 n) ∧ w.cell? ⟨b, off + i * 3 + 2, none⟩ = some (.int .i64 t))
theorem cells_int64 : Try.prog.cellsOf 2 = 1 := by kernel_rfl
theorem cells_int : Try.prog.cellsOf 3 = 1 := by kernel_rfl
theorem cells_op15 : Try.prog.cellsOf 30 = 3 := by kernel_rfl
theorem inr_wf {z : Int} (h : (Lit.int .i64 z).wf = true) : InR z := bounds_i64 h
set_option maxRecDepth 100000 in
theorem open_ops15 {H : Type} {enc : TypeId × Value → H} {w : World} {base : Nat} {held : Bool} {a : Option Addr} {len cap : Nat} {x : DataW H × List MemPlace}
    (h : ∃ fuel, DataW.trod enc Try.prog w base (fun _ => true) held fuel 22 (Value.slice a len cap).cells.toList = some x) : OpsC w a len := by
  obtain ⟨fuel, hf⟩ := h
  rcases Go.Deep.open_slice Try.underlying22 hf with ⟨hcs, hx⟩ | ⟨ad, l, c, m, n, D, Pl, hcs, hb, hl, hm, hmm, hx, hc⟩
  · simp [Value.cells] at hcs
    obtain ⟨rfl, rfl, rfl⟩ := hcs
    exact ⟨Nat.zero_le _, fun h => absurd h (Nat.lt_irrefl _)⟩
  · simp [Value.cells] at hcs
    obtain ⟨rfl, rfl, rfl⟩ := hcs
    have hmm' : m = cap := by simpa using hmm
    subst hmm'
    have each : ∀ i, i < len → ∃ (k n t : Int), InR n ∧ InR t ∧ w.cell? (ad.add (i * 3)) = some (.int .i64 k) ∧ w.cell? (ad.add (i * 3 + 1)) = some (.int .i64 n) ∧ w.cell? (ad.add (i * 3 + 2)) = some (.int .i64 t) := by
      intro i hi
      obtain ⟨cs', h1, h2⟩ := hc i (by omega)
      rw [cells_op15] at h1
      obtain ⟨_, hlen, hcell⟩ := World.cells?_some h1
      obtain ⟨xs, k, hk, hxy, _, hxl, hf⟩ := DataW.trod_struct Try.underlying30 h2
      match xs, hxl, cs', hlen with
      | [y0, y1, y2], _, [v0, v1, v2], _ =>
        have g0 := hf 0 _ rfl
        have g1 := hf 1 _ rfl
        have g2 := hf 2 _ rfl
        simp [cells_int64, cells_int] at g0 g1 g2
        have e0 := hcell 0 (by omega)
        have e1 := hcell 1 (by omega)
        have e2 := hcell 2 (by omega)
        rw [Go.Deep.add_add] at e0 e1 e2
        obtain ⟨z0, a0, b0, hz0⟩ := DataW.trod_int Try.underlying3 g0
        obtain ⟨z1, a1, b1, hz1⟩ := DataW.trod_int Try.underlying3 g1
        obtain ⟨z2, a2, b2, hz2⟩ := DataW.trod_int Try.underlying2 g2
        have a0' : v0 = .int .i64 z0 := by simpa using a0
        have a1' : v1 = .int .i64 z1 := by simpa using a1
        have a2' : v2 = .int .i64 z2 := by simpa using a2
        subst a0' a1' a2'
        exact ⟨z0, z1, z2, inr_wf hz1, inr_wf hz2, by simpa using e0, by simpa using e1, by simpa using e2⟩
    refine ⟨by omega, fun hp => ?_⟩
    obtain ⟨b, off, spot⟩ := ad
    obtain ⟨_, _, _, _, _, hc0, _⟩ := each 0 hp
    have hspot : spot = none := by simpa [Addr.add] using World.cell?_spot hc0
    subst hspot
    refine ⟨b, off, rfl, ?_, fun j hj => ?_⟩
    · have := cell_lt hc0
      rwa [addr_add'] at this
    · obtain ⟨t, n, l, i1, i2, k0, k1, k2⟩ := each j hj
      rw [addr_add'] at k0 k1 k2
      exact ⟨t, n, l, i1, i2, k0, by rw [Nat.add_assoc]; exact k1, by rw [Nat.add_assoc]; exact k2⟩
/-- The clock is at now, with L to come; the document's, in block mb, at T, with its row v of L'; the blocks of F are others. -/
structure HS (w : World) (F : List (Nat × Obj)) (cb mk mb n : Nat) (now : Int) (L : List Pr) (T : Int) (v : Value) (L' : List Pr) (W : World) : Prop where
  x : ∃ X, CB w X cb mk n now L W ∧ X mb ∧ (∀ g, v.ownBlock = some g → X g) ∧ (∀ p ∈ F, X p.1) ∧ ∀ k, X k → w.heap.size ≤ k
  d : DB W mb T v
  r : ∃ a c, v = .slice a L'.length c ∧ RdR 2 encD W a c L'
  f : ∀ p ∈ F, W.heap[p.1]? = some p.2 ∧ p.1 ≠ mb
theorem own_some {g off n c : Nat} : (Value.slice (some ⟨g, off, none⟩) n c).ownBlock = some g := rfl
theorem HS.op {w : World} {F : List (Nat × Obj)} {cb mk mb n n' : Nat} {now now' : Int} {L L2 : List Pr} {T : Int} {v : Value} {L' : List Pr} {W : World} (h : HS w F cb mk mb n now L T v L' W) {f : FuncId} {args : Array Value} {P : Ending → World → Prop}
    (k : ∀ X, CB w X cb mk n now L W → Calls Try.prog f args W fun e W' => P e W' ∧ CB w X cb mk n' now' L2 W' ∧ ∀ k, X k → W'.heap[k]? = W.heap[k]?) : Calls Try.prog f args W fun e W' => P e W' ∧ HS w F cb mk mb n' now' L2 T v L' W' := by
  obtain ⟨⟨X, C, x1, x2, x3, x4⟩, d, ⟨a, c, hv, r⟩, hf⟩ := h
  refine (k X C).mono ?_
  rintro e W' ⟨p, C', K⟩
  exact ⟨p, ⟨X, C', x1, x2, x3, x4⟩, (K mb x1).trans d, ⟨a, c, hv, r.move fun g off e _ => K g (x2 g (by rw [hv, e]; rfl))⟩, fun q hq => ⟨(K q.1 (x3 q hq)).trans (hf q hq).1, (hf q hq).2⟩⟩
theorem HS.grow {w : World} {F G : List (Nat × Obj)} {cb mk mb n : Nat} {now : Int} {L : List Pr} {T : Int} {v : Value} {L' : List Pr} {W V : World} (h : HS w F cb mk mb n now L T v L' W) (b : Below W.heap.size W V) (hG : ∀ p ∈ G, W.heap.size ≤ p.1 ∧ V.heap[p.1]? = some p.2) : HS w (G ++ F) cb mk mb n now L T v L' V := by
  obtain ⟨⟨X, C, x1, x2, x3, x4⟩, d, ⟨a, c, hv, r⟩, hf⟩ := h
  have sz := C.be.size
  refine ⟨⟨_, C.more b, .inl x1, fun g hg => .inl (x2 g hg), fun p hp => ?_, fun k hk => ?_⟩, (b.block mb d.lt).trans d, ⟨a, c, hv, r.keep b⟩, fun p hp => ?_⟩
  · rcases List.mem_append.1 hp with q | q
    · exact .inr ⟨(hG p q).1, (Array.getElem?_eq_some_iff.1 (hG p q).2).1⟩
    · exact .inl (x3 p q)
  · rcases hk with e | e
    · exact x4 k e
    · omega
  · rcases List.mem_append.1 hp with q | q
    · exact ⟨(hG p q).2, by have := (hG p q).1; have := d.lt; omega⟩
    · exact ⟨(b.block p.1 (Array.getElem?_eq_some_iff.1 (hf p q).1).1).trans (hf p q).1, (hf p q).2⟩
theorem HS.bel {w : World} {F : List (Nat × Obj)} {cb mk mb n : Nat} {now : Int} {L : List Pr} {T : Int} {v : Value} {L' : List Pr} {W V : World} (h : HS w F cb mk mb n now L T v L' W) (b : Below W.heap.size W V) : HS w F cb mk mb n now L T v L' V := h.grow (G := []) b (fun p hp => by cases hp)
theorem HS.new {w : World} {F : List (Nat × Obj)} {cb mk mb n : Nat} {now : Int} {L : List Pr} {T : Int} {v : Value} {L' : List Pr} {W : World} (h : HS w F cb mk mb n now L T v L' W) (o : Obj) : HS w ((W.heap.size, o) :: F) cb mk mb n now L T v L' (W.alloc o) :=
  h.grow (G := [(W.heap.size, o)]) ((Below.refl _ _).alloc (Nat.le_refl _) _) (fun p hp => by rw [List.mem_singleton.1 hp]; exact ⟨Nat.le_refl _, tblk_new _ _⟩)
theorem HS.less {w : World} {F G : List (Nat × Obj)} {cb mk mb n : Nat} {now : Int} {L : List Pr} {T : Int} {v : Value} {L' : List Pr} {W : World} (h : HS w F cb mk mb n now L T v L' W) (k : ∀ p ∈ G, p ∈ F) : HS w G cb mk mb n now L T v L' W := by
  obtain ⟨⟨X, C, x1, x2, x3, x4⟩, d, r, hf⟩ := h
  exact ⟨⟨X, C, x1, x2, fun p hp => x3 p (k p hp), x4⟩, d, r, fun p hp => hf p (k p hp)⟩
theorem HS.mono {w : World} {F : List (Nat × Obj)} {cb mk mb n n' : Nat} {now : Int} {L : List Pr} {T : Int} {v : Value} {L' : List Pr} {W : World} (h : HS w F cb mk mb n now L T v L' W) (k : n ≤ n') : HS w F cb mk mb n' now L T v L' W := by
  obtain ⟨⟨X, ⟨S, c1, c2⟩, x1⟩, d, r, hf⟩ := h
  exact ⟨⟨X, ⟨S, c1.mono k, c2⟩, x1⟩, d, r, hf⟩
/-- A row of one's own, told by its block. -/
theorem OwR.hold {α : Type} {T : TypeId} {k B : Nat} {enc : α → Array Value} {w : World} {v : Value} {l : List α} (h : OwR T k enc B w v l) : ∃ G : List (Nat × Obj), (∀ p ∈ G, B ≤ p.1 ∧ w.heap[p.1]? = some p.2) ∧ (∀ g, v.ownBlock = some g → ∃ o, (g, o) ∈ G) ∧ ∀ V : World, (∀ p ∈ G, V.heap[p.1]? = some p.2) → OwR T k enc B V v l := by
  obtain ⟨h1, h2⟩ := h
  rcases h2 with ⟨h2, h3⟩ | ⟨g, c, cur, hv, hB, hg, r⟩
  · exact ⟨[], fun p hp => (by cases hp), fun g hg => (by rw [h2] at hg; cases hg), fun V _ => ⟨h1, .inl ⟨h2, h3⟩⟩⟩
  · refine ⟨[(g, .cells cur T)], fun p hp => ?_, fun g' hg' => ?_, fun V hV => ⟨h1, .inr ⟨g, c, cur, hv, hB, hV _ (List.mem_singleton.2 rfl), r⟩⟩⟩
    · rw [List.mem_singleton.1 hp]; exact ⟨hB, hg⟩
    · rw [hv] at hg'
      obtain rfl : g = g' := by simpa [Value.ownBlock] using hg'
      exact ⟨_, List.mem_singleton.2 rfl⟩
/-- A row of the document's is stored. -/
theorem HS.store {w : World} {F : List (Nat × Obj)} {cb mk mb n B : Nat} {now : Int} {L : List Pr} {T T2 : Int} {v v2 : Value} {L' L2 : List Pr} {V : World} (h : HS w F cb mk mb n now L T v L' V) (O : OwR 45 2 encD B V v2 L2) (hF : ∀ g, v2.ownBlock = some g → ∃ o, (g, o) ∈ F) : HS w F cb mk mb n now L T2 v2 L2 ((V.setCell ⟨mb, 0, none⟩ (.int .i64 T2)).setCell ⟨mb, 1, none⟩ v2) := by
  obtain ⟨⟨X, C, x1, x2, x3, x4⟩, d, ⟨a, c, hv, r⟩, hf⟩ := h
  obtain ⟨a2, c2, hv2, r2, hb2⟩ := O.rd ED
  have oth : ∀ k, k ≠ mb → ((V.setCell ⟨mb, 0, none⟩ (.int .i64 T2)).setCell ⟨mb, 1, none⟩ v2).heap[k]? = V.heap[k]? := fun k hk => (blk_oth hk).trans (blk_oth hk)
  have C2 := C.turn (V := (V.setCell ⟨mb, 0, none⟩ (.int .i64 T2)).setCell ⟨mb, 1, none⟩ v2) x4 (((CX.refl _ _).set x1 _).set x1 _)
  refine ⟨⟨X, C2, x1, fun g hg => ?_, x3, x4⟩, blk_set (o := 1) (v := v2) (blk_set (o := 0) (v := .int .i64 T2) (show V.heap[mb]? = _ from d)), ⟨a2, c2, hv2, r2.move fun g off e _ => oth g ?_⟩, fun p hp => ⟨(oth p.1 (hf p hp).2).trans (hf p hp).1, (hf p hp).2⟩⟩
  · obtain ⟨o, ho⟩ := hF g hg
    exact x3 _ ho
  · obtain ⟨o, ho⟩ := hF g (hb2 g off e).2.2
    exact (hf _ ho).2
theorem HS.start {w W : World} {cb mk : Nat} (C : CB w (fun _ => False) cb mk 0 0 [] W) : HS w [] cb mk W.heap.size 0 0 [] 0 (.slice none 0 0) [] (W.alloc (.cells #[.int .i64 0, .slice none 0 0] 28)) := by
  have sz := C.be.size
  refine ⟨⟨_, C.more ((Below.refl _ _).alloc (Nat.le_refl _) _), .inr ⟨Nat.le_refl _, by simp⟩, fun g hg => (by cases hg), fun p hp => (by cases hp), fun k hk => ?_⟩, tblk_new _ _, ⟨none, 0, rfl, RdR.emp _ _ _⟩, fun p hp => by cases hp⟩
  rcases hk with e | e
  · exact e.elim
  · omega
theorem HS.be {w : World} {F : List (Nat × Obj)} {cb mk mb n : Nat} {now : Int} {L : List Pr} {T : Int} {v : Value} {L' : List Pr} {W : World} (h : HS w F cb mk mb n now L T v L' W) : Below w.heap.size w W := by
  obtain ⟨⟨X, C, _⟩, _⟩ := h
  exact C.be
theorem HS.bd {w : World} {F : List (Nat × Obj)} {cb mk mb n : Nat} {now : Int} {L : List Pr} {T : Int} {v : Value} {L' : List Pr} {W : World} (h : HS w F cb mk mb n now L T v L' W) : 0 ≤ now ∧ now ≤ 1099511627776 ∧ L.length ≤ n := by
  obtain ⟨⟨X, ⟨S, C, _⟩, _⟩, _⟩ := h
  exact ⟨C.n0, C.n1, C.ln⟩
theorem HS.next {w : World} {F : List (Nat × Obj)} {cb mk mb n : Nat} {now : Int} {L : List Pr} {T : Int} {v : Value} {L' : List Pr} {W : World} (h : HS w F cb mk mb n now L T v L' W) (t : Int) (b : Bool) (hN : nextL L = (t, b)) : Calls Try.prog 16 #[.pointer (some ⟨cb, 0, none⟩)] W fun e w' => e = .returned (.tuple #[.int .i64 t, .bool b]) ∧ W = w' := by
  obtain ⟨⟨X, C, _⟩, _⟩ := h
  exact C.next t b hN
theorem HS.drewN {w : World} {F : List (Nat × Obj)} {cb mk mb n : Nat} {now : Int} {L : List Pr} {T : Int} {v : Value} {L' : List Pr} {W : World} (h : HS w F cb mk mb n now L T v L' W) (k : Nat) : HS w F cb mk mb n now L T v L' (W.drewN k) := h.bel ⟨rfl, rfl, rfl, Nat.le_refl _, fun _ _ => rfl⟩
theorem HS.time {w : World} {F : List (Nat × Obj)} {cb mk mb n : Nat} {now : Int} {L : List Pr} {T : Int} {v : Value} {L' : List Pr} {W : World} (h : HS w F cb mk mb n now L T v L' W) : ∀ k, Calls Try.prog 17 #[.pointer (some ⟨cb, 0, none⟩)] (W.drewN k) fun e w' => e = .returned (.int .i64 now) ∧ w' = W.drewN k := fun k => by
  obtain ⟨⟨X, C, _⟩, _⟩ := h.drewN k
  exact C.time.mono fun e w' h => ⟨h.1, h.2.symm⟩
theorem pass15_any (now n T : Int) (h0 : 0 ≤ now) (h1 : now ≤ 1099511627776) (hT : now + min (max n 0) (1099511627776 - now) = T) (L : List Pr) (a : Option Addr) (c : Nat) (w : World) (hL : RdR 2 encD w a c L) (hl : L.length ≤ 900000) :
    Calls Try.prog 9 #[.agg #[.int .i64 now, .slice a L.length c], .int .i64 n] w fun e w' => ∃ vr vo, e = .returned (.tuple #[.agg #[.int .i64 T, vr], vo]) ∧ OwR 45 2 encD w.heap.size w' vr (passR T L) ∧ OwR 3 1 encI w.heap.size w' vo (passI T L) ∧ Below w.heap.size w w' := by
  have hb : btwN n 0 1099511627776 = min (max n 0) 1099511627776 := by unfold btwN; split <;> (try split) <;> omega
  have hw : IntKind.i64.wrap (now + btwN n 0 1099511627776) = now + btwN n 0 1099511627776 := by rw [IntKind.wrap_i64, hb]; omega
  by_cases hs : 1099511627776 < now + btwN n 0 1099511627776
  · obtain rfl : T = 1099511627776 := by rw [hb] at hs; omega
    exact pass15_hi now n _ _ L a c w hL hl rfl hw (decide_eq_true hs)
  · obtain rfl : T = now + btwN n 0 1099511627776 := by rw [hb] at hs ⊢; omega
    exact pass15_lo now n _ _ L a c w hL hl rfl hw (decide_eq_false hs)
theorem set15_any (now id t u : Int) (hu : min t 1099511627776 = u) (L : List Pr) (a : Option Addr) (c : Nat) (w : World) (hL : RdR 2 encD w a c L) (hl : L.length ≤ 900000) :
    Calls Try.prog 13 #[.agg #[.int .i64 now, .slice a L.length c], .int .i64 id, .int .i64 t] w fun e w' => ∃ v, e = .returned (.agg #[.int .i64 now, v]) ∧ OwR 45 2 encD w.heap.size w' v (insL (id, u) (offL id L)) ∧ Below w.heap.size w w' := by
  by_cases hs : 1099511627776 < t
  · obtain rfl : u = 1099511627776 := by omega
    exact set15_hi now L a c id t w hL hl (decide_eq_true hs)
  · obtain rfl : u = t := by omega
    exact set15_lo now L a c id u w hL hl (decide_eq_false hs)
end Go.Proofs.Ytofnnphpogpcdaa
