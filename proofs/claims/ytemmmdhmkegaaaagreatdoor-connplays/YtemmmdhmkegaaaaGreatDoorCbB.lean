/- Texts that the proof leans on, one behind the other: OpC CnZ PlS PlT PlE -/
import Derived.Test.YtemmmdhmkegaaaaGreatDoorCb2
import Derived.Test.YtemmmdhmkegaaaaGreatDoorCb8
import Derived.Deep.Slices
import Derived.Deep.SlicePairs
import Derived.Test.YtemmmdhmkegaaaaGreatDoorCbA
import Derived.Test.YtemmmdhmkegaaaaGreatDoorCb5
import Derived.Deep.CutBlock
import Derived.Deep.RegionHeld3
import Derived.Deep.Cut
/- ConnPlays: the calls that came in. -/
namespace Go.Proofs.YtemmmdhmkegaaaaGreatDoor
open Go.ChangeShapes Go.WideShapes Go.ChangeAt Go.RowKit
set_option linter.unusedVariables false

structure Op18 where
  k : Int
  n : Int
  b : List UInt8
  l : Bool
def Op18At (w : World) (b o : Nat) (x : Op18) : Prop := ∃ xa xc kx, w.cell? ⟨b, o, none⟩ = some (.int .i64 x.k) ∧ w.cell? ⟨b, o + 1, none⟩ = some (.int .i64 x.n) ∧ w.cell? ⟨b, o + 2, none⟩ = some (.slice xa x.b.length xc) ∧ w.cell? ⟨b, o + 3, none⟩ = some (.bool x.l) ∧ Src w kx (.slice xa x.b.length xc) x.b ∧ (0 < x.b.length → kx < w.heap.size)
def Ops18 (w : World) (a : Option Addr) (len : Nat) : Prop := len ≤ maxLen ∧ (0 < len → ∃ b off, a = some ⟨b, off, none⟩ ∧ b < w.heap.size ∧ ∀ i, i < len → ∃ x, Op18At w b (off + i * 4) x)
theorem cells_op18 : Tryz.prog.cellsOf 37 = 4 := by kernel_rfl
theorem cells_bytesC : Tryz.prog.cellsOf 31 = 1 := by kernel_rfl
theorem cells_intC : Tryz.prog.cellsOf 3 = 1 := by kernel_rfl
theorem cells_boolC : Tryz.prog.cellsOf 4 = 1 := by kernel_rfl
set_option maxRecDepth 100000 in
theorem open_ops18 {H : Type} {enc : TypeId × Value → H} {w : World} {base : Nat} {held : Bool} {a : Option Addr} {len cap : Nat} {x : DataW H × List MemPlace}
    (h : ∃ fuel, DataW.trod enc Tryz.prog w base (fun _ => true) held fuel 22 (Value.slice a len cap).cells.toList = some x) : Ops18 w a len := by
  obtain ⟨fuel, hf⟩ := h
  rcases Go.Deep.open_slice Tryz.underlying22 hf with ⟨hcs, hx⟩ | ⟨ad, l, c, m, n, D, Pl, hcs, hb, hl, hm, hmm, hx, hc⟩
  · simp [Value.cells] at hcs
    obtain ⟨rfl, rfl, rfl⟩ := hcs
    exact ⟨Nat.zero_le _, fun h => absurd h (Nat.lt_irrefl _)⟩
  · simp [Value.cells] at hcs
    obtain ⟨rfl, rfl, rfl⟩ := hcs
    have hmm' : m = cap := by simpa using hmm
    subst hmm'
    have each : ∀ i, i < len → ∃ q : Op18, ∃ xa xc kx, w.cell? (ad.add (i * 4)) = some (.int .i64 q.k) ∧ w.cell? (ad.add (i * 4 + 1)) = some (.int .i64 q.n) ∧ w.cell? (ad.add (i * 4 + 2)) = some (.slice xa q.b.length xc) ∧ w.cell? (ad.add (i * 4 + 3)) = some (.bool q.l) ∧ Src w kx (.slice xa q.b.length xc) q.b ∧ (0 < q.b.length → kx < w.heap.size) := by
      intro i hi
      obtain ⟨cs', h1, h2⟩ := hc i (by omega)
      rw [cells_op18] at h1
      obtain ⟨_, hlen, hcell⟩ := World.cells?_some h1
      obtain ⟨xs, k, hk, hxy, _, hxl, hf⟩ := DataW.trod_struct Tryz.underlying37 h2
      match xs, hxl, cs', hlen with
      | [y0, y1, y2, y3], _, [v0, v1, v2, v3], _ =>
        have g0 := hf 0 _ rfl
        have g1 := hf 1 _ rfl
        have g2 := hf 2 _ rfl
        have g3 := hf 3 _ rfl
        simp [cells_intC, cells_bytesC, cells_boolC] at g0 g1 g2 g3
        have e0 := hcell 0 (by omega)
        have e1 := hcell 1 (by omega)
        have e2 := hcell 2 (by omega)
        have e3 := hcell 3 (by omega)
        rw [Go.Deep.add_add] at e0 e1 e2 e3
        obtain ⟨z0, a0, b0, hz0⟩ := DataW.trod_int Tryz.underlying3 g0
        obtain ⟨z1, a1, b1, hz1⟩ := DataW.trod_int Tryz.underlying3 g1
        obtain ⟨z3, a3, b3⟩ := DataW.trod_bool Tryz.underlying4 g3
        have a0' : v0 = .int .i64 z0 := by simpa using a0
        have a1' : v1 = .int .i64 z1 := by simpa using a1
        have a3' : v3 = .bool z3 := by simpa using a3
        subst a0' a1' a3'
        obtain ⟨xa, xl, xc, hv2⟩ : ∃ xa xl xc, v2 = .slice xa xl xc := by
          rcases DataW.trod_slice Tryz.underlying31 g2 with ⟨hcs, _⟩ | ⟨a', l', c', _, _, _, _, hcs, _⟩
          · exact ⟨none, 0, 0, by simpa using hcs⟩
          · exact ⟨some a', l', c', by simpa using hcs⟩
        subst hv2
        obtain ⟨kb, bs, hS, hkS, hnS⟩ := open_bytes (a := xa) (len := xl) (cap := xc) ⟨_, g2⟩
        have hxl2 := hS.len.1
        subst hxl2
        exact ⟨⟨z0, z1, bs, z3⟩, xa, xc, kb, by simpa using e0, by simpa using e1, by simpa using e2, by simpa using e3, hS, hkS⟩
    refine ⟨by omega, fun hp => ?_⟩
    obtain ⟨q0, _, _, _, hc0, _⟩ := each 0 hp
    obtain ⟨b, off, spot⟩ := ad
    have hspot : spot = none := by simpa [Addr.add] using World.cell?_spot hc0
    subst hspot
    refine ⟨b, off, rfl, ?_, fun j hj => ?_⟩
    · have := cell_lt hc0
      rwa [addr_add] at this
    · obtain ⟨q, xa, xc, kx, k0, k1, k2, k3, k5, k6⟩ := each j hj
      rw [addr_add] at k0 k1 k2 k3
      exact ⟨q, xa, xc, kx, k0, by rw [Nat.add_assoc]; exact k1, by rw [Nat.add_assoc]; exact k2, by rw [Nat.add_assoc]; exact k3, k5, k6⟩
end Go.Proofs.YtemmmdhmkegaaaaGreatDoor

/- ConnPlays: the walk. -/
namespace Go.Proofs.YtemmmdhmkegaaaaGreatDoor
open Go.RowKit
set_option linter.unusedVariables false

theorem hidZ {p : Prop} (h : p) : Hid p := h
theorem nine_size {w : World} {b : Nat} (v0 v1 v2 v3 v4 v5 v6 v7 v8 : Value) : (nine w b v0 v1 v2 v3 v4 v5 v6 v7 v8).heap.size = w.heap.size := by unfold nine; simp [World.setCell]
theorem nine_kp {w : World} {b : Nat} (v0 v1 v2 v3 v4 v5 v6 v7 v8 : Value) : Kp (fun k => k = b) w (nine w b v0 v1 v2 v3 v4 v5 v6 v7 v8) := by
  unfold nine
  exact ((((((((Kp.set (T := fun k => k = b) _ _ _ _ rfl).then (Kp.set _ _ _ _ rfl)).then (Kp.set _ _ _ _ rfl)).then (Kp.set _ _ _ _ rfl)).then (Kp.set _ _ _ _ rfl)).then (Kp.set _ _ _ _ rfl)).then (Kp.set _ _ _ _ rfl)).then (Kp.set _ _ _ _ rfl)).then (Kp.set _ _ _ _ rfl)
structure PV (w : World) (rs : List Nat) (b bx : Nat) (m : Int) (s t : Cs) (F : Nat → Prop) (ai : Option Addr) (ci : Nat) (ao : Option Addr) (co : Nat) (h q : Int) (wr : World) : Prop where
  fall : ∀ k, k < w.heap.size → F k
  fcn : Cn F w wr w.heap.size rs [s.li, s.lo] m b 0 s
  fbx : F bx
  fne : bx ≠ b
  flow : w.heap.size ≤ bx
  fcells : wr.heap[bx]? = some (.cells (dv ai t.li.length ci ao t.lo.length co t.win t.bz t.cl t.wt h q m) 35)
  fh : h = ((t.li.length + t.lo.length : Nat) : Int)
  fri : RowK (fun k => F k ∧ k ≠ bx ∧ k ≠ b) wr (.slice ai t.li.length ci) t.li
  fro : RowK (fun k => F k ∧ k ≠ bx ∧ k ≠ b) wr (.slice ao t.lo.length co) t.lo
section
variable {w : World} {rs : List Nat} {b bx : Nat} {m : Int} {s t : Cs} {F : Nat → Prop} {ai ao : Option Addr} {ci co : Nat} {h q : Int} {wr : World}
theorem PV.bel (p : PV w rs b bx m s t F ai ci ao co h q wr) : Below w.heap.size w wr := p.fcn.bel
theorem PV.below {w' : World} (p : PV w rs b bx m s t F ai ci ao co h q wr) (B : Below wr.heap.size wr w') : PV w rs b bx m s t (fun k => F k ∨ (wr.heap.size ≤ k ∧ k < w'.heap.size)) ai ci ao co h q w' :=
  ⟨fun k hk => .inl (p.fall k hk), p.fcn.belowN B, .inl p.fbx, p.fne, p.flow, (B.block _ (heap_lt p.fcells)).trans p.fcells, p.fh, (p.fri.keep B).mono (fun k hk _ => ⟨.inl hk.1, hk.2⟩), (p.fro.keep B).mono (fun k hk _ => ⟨.inl hk.1, hk.2⟩)⟩
theorem PV.db (p : PV w rs b bx m s t F ai ci ao co h q wr) : DB (fun k => (F k ∧ k ≠ bx ∧ k ≠ b) ∨ wr.heap.size ≤ k) wr (.agg (dv ai t.li.length ci ao t.lo.length co t.win t.bz t.cl t.wt h q m)) t m := by
  refine ⟨ai, ci, ao, co, q, ?_, p.fri.mono (fun k hk _ => .inl hk), p.fro.mono (fun k hk _ => .inl hk)⟩
  unfold dagg
  rw [p.fh]
theorem PV.doc {w' : World} {t' : Cs} {v' : Value} (p : PV w rs b bx m s t F ai ci ao co h q wr) (B : Below wr.heap.size wr w') (d : DB (fun k => (F k ∧ k ≠ bx ∧ k ≠ b) ∨ wr.heap.size ≤ k) w' v' t' m) :
    ∃ ai' ci' ao' co' h' q', v' = .agg (dv ai' t'.li.length ci' ao' t'.lo.length co' t'.win t'.bz t'.cl t'.wt h' q' m) ∧
      PV w rs b bx m s t' (fun k => F k ∨ (wr.heap.size ≤ k ∧ k < w'.heap.size)) ai' ci' ao' co' h' q' (nine w' bx (.slice ai' t'.li.length ci') (.slice ao' t'.lo.length co') (.int .i64 t'.win) (.bool t'.bz) (.bool t'.cl) (.bool t'.wt) (.int .i64 h') (.int .i64 q') (.int .i64 m)) := by
  obtain ⟨ai', ci', ao', co', q', rfl, r1, r2⟩ := d
  refine ⟨ai', ci', ao', co', ((t'.li.length + t'.lo.length : Nat) : Int), q', rfl, ?_⟩
  have hbx : bx < wr.heap.size := heap_lt p.fcells
  have hbl : b < wr.heap.size := p.fcn.lt
  have p2 := p.below B
  have hP : ∀ k, ((F k ∧ k ≠ bx ∧ k ≠ b) ∨ wr.heap.size ≤ k) → k < w'.heap.size → (F k ∨ (wr.heap.size ≤ k ∧ k < w'.heap.size)) ∧ k ≠ bx ∧ k ≠ b := by
    intro k hk hl
    rcases hk with c | c
    · exact ⟨.inl c.1, c.2⟩
    · exact ⟨.inr ⟨c, hl⟩, by omega, by omega⟩
  have row : ∀ {v : Value} {X : List UInt8}, RowK (fun k => (F k ∧ k ≠ bx ∧ k ≠ b) ∨ wr.heap.size ≤ k) w' v X → RowK (fun k => (F k ∨ (wr.heap.size ≤ k ∧ k < w'.heap.size)) ∧ k ≠ bx ∧ k ≠ b) (nine w' bx (.slice ai' t'.li.length ci') (.slice ao' t'.lo.length co') (.int .i64 t'.win) (.bool t'.bz) (.bool t'.cl) (.bool t'.wt) (.int .i64 ((t'.li.length + t'.lo.length : Nat) : Int)) (.int .i64 q') (.int .i64 m)) v X := by
    intro v X r
    exact (r.mono hP).away (fun k hk _ => nine_away hk.2.1) (Nat.le_of_eq (nine_size _ _ _ _ _ _ _ _ _).symm)
  exact ⟨p2.fall, p2.fcn.step (nine_kp _ _ _ _ _ _ _ _ _) (fun j hj => ⟨.inl ⟨hj ▸ p2.fbx, hj ▸ p2.fne⟩, hj ▸ p2.flow⟩) (fun j hj => .inl hj) p2.fcn.own, p2.fbx, p2.fne, p2.flow, nine_cells p2.fcells _ _ _ _ _ _ _ _ _, rfl, row r1, row r2⟩
theorem PV.con {w' : World} {s' : Cs} {F' : Nat → Prop} (p : PV w rs b bx m s t F ai ci ao co h q wr) (A : Aft F F' w wr w' w.heap.size rs [s.li, s.lo] m b 0 s') (hF : ∀ k, F k → F' k) :
    PV w rs b bx m s' t F' ai ci ao co h q w' := by
  obtain ⟨c, hk, hs⟩ := A
  have hbx : bx < wr.heap.size := heap_lt p.fcells
  have row : ∀ {v : Value} {X : List UInt8}, RowK (fun k => F k ∧ k ≠ bx ∧ k ≠ b) wr v X → RowK (fun k => F' k ∧ k ≠ bx ∧ k ≠ b) w' v X := by
    intro v X r
    obtain ⟨k, z, sr⟩ := r
    rcases Nat.eq_zero_or_pos X.length with e | e
    · obtain ⟨a, c', e1, h1, h2, h3⟩ := sr
      exact ⟨k, fun q => by omega, a, c', e1, h1, h2, fun q => by omega⟩
    · exact ⟨k, fun q => ⟨⟨hF k (z q).1.1, (z q).1.2⟩, Nat.lt_of_lt_of_le (z q).2 hs⟩, sr.frame (hk k (z e).1.1 (z e).1.2.2)⟩
  exact ⟨fun k hl => hF k (p.fall k hl), c, hF bx p.fbx, p.fne, p.flow, (hk bx p.fbx p.fne).trans p.fcells, p.fh, row p.fri, row p.fro⟩
end
end Go.Proofs.YtemmmdhmkegaaaaGreatDoor

/- ConnPlays: the calls of each kind, of the connection and of the document beside it. -/
namespace Go.Proofs.YtemmmdhmkegaaaaGreatDoor
open Go.RowKit
set_option linter.unusedVariables false

theorem tot2P (a c : List UInt8) : tot [a, c] = a.length + c.length := by simp [tot]
theorem src_rowP {W : World} {g n : Nat} {l : List UInt8} {fz : Nat × Nat} (h : W.heap[g]? = some (.cells (rowB l).toArray 5 fz)) (hl : l.length = n) (hm : n ≤ maxLen) : Src W g (.slice (some ⟨g, 0, none⟩) n n) l := by
  subst hl
  refine ⟨_, _, rfl, Nat.le_refl _, hm, fun _ => ⟨0, rfl, fun j hj => ?_⟩⟩
  have e : (rowB l).toArray[0 + j]? = some (bv l[j]) := by
    rw [Nat.zero_add, List.getElem?_toArray]
    unfold rowB
    rw [List.getElem?_map, List.getElem?_eq_getElem hj]; rfl
  unfold World.cell?
  rw [h]
  exact e
section
variable {w : World} {rs : List Nat} {b bx : Nat} {m : Int} {s t : Cs} {F : Nat → Prop} {ai ao : Option Addr} {ci co : Nat} {h q : Int} {wr : World}
theorem PV.fit (p : PV w rs b bx m s t F ai ci ao co h q wr) : Fit s m := by
  have h1 := p.fcn.fit
  rw [tot2P] at h1
  have h2 := p.fcn.top
  exact ⟨h1, h2, by omega, p.fcn.win⟩
theorem PV.srcs {k : Nat} {v : Value} {Y : List UInt8} (p : PV w rs b bx m s t F ai ci ao co h q wr) (hs : Src w k v Y) (hk : 0 < Y.length → k < w.heap.size) : ∃ j, F j ∧ j ≠ b ∧ Src wr j v Y := by
  obtain ⟨j, hj, sj⟩ := (hs.keep hk p.bel).any (g := bx) (B := w.heap.size) hk
  have hlo := p.fcn.lo0
  rcases hj with c | rfl
  · exact ⟨j, p.fall j c, by omega, sj⟩
  · exact ⟨j, p.fbx, p.fne, sj⟩
theorem pv_feed {k : Nat} {v : Value} {Y : List UInt8} (p : PV w rs b bx m s t F ai ci ao co h q wr) (hs : Src w k v Y) (hk : 0 < Y.length → k < w.heap.size) :
    Calls Tryz.prog 14 #[.pointer (some ⟨b, 0, none⟩), v] wr fun e w' => e = .returned (.bool (feedS s (s.li.length + s.lo.length) m Y).2) ∧ PV w rs b bx m (feedS s (s.li.length + s.lo.length) m Y).1 t F ai ci ao co h q w' := by
  obtain ⟨j, f1, _, sj⟩ := p.srcs hs hk
  have c := cofeed_any p.fcn j Y v sj f1
  rw [tot2P] at c
  exact c.mono fun e w' ⟨q1, q2⟩ => ⟨q1, p.con q2 (fun _ c => c)⟩
theorem pv_note {k : Nat} {v : Value} {Y : List UInt8} (p : PV w rs b bx m s t F ai ci ao co h q wr) (hs : Src w k v Y) (hk : 0 < Y.length → k < w.heap.size) :
    Calls Tryz.prog 23 #[.pointer (some ⟨b, 0, none⟩), v] wr fun e w' => e = .returned (.bool (noteS s (s.li.length + s.lo.length) m Y).2) ∧ PV w rs b bx m (noteS s (s.li.length + s.lo.length) m Y).1 t F ai ci ao co h q w' := by
  obtain ⟨j, f1, _, sj⟩ := p.srcs hs hk
  have c := conote_any p.fcn j Y v sj f1
  rw [tot2P] at c
  exact c.mono fun e w' ⟨q1, q2⟩ => ⟨q1, p.con q2 (fun _ c => c)⟩
theorem pv_say {k : Nat} {v : Value} {Y : List UInt8} (last : Bool) (p : PV w rs b bx m s t F ai ci ao co h q wr) (hs : Src w k v Y) (hk : 0 < Y.length → k < w.heap.size) :
    Calls Tryz.prog 21 #[.pointer (some ⟨b, 0, none⟩), v, .bool last] wr fun e w' => e = .returned (.bool (sayS s (s.li.length + s.lo.length) m Y last).2) ∧ PV w rs b bx m (sayS s (s.li.length + s.lo.length) m Y last).1 t F ai ci ao co h q w' := by
  obtain ⟨j, f1, f2, sj⟩ := p.srcs hs hk
  have c := cosay_any p.fcn j Y v last sj f1 f2
  rw [tot2P] at c
  exact c.mono fun e w' ⟨q1, q2⟩ => ⟨q1, p.con q2 (fun _ c => c)⟩
theorem pv_window (n : Int) (p : PV w rs b bx m s t F ai ci ao co h q wr) :
    Calls Tryz.prog 25 #[.pointer (some ⟨b, 0, none⟩), .int .i64 n] wr fun e w' => e = .returned (.tuple #[]) ∧ PV w rs b bx m (windowS s n) t F ai ci ao co h q w' :=
  (cowindow_any p.fcn n).mono fun e w' ⟨q1, q2⟩ => ⟨q1, p.con q2 (fun _ c => c)⟩
theorem pv_drop (p : PV w rs b bx m s t F ai ci ao co h q wr) :
    Calls Tryz.prog 30 #[.pointer (some ⟨b, 0, none⟩)] wr fun e w' => e = .returned (.tuple #[]) ∧ PV w rs b bx m (dropS s) t F ai ci ao co h q w' :=
  (codrop_any p.fcn).mono fun e w' ⟨q1, q2⟩ => ⟨q1, p.con q2 (fun _ c => c)⟩
theorem pv_waits (p : PV w rs b bx m s t F ai ci ao co h q wr) (hM : MaxL w) :
    Calls Tryz.prog 19 #[.pointer (some ⟨b, 0, none⟩)] wr fun e w' => e = .returned (.bool (waitS s).2) ∧ PV w rs b bx m (waitS s).1 t F ai ci ao co h q w' :=
  (cowaits_all p.fcn (by have := p.fit.len; omega) (hM.below p.bel)).mono fun e w' ⟨q1, q2⟩ => ⟨q1, p.con q2 (fun _ c => c)⟩
def Kept (F : Nat → Prop) (b : Nat) (u v : World) : Prop := (∀ k, F k → k ≠ b → v.heap[k]? = u.heap[k]?) ∧ u.heap.size ≤ v.heap.size
theorem pv_next (p : PV w rs b bx m s t F ai ci ao co h q wr) (hM : MaxL w) :
    Calls Tryz.prog 16 #[.pointer (some ⟨b, 0, none⟩)] wr fun e w' => ∃ fa ba fc bc, e = .returned (.tuple #[rqV18 (nextS s).2.1 fa ba fc bc, .int .i64 (nextS s).2.2]) ∧
      OwnF wr.heap.size w' (.slice fa (nextS s).2.1.fs.length fc) (nextS s).2.1.fs ∧ Own wr.heap.size w' (.slice ba (nextS s).2.1.body.length bc) (nextS s).2.1.body ∧ PV w rs b bx m (nextS s).1 t F ai ci ao co h q w' ∧ Kept F b wr w' :=
  (conext_all p.fcn (by have := p.fit.len; omega) (hM.below p.bel)).mono fun e w' ⟨fa, ba, fc, bc, q1, q2, q3, q4⟩ => ⟨fa, ba, fc, bc, q1, q2, q3, p.con q4 (fun _ c => c), q4.2⟩
theorem pv_write (n : Int) (p : PV w rs b bx m s t F ai ci ao co h q wr) :
    Calls Tryz.prog 28 #[.pointer (some ⟨b, 0, none⟩), .int .i64 n] wr fun e w' => ∃ g, e = .returned (.slice (some ⟨g, 0, none⟩) (writeN s n) (writeN s n)) ∧ Src w' g (.slice (some ⟨g, 0, none⟩) (writeN s n) (writeN s n)) (s.lo.take (writeN s n)) ∧
      PV w rs b bx m (writeS s n) t (fun k => F k ∨ k = g) ai ci ao co h q w' ∧ Kept F b wr w' := by
  have hn := writeN_le s n p.fcn.win.1
  have hl := p.fit.len
  refine (cowrite_any p.fcn n).mono fun e w' ⟨g, q1, q2, q3, q4⟩ => ⟨g, q1, src_rowP q3 (by simp; omega) (by unfold maxLen; omega), p.con q4 (fun _ c => .inl c), q4.2⟩
theorem PV.away {w' w'' : World} {v0 v1 v2 v3 v4 v5 v6 v7 v8 : Value} (p : PV w rs b bx m s t F ai ci ao co h q wr)
    (K : Kept (fun k => F k ∨ (wr.heap.size ≤ k ∧ k < w'.heap.size)) b (nine w' bx v0 v1 v2 v3 v4 v5 v6 v7 v8) w'') : ∀ k, ((F k ∧ k ≠ bx ∧ k ≠ b) ∨ wr.heap.size ≤ k) → k < w'.heap.size → w''.heap[k]? = w'.heap[k]? := by
  intro k hk hl
  have hbx : bx < wr.heap.size := heap_lt p.fcells
  have hbl : b < wr.heap.size := p.fcn.lt
  rcases hk with c | c
  · exact (K.1 k (.inl c.1) c.2.2).trans (nine_away c.2.1)
  · exact (K.1 k (.inr ⟨c, hl⟩) (by omega)).trans (nine_away (by omega))
theorem pv_same {w' w'' : World} {v0 v1 v2 v3 v4 v5 v6 v7 v8 : Value} {r : Rd} {fa ba fa' ba' : Option Addr} {fc bc fc' bc' : Nat} (p : PV w rs b bx m s t F ai ci ao co h q wr)
    (K : Kept (fun k => F k ∨ (wr.heap.size ≤ k ∧ k < w'.heap.size)) b (nine w' bx v0 v1 v2 v3 v4 v5 v6 v7 v8) w'')
    (d1 : OwnF wr.heap.size w' (.slice fa r.fs.length fc) r.fs) (d2 : Own wr.heap.size w' (.slice ba r.body.length bc) r.body)
    (c1 : OwnF (nine w' bx v0 v1 v2 v3 v4 v5 v6 v7 v8).heap.size w'' (.slice fa' r.fs.length fc') r.fs) (c2 : Own (nine w' bx v0 v1 v2 v3 v4 v5 v6 v7 v8).heap.size w'' (.slice ba' r.body.length bc') r.body) :
    Calls Tryz.prog 17 #[rqV18 r fa' ba' fc' bc', rqV18 r fa ba fc bc] w'' fun e v => e = .returned (.bool true) ∧ Below w''.heap.size w'' v := by
  have hk := p.away K
  have hs : w'.heap.size ≤ w''.heap.size := by have := K.2; rwa [nine_size] at this
  have f1 := (d1.kept (fun k a b => hk k (.inr a) b)).fds
  obtain ⟨k1, s1, l1⟩ := d2.src
  obtain ⟨k2, s2, l2⟩ := c2.src
  have f2 := c1.fds
  have s1' : Src w'' k1 (.slice ba r.body.length bc) r.body := by
    rcases Nat.eq_zero_or_pos r.body.length with e | e
    · obtain ⟨a, c', e1, h1, h2, h3⟩ := s1
      exact ⟨a, c', e1, h1, h2, fun q => by omega⟩
    · exact s1.frame (hk k1 (.inr (l1 e).1) (l1 e).2)
  exact samereq_eq r.m r.t r.minor r.fs r.body fa' fa ba' ba fc' fc bc' bc k2 k1 w'' f2 f1 s2 (fun e => (l2 e).2) s1' (fun e => Nat.lt_of_lt_of_le (l1 e).2 hs)
theorem pv_bytes {w' w'' : World} {v0 v1 v2 v3 v4 v5 v6 v7 v8 : Value} {X : List UInt8} {v v' : Value} {g : Nat} (p : PV w rs b bx m s t F ai ci ao co h q wr)
    (K : Kept (fun k => F k ∨ (wr.heap.size ≤ k ∧ k < w'.heap.size)) b (nine w' bx v0 v1 v2 v3 v4 v5 v6 v7 v8) w'')
    (d : RowK (fun k => (F k ∧ k ≠ bx ∧ k ≠ b) ∨ wr.heap.size ≤ k) w' v X) (c : Src w'' g v' X) :
    Calls Tryz.prog 27 #[v', v] w'' fun e u => e = .returned (.bool true) ∧ Below w''.heap.size w'' u := by
  obtain ⟨k, z, sr⟩ := d
  have hk := p.away K
  have s1 : Src w'' k v X := by
    rcases Nat.eq_zero_or_pos X.length with e | e
    · obtain ⟨a, c', e1, h1, h2, h3⟩ := sr
      exact ⟨a, c', e1, h1, h2, fun q => by omega⟩
    · exact sr.frame (hk k (z e).1 (z e).2)
  exact sameBytes_eq X g k v' v w'' c s1
theorem PV.docs {w' : World} {t' : Cs} {v' : Value} (p : PV w rs b bx m s t F ai ci ao co h q wr) (B : Below wr.heap.size wr w') (d : DB (fun k => (F k ∧ k ≠ bx ∧ k ≠ b) ∨ wr.heap.size ≤ k) w' v' t' m) :
    ∃ a1 c1 a2 c2 h1 q1, v' = .agg #[.slice a1 t'.li.length c1, .slice a2 t'.lo.length c2, .int .i64 t'.win, .bool t'.bz, .bool t'.cl, .bool t'.wt, .int .i64 h1, .int .i64 q1, .int .i64 m] ∧ PV w rs b bx m s t' (fun k => F k ∨ (wr.heap.size ≤ k ∧ k < w'.heap.size)) a1 c1 a2 c2 h1 q1 (nine w' bx (.slice a1 t'.li.length c1) (.slice a2 t'.lo.length c2) (.int .i64 t'.win) (.bool t'.bz) (.bool t'.cl) (.bool t'.wt) (.int .i64 h1) (.int .i64 q1) (.int .i64 m)) := p.doc B d
theorem PV.cells (p : PV w rs b bx m s t F ai ci ao co h q wr) : wr.heap[bx]? = some (.cells #[.slice ai t.li.length ci, .slice ao t.lo.length co, .int .i64 t.win, .bool t.bz, .bool t.cl, .bool t.wt, .int .i64 h, .int .i64 q, .int .i64 m] 35) := p.fcells
theorem pvd_feed {s1 : Cs} {z1 : Bool} {k nY xc : Nat} {xa : Option Addr} {Y : List UInt8} (p : PV w rs b bx m s s F ai ci ao co h q wr) (hs : Src w k (.slice xa nY xc) Y) (hk : 0 < Y.length → k < w.heap.size) (hf : feedS s (s.li.length + s.lo.length) m Y = (s1, z1)) :
    Calls Tryz.prog 13 #[.agg #[.slice ai s.li.length ci, .slice ao s.lo.length co, .int .i64 s.win, .bool s.bz, .bool s.cl, .bool s.wt, .int .i64 h, .int .i64 q, .int .i64 m], .slice xa nY xc] wr fun e w' => ∃ a1 c1 a2 c2 h1 q1 F1, e = .returned (.tuple #[.agg #[.slice a1 s1.li.length c1, .slice a2 s1.lo.length c2, .int .i64 s1.win, .bool s1.bz, .bool s1.cl, .bool s1.wt, .int .i64 h1, .int .i64 q1, .int .i64 m], .bool z1]) ∧ Below wr.heap.size wr w' ∧ PV w rs b bx m s s1 F1 a1 c1 a2 c2 h1 q1 (nine w' bx (.slice a1 s1.li.length c1) (.slice a2 s1.lo.length c2) (.int .i64 s1.win) (.bool s1.bz) (.bool s1.cl) (.bool s1.wt) (.int .i64 h1) (.int .i64 q1) (.int .i64 m)) := by
  have c := db_feed p.db p.fit (fun k hk => .inr hk) (hs.keep hk p.bel) (fun z => Nat.lt_of_lt_of_le (hk z) p.bel.size) (by have := hs.len; unfold maxLen at this; omega)
  rw [hf] at c
  exact c.mono fun e w' ⟨v', e1, d, B⟩ => by
    obtain ⟨a1, c1, a2, c2, h1, q1, rfl, k⟩ := p.docs B d
    exact ⟨a1, c1, a2, c2, h1, q1, _, e1, B, k⟩
theorem pvd_note {s1 : Cs} {z1 : Bool} {k nY xc : Nat} {xa : Option Addr} {Y : List UInt8} (p : PV w rs b bx m s s F ai ci ao co h q wr) (hs : Src w k (.slice xa nY xc) Y) (hk : 0 < Y.length → k < w.heap.size) (hf : noteS s (s.li.length + s.lo.length) m Y = (s1, z1)) :
    Calls Tryz.prog 22 #[.agg #[.slice ai s.li.length ci, .slice ao s.lo.length co, .int .i64 s.win, .bool s.bz, .bool s.cl, .bool s.wt, .int .i64 h, .int .i64 q, .int .i64 m], .slice xa nY xc] wr fun e w' => ∃ a1 c1 a2 c2 h1 q1 F1, e = .returned (.tuple #[.agg #[.slice a1 s1.li.length c1, .slice a2 s1.lo.length c2, .int .i64 s1.win, .bool s1.bz, .bool s1.cl, .bool s1.wt, .int .i64 h1, .int .i64 q1, .int .i64 m], .bool z1]) ∧ Below wr.heap.size wr w' ∧ PV w rs b bx m s s1 F1 a1 c1 a2 c2 h1 q1 (nine w' bx (.slice a1 s1.li.length c1) (.slice a2 s1.lo.length c2) (.int .i64 s1.win) (.bool s1.bz) (.bool s1.cl) (.bool s1.wt) (.int .i64 h1) (.int .i64 q1) (.int .i64 m)) := by
  have c := db_note p.db p.fit (fun k hk => .inr hk) (hs.keep hk p.bel) (fun z => Nat.lt_of_lt_of_le (hk z) p.bel.size) (by have := hs.len; unfold maxLen at this; omega)
  rw [hf] at c
  exact c.mono fun e w' ⟨v', e1, d, B⟩ => by
    obtain ⟨a1, c1, a2, c2, h1, q1, rfl, k⟩ := p.docs B d
    exact ⟨a1, c1, a2, c2, h1, q1, _, e1, B, k⟩
theorem pvd_say {s1 : Cs} {z1 : Bool} {k nY xc : Nat} {xa : Option Addr} {Y : List UInt8} {last : Bool} (p : PV w rs b bx m s s F ai ci ao co h q wr) (hs : Src w k (.slice xa nY xc) Y) (hk : 0 < Y.length → k < w.heap.size) (hf : sayS s (s.li.length + s.lo.length) m Y last = (s1, z1)) :
    Calls Tryz.prog 20 #[.agg #[.slice ai s.li.length ci, .slice ao s.lo.length co, .int .i64 s.win, .bool s.bz, .bool s.cl, .bool s.wt, .int .i64 h, .int .i64 q, .int .i64 m], .slice xa nY xc, .bool last] wr fun e w' => ∃ a1 c1 a2 c2 h1 q1 F1, e = .returned (.tuple #[.agg #[.slice a1 s1.li.length c1, .slice a2 s1.lo.length c2, .int .i64 s1.win, .bool s1.bz, .bool s1.cl, .bool s1.wt, .int .i64 h1, .int .i64 q1, .int .i64 m], .bool z1]) ∧ Below wr.heap.size wr w' ∧ PV w rs b bx m s s1 F1 a1 c1 a2 c2 h1 q1 (nine w' bx (.slice a1 s1.li.length c1) (.slice a2 s1.lo.length c2) (.int .i64 s1.win) (.bool s1.bz) (.bool s1.cl) (.bool s1.wt) (.int .i64 h1) (.int .i64 q1) (.int .i64 m)) := by
  have c := db_say last p.db p.fit (fun k hk => .inr hk) (hs.keep hk p.bel) (fun z => Nat.lt_of_lt_of_le (hk z) p.bel.size) (by have := hs.len; unfold maxLen at this; omega)
  rw [hf] at c
  exact c.mono fun e w' ⟨v', e1, d, B⟩ => by
    obtain ⟨a1, c1, a2, c2, h1, q1, rfl, k⟩ := p.docs B d
    exact ⟨a1, c1, a2, c2, h1, q1, _, e1, B, k⟩
theorem pvd_waits {s1 : Cs} {z1 : Bool} (p : PV w rs b bx m s s F ai ci ao co h q wr) (hf : waitS s = (s1, z1)) :
    Calls Tryz.prog 18 #[.agg #[.slice ai s.li.length ci, .slice ao s.lo.length co, .int .i64 s.win, .bool s.bz, .bool s.cl, .bool s.wt, .int .i64 h, .int .i64 q, .int .i64 m]] wr fun e w' => ∃ a1 c1 a2 c2 h1 q1 F1, e = .returned (.tuple #[.agg #[.slice a1 s1.li.length c1, .slice a2 s1.lo.length c2, .int .i64 s1.win, .bool s1.bz, .bool s1.cl, .bool s1.wt, .int .i64 h1, .int .i64 q1, .int .i64 m], .bool z1]) ∧ Below wr.heap.size wr w' ∧ PV w rs b bx m s s1 F1 a1 c1 a2 c2 h1 q1 (nine w' bx (.slice a1 s1.li.length c1) (.slice a2 s1.lo.length c2) (.int .i64 s1.win) (.bool s1.bz) (.bool s1.cl) (.bool s1.wt) (.int .i64 h1) (.int .i64 q1) (.int .i64 m)) := by
  have c := db_waits p.db p.fit
  rw [hf] at c
  exact c.mono fun e w' ⟨v', e1, d, B⟩ => by
    obtain ⟨a1, c1, a2, c2, h1, q1, rfl, k⟩ := p.docs B d
    exact ⟨a1, c1, a2, c2, h1, q1, _, e1, B, k⟩
theorem pvd_window {s1 : Cs} {n : Int} (p : PV w rs b bx m s s F ai ci ao co h q wr) (hf : windowS s n = s1) :
    Calls Tryz.prog 24 #[.agg #[.slice ai s.li.length ci, .slice ao s.lo.length co, .int .i64 s.win, .bool s.bz, .bool s.cl, .bool s.wt, .int .i64 h, .int .i64 q, .int .i64 m], .int .i64 n] wr fun e w' => ∃ a1 c1 a2 c2 h1 q1 F1, e = .returned (.agg #[.slice a1 s1.li.length c1, .slice a2 s1.lo.length c2, .int .i64 s1.win, .bool s1.bz, .bool s1.cl, .bool s1.wt, .int .i64 h1, .int .i64 q1, .int .i64 m]) ∧ Below wr.heap.size wr w' ∧ PV w rs b bx m s s1 F1 a1 c1 a2 c2 h1 q1 (nine w' bx (.slice a1 s1.li.length c1) (.slice a2 s1.lo.length c2) (.int .i64 s1.win) (.bool s1.bz) (.bool s1.cl) (.bool s1.wt) (.int .i64 h1) (.int .i64 q1) (.int .i64 m)) := by
  have c := db_window n p.db p.fit
  rw [hf] at c
  exact c.mono fun e w' ⟨v', e1, d, B⟩ => by
    obtain ⟨a1, c1, a2, c2, h1, q1, rfl, k⟩ := p.docs B d
    exact ⟨a1, c1, a2, c2, h1, q1, _, e1, B, k⟩
theorem pvd_drop {s1 : Cs} (p : PV w rs b bx m s s F ai ci ao co h q wr) (hf : dropS s = s1) :
    Calls Tryz.prog 29 #[.agg #[.slice ai s.li.length ci, .slice ao s.lo.length co, .int .i64 s.win, .bool s.bz, .bool s.cl, .bool s.wt, .int .i64 h, .int .i64 q, .int .i64 m]] wr fun e w' => ∃ a1 c1 a2 c2 h1 q1 F1, e = .returned (.agg #[.slice a1 s1.li.length c1, .slice a2 s1.lo.length c2, .int .i64 s1.win, .bool s1.bz, .bool s1.cl, .bool s1.wt, .int .i64 h1, .int .i64 q1, .int .i64 m]) ∧ Below wr.heap.size wr w' ∧ PV w rs b bx m s s1 F1 a1 c1 a2 c2 h1 q1 (nine w' bx (.slice a1 s1.li.length c1) (.slice a2 s1.lo.length c2) (.int .i64 s1.win) (.bool s1.bz) (.bool s1.cl) (.bool s1.wt) (.int .i64 h1) (.int .i64 q1) (.int .i64 m)) := by
  have c := db_drop p.db p.fit
  rw [hf] at c
  exact c.mono fun e w' ⟨v', e1, d, B⟩ => by
    obtain ⟨a1, c1, a2, c2, h1, q1, rfl, k⟩ := p.docs B d
    exact ⟨a1, c1, a2, c2, h1, q1, _, e1, B, k⟩
theorem pvc_feed {s1 : Cs} {z1 : Bool} {k nY xc : Nat} {xa : Option Addr} {Y : List UInt8} (p : PV w rs b bx m s t F ai ci ao co h q wr) (hs : Src w k (.slice xa nY xc) Y) (hk : 0 < Y.length → k < w.heap.size) (hf : feedS s (s.li.length + s.lo.length) m Y = (s1, z1)) :
    Calls Tryz.prog 14 #[.pointer (some ⟨b, 0, none⟩), .slice xa nY xc] wr fun e w' => e = .returned (.bool z1) ∧ PV w rs b bx m s1 t F ai ci ao co h q w' := by
  have c := pv_feed p hs hk
  rw [hf] at c
  exact c
theorem pvc_note {s1 : Cs} {z1 : Bool} {k nY xc : Nat} {xa : Option Addr} {Y : List UInt8} (p : PV w rs b bx m s t F ai ci ao co h q wr) (hs : Src w k (.slice xa nY xc) Y) (hk : 0 < Y.length → k < w.heap.size) (hf : noteS s (s.li.length + s.lo.length) m Y = (s1, z1)) :
    Calls Tryz.prog 23 #[.pointer (some ⟨b, 0, none⟩), .slice xa nY xc] wr fun e w' => e = .returned (.bool z1) ∧ PV w rs b bx m s1 t F ai ci ao co h q w' := by
  have c := pv_note p hs hk
  rw [hf] at c
  exact c
theorem pvc_say {s1 : Cs} {z1 : Bool} {k nY xc : Nat} {xa : Option Addr} {Y : List UInt8} {last : Bool} (p : PV w rs b bx m s t F ai ci ao co h q wr) (hs : Src w k (.slice xa nY xc) Y) (hk : 0 < Y.length → k < w.heap.size) (hf : sayS s (s.li.length + s.lo.length) m Y last = (s1, z1)) :
    Calls Tryz.prog 21 #[.pointer (some ⟨b, 0, none⟩), .slice xa nY xc, .bool last] wr fun e w' => e = .returned (.bool z1) ∧ PV w rs b bx m s1 t F ai ci ao co h q w' := by
  have c := pv_say last p hs hk
  rw [hf] at c
  exact c
theorem pvc_waits {s1 : Cs} {z1 : Bool} (p : PV w rs b bx m s t F ai ci ao co h q wr) (hM : MaxL w) (hf : waitS s = (s1, z1)) :
    Calls Tryz.prog 19 #[.pointer (some ⟨b, 0, none⟩)] wr fun e w' => e = .returned (.bool z1) ∧ PV w rs b bx m s1 t F ai ci ao co h q w' := by
  have c := pv_waits p hM
  rw [hf] at c
  exact c
theorem pvc_window {s1 : Cs} {n : Int} (p : PV w rs b bx m s t F ai ci ao co h q wr) (hf : windowS s n = s1) :
    Calls Tryz.prog 25 #[.pointer (some ⟨b, 0, none⟩), .int .i64 n] wr fun e w' => e = .returned (.tuple #[]) ∧ PV w rs b bx m s1 t F ai ci ao co h q w' := by
  have c := pv_window n p
  rw [hf] at c
  exact c
theorem pvc_drop {s1 : Cs} (p : PV w rs b bx m s t F ai ci ao co h q wr) (hf : dropS s = s1) :
    Calls Tryz.prog 30 #[.pointer (some ⟨b, 0, none⟩)] wr fun e w' => e = .returned (.tuple #[]) ∧ PV w rs b bx m s1 t F ai ci ao co h q w' := by
  have c := pv_drop p
  rw [hf] at c
  exact c
end
theorem fam {fn : Nat} {args : Array Value} {r : Ending} {wc : World} {S : World → Prop} (HS : ∀ W, Below wc.heap.size wc W → S W) (h : ∀ W, Below wc.heap.size wc W → Calls Tryz.prog fn args W fun e w' => e = r ∧ Below W.heap.size W w') :
    Hid (∀ W, Below wc.heap.size wc W → Calls Tryz.prog fn args W fun e w' => e = r ∧ Below wc.heap.size wc w' ∧ S w') := fun W B =>
  (h W B).mono fun e w' ⟨e1, e2⟩ => ⟨e1, B.trans (e2.mono B.size), HS w' (B.trans (e2.mono B.size))⟩
section
variable {w : World} {rs : List Nat} {b bx : Nat} {m : Int} {s t : Cs} {F : Nat → Prop} {ai ao : Option Addr} {ci co : Nat} {h q : Int} {wc W : World}
theorem pvq_want (p : PV w rs b bx m s t F ai ci ao co h q wc) (B : Below wc.heap.size wc W) : Calls Tryz.prog 31 #[.pointer (some ⟨b, 0, none⟩)] W fun e w' => e = .returned (.int .i64 (wantS s)) ∧ Below W.heap.size W w' := cowant_any (p.fcn.below B)
theorem pvq_rwant (p : PV w rs b bx m s t F ai ci ao co h q wc) (W : World) : Calls Tryz.prog 32 #[.agg #[.slice ai s.li.length ci, .slice ao s.lo.length co, .int .i64 s.win, .bool s.bz, .bool s.cl, .bool s.wt]] W fun e w' => e = .returned (.int .i64 (wantS s)) ∧ Below W.heap.size W w' := by
  have e : wantS s = btw s.lo.length 0 s.win := by
    have := p.fcn.win
    unfold wantS btw
    split
    · omega
    · split <;> omega
  rw [e]
  exact r18want_any ai _ ci ao _ co s.win s.bz s.cl s.wt W
theorem pvq_busy (p : PV w rs b bx m s t F ai ci ao co h q wc) (B : Below wc.heap.size wc W) : Calls Tryz.prog 33 #[.pointer (some ⟨b, 0, none⟩)] W fun e w' => e = .returned (.bool s.bz) ∧ Below W.heap.size W w' := (cobusy_any (p.fcn.below B)).mono fun e w' ⟨e1, e2⟩ => ⟨e1, e2 ▸ Below.refl _ _⟩
theorem pvq_closing (p : PV w rs b bx m s t F ai ci ao co h q wc) (B : Below wc.heap.size wc W) : Calls Tryz.prog 34 #[.pointer (some ⟨b, 0, none⟩)] W fun e w' => e = .returned (.bool s.cl) ∧ Below W.heap.size W w' := (coclosing_any (p.fcn.below B)).mono fun e w' ⟨e1, e2⟩ => ⟨e1, e2 ▸ Below.refl _ _⟩
theorem pvq_done (p : PV w rs b bx m s t F ai ci ao co h q wc) (B : Below wc.heap.size wc W) : Calls Tryz.prog 35 #[.pointer (some ⟨b, 0, none⟩)] W fun e w' => e = .returned (.bool (doneS s)) ∧ Below W.heap.size W w' := (codone_any (p.fcn.below B)).mono fun e w' ⟨e1, e2⟩ => ⟨e1, e2 ▸ Below.refl _ _⟩
theorem pvq_rdone (p : PV w rs b bx m s t F ai ci ao co h q wc) (W : World) : Calls Tryz.prog 36 #[.agg #[.slice ai s.li.length ci, .slice ao s.lo.length co, .int .i64 s.win, .bool s.bz, .bool s.cl, .bool s.wt]] W fun e w' => e = .returned (.bool (doneS s)) ∧ Below W.heap.size W w' := r18done_any ai _ ci ao _ co s.win s.bz s.cl s.wt W
theorem pvq_held (p : PV w rs b bx m s t F ai ci ao co h q wc) (B : Below wc.heap.size wc W) : Calls Tryz.prog 37 #[.pointer (some ⟨b, 0, none⟩)] W fun e w' => e = .returned (.int .i64 ((s.li.length : Int) + (s.lo.length : Int))) ∧ Below W.heap.size W w' := by
  have k := coheld_any (p.fcn.below B)
  rw [show (((s.li.length + s.lo.length : Nat) : Int)) = (s.li.length : Int) + (s.lo.length : Int) by omega] at k
  exact k
theorem pvq_mheld (p : PV w rs b bx m s s F ai ci ao co h q wc) (B : Below wc.heap.size wc W) : Calls Tryz.prog 38 #[.pointer (some ⟨w.heap.size, 0, none⟩)] W fun e w' => e = .returned (.int .i64 h) ∧ Below W.heap.size W w' := by
  rw [p.fh]
  obtain ⟨p1, hm⟩ := (p.fcn.below B).many
  have k := held_q w.heap.size m _ p1 W hm.isM
  rw [show ((tot [s.li, s.lo] : Nat) : Int) = ((s.li.length + s.lo.length : Nat) : Int) by rw [tot2P]] at k
  exact k.mono fun e w' ⟨e1, e2⟩ => ⟨e1, e2 ▸ Below.refl _ _⟩
end
end Go.Proofs.YtemmmdhmkegaaaaGreatDoor

/- ConnPlays: Next and Write, whose answers are held against each other. -/
namespace Go.Proofs.YtemmmdhmkegaaaaGreatDoor
open Go.RowKit
set_option linter.unusedVariables false

section
variable {w : World} {rs : List Nat} {b bx : Nat} {m : Int} {s t : Cs} {F : Nat → Prop} {ai ao : Option Addr} {ci co : Nat} {h q : Int} {wr : World}
theorem Kept.below {F : Nat → Prop} {b : Nat} {u v W : World} (k : Kept F b u v) (hF : ∀ j, F j → j < u.heap.size) (B : Below v.heap.size v W) : Kept F b u W :=
  ⟨fun j hj hn => (B.block j (Nat.lt_of_lt_of_le (hF j hj) k.2)).trans (k.1 j hj hn), Nat.le_trans k.2 B.size⟩
theorem pvd_next {s1 : Cs} {r : Rd} {z : Int} (p : PV w rs b bx m s s F ai ci ao co h q wr) (hf : nextS s = (s1, r, z)) :
    Calls Tryz.prog 15 #[.agg #[.slice ai s.li.length ci, .slice ao s.lo.length co, .int .i64 s.win, .bool s.bz, .bool s.cl, .bool s.wt, .int .i64 h, .int .i64 q, .int .i64 m]] wr fun e w' => ∃ a1 c1 a2 c2 h1 q1 fa ba fc bc, e = .returned (.tuple #[.agg #[.slice a1 s1.li.length c1, .slice a2 s1.lo.length c2, .int .i64 s1.win, .bool s1.bz, .bool s1.cl, .bool s1.wt, .int .i64 h1, .int .i64 q1, .int .i64 m], (.agg #[.string r.m, .string r.t, .int .i64 r.minor, .slice fa r.fs.length fc, .slice ba r.body.length bc]), .int .i64 z]) ∧ Below wr.heap.size wr w' ∧
      ∀ W, Below w'.heap.size w' W → PV w rs b bx m s s1 (fun k => F k ∨ (wr.heap.size ≤ k ∧ k < W.heap.size)) a1 c1 a2 c2 h1 q1 (nine W bx (.slice a1 s1.li.length c1) (.slice a2 s1.lo.length c2) (.int .i64 s1.win) (.bool s1.bz) (.bool s1.cl) (.bool s1.wt) (.int .i64 h1) (.int .i64 q1) (.int .i64 m)) ∧
        (∀ (w4 V : World) (fa' ba' : Option Addr) (fc' bc' : Nat), Kept (fun k => F k ∨ (wr.heap.size ≤ k ∧ k < W.heap.size)) b (nine W bx (.slice a1 s1.li.length c1) (.slice a2 s1.lo.length c2) (.int .i64 s1.win) (.bool s1.bz) (.bool s1.cl) (.bool s1.wt) (.int .i64 h1) (.int .i64 q1) (.int .i64 m)) w4 → Below w4.heap.size w4 V → OwnF (nine W bx (.slice a1 s1.li.length c1) (.slice a2 s1.lo.length c2) (.int .i64 s1.win) (.bool s1.bz) (.bool s1.cl) (.bool s1.wt) (.int .i64 h1) (.int .i64 q1) (.int .i64 m)).heap.size w4 (.slice fa' r.fs.length fc') r.fs → Own (nine W bx (.slice a1 s1.li.length c1) (.slice a2 s1.lo.length c2) (.int .i64 s1.win) (.bool s1.bz) (.bool s1.cl) (.bool s1.wt) (.int .i64 h1) (.int .i64 q1) (.int .i64 m)).heap.size w4 (.slice ba' r.body.length bc') r.body →
          Calls Tryz.prog 17 #[(.agg #[.string r.m, .string r.t, .int .i64 r.minor, .slice fa' r.fs.length fc', .slice ba' r.body.length bc']), (.agg #[.string r.m, .string r.t, .int .i64 r.minor, .slice fa r.fs.length fc, .slice ba r.body.length bc])] V fun e u => e = .returned (.bool true) ∧ Below V.heap.size V u) := by
  have c := db_next p.db p.fit
  rw [hf] at c
  refine c.mono fun e w' ⟨v', fa, ba, fc, bc, e1, d, d1, d2, B⟩ => ?_
  obtain ⟨a1, c1, a2, c2, h1, q1, rfl, k0⟩ := p.docs B d
  refine ⟨a1, c1, a2, c2, h1, q1, fa, ba, fc, bc, e1, B, fun W BW => ?_⟩
  have BB : Below wr.heap.size wr W := B.trans (BW.mono B.size)
  obtain ⟨a1', c1', a2', c2', h1', q1', e2, k⟩ := p.docs BB (d.keep BW)
  simp at e2
  obtain ⟨⟨rfl, rfl⟩, ⟨rfl, rfl⟩, rfl, rfl⟩ := e2
  refine ⟨k, fun w4 V fa' ba' fc' bc' K4 BV f1 f2 => ?_⟩
  have hlt := k.fcn.flt
  exact pv_same p (K4.below hlt BV) (d1.keep BW) (d2.keep BW) (f1.keep BV) (f2.keep BV)
theorem pvc_next {s1 : Cs} {r : Rd} {z : Int} (p : PV w rs b bx m s t F ai ci ao co h q wr) (hM : MaxL w) (hf : nextS s = (s1, r, z)) :
    Calls Tryz.prog 16 #[.pointer (some ⟨b, 0, none⟩)] wr fun e w' => ∃ fa ba fc bc, e = .returned (.tuple #[(.agg #[.string r.m, .string r.t, .int .i64 r.minor, .slice fa r.fs.length fc, .slice ba r.body.length bc]), .int .i64 z]) ∧
      OwnF wr.heap.size w' (.slice fa r.fs.length fc) r.fs ∧ Own wr.heap.size w' (.slice ba r.body.length bc) r.body ∧ PV w rs b bx m s1 t F ai ci ao co h q w' ∧ Kept F b wr w' := by
  have c := pv_next p hM
  rw [hf] at c
  exact c
theorem pvd_write {s1 : Cs} {n : Int} {nn : Nat} (p : PV w rs b bx m s s F ai ci ao co h q wr) (hf : writeS s n = s1) (hn : writeN s n = nn) :
    Calls Tryz.prog 26 #[.agg #[.slice ai s.li.length ci, .slice ao s.lo.length co, .int .i64 s.win, .bool s.bz, .bool s.cl, .bool s.wt, .int .i64 h, .int .i64 q, .int .i64 m], .int .i64 n] wr fun e w' => ∃ a1 c1 a2 c2 h1 q1 fa fc, e = .returned (.tuple #[.agg #[.slice a1 s1.li.length c1, .slice a2 s1.lo.length c2, .int .i64 s1.win, .bool s1.bz, .bool s1.cl, .bool s1.wt, .int .i64 h1, .int .i64 q1, .int .i64 m], .slice fa nn fc]) ∧ Below wr.heap.size wr w' ∧
      ∀ W, Below w'.heap.size w' W → PV w rs b bx m s s1 (fun k => F k ∨ (wr.heap.size ≤ k ∧ k < W.heap.size)) a1 c1 a2 c2 h1 q1 (nine W bx (.slice a1 s1.li.length c1) (.slice a2 s1.lo.length c2) (.int .i64 s1.win) (.bool s1.bz) (.bool s1.cl) (.bool s1.wt) (.int .i64 h1) (.int .i64 q1) (.int .i64 m)) ∧
        (∀ (w4 : World) (g : Nat), Kept (fun k => F k ∨ (wr.heap.size ≤ k ∧ k < W.heap.size)) b (nine W bx (.slice a1 s1.li.length c1) (.slice a2 s1.lo.length c2) (.int .i64 s1.win) (.bool s1.bz) (.bool s1.cl) (.bool s1.wt) (.int .i64 h1) (.int .i64 q1) (.int .i64 m)) w4 → Src w4 g (.slice (some ⟨g, 0, none⟩) nn nn) (s.lo.take nn) →
          Calls Tryz.prog 27 #[.slice (some ⟨g, 0, none⟩) nn nn, .slice fa nn fc] w4 fun e u => e = .returned (.bool true) ∧ Below w4.heap.size w4 u) := by
  have c := db_write n p.db p.fit
  rw [hf, hn] at c
  refine c.mono fun e w' ⟨v', fa, fc, e1, d, d1, B⟩ => ?_
  obtain ⟨a1, c1, a2, c2, h1, q1, rfl, k0⟩ := p.docs B d
  refine ⟨a1, c1, a2, c2, h1, q1, fa, fc, e1, B, fun W BW => ?_⟩
  have BB : Below wr.heap.size wr W := B.trans (BW.mono B.size)
  obtain ⟨a1', c1', a2', c2', h1', q1', e2, k⟩ := p.docs BB (d.keep BW)
  simp at e2
  obtain ⟨⟨rfl, rfl⟩, ⟨rfl, rfl⟩, rfl, rfl⟩ := e2
  exact ⟨k, fun w4 g K4 f1 => pv_bytes p K4 (d1.keep BW) f1⟩
theorem pvc_write {s1 : Cs} {n : Int} {nn : Nat} (p : PV w rs b bx m s t F ai ci ao co h q wr) (hf : writeS s n = s1) (hn : writeN s n = nn) :
    Calls Tryz.prog 28 #[.pointer (some ⟨b, 0, none⟩), .int .i64 n] wr fun e w' => ∃ g, e = .returned (.slice (some ⟨g, 0, none⟩) nn nn) ∧ Src w' g (.slice (some ⟨g, 0, none⟩) nn nn) (s.lo.take nn) ∧
      PV w rs b bx m s1 t (fun k => F k ∨ k = g) ai ci ao co h q w' ∧ Kept F b wr w' := by
  have c := pv_write n p
  rw [hf, hn] at c
  exact c
end
end Go.Proofs.YtemmmdhmkegaaaaGreatDoor

/- ConnPlays: the switch, taken out of its code (written by plb.py). -/
namespace Go.Proofs.YtemmmdhmkegaaaaGreatDoor
open Go.RowKit
set_option linter.unusedVariables false

def blkOf (n : Nat) : Code → Option Code
  | .block i c => if i = n then some (.block i c) else blkOf n c
  | .loop c => blkOf n c
  | .seq a b => match blkOf n a with
    | some c => some c
    | none => blkOf n b
  | .scope c => blkOf n c
  | .cond _ a b => match blkOf n a with
    | some c => some c
    | none => blkOf n b
  | _ => none
noncomputable def sw2 : Code := ((Tryz.f3.body.bind (blkOf 2)).getD .skip)
end Go.Proofs.YtemmmdhmkegaaaaGreatDoor
