/- Calls that came in; what three rings and the reference's three hold. -/
import Derived.Test.YtenajbefknlalaaRpE
import Derived.Deep.Slices
import Derived.Deep.SlicePairs
namespace Go.Proofs.Ytenajbefknlalaa
open Go.ChangeShapes Go.WideShapes Go.ChangeAt Go.RowKit
set_option linter.unusedVariables false

structure OpP where
  k : Int
  r : Int
  n : Int
  b : List UInt8
def OpAt (w : World) (b o : Nat) (a : OpP) : Prop := ∃ xa xc kx, w.cell? ⟨b, o, none⟩ = some (.int .i64 a.k) ∧ w.cell? ⟨b, o + 1, none⟩ = some (.int .i64 a.r) ∧ w.cell? ⟨b, o + 2, none⟩ = some (.int .i64 a.n) ∧ w.cell? ⟨b, o + 3, none⟩ = some (.slice xa a.b.length xc) ∧ Src w kx (.slice xa a.b.length xc) a.b ∧ (0 < a.b.length → kx < w.heap.size) ∧ (xa = none → xc = 0)
def Opl (w : World) (a0 : Option Addr) (len : Nat) (qs : List OpP) : Prop := qs.length = len ∧ len ≤ maxLen ∧ (0 < len → ∃ b off, a0 = some ⟨b, off, none⟩ ∧ b < w.heap.size ∧ ∀ (j : Nat) (hj : j < qs.length), OpAt w b (off + j * 4) qs[j])
theorem cells_op : Try.prog.cellsOf 37 = 4 := by kernel_rfl
theorem cells_bytes : Try.prog.cellsOf 35 = 1 := by kernel_rfl
theorem cells_int : Try.prog.cellsOf 3 = 1 := by kernel_rfl
set_option maxRecDepth 100000 in
theorem open_ops {H : Type} {enc : TypeId × Value → H} {w : World} {base : Nat} {held : Bool} {a : Option Addr} {len cap : Nat} {x : DataW H × List MemPlace}
    (h : ∃ fuel, DataW.trod enc Try.prog w base (fun _ => true) held fuel 22 (Value.slice a len cap).cells.toList = some x) :
    ∃ qs : List OpP, Opl w a len qs := by
  obtain ⟨fuel, hf⟩ := h
  rcases Go.Deep.open_slice Try.underlying22 hf with ⟨hcs, hx⟩ | ⟨ad, l, c, m, n, D, Pl, hcs, hb, hl, hm, hmm, hx, hc⟩
  · simp [Value.cells] at hcs
    obtain ⟨rfl, rfl, rfl⟩ := hcs
    exact ⟨[], rfl, Nat.zero_le _, fun h => absurd h (Nat.lt_irrefl _)⟩
  · simp [Value.cells] at hcs
    obtain ⟨rfl, rfl, rfl⟩ := hcs
    have hmm' : m = cap := by simpa using hmm
    subst hmm'
    have each : ∀ i, i < len → ∃ q : OpP, (∃ xa xc kx, w.cell? (ad.add (i * 4)) = some (.int .i64 q.k) ∧ w.cell? (ad.add (i * 4 + 1)) = some (.int .i64 q.r) ∧ w.cell? (ad.add (i * 4 + 2)) = some (.int .i64 q.n) ∧ w.cell? (ad.add (i * 4 + 3)) = some (.slice xa q.b.length xc) ∧ Src w kx (.slice xa q.b.length xc) q.b ∧ (0 < q.b.length → kx < w.heap.size) ∧ (xa = none → xc = 0)) := by
      intro i hi
      obtain ⟨cs', h1, h2⟩ := hc i (by omega)
      rw [cells_op] at h1
      obtain ⟨_, hlen, hcell⟩ := World.cells?_some h1
      obtain ⟨xs, k, hk, hxy, _, hxl, hf⟩ := DataW.trod_struct Try.underlying37 h2
      match xs, hxl, cs', hlen with
      | [y0, y1, y2, y3], _, [v0, v1, v2, v3], _ =>
        have g0 := hf 0 _ rfl
        have g1 := hf 1 _ rfl
        have g2 := hf 2 _ rfl
        have g3 := hf 3 _ rfl
        simp [cells_bytes, cells_int] at g0 g1 g2 g3
        have e0 := hcell 0 (by omega)
        have e1 := hcell 1 (by omega)
        have e2 := hcell 2 (by omega)
        have e3 := hcell 3 (by omega)
        rw [Go.Deep.add_add] at e0 e1 e2 e3
        obtain ⟨z0, a0, b0, hz0⟩ := DataW.trod_int Try.underlying3 g0
        obtain ⟨z1, a1, b1, hz1⟩ := DataW.trod_int Try.underlying3 g1
        obtain ⟨z2, a2, b2, hz2⟩ := DataW.trod_int Try.underlying3 g2
        have a0' : v0 = .int .i64 z0 := by simpa using a0
        have a1' : v1 = .int .i64 z1 := by simpa using a1
        have a2' : v2 = .int .i64 z2 := by simpa using a2
        subst a0' a1' a2' b0 b1 b2
        obtain ⟨xa, xl, xc, hv3⟩ : ∃ xa xl xc, v3 = .slice xa xl xc := by
          rcases DataW.trod_slice Try.underlying35 g3 with ⟨hcs, _⟩ | ⟨a', l', c', _, _, _, _, hcs, _⟩
          · exact ⟨none, 0, 0, by simpa using hcs⟩
          · exact ⟨some a', l', c', by simpa using hcs⟩
        subst hv3
        obtain ⟨kb, bs, hS, hkS, hnS⟩ := open_bytes (a := xa) (len := xl) (cap := xc) ⟨_, g3⟩
        have hxl2 := hS.len.1
        subst hxl2
        exact ⟨⟨z0, z1, z2, bs⟩, xa, xc, kb, by simpa using e0, by simpa using e1, by simpa using e2, by simpa using e3, hS, hkS, hnS⟩
    haveI : Inhabited OpP := ⟨⟨0, 0, 0, []⟩⟩
    obtain ⟨q, hq⟩ := Go.Deep.choose_lt each
    have hln : ((List.range len).map q).length = len := by simp
    refine ⟨(List.range len).map q, hln, by omega, fun hp => ?_⟩
    obtain ⟨b, off, spot⟩ := ad
    have h0 := (hq 0 hp)
    obtain ⟨_, _, _, hc0, _⟩ := h0
    have hspot : spot = none := by simpa [Addr.add] using World.cell?_spot hc0
    subst hspot
    refine ⟨b, off, rfl, ?_, fun j hj => ?_⟩
    · have := cell_lt hc0
      rwa [addr_add] at this
    · have hj' : j < len := by rw [hln] at hj; exact hj
      have e : ((List.range len).map q)[j]'hj = q j := by simp
      rw [e]
      obtain ⟨xa, xc, kx, k0, k1, k2, k3, k6⟩ := (hq j hj')
      rw [addr_add] at k0 k1 k2 k3
      exact ⟨xa, xc, kx, k0, by rw [Nat.add_assoc]; exact k1, by rw [Nat.add_assoc]; exact k2, by rw [Nat.add_assoc]; exact k3, k6⟩
theorem opAt_keep {w W : World} {b o : Nat} {a : OpP} (h : OpAt w b o a) (hb : b < w.heap.size) (B : Below w.heap.size w W) : OpAt W b o a := by
  obtain ⟨xa, xc, kx, k0, k1, k2, k3, hS, hk, hn⟩ := h
  exact ⟨xa, xc, kx, (B.cell (p := ⟨b, _, none⟩) hb).trans k0, (B.cell (p := ⟨b, _, none⟩) hb).trans k1, (B.cell (p := ⟨b, _, none⟩) hb).trans k2, (B.cell (p := ⟨b, _, none⟩) hb).trans k3, hS.keep hk B, fun q => Nat.lt_of_lt_of_le (hk q) B.size, hn⟩

def ptr (r : Nat) : Value := .pointer (some ⟨r, 0, none⟩)
/-- Three rings of one meter, and the reference's three, which hold the same. -/
structure PI (w wr : World) (G : Nat → Prop) (mb bx br : Nat) (rs : List Nat) (Ls : List (List UInt8)) (m p : Int) (xa xc : Nat) : Prop where
  many : Many (fun k => G k ∨ k = bx) w wr mb rs Ls m p
  mat : Mat G wr (.slice (some ⟨xa, 0, none⟩) 3 xc) Ls
  len : Ls.length = 3
  lenr : rs.length = 3
  nb : ¬ G bx
  hx : w.heap.size ≤ bx
  old : ∀ k, k < w.heap.size → G k
  gr : G br
  xb : wr.heap[bx]? = some (.cells #[.int .i64 (tot Ls : Nat), .int .i64 (pst (tot Ls : Nat) p), .int .i64 m, .slice (some ⟨xa, 0, none⟩) 3 xc] 33)
  rb : wr.heap[br]? = some (.cells (rs.map ptr).toArray 26)
section
variable {w wr : World} {G : Nat → Prop} {mb bx br : Nat} {rs : List Nat} {Ls : List (List UInt8)} {m p : Int} {xa xc : Nat}
theorem PI.glt (h : PI w wr G mb bx br rs Ls m p xa xc) (k : Nat) (hk : G k) : k < wr.heap.size := h.many.flt k (.inl hk)
theorem PI.below {w' : World} (h : PI w wr G mb bx br rs Ls m p xa xc) (B : Below wr.heap.size wr w') : PI w w' (fun k => G k ∨ (wr.heap.size ≤ k ∧ k < w'.heap.size)) mb bx br rs Ls m p xa xc := by
  have hbx := heap_lt h.xb
  refine ⟨h.many.step (Kp.ofBelow (T := fun _ => False) B) (fun _ c => c.elim) (fun i hi => ?_), h.mat.frame (fun k hk => B.block k (h.glt k hk)) (fun k hk => .inl hk), h.len, h.lenr, fun c => ?_, h.hx, fun k hk => .inl (h.old k hk), .inl h.gr, (B.block bx hbx).trans h.xb, (B.block br (heap_lt h.rb)).trans h.rb⟩
  · rcases hi with (hi | hi) | hi
    · exact .inl (.inl hi)
    · exact .inr hi
    · exact .inl (.inr hi)
  · rcases c with c | c
    · exact h.nb c
    · omega
theorem PI.ring (h : PI w wr G mb bx br rs Ls m p xa xc) (k r : Nat) (hr : rs[k]? = some r) : wr.cell? ⟨br, k, none⟩ = some (.pointer (some ⟨r, 0, none⟩)) := by
  refine ring_cell h.rb ?_
  rw [List.getElem?_toArray, List.getElem?_map, hr]; rfl
def putL (Ls : List (List UInt8)) (k : Nat) (L b : List UInt8) (m : Int) : List (List UInt8) := if (tot Ls : Int) + b.length ≤ m then Ls.set k (L ++ b) else Ls
/-- The reference's Put. -/
theorem pi_put (h : PI w wr G mb bx br rs Ls m p xa xc) (k ko : Nat) (L b : List UInt8) (vb : Value) (hL : Ls[k]? = some L) (hb : Src wr ko vb b) (hko : G ko) :
    Calls Try.prog 8 #[.agg #[.int .i64 (tot Ls : Nat), .int .i64 (pst (tot Ls : Nat) p), .int .i64 m, .slice (some ⟨xa, 0, none⟩) 3 xc], .int .i64 k, vb] wr fun e w' => ∃ xa' xc', e = .returned (.tuple #[.agg #[.int .i64 (tot (putL Ls k L b m) : Nat), .int .i64 (pst (tot (putL Ls k L b m) : Nat) p), .int .i64 m, .slice (some ⟨xa', 0, none⟩) 3 xc'], .bool (decide ((tot Ls : Int) + b.length ≤ m))]) ∧
      Mat (fun i => G i ∨ (wr.heap.size ≤ i ∧ i < w'.heap.size)) w' (.slice (some ⟨xa', 0, none⟩) 3 xc') (putL Ls k L b m) ∧ (putL Ls k L b m).length = 3 ∧ Below wr.heap.size wr w' := by
  have hf := h.many.fit
  have ht := h.many.top
  have hge := tot_ge Ls k L hL
  by_cases hok : (tot Ls : Int) + b.length ≤ m
  · have e : putL Ls k L b m = Ls.set k (L ++ b) := if_pos hok
    have hset := tot_set Ls k L (L ++ b) hL
    rw [List.length_append] at hset
    have e2 : ((tot (Ls.set k (L ++ b)) : Nat) : Int) = (tot Ls : Nat) + b.length := by omega
    rw [e, e2, decide_eq_true hok]
    refine (r3put_yes G wr _ vb Ls k ko L b (tot Ls : Nat) (pst (tot Ls : Nat) p) m h.mat (fun i hi => h.glt i hi) hb hko hL (by rw [h.len]; omega) (by omega) hf ht (by omega) (by omega)).mono ?_
    rintro e w' ⟨v', rfl, M, B⟩
    have e3 : rpk m (tot Ls : Nat) (pst (tot Ls : Nat) p) b.length = pst ((tot Ls : Nat) + b.length) p := by
      unfold rpk pst
      rw [if_pos (by omega)]
      split <;> split <;> split <;> omega
    have hl3 : (Ls.set k (L ++ b)).length = 3 := by rw [List.length_set]; exact h.len
    obtain ⟨g', c', Vs', e', r⟩ := M
    rw [hl3] at e'
    subst e'
    exact ⟨g', c', by rw [e3], ⟨g', c', Vs', by rw [hl3], r⟩, hl3, B⟩
  · have e : putL Ls k L b m = Ls := if_neg hok
    rw [e, decide_eq_false hok]
    refine (r3put_no G wr _ vb Ls k ko b (tot Ls : Nat) (pst (tot Ls : Nat) p) m h.mat (fun i hi => h.glt i hi) hb (by omega) hf ht (by omega)).mono ?_
    rintro e w' ⟨rfl, B⟩
    exact ⟨xa, xc, rfl, h.mat.frame (fun k hk => B.block k (h.glt k hk)) (fun k hk => .inl hk), h.len, B⟩
theorem pst_take (t N : Nat) (p : Int) (h : N ≤ t) : pst ((t - N : Nat) : Int) (gvP (t : Int) p (N : Int)) = pst (t : Int) p := by
  unfold pst gvP pst
  split <;> split <;> split <;> omega
/-- The reference's Take. -/
theorem pi_take (h : PI w wr G mb bx br rs Ls m p xa xc) (k : Nat) (L : List UInt8) (n : Int) (hL : Ls[k]? = some L) :
    Calls Try.prog 10 #[.agg #[.int .i64 (tot Ls : Nat), .int .i64 (pst (tot Ls : Nat) p), .int .i64 m, .slice (some ⟨xa, 0, none⟩) 3 xc], .int .i64 k, .int .i64 n] wr fun e w' => ∃ xa' xc' oa oc ko, e = .returned (.tuple #[.agg #[.int .i64 (tot (Ls.set k (L.drop (clp n L.length))) : Nat), .int .i64 (pst (tot (Ls.set k (L.drop (clp n L.length))) : Nat) (gvP (tot Ls : Nat) p (clp n L.length))), .int .i64 m, .slice (some ⟨xa', 0, none⟩) 3 xc'], .slice oa (clp n L.length) oc]) ∧
      G ko ∧ Src w' ko (.slice oa (clp n L.length) oc) (L.take (clp n L.length)) ∧ Mat (fun i => G i ∨ (wr.heap.size ≤ i ∧ i < w'.heap.size)) w' (.slice (some ⟨xa', 0, none⟩) 3 xc') (Ls.set k (L.drop (clp n L.length))) ∧ (Ls.set k (L.drop (clp n L.length))).length = 3 ∧ Below wr.heap.size wr w' := by
  have hf := h.many.fit
  have ht := h.many.top
  have hge := tot_ge Ls k L hL
  have hN := clp_le n L.length
  have hset := tot_set Ls k L (L.drop (clp n L.length)) hL
  rw [List.length_drop] at hset
  have hl3 : (Ls.set k (L.drop (clp n L.length))).length = 3 := by rw [List.length_set]; exact h.len
  refine (r3take_any G wr _ Ls k L n (tot Ls : Nat) (pst (tot Ls : Nat) p) m h.mat (fun i hi => h.glt i hi) hL (by rw [h.len]; omega) (by omega) hf ht (by omega)).mono ?_
  generalize clp n L.length = N at *
  rintro e w' ⟨v', oa, oc, ko, rfl, hko, hS, M, B⟩
  have e1 : tot (Ls.set k (L.drop N)) = tot Ls - N := by omega
  have e2 : ((tot Ls : Nat) : Int) - N = ((tot Ls - N : Nat) : Int) := by omega
  obtain ⟨g', c', Vs', e', r⟩ := M
  rw [hl3] at e'
  subst e'
  exact ⟨g', c', oa, oc, ko, by rw [e1, e2, pst_take _ _ _ (by omega)], hko, hS, ⟨g', c', Vs', by rw [hl3], r⟩, hl3, B⟩
end
end Go.Proofs.Ytenajbefknlalaa
