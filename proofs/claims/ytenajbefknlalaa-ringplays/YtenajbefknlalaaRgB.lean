/- grow and behind. -/
import Derived.Test.YtenajbefknlalaaRgA
import Derived.Lib.Walk
namespace Go.Proofs.Ytenajbefknlalaa
open Go.RowKit
set_option linter.unusedVariables false

def zb : List UInt8 := List.replicate 64 0
def zseg : Array Value := (segV zb none).toArray
theorem infoSeg : (Try.prog.info? 70).map (fun i => (i.zero, i.size, i.bytes)) = some (some (.agg zseg), 65, 72) := by kernel_rfl
theorem zeroSeg (w : World) : (zeroValue 70).run Try.prog w = .ok (.agg zseg) w := by
  obtain ⟨i, hi, hz0, hz1, hz2⟩ := info_parts infoSeg
  simp [zeroValue, typeInfo, hi, hz0]
theorem IsS.setNext {w : World} {s : Nat} {bs : List UInt8} {nx : Option Nat} (h : IsS w s bs nx) (n : Nat) : IsS (w.setCell ⟨s, 64, none⟩ (.pointer (some ⟨n, 0, none⟩))) s bs (some n) := by
  refine ⟨h.1, ?_⟩
  rw [ring_set h.2]
  have e : (segV bs nx).toArray.setIfInBounds 64 (.pointer (some ⟨n, 0, none⟩)) = (segV bs (some n)).toArray := by
    unfold segV
    rw [List.setIfInBounds_toArray, List.set_append_right _ _ (by rw [List.length_map, h.1]; exact Nat.le_refl _), List.length_map, h.1]
    rfl
  rw [e]
theorem rgx_grow {w w' : World} {r mb s n : Nat} {b : List UInt8} {pre : List Seg} {pad l junk : List UInt8} (h : RgX w r mb (pre ++ [(s, b)]) pad l junk) (hn : w.heap.size ≤ n)
    (hr : w'.heap[r]? = some (.cells #[.pointer (some ⟨mb, 0, none⟩), pt (hd (pre ++ [(s, b)]) none), pt (some n), .int .i64 pad.length, .int .i64 l.length] 56))
    (hs : IsS w' s b (some n)) (hnew : w'.heap[n]? = some (.cells zseg 70)) (hpre : ∀ x ∈ pre, w'.heap[x.1]? = w.heap[x.1]?) :
    RgX w' r mb ((pre ++ [(s, b)]) ++ [(n, zb)]) pad l (junk ++ zb) := by
  have hlt := chain_lt _ _ h.chain
  refine ⟨?_, ?_, ?_, ?_, ?_⟩
  · rw [hr, lastB_snoc, hd_append, hd_append]
    cases pre <;> rfl
  · rw [chain_append, chain_append]
    have hc := h.chain
    rw [chain_append] at hc
    exact ⟨⟨chain_frame _ _ hpre hc.1, hs, trivial⟩, ⟨show zb.length = 64 by decide, hnew⟩, trivial⟩
  · rw [List.map_append, List.nodup_append]
    refine ⟨h.nd, by simp, fun a ha c hc => ?_⟩
    obtain ⟨x, hx, rfl⟩ := List.mem_map.1 ha
    have := hlt x hx
    have e : c = n := by simpa using hc
    omega
  · rw [List.map_append, List.mem_append]
    rintro (c | c)
    · exact h.nr c
    · have e : r = n := by simpa using c
      have := heap_lt h.blk
      omega
  · rw [flat_append, h.fl, flat_one]; simp
theorem rgx_grow0 {w w' : World} {r mb n : Nat} {pad l junk : List UInt8} (h : RgX w r mb [] pad l junk) (hn : w.heap.size ≤ n)
    (hr : w'.heap[r]? = some (.cells #[.pointer (some ⟨mb, 0, none⟩), pt (some n), pt (some n), .int .i64 pad.length, .int .i64 l.length] 56))
    (hnew : w'.heap[n]? = some (.cells zseg 70)) :
    RgX w' r mb ([] ++ [(n, zb)]) pad l (junk ++ zb) := by
  refine ⟨hr, ⟨⟨show zb.length = 64 by decide, hnew⟩, trivial⟩, by simp, ?_, ?_⟩
  · have := heap_lt h.blk
    simp; omega
  · have := h.fl
    rw [List.nil_append, flat_one, ← List.append_assoc, ← this]; rfl
/-- The blocks of a ring. -/
def InR (r : Nat) (segs : List Seg) (k : Nat) : Prop := k = r ∨ k ∈ segs.map (·.1)

theorem slice_seg (s n : Nat) (w : World) (h : n < 64) : (Instr.sliceAt 68 (.pointer (some ⟨s, 0, none⟩)) (some (.int .i64 (n : Int))) none none).run Try.prog w = .ok (.slice (some ⟨s, n, none⟩) (64 - n) (64 - n)) w := by
  have hl : Try.prog.arrayLen 68 = 64 := by kernel_rfl
  have he : Try.prog.elem 68 = 5 := by kernel_rfl
  have hu : Try.prog.underlying 68 = some (.array (Try.prog.arrayLen 68) (Try.prog.elem 68)) := by rw [hl, he]; exact Try.underlying68
  rw [run_sliceAt_array_l w 68 ⟨s, 0, none⟩ hu .i64 (n : Int) (by omega) (by rw [hl]; omega), hl, he, Try.sizeOf5]
  simp only [Result.andThen_ok, slicedAt]
  rw [if_neg (by omega), Int.toNat_natCast, addr_add, Nat.mul_one, Nat.zero_add]
theorem RgX.drewN {w : World} {r mb : Nat} {segs : List Seg} {pad l junk : List UInt8} (h : RgX w r mb segs pad l junk) (n : Nat) : RgX (w.drewN n) r mb segs pad l junk :=
  h.frame (by simp [World.drewN]) (fun x hx => by simp [World.drewN])
theorem Kp.drewN (T : Nat → Prop) (w : World) (n : Nat) : Kp T w (w.drewN n) := Kp.ofBelow ((But.drewN w.heap.size n w).below (Nat.le_refl _))

set_option maxRecDepth 100000 in
set_option maxHeartbeats 2000000 in
theorem grow_any (r mb : Nat) (segs : List Seg) (pad l junk : List UInt8) (w : World) (h : RgX w r mb segs pad l junk) :
    Calls Try.prog 30 #[.pointer (some ⟨r, 0, none⟩)] w fun e w' => e = .returned (.tuple #[]) ∧ RgX w' r mb (segs ++ [(w.heap.size, zb)]) pad l (junk ++ zb) ∧ Kp (InR r segs) w w' := by
  have hb := h.blk
  have hlt := heap_lt hb
  have hzv := zeroSeg
  rcases List.eq_nil_or_concat segs with rfl | ⟨pre, ⟨s, b⟩, rfl⟩
  · have c1 : w.cell? ⟨r, 1, none⟩ = some (.pointer none) := ring_cell hb rfl
    have c2 : w.cell? ⟨r, 2, none⟩ = some (.pointer none) := ring_cell hb rfl
    have z1 : w.frozen? ⟨r, 1, none⟩ = false := ring_z hb
    have z2 : w.frozen? ⟨r, 2, none⟩ = false := ring_z hb
    have HR : Hid (RgX ((((w.setCell ⟨r, 1, none⟩ (.pointer (some ⟨w.heap.size, 0, none⟩))).setCell ⟨r, 2, none⟩ (.pointer (some ⟨w.heap.size, 0, none⟩))).alloc (.cells zseg 70))) r mb ([] ++ [(w.heap.size, zb)]) pad l (junk ++ zb)) := by
      refine rgx_grow0 h (Nat.le_refl _) ?_ ?_
      · rw [Below.heap_alloc _ _ _ (by simp [World.setCell]; exact hlt), ring_set (ring_set hb)]; rfl
      · have k := new_at ((w.setCell ⟨r, 1, none⟩ (.pointer (some ⟨w.heap.size, 0, none⟩))).setCell ⟨r, 2, none⟩ (.pointer (some ⟨w.heap.size, 0, none⟩))) (.cells zseg 70)
        rw [show ((w.setCell ⟨r, 1, none⟩ (.pointer (some ⟨w.heap.size, 0, none⟩))).setCell ⟨r, 2, none⟩ (.pointer (some ⟨w.heap.size, 0, none⟩))).heap.size = w.heap.size by simp [World.setCell]] at k
        exact k
    have HK : Kp (InR r []) w ((((w.setCell ⟨r, 1, none⟩ (.pointer (some ⟨w.heap.size, 0, none⟩))).setCell ⟨r, 2, none⟩ (.pointer (some ⟨w.heap.size, 0, none⟩))).alloc (.cells zseg 70))) := ((Kp.set w r 1 _ (.inl rfl)).then (Kp.set _ r 2 _ (.inl rfl))).then (Kp.alloc _ _ _)
    clear h hb
    go_enter Try.func30, Try.ntmps30
    go_wp2
    refine bodyPost_end (results_none rfl _ _ _) rfl ?_
    exact ⟨rfl, HR.out, HK⟩
  · rw [List.concat_eq_append] at *
    have hne : r ≠ s := fun e => h.nr (by rw [e]; simp)
    have hne2 : s ≠ r := fun e => hne e.symm
    have hS : IsS w s b none := by have hc := h.chain; rw [chain_append] at hc; exact hc.2.1
    rw [lastB_snoc] at hb
    have c2 : w.cell? ⟨r, 2, none⟩ = some (.pointer (some ⟨s, 0, none⟩)) := ring_cell hb rfl
    have c3 : w.cell? ⟨s, 64, none⟩ = some (.pointer none) := hS.next
    have z1 : w.frozen? ⟨s, 64, none⟩ = false := ring_z hS.2
    have z2 : w.frozen? ⟨r, 2, none⟩ = false := ring_z hb
    have hnd : ∀ x ∈ pre, x.1 ≠ s := fun x hx e => by
      have k := h.nd
      rw [List.map_append, List.nodup_append] at k
      exact k.2.2 x.1 (List.mem_map.2 ⟨x, hx, rfl⟩) s (by simp) e
    have hnr : ∀ x ∈ pre, x.1 ≠ r := fun x hx e => h.nr (by rw [← e, List.map_append, List.mem_append]; exact .inl (List.mem_map.2 ⟨x, hx, rfl⟩))
    have HR : Hid (RgX ((((w.setCell ⟨s, 64, none⟩ (.pointer (some ⟨w.heap.size, 0, none⟩))).setCell ⟨r, 2, none⟩ (.pointer (some ⟨w.heap.size, 0, none⟩))).alloc (.cells zseg 70))) r mb ((pre ++ [(s, b)]) ++ [(w.heap.size, zb)]) pad l (junk ++ zb)) := by
      have hls := heap_lt hS.2
      refine rgx_grow h (Nat.le_refl _) ?_ ?_ ?_ ?_
      · rw [Below.heap_alloc _ _ _ (by simp [World.setCell]; exact hlt), ring_set (show (w.setCell ⟨s, 64, none⟩ (.pointer (some ⟨w.heap.size, 0, none⟩))).heap[r]? = _ from ((But.set s 64 w _).block r hne).trans hb)]
        cases pre <;> rfl
      · have k := hS.setNext w.heap.size
        exact ⟨k.1, by rw [Below.heap_alloc _ _ _ (by simp [World.setCell]; exact hls), (But.set r 2 _ _).block s hne2]; exact k.2⟩
      · have k := new_at ((w.setCell ⟨s, 64, none⟩ (.pointer (some ⟨w.heap.size, 0, none⟩))).setCell ⟨r, 2, none⟩ (.pointer (some ⟨w.heap.size, 0, none⟩))) (.cells zseg 70)
        rw [show ((w.setCell ⟨s, 64, none⟩ (.pointer (some ⟨w.heap.size, 0, none⟩))).setCell ⟨r, 2, none⟩ (.pointer (some ⟨w.heap.size, 0, none⟩))).heap.size = w.heap.size by simp [World.setCell]] at k
        exact k
      · intro x hx
        have hxl := chain_lt _ _ h.chain x (List.mem_append.2 (.inl hx))
        rw [Below.heap_alloc _ _ _ (by simp [World.setCell]; exact hxl), (But.set r 2 _ _).block _ (hnr x hx), (But.set s 64 _ _).block _ (hnd x hx)]
    have HK : Kp (InR r (pre ++ [(s, b)])) w ((((w.setCell ⟨s, 64, none⟩ (.pointer (some ⟨w.heap.size, 0, none⟩))).setCell ⟨r, 2, none⟩ (.pointer (some ⟨w.heap.size, 0, none⟩))).alloc (.cells zseg 70))) := ((Kp.set w s 64 _ (.inr (by simp))).then (Kp.set _ r 2 _ (.inl rfl))).then (Kp.alloc _ _ _)
    have hls := heap_lt hS.2
    clear h hb hS hnd hnr
    go_enter Try.func30, Try.ntmps30
    go_wp2
    refine bodyPost_end (results_none rfl _ _ _) rfl ?_
    exact ⟨rfl, HR.out, HK⟩

/-- Where the room of the last segment begins. -/
theorem open_at {w : World} {r mb : Nat} {segs : List Seg} {pad l junk : List UInt8} (h : RgX w r mb segs pad l junk) (hj : 0 < junk.length) (hj2 : junk.length ≤ 64) :
    ∃ pre s t, segs = pre ++ [(s, t ++ junk)] ∧ t.length + junk.length = 64 ∧ pad.length + l.length = 64 * pre.length + t.length := by
  rcases List.eq_nil_or_concat segs with rfl | ⟨pre, ⟨s, b⟩, rfl⟩
  · have := congrArg List.length h.fl
    simp [flat] at this; omega
  · rw [List.concat_eq_append] at *
    have hc := h.chain
    rw [chain_append] at hc
    have hb : b.length = 64 := hc.2.1.1
    have hp := flat_length _ _ hc.1
    have hf := h.fl
    rw [flat_append, flat_one] at hf
    have hl := congrArg List.length hf
    simp only [List.length_append] at hl
    rcases List.append_eq_append_iff.1 hf with ⟨t, e1, e2⟩ | ⟨t, e1, e2⟩
    · have e3 := congrArg List.length e1
      simp only [List.length_append] at e3
      refine ⟨pre, s, t, by rw [show b = t ++ junk from e2], ?_, ?_⟩
      · have := congrArg List.length e2
        simp only [List.length_append] at this
        omega
      · omega
    · have e3 := congrArg List.length e1
      have e4 := congrArg List.length e2
      simp only [List.length_append] at e3 e4
      have : t = [] := List.eq_nil_of_length_eq_zero (by omega)
      subst this
      simp only [List.append_nil, List.nil_append] at e1 e2
      refine ⟨pre, s, [], by rw [List.nil_append, e2], by simp; omega, ?_⟩
      simp only [List.length_nil] at *
      omega

set_option maxRecDepth 100000 in
set_option maxHeartbeats 2000000 in
theorem behind_any (r mb : Nat) (segs : List Seg) (pad l junk : List UInt8) (w : World) (h : RgX w r mb segs pad l junk) (hs : Shut segs pad l junk) (hl : l.length ≤ 1099511627776) :
    Calls Try.prog 23 #[.pointer (some ⟨r, 0, none⟩)] w fun e w' => ∃ pre s t junk', e = .returned (.slice (some ⟨s, t.length, none⟩) (64 - t.length) (64 - t.length)) ∧ RgX w' r mb (pre ++ [(s, t ++ junk')]) pad l junk' ∧ t.length < 64 ∧
      (∀ x ∈ pre ++ [(s, t ++ junk')], x.1 ∈ segs.map (·.1) ∨ w.heap.size ≤ x.1) ∧ (∀ x ∈ pre ++ [(s, t ++ junk')], x.1 < w'.heap.size) ∧ Kp (InR r segs) w w' := by
  have hb := h.blk
  have c3 : w.cell? ⟨r, 3, none⟩ = some (.int .i64 pad.length) := ring_cell hb rfl
  have c4 : w.cell? ⟨r, 4, none⟩ = some (.int .i64 l.length) := ring_cell hb rfl
  have hfl := flat_length _ _ h.chain
  rw [h.fl] at hfl
  simp only [List.length_append] at hfl
  have hp64 : pad.length < 64 := by rcases hs with ⟨_, rfl, _, _⟩ | ⟨_, h1, _⟩; exact (by decide); exact h1
  have hj64 : junk.length < 64 := by rcases hs with ⟨_, _, _, rfl⟩ | ⟨_, _, h1⟩; exact (by decide); exact h1
  by_cases hj : junk.length = 0
  · have hm : ((pad.length : Int) + (l.length : Int)).tmod 64 = 0 := by
      rw [← Int.natCast_add, show pad.length + l.length = 64 * segs.length by omega, Int.natCast_mul]
      exact Int.mul_tmod_right _ _
    obtain rfl : junk = [] := List.eq_nil_of_length_eq_zero hj
    clear hs hfl hj hj64 hb
    go_enter Try.func23, Try.ntmps23
    go_wp2
    go_quiet (fail)
    go_wp2_with fail
    refine (grow_any r mb segs pad l [] _ (h.drewN _)).mono ?_
    rintro e w1 ⟨rfl, h1, k1⟩
    have hb1 := h1.blk
    rw [lastB_snoc] at hb1
    have hsz : (w.drewN nq).heap.size = w.heap.size := by simp [World.drewN]
    rw [hsz] at h1 hb1
    have c2 : w1.cell? ⟨r, 2, none⟩ = some (.pointer (some ⟨w.heap.size, 0, none⟩)) := ring_cell hb1 rfl
    have hx := chain_lt _ _ h1.chain
    have hsl := slice_seg w.heap.size 0 w1 (by decide)
    have HR : Hid (RgX w1 r mb (segs ++ [(w.heap.size, [] ++ zb)]) pad l zb) := h1
    clear hb1 h1 c3 c4 h
    go_wp2
    go_ret
    exact ⟨segs, w.heap.size, [], zb, rfl, HR.out, by decide, fun x hx => by
      rcases List.mem_append.1 hx with hx | hx
      · exact .inl (List.mem_map.2 ⟨x, hx, rfl⟩)
      · rw [List.mem_singleton.1 hx]; exact .inr (Nat.le_refl _), hx, (Kp.drewN _ _ _).then k1⟩
  · obtain ⟨pre, s, t, rfl, ht, hsum⟩ := open_at h (by omega) (by omega)
    have hm : ((pad.length : Int) + (l.length : Int)).tmod 64 = (t.length : Int) := by
      rw [← Int.natCast_add, hsum, Int.tmod_eq_emod_of_nonneg (by omega)]
      omega
    have ht0 : t.length < 64 := by omega
    have ht1 : ¬ (t.length : Int) = 0 := by omega
    rw [lastB_snoc] at hb
    have c2 : w.cell? ⟨r, 2, none⟩ = some (.pointer (some ⟨s, 0, none⟩)) := ring_cell hb rfl
    have HR : Hid (RgX w r mb (pre ++ [(s, t ++ junk)]) pad l junk) := h
    have hx := chain_lt _ _ h.chain
    have hsl := fun w => slice_seg s t.length w ht0
    clear hs hfl hj hj64 hb h hsum
    go_enter Try.func23, Try.ntmps23
    go_wp2
    go_quiet (fail)
    go_wp2
    go_ret
    exact ⟨pre, s, t, junk, rfl, HR.out.drewN _, ht0, fun x hx => .inl (List.mem_map.2 ⟨x, hx, rfl⟩), fun x h => by simpa [World.drewN] using hx x h, Kp.drewN _ _ _⟩
end Go.Proofs.Ytenajbefknlalaa
