/- Put. -/
import Derived.Test.YtenajbefknlalaaRgB
namespace Go.Proofs.Ytenajbefknlalaa
open Go.RowKit
set_option linter.unusedVariables false

theorem copy_in {w w' : World} {r mb s : Nat} {pre : List Seg} {t cs junk pad l : List UInt8} (h : RgX w r mb (pre ++ [(s, t ++ junk)]) pad l junk) (hc : cs.length ≤ junk.length)
    (hr : w'.heap[r]? = some (.cells #[.pointer (some ⟨mb, 0, none⟩), pt (hd (pre ++ [(s, t ++ junk)]) none), pt (some s), .int .i64 pad.length, .int .i64 (l.length + cs.length : Nat)] 56))
    (hs : w'.heap[s]? = some (.cells ((segV (t ++ junk) none).take t.length ++ (cs.map bv ++ (segV (t ++ junk) none).drop (t.length + cs.length))).toArray 70 (0, 0)))
    (hpre : ∀ x ∈ pre, w'.heap[x.1]? = w.heap[x.1]?) : RgX w' r mb (pre ++ [(s, t ++ cs ++ junk.drop cs.length)]) pad (l ++ cs) (junk.drop cs.length) := by
  have hch := h.chain
  rw [chain_append] at hch
  have h64 : (t ++ junk).length = 64 := hch.2.1.1
  rw [List.length_append] at h64
  have e : (segV (t ++ junk) none).take t.length ++ (cs.map bv ++ (segV (t ++ junk) none).drop (t.length + cs.length)) = segV (t ++ cs ++ junk.drop cs.length) none := by
    unfold segV
    rw [List.map_append, List.append_assoc, List.take_append_of_le_length (by simp), List.take_of_length_le (by simp), List.drop_append, List.length_map]
    rw [List.drop_eq_nil_of_le (by simp), show t.length + cs.length - t.length = cs.length by omega, List.drop_append_of_le_length (by simpa using hc)]
    simp [List.map_append, List.map_drop]
  rw [e] at hs
  refine ⟨?_, ?_, ?_, ?_, ?_⟩
  · rw [hr, lastB_snoc, hd_append, hd_append, List.length_append]
    cases pre <;> rfl
  · rw [chain_append]
    exact ⟨chain_frame _ _ hpre hch.1, ⟨by simp; omega, hs⟩, trivial⟩
  · have := h.nd
    rw [List.map_append] at this ⊢
    exact this
  · have := h.nr
    rw [List.map_append] at this ⊢
    exact this
  · have hf := h.fl
    rw [flat_append, flat_one] at hf ⊢
    have : flat pre ++ t = pad ++ l := by
      have h2 : (flat pre ++ t) ++ junk = (pad ++ l) ++ junk := by rw [List.append_assoc]; exact hf
      exact List.append_cancel_right h2
    show flat pre ++ (t ++ cs ++ List.drop cs.length junk) = _
    rw [List.append_assoc, ← List.append_assoc, this]
    simp

theorem copy_to (w : World) (g off dLen dCap : Nat) (ad : Addr) (sLen sCap : Nat) (cur : List Value) (t : TypeId) (hg : w.heap[g]? = some (.cells cur.toArray t (0, 0))) (cs : List Value) (n : Nat) (hcn : cs.length = n) (hn : n = Nat.min sLen dLen)
    (hsrc : ∀ j v, cs[j]? = some v → w.cell? (ad.add j) = some v) (hfit : off + n ≤ cur.length) (h1 : ∀ v ∈ cs, v.oneCell' = true) (hsz : (Try.prog.info? 5).map (·.size) = some 1) :
    ∃ w', (Builtin.copy_ #[35, 35] 3 #[.slice (some ⟨g, off, none⟩) dLen dCap, .slice (some ad) sLen sCap]).run Try.prog w = .ok (.int .i64 (n : Int)) w' ∧
      w'.heap[g]? = some (.cells (cur.take off ++ (cs ++ cur.drop (off + n))).toArray t (0, 0)) ∧ But g w w' := by
  subst hcn
  have hrun := run_copy_row (P := Try.prog) w 35 35 3 5 g off dLen dCap ad sLen sCap cur.toArray t cs Try.underlying35 hsz hg hn hsrc (by simpa using hfit) h1
  refine ⟨_, hrun, ?_, ⟨rfl, rfl, rfl, by simp [World.setRow], fun k hk => setRow_other w g k _ hk⟩⟩
  simpa using setRow_heap w g _ _ t _ hg
set_option maxRecDepth 100000 in
set_option maxHeartbeats 4000000 in
theorem put_yes (r mb k : Nat) (S : Nat → Prop) (l b : List UInt8) (v : Value) (m h p : Int) (w : World) (hR : Rg w r mb S l) (hM : IsM w mb m h p) (hv : Src w k v b) (hk : k < w.heap.size) (hkS : ¬ S k) (hkm : k ≠ mb)
    (h0 : 0 ≤ h) (h2 : m ≤ 1099511627776) (hlh : (l.length : Int) ≤ h) (hb : (b.length : Int) ≤ m - h) :
    Calls Try.prog 9 #[.pointer (some ⟨r, 0, none⟩), v] w fun e w' => e = .returned (.bool true) ∧ ∃ S' : Nat → Prop, Rg w' r mb S' (l ++ b) ∧ IsM w' mb m (h + b.length) p ∧ (∀ i, S' i → S i ∨ w.heap.size ≤ i) ∧ Kp (fun i => S i ∨ i = mb) w w' := by
  have HT := take_any mb m h p (b.length : Int) w hM h0 (by omega) h2
  rw [(tk_yes (m := m) (h := h) (n := (b.length : Int)) (by omega) hb).1, (tk_yes (m := m) (h := h) (n := (b.length : Int)) (by omega) hb).2] at HT
  have HH : Hid (Calls Try.prog 22 #[.pointer (some ⟨mb, 0, none⟩), .int .i64 (b.length : Int)] w fun e w' => e = .returned (.bool true) ∧ IsM w' mb m (h + b.length) p ∧ But mb w w') := HT
  clear HT
  have hmS := hR.nomb
  have hml := hM.lt
  have hSl := hR.lt
  have c0 : w.cell? ⟨r, 0, none⟩ = some (.pointer (some ⟨mb, 0, none⟩)) := by obtain ⟨_, _, _, hX, _, _⟩ := hR; exact ring_cell hX.blk rfl
  have hv0 := hv
  obtain ⟨a, c, rfl, hc1, hc2, hc3⟩ := hv
  clear hc3
  unfold maxLen at hc2
  have HB : Hid ((l.length : Int) + b.length ≤ 1099511627776) := by rw [Hid]; omega
  go_enter Try.func9, Try.ntmps9
  go_wp2_with fail
  refine HH.out.mono ?_
  rintro e w1 ⟨rfl, M1, B1⟩
  have K1 : Kp (fun i => S i ∨ i = mb) w w1 := Kp.ofBut B1 (.inr rfl)
  have hv1 : Src w1 k (.slice a b.length c) b := hv0.frame (B1.block k hkm)
  have hR1 : Rg w1 r mb S l := hR.keep (Kp.ofBut (T := fun i => i = mb) B1 rfl) (fun i hi e => hmS (e ▸ hi))
  clear hR hM B1 hv0 c0 HH
  go_wp2_with fail
  go_loopw [1] (fun vb wr => ∃ (done rest : List UInt8) (S' : Nat → Prop), b = done ++ rest ∧ Src wr k vb rest ∧ Rg wr r mb S' (l ++ done) ∧ IsM wr mb m (h + b.length) p ∧ (∀ i, S' i → S i ∨ w.heap.size ≤ i) ∧ Kp (fun i => S i ∨ i = mb) w wr) (fun vb _ => lenOf vb)
  case atStart => exact ⟨[], b, S, rfl, hv1, by rw [List.append_nil]; exact hR1, M1, fun i hi => .inl hi, K1⟩
  case round =>
    obtain ⟨done, rest, S', hbe, hsrc, hRr, hMr, hSr, hKr⟩ := hrel
    clear hv1 hR1 M1 K1 hc1 hc2
    obtain ⟨a', c', rfl, hc1, hc2, hc3⟩ := hsrc
    unfold maxLen at hc2
    by_cases hz : rest.length = 0
    · obtain rfl : rest = [] := List.eq_nil_of_length_eq_zero hz
      rw [List.append_nil] at hbe
      go_wp2
      go_ret
      exact ⟨rfl, S', by rw [hbe]; exact hRr, hMr, hSr, hKr⟩
    · obtain ⟨off, rfl, hcell⟩ := hc3 (by omega)
      have hp : (0 : Int) < (rest.length : Int) := by omega
      obtain ⟨segs, pad, junk, hX, hS, hF⟩ := hRr
      have hbl : b.length = done.length + rest.length := by rw [hbe, List.length_append]
      have hll : (l ++ done).length + rest.length ≤ 1099511627776 := by rw [List.length_append]; have := HB.out; omega
      have HBE : Hid (b = done ++ rest) := hbe
      obtain ⟨L, hL⟩ : ∃ L, L = l ++ done := ⟨_, rfl⟩
      rw [← hL] at hll hX hS
      have HL : Hid (L = l ++ done) := hL
      clear hL hbl hbe
      have hkS' : ¬ S' k := fun c => by rcases hSr k c with c | c; exact hkS c; omega
      clear hz
      go_wp2_with fail
      refine (behind_any r mb segs pad L junk _ hX hS (by omega)).mono ?_
      rintro e w2 ⟨pre, s, t, junk', rfl, hX2, ht, hin, hlt2, K2⟩
      have hch := hX2.chain
      rw [chain_append] at hch
      have hSg : IsS w2 s (t ++ junk') none := hch.2.1
      have hj64 : t.length + junk'.length = 64 := by have := hSg.1; rwa [List.length_append] at this
      have hk2 : w2.heap[k]? = wr.heap[k]? := K2.block k (Nat.lt_of_lt_of_le hk hKr.size) (fun c => by
        rcases c with c | c
        · exact hkS' (c ▸ hF.r)
        · obtain ⟨x, hx, rfl⟩ := List.mem_map.1 c
          exact hkS' (hF.segs x hx))
      obtain ⟨n, hn⟩ : ∃ n, n = Nat.min rest.length (64 - t.length) := ⟨_, rfl⟩
      have hn1 : n ≤ rest.length := by rw [hn]; exact Nat.min_le_left _ _
      have hn2 : n ≤ 64 - t.length := by rw [hn]; exact Nat.min_le_right _ _
      have hn3 : 0 < n := by rw [hn]; exact Nat.lt_min.2 ⟨by omega, by omega⟩
      obtain ⟨w3, hcopy, hs3, B3⟩ := copy_to w2 s t.length (64 - t.length) (64 - t.length) ⟨k, off, none⟩ rest.length c' (segV (t ++ junk') none) 70 hSg.2 ((rest.take n).map bv) n (by simp; omega) hn
        (fun j v hj => by
          rw [List.getElem?_map] at hj
          obtain ⟨x, hx, rfl⟩ := Option.map_eq_some_iff.1 hj
          have hjn : j < n := by
            have := (List.getElem?_eq_some_iff.1 hx).1
            rw [List.length_take] at this; omega
          rw [List.getElem?_take_of_lt hjn, List.getElem?_eq_getElem (by omega)] at hx
          rw [addr_add, ← Option.some.inj hx, ← hcell j (by omega)]
          simp [World.cell?, hk2]) (by simp [segV]; omega) (bvs_one _) infoB
      have hnr : r ≠ s := fun e => hX2.nr (by rw [e]; simp)
      have hb3 : w3.heap[r]? = some (.cells #[.pointer (some ⟨mb, 0, none⟩), pt (hd (pre ++ [(s, t ++ junk')]) none), pt (some s), .int .i64 pad.length, .int .i64 L.length] 56) := by
        rw [B3.block r hnr, hX2.blk, lastB_snoc]
      have c4 : w3.cell? ⟨r, 4, none⟩ = some (.int .i64 L.length) := ring_cell hb3 rfl
      have z4 : w3.frozen? ⟨r, 4, none⟩ = false := ring_z hb3
      have HN : Hid (n = Nat.min rest.length (64 - t.length)) := hn
      have hnl : (L.length : Int) + n ≤ 1099511627776 := by omega
      have HR : Hid (RgX (w3.setCell ⟨r, 4, none⟩ (.int .i64 ((L.length : Int) + (n : Int)))) r mb (pre ++ [(s, t ++ rest.take n ++ junk'.drop n)]) pad (L ++ rest.take n) (junk'.drop n)) := by
        have hcl : (rest.take n).length = n := by rw [List.length_take]; omega
        have := copy_in (w' := w3.setCell ⟨r, 4, none⟩ (.int .i64 ((L.length : Int) + (n : Int)))) (cs := rest.take n) hX2 (by omega) (by
          rw [ring_set hb3, hcl]; rfl) (by
          rw [(But.set r 4 w3 _).block s (fun e => hnr e.symm), hs3, hcl]) (fun x hx => by
          have h1 : x.1 ≠ r := fun e => hX2.nr (by rw [← e, List.map_append, List.mem_append]; exact .inl (List.mem_map.2 ⟨x, hx, rfl⟩))
          have h2 : x.1 ≠ s := fun e => by
            have k := hX2.nd
            rw [List.map_append, List.nodup_append] at k
            exact k.2.2 x.1 (List.mem_map.2 ⟨x, hx, rfl⟩) s (by simp) e
          rw [(But.set r 4 w3 _).block _ h1, B3.block _ h2])
        rwa [hcl] at this
      have HK : Hid (Kp (fun i => S i ∨ i = mb) w (w3.setCell ⟨r, 4, none⟩ (.int .i64 ((L.length : Int) + (n : Int))))) := by
        have k1 : Kp (fun i => S i ∨ i = mb) w w2 := hKr.trans K2 (fun i hi => by
          have hi' : S' i := by
            rcases hi with rfl | hi
            · exact hF.r
            · obtain ⟨x, hx, rfl⟩ := List.mem_map.1 hi
              exact hF.segs x hx
          rcases hSr i hi' with c | c
          · exact .inl (.inl c)
          · exact .inr c)
        have hss : S s ∨ w.heap.size ≤ s := by
          rcases hin (s, t ++ junk') (by simp) with c | c
          · obtain ⟨x, hx, he⟩ := List.mem_map.1 c
            have := hF.segs x hx
            rw [he] at this
            exact hSr s this
          · exact .inr (Nat.le_trans hKr.size c)
        have k2 : Kp (fun i => S i ∨ i = mb) w w3 := k1.trans (Kp.ofBut (T := fun i => i = s) B3 rfl) (fun i hi => by
          subst hi
          rcases hss with c | c
          · exact .inl (.inl c)
          · exact .inr c)
        exact k2.trans (Kp.set (T := fun i => i = r) w3 r 4 _ rfl) (fun i hi => by
          subst hi
          rcases hSr i hF.r with c | c
          · exact .inl (.inl c)
          · exact .inr c)
      have HG : Hid (Rg (w3.setCell ⟨r, 4, none⟩ (.int .i64 ((L.length : Int) + (n : Int)))) r mb (fun i => S' i ∨ i ∈ (pre ++ [(s, t ++ junk')]).map (·.1)) (L ++ rest.take n)) := by
        refine ⟨_, _, _, HR.out, ?_, ?_⟩
        · refine .inr ⟨by simp; omega, ?_, by simp; omega⟩
          rcases hS with ⟨_, rfl, _, _⟩ | ⟨_, h1, _⟩
          · decide
          · exact h1
        · have hsz : (w3.setCell ⟨r, 4, none⟩ (.int .i64 ((L.length : Int) + (n : Int)))).heap.size = w2.heap.size := by
            rw [(But.set r 4 w3 _).size, B3.size]
          refine ⟨.inl hF.r, fun x hx => .inr ?_, fun i hi => ?_, ?_⟩
          · rw [List.map_append, List.mem_append]
            rcases List.mem_append.1 hx with hx | hx
            · exact .inl (List.mem_map.2 ⟨x, hx, rfl⟩)
            · rw [List.mem_singleton.1 hx]; exact .inr (by simp)
          · rw [hsz]
            rcases hi with hi | hi
            · exact Nat.lt_of_lt_of_le (hF.lt i hi) K2.size
            · obtain ⟨x, hx, rfl⟩ := List.mem_map.1 hi
              exact hlt2 x hx
          · rintro (c | c)
            · exact hF.mb c
            · obtain ⟨x, hx, he⟩ := List.mem_map.1 c
              rcases hin x hx with q | q
              · obtain ⟨y, hy, hye⟩ := List.mem_map.1 q
                have := hF.segs y hy
                rw [hye, he] at this
                exact hF.mb this
              · have := hKr.size
                omega
      have HM3 : Hid (IsM (w3.setCell ⟨r, 4, none⟩ (.int .i64 ((L.length : Int) + (n : Int)))) mb m (h + b.length) p) := by
        have hmr : mb ≠ r := fun e => hF.mb (e ▸ hF.r)
        have hms : mb ≠ s := fun e => by
          rcases hin (s, t ++ junk') (by simp) with q | q
          · obtain ⟨y, hy, hye⟩ := List.mem_map.1 q
            have := hF.segs y hy
            rw [hye] at this
            exact hF.mb (e ▸ this)
          · have := hKr.size
            have q' : wr.heap.size ≤ s := q
            omega
        have q1 : IsM w2 mb m (h + b.length) p := Kp.isM K2 (fun c => by
          rcases c with c | c
          · exact hmr c
          · obtain ⟨y, hy, hye⟩ := List.mem_map.1 c
            have := hF.segs y hy
            rw [hye] at this
            exact hF.mb this) hMr
        exact (But.set r 4 w3 _).isM hmr (B3.isM hms q1)
      have HC : Hid (∀ (j : Nat) (hj : j < rest.length), (w3.setCell ⟨r, 4, none⟩ (.int .i64 ((L.length : Int) + (n : Int)))).cell? ⟨k, off + j, none⟩ = some (bv rest[j])) := by
        intro j hj
        have hkr : k ≠ r := fun e => hkS' (e ▸ hF.r)
        have hks : k ≠ s := fun e => by
          rcases hin (s, t ++ junk') (by simp) with q | q
          · obtain ⟨y, hy, hye⟩ := List.mem_map.1 q
            have := hF.segs y hy
            rw [hye] at this
            exact hkS' (e ▸ this)
          · have := hKr.size
            have q' : wr.heap.size ≤ s := q
            omega
        rw [← hcell j hj]
        simp only [World.cell?]
        rw [(But.set r 4 w3 _).block k hkr, B3.block k hks, hk2]
      have HSS : Hid (∀ i, (S' i ∨ i ∈ (pre ++ [(s, t ++ junk')]).map (·.1)) → S i ∨ w.heap.size ≤ i) := by
        rintro i (hi | hi)
        · exact hSr i hi
        · obtain ⟨x, hx, rfl⟩ := List.mem_map.1 hi
          rcases hin x hx with q | q
          · obtain ⟨y, hy, hye⟩ := List.mem_map.1 q
            have := hF.segs y hy
            rw [hye] at this
            exact hSr _ this
          · exact .inr (Nat.le_trans hKr.size q)
      clear hin hlt2 K2 hF hS hKr hMr hSr hk2 HR hkS'
      clear hch hSg hs3 B3 hb3 hn hcell hX2 hX
      by_cases hcc : n = c'
      · go_wp2
        go_roundw
        case rel =>
          subst hcc
          refine ⟨done ++ rest.take n, rest.drop n, _, by rw [HBE.out, List.append_assoc, List.take_append_drop], ?_, ?_, HM3.out, HSS.out, HK.out⟩
          · rw [List.drop_eq_nil_of_le hc1]
            exact ⟨_, 0, rfl, Nat.le_refl _, Nat.zero_le _, fun h => absurd h (by decide)⟩
          · rw [← List.append_assoc, ← HL.out]; exact HG.out
        case measure => simp only [lenOf]; omega
      · go_wp2
        go_roundw
        case rel =>
          refine ⟨done ++ rest.take n, rest.drop n, _, by rw [HBE.out, List.append_assoc, List.take_append_drop], ?_, ?_, HM3.out, HSS.out, HK.out⟩
          · exact Src.rest n hn1 hc1 hc2 HC.out _ (fun h => rfl)
          · rw [← List.append_assoc, ← HL.out]; exact HG.out
        case measure => simp only [lenOf]; omega

set_option maxHeartbeats 1000000 in
theorem put_no (r mb : Nat) (S : Nat → Prop) (l : List UInt8) (a : Option Addr) (n c : Nat) (m h p : Int) (w : World) (hR : Rg w r mb S l) (hM : IsM w mb m h p)
    (h0 : 0 ≤ h) (h1 : h ≤ m) (h2 : m ≤ 1099511627776) (hb : m - h < (n : Int)) :
    Calls Try.prog 9 #[.pointer (some ⟨r, 0, none⟩), .slice a n c] w fun e w' => e = .returned (.bool false) ∧ IsM w' mb m h p ∧ But mb w w' := by
  have HH : Hid (Calls Try.prog 22 #[.pointer (some ⟨mb, 0, none⟩), .int .i64 (n : Int)] w fun e w' => e = .returned (.bool false) ∧ IsM w' mb m h p ∧ But mb w w') := take_nok mb m h p n w hM h0 h1 h2 (.inr hb)
  have c0 : w.cell? ⟨r, 0, none⟩ = some (.pointer (some ⟨mb, 0, none⟩)) := by obtain ⟨_, _, _, hX, _, _⟩ := hR; exact ring_cell hX.blk rfl
  clear hb
  go_enter Try.func9, Try.ntmps9
  go_wp2_with fail
  refine HH.out.mono ?_
  rintro e w1 ⟨rfl, M1, B1⟩
  go_wp2
  go_ret
  exact ⟨rfl, M1, B1⟩

/-- Put, whether the meter takes it or not. -/
theorem put_any (r mb k : Nat) (S : Nat → Prop) (l b : List UInt8) (v : Value) (m h p : Int) (w : World) (hR : Rg w r mb S l) (hM : IsM w mb m h p) (hv : Src w k v b) (hk : k < w.heap.size) (hkS : ¬ S k) (hkm : k ≠ mb)
    (h0 : 0 ≤ h) (h1 : h ≤ m) (h2 : m ≤ 1099511627776) (hlh : (l.length : Int) ≤ h) :
    Calls Try.prog 9 #[.pointer (some ⟨r, 0, none⟩), v] w fun e w' => e = .returned (.bool (decide ((b.length : Int) ≤ m - h))) ∧ ∃ S' : Nat → Prop, Rg w' r mb S' (if (b.length : Int) ≤ m - h then l ++ b else l) ∧ IsM w' mb m (if (b.length : Int) ≤ m - h then h + b.length else h) p ∧ (∀ i, S' i → S i ∨ w.heap.size ≤ i) ∧ Kp (fun i => S i ∨ i = mb) w w' := by
  by_cases hb : (b.length : Int) ≤ m - h
  · rw [if_pos hb, if_pos hb, decide_eq_true hb]
    exact put_yes r mb k S l b v m h p w hR hM hv hk hkS hkm h0 h2 hlh hb
  · rw [if_neg hb, if_neg hb, decide_eq_false hb]
    obtain ⟨a, c, rfl, _⟩ := hv
    refine (put_no r mb S l a b.length c m h p w hR hM h0 h1 h2 (by omega)).mono ?_
    rintro e w1 ⟨rfl, M1, B1⟩
    have hmS := hR.nomb
    exact ⟨rfl, S, hR.keep (Kp.ofBut (T := fun i => i = mb) B1 rfl) (fun i hi e => hmS (e ▸ hi)), M1, fun i hi => .inl hi, Kp.ofBut B1 (.inr rfl)⟩
end Go.Proofs.Ytenajbefknlalaa
