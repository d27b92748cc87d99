/- Rows of numbers that grow; what is taken in a time (plain). -/
import Derived.Test.YtpahicfgenffgaaBkG
import Derived.Maps.AppendAt
namespace Go.Proofs.Ytpahicfgenffgaa
open Go.RowKit
set_option linter.unusedVariables false

theorem heap_lt {w : World} {b : Nat} {o : Obj} (h : w.heap[b]? = some o) : b < w.heap.size := (Array.getElem?_eq_some_iff.1 h).1
theorem ring_cell {w : World} {b i : Nat} {c : Array Value} {t : TypeId} {v : Value} (h : w.heap[b]? = some (.cells c t)) (hv : c[i]? = some v) : w.cell? ⟨b, i, none⟩ = some v := by
  simp [World.cell?, h, hv]
theorem addr_add (b o i : Nat) : (⟨b, o, none⟩ : Addr).add i = ⟨b, o + i, none⟩ := by unfold Addr.add; split <;> simp_all
def iv (n : Nat) : Value := .int .i64 (n : Int)
theorem ivs_one (l : List Nat) : ∀ v ∈ l.map iv, v.oneCell' = true := by
  intro v hv
  obtain ⟨x, _, rfl⟩ := List.mem_map.1 hv
  rfl
/-- Nothing old but block g has turned. -/
structure Ex (g : Nat) (w w' : World) : Prop where
  os : w'.os = w.os
  tape : w'.tape = w.tape
  output : w'.output = w.output
  size : w.heap.size ≤ w'.heap.size
  block : ∀ k, k < w.heap.size → k ≠ g → w'.heap[k]? = w.heap[k]?
theorem Ex.below {g B : Nat} {w w' : World} (h : Ex g w w') (hg : B ≤ g) (hB : B ≤ w.heap.size) : Below B w w' :=
  ⟨h.os, h.tape, h.output, h.size, fun k hk => h.block k (by omega) (by omega)⟩
theorem Ex.isK {g c : Nat} {w w' : World} (h : Ex g w w') (hc : c ≠ g) {r u k a : Int} (x : IsK w c r u k a) : IsK w' c r u k a := by
  have := x.lt
  unfold IsK at *; rw [h.block c this hc]; exact x
/-- A row of numbers in block g. -/
def IRow (w : World) (g : Nat) (v : Value) (l : List Nat) : Prop := ∃ cap cur, v = .slice (some ⟨g, 0, none⟩) l.length cap ∧ w.heap[g]? = some (.cells cur 3) ∧ l.length ≤ cap ∧ cap ≤ maxLen ∧ cur.size = cap ∧ cur.toList.take l.length = l.map iv
theorem IRow.lt {w : World} {g : Nat} {v : Value} {l : List Nat} (h : IRow w g v l) : g < w.heap.size := by
  obtain ⟨_, _, _, hg, _⟩ := h; exact heap_lt hg
theorem IRow.frame {w w' : World} {g : Nat} {v : Value} {l : List Nat} (h : IRow w g v l) (hk : w'.heap[g]? = w.heap[g]?) : IRow w' g v l := by
  obtain ⟨cap, cur, e, hg, r⟩ := h
  exact ⟨cap, cur, e, hk.trans hg, r⟩
theorem IRow.empty (w : World) : IRow (w.alloc (.cells #[] 3)) w.heap.size (.slice (some ⟨w.heap.size, 0, none⟩) 0 0) [] :=
  ⟨0, #[], rfl, new_at _ _, Nat.le_refl _, by decide, rfl, rfl⟩
theorem IRow.form {w : World} {g : Nat} {v : Value} {l : List Nat} (h : IRow w g v l) : ∃ cap, v = .slice (some ⟨g, 0, none⟩) l.length cap ∧ l.length ≤ cap ∧ ∀ (j : Nat) (hj : j < l.length), w.cell? ⟨g, j, none⟩ = some (.int .i64 (l[j] : Nat)) := by
  obtain ⟨cap, cur, e, hg, h1, h2, h3, h4⟩ := h
  refine ⟨cap, e, h1, fun j hj => ring_cell hg ?_⟩
  have k : (cur.toList.take l.length)[j]? = (l.map iv)[j]? := by rw [h4]
  rw [List.getElem?_take_of_lt hj, List.getElem?_map, List.getElem?_eq_getElem hj] at k
  simpa [iv] using k
theorem infoI3 : (Try.prog.info? 3).map (fun i => (i.zero, i.size, i.bytes)) = some (some (.int .i64 0), 1, 8) := by kernel_rfl
theorem irow_one {w : World} {g : Nat} {v : Value} {l : List Nat} (h : IRow w g v l) (n : Nat) (hmax : l.length + 1 ≤ 100000) :
    ∃ v' w' g', (Builtin.append_ #[37, 37] 37 #[v, .slice (some ⟨w.heap.size, 0, none⟩) 1 1]).run Try.prog (w.alloc (.cells #[.int .i64 (n : Int)] 3)) = .ok v' w' ∧ IRow w' g' v' (l ++ [n]) ∧ (g' = g ∨ w.heap.size ≤ g') ∧ Ex g w w' := by
  obtain ⟨i, hi, hz⟩ := Option.map_eq_some_iff.1 infoI3
  injection hz with hz0 hz
  injection hz with hz1 hz2
  have BA : Below w.heap.size w (w.alloc (.cells #[.int .i64 (n : Int)] 3)) := (Below.refl _ _).alloc (Nat.le_refl _) _
  obtain ⟨cap, cur, e, hg, h1, h2, h3, h4⟩ := h
  have hgl := heap_lt hg
  have hown : (w.alloc (.cells #[.int .i64 (n : Int)] 3)).ownsRow 0 3 1 v l.length (l.map iv) := ⟨by simp, .inr ⟨g, cap, cur, e, Nat.zero_le _, (BA.block g hgl).trans hg, h1, h2, by omega, by rw [Nat.mul_one]; exact h4⟩⟩
  have hnew := new_at w (.cells #[.int .i64 (n : Int)] 3)
  obtain ⟨v', w', hr, q1, q2, q3, q4⟩ := run_append_own_at (P := Try.prog) _ 0 37 37 3 i (.int .i64 0) 1 8 Try.underlying37 hi hz0 hz1 hz2 rfl (by decide) v l.length (l.map iv) hown ⟨w.heap.size, 0, none⟩ 1 1 ([n].map iv) (by simp)
      (fun j u hj => by
        rw [addr_add, Nat.zero_add]
        refine ring_cell hnew ?_
        simpa [iv] using hj) (ivs_one _) (by unfold maxLen; omega) (by omega) (Nat.zero_le _)
  have hob : v.ownBlock = some g := by rw [e]; rfl
  rw [hob] at q2 q4
  have hs : (w.alloc (.cells #[.int .i64 (n : Int)] 3)).heap.size = w.heap.size + 1 := by simp
  obtain ⟨y1, ⟨y2, y3⟩ | ⟨g', cap', cur', e', _, hg', k1, k2, k3, k4⟩⟩ := q1
  · omega
  · refine ⟨v', w', g', hr, ⟨cap', cur', by rw [List.length_append]; exact e', hg', by rw [List.length_append]; exact k1, k2, by omega, ?_⟩, ?_, ⟨q2.os.trans BA.os, q2.tape.trans BA.tape, q2.output.trans BA.output, Nat.le_trans BA.size q2.size, fun k hk hne => ?_⟩⟩
    · rw [List.length_append, List.map_append]; rw [Nat.mul_one] at k4; exact k4
    · rw [e'] at q4
      rcases q4 with q4 | q4
      · left; simpa [Value.ownBlock] using q4
      · right; have : g' = w.heap.size + 1 := by rw [hs] at q4; simpa [Value.ownBlock] using q4
        omega
    · rw [q2.block k (by omega) (fun c => hne (Option.some.inj c))]
      exact BA.block k hk

/-- What is taken from call i on, up to call m. -/
def sm (ks : List Nat) (i m : Nat) : Nat := ((ks.take m).drop i).sum
theorem sm_step {ks : List Nat} {i m : Nat} (h : i ≤ m) (hm : m < ks.length) : sm ks i (m + 1) = sm ks i m + ks[m] := by
  unfold sm
  rw [List.take_succ_eq_append_getElem hm, List.drop_append_of_le_length (by rw [List.length_take]; omega), List.sum_append]
  simp
theorem sm_self (ks : List Nat) (i : Nat) : sm ks i i = 0 := by
  unfold sm
  rw [List.drop_eq_nil_of_le (by rw [List.length_take]; omega)]; rfl
theorem sm_app {ks : List Nat} {i m n : Nat} (hm : m ≤ ks.length) : sm (ks ++ [n]) i m = sm ks i m := by
  unfold sm; rw [List.take_append_of_le_length hm]
theorem sm_le {ks : List Nat} {i m c : Nat} (h : ∀ x ∈ ks, x ≤ c) (hm : m ≤ ks.length) (hi : i ≤ m) : sm ks i m ≤ m * c := by
  induction m with
  | zero => have : i = 0 := by omega
            subst this; rw [sm_self]; omega
  | succ m ih =>
    rcases Nat.lt_or_ge m i with c' | c'
    · have : i = m + 1 := by omega
      subst this; rw [sm_self]; omega
    · rw [sm_step c' (by omega), Nat.succ_mul]
      have := ih (by omega) c'
      have := h _ (List.getElem_mem (show m < ks.length by omega))
      omega
/-- Of each row of calls no more is taken than burst and rate times its time. -/
structure Bd (ts ks : List Nat) (r u k : Int) (now : Nat) : Prop where
  len : ks.length = ts.length
  all : ∀ i m (hm : m < ts.length) (hi : i ≤ m), (sm ks i (m + 1) : Int) ≤ u + r * ((ts[m] : Int) - (ts[i]'(by omega) : Int))
  last : ∀ i (hi : i < ts.length), (sm ks i ts.length : Int) + k ≤ u + r * ((now : Int) - (ts[i] : Int))
  top : ∀ x ∈ ks, x ≤ 1048575
  tms : ∀ x ∈ ts, x ≤ now
theorem bd_nil (r u k : Int) (now : Nat) : Bd [] [] r u k now :=
  ⟨rfl, fun i m hm => absurd hm (Nat.not_lt_zero _), fun i hi => absurd hi (Nat.not_lt_zero _), fun x hx => (by cases hx), fun x hx => (by cases hx)⟩
theorem Bd.step {ts ks : List Nat} {r u k : Int} {now : Nat} (h : Bd ts ks r u k now) (d n : Nat) (k2 : Int) (hr : 0 ≤ r) (h1 : k2 + n ≤ k + r * d) (h2 : k2 + n ≤ u) (h3 : 0 ≤ k2) (hn : n ≤ 1048575) :
    Bd (ts ++ [now + d]) (ks ++ [n]) r u k2 (now + d) := by
  have hkl : (ks ++ [n]).length = ts.length + 1 := by rw [List.length_append, h.len]; rfl
  have hlast : ∀ i (hi : i < ts.length), (sm (ks ++ [n]) i (ts.length + 1) : Int) + k2 ≤ u + r * (((now + d : Nat) : Int) - (ts[i] : Int)) := fun i hi => by
    rw [sm_step (by omega) (by omega), sm_app (by rw [h.len]; omega)]
    have e : (ks ++ [n])[ts.length]'(by omega) = n := by
      rw [List.getElem_append_right (by rw [h.len]; omega)]; simp [h.len]
    rw [e]
    have := h.last i hi
    have e2 : r * (((now + d : Nat) : Int) - (ts[i] : Int)) = r * ((now : Int) - (ts[i] : Int)) + r * d := by rw [← Int.mul_add]; congr 1; omega
    rw [e2]
    generalize r * ((now : Int) - (ts[i] : Int)) = x at *
    generalize r * (d : Int) = y at *
    omega
  have hnew : (sm (ks ++ [n]) ts.length (ts.length + 1) : Int) = n := by
    rw [sm_step (Nat.le_refl _) (by omega), sm_self]
    have e : (ks ++ [n])[ts.length]'(by omega) = n := by
      rw [List.getElem_append_right (by rw [h.len]; omega)]; simp [h.len]
    rw [e]; omega
  refine ⟨by rw [hkl, List.length_append]; rfl, fun i m hm hi => ?_, fun i hi => ?_, fun x hx => ?_, fun x hx => ?_⟩
  · rw [List.length_append] at hm
    rcases Nat.lt_or_ge m ts.length with c | c
    · rw [sm_app (by rw [h.len]; omega)]
      rw [List.getElem_append_left c, List.getElem_append_left (by omega)]
      exact h.all i m c hi
    · have : m = ts.length := by have : [now + d].length = 1 := rfl
                                 omega
      subst this
      have e : (ts ++ [now + d])[ts.length]'(by simp) = now + d := by simp
      rw [e]
      rcases Nat.lt_or_ge i ts.length with c2 | c2
      · rw [List.getElem_append_left c2]
        have := hlast i c2
        omega
      · have : i = ts.length := by omega
        subst this
        rw [e, hnew, Int.sub_self, Int.mul_zero]; omega
  · have hl2 : (ts ++ [now + d]).length = ts.length + 1 := by rw [List.length_append]; rfl
    simp only [hl2] at hi ⊢
    rcases Nat.lt_or_ge i ts.length with c2 | c2
    · rw [List.getElem_append_left c2]; exact hlast i c2
    · have : i = ts.length := by omega
      subst this
      have e : (ts ++ [now + d])[ts.length]'(by simp) = now + d := by simp
      rw [e, hnew, Int.sub_self, Int.mul_zero]; omega
  · rcases List.mem_append.1 hx with hx | hx
    · exact h.top x hx
    · rw [List.mem_singleton.1 hx]; exact hn
  · rcases List.mem_append.1 hx with hx | hx
    · have := h.tms x hx; omega
    · rw [List.mem_singleton.1 hx]; omega
end Go.Proofs.Ytpahicfgenffgaa
