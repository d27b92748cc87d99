/- ClockOnce: a map of moments beside a clock (its memory, plain lemmas). -/
import Derived.Test.YtofnnphpogpcdaaClS
import Derived.Maps.RangeWalk
namespace Go.Proofs.Ytofnnphpogpcdaa
open Go.ChangeShapes Go.WideShapes Go.ChangeAt Go.RowKit
set_option linter.unusedVariables false

theorem owr_blkI {α : Type} {T : TypeId} {k : Nat} {enc : α → Array Value} {B : Nat} {w : World} {v : Value} {l : List α} (h : OwR T k enc B w v l) {g : Nat} (hg : v.ownBlock = some g) : B ≤ g ∧ ∃ cur, w.heap[g]? = some (.cells cur T) := by
  obtain ⟨_, ⟨h2, _⟩ | ⟨g', c, cur, hv, hB, hg', _⟩⟩ := h
  · rw [h2] at hg; cases hg
  · rw [hv] at hg
    obtain rfl : g' = g := by simpa [Value.ownBlock] using hg
    exact ⟨hB, cur, hg'⟩
abbrev QF := Int → Option Int
/-- A map of moments by numbers: N of them. -/
def TM (w : World) (m n N : Nat) (q : QF) : Prop := ∃ D : DataW Nat, w.ownsMap Try.prog 3 (plainElem Try.prog 2) m n D ∧ Maps.size D = N ∧ ∀ h : Int, Maps.has D (.int .i64 h) = (q h).isSome ∧ ∀ x, q h = some x → ∀ zd, D.atKey (.int .i64 h) zd = .lit (.int .i64 x)
theorem TM.lt {w : World} {m n N : Nat} {q : QF} (h : TM w m n N q) : m < w.heap.size := by obtain ⟨D, h1, _⟩ := h; exact h1.lt
theorem TM.blk {w : World} {m n N : Nat} {q : QF} (h : TM w m n N q) : ∃ es cl, w.heap[m]? = some (.map es cl) := by obtain ⟨D, ⟨es, cl, h1, _⟩, _⟩ := h; exact ⟨es, cl, h1⟩
theorem TM.move {w w' : World} {m n N : Nat} {q : QF} (h : TM w m n N q) (e : w'.heap[m]? = w.heap[m]?) : TM w' m n N q := by
  obtain ⟨D, ⟨es, cl, h1, r⟩, h2⟩ := h
  exact ⟨D, ⟨es, cl, e.trans h1, r⟩, h2⟩
theorem TM.new (w : World) : TM (w.alloc (.map #[] 0)) w.heap.size 0 0 (fun _ => none) := ⟨.map [], World.ownsMap_made (H := Nat) w Try.prog 3 (plainElem Try.prog 2), rfl, fun s => ⟨rfl, fun x hx => by cases hx⟩⟩
theorem litI_inj {a b : Int} (h : (DataW.lit (.int .i64 a) : DataW Nat) = .lit (.int .i64 b)) : a = b := by
  injection h with h
  injection h
def lookT (o : Option Int) : Int := o.getD 0
theorem TM.look {w : World} {m n N : Nat} {q : QF} (h : TM w m n N q) {s : Int} (hs : InR s) : (Instr.lookup 47 (.map (some m)) (.int .i64 s) false).run Try.prog w = .ok (.int .i64 (lookT (q s))) w ∧ (Instr.lookup 47 (.map (some m)) (.int .i64 s) true).run Try.prog w = .ok (.tuple #[.int .i64 (lookT (q s)), .bool (q s).isSome]) w := by
  obtain ⟨D, h1, _, h2⟩ := h
  have e0 : (Lit.int .i64 0).wf = true := by decide
  obtain ⟨v, ps, hrun, hv⟩ := h1.lookup KIt Try.underlying47 (Try.zeroValue2 w) (plainElem_int Try.underlying2 e0) (keyI hs)
  obtain ⟨v2, ps2, hrun2, hv2⟩ := h1.look_ok KIt Try.underlying47 (Try.zeroValue2 w) (plainElem_int Try.underlying2 e0) (keyI hs)
  have key : ∀ (v : Value) (ps : List MemPlace), plainElem (H := Nat) Try.prog 2 v = some (D.atKey (.int .i64 s) (.lit (.int .i64 0)), ps) → v = .int .i64 (lookT (q s)) := fun v ps hv => by
    obtain ⟨c, rfl, hc, hwc⟩ := plainElem_int_inv Try.underlying2 hv
    have hc1 := congrArg Prod.fst hc
    cases hq : q s with
    | none =>
      have hh := (h2 s).1
      rw [hq] at hh
      rw [Maps.atKey_of_not_has hh] at hc1
      rw [← litI_inj hc1]; rfl
    | some x =>
      rw [(h2 s).2 x hq] at hc1
      rw [← litI_inj hc1]; rfl
  rw [hrun, hrun2, (h2 s).1, key v ps hv, key v2 ps2 hv2]
  exact ⟨rfl, rfl⟩
theorem TM.len {w : World} {m n N : Nat} {q : QF} (h : TM w m n N q) (ty : TypeId) : (Builtin.len_ #[47] ty #[.map (some m)]).run Try.prog w = .ok (.int .i64 N) w := by
  obtain ⟨D, h1, h3, _⟩ := h
  rw [h1.len Try.underlying47 ty, h3]
theorem TM.put {w : World} {m n N : Nat} {q : QF} (h : TM w m n N q) (hn : n < maxLen) {s : Int} (hs : InR s) {x : Int} (hx : InR x) : ∃ w', (Instr.mapUpdate 47 (.map (some m)) (.int .i64 s) (.int .i64 x)).run Try.prog w = .ok () w' ∧ TM w' m (n + 1) (if (q s).isSome then N else N + 1) (updI q s (some x)) ∧ w.grownBy w' (some m) := by
  obtain ⟨D, h1, h3, h2⟩ := h
  obtain ⟨w', r, o, g⟩ := h1.update KIt Try.underlying47 hn (keyI hs) (plainElem_int Try.underlying2 (WalkArith.wf_i64 hx))
  refine ⟨w', r, ⟨_, o, ?_, fun u => ?_⟩, g⟩
  · rw [Maps.size_put (h1.tidy KIt), (h2 s).1, h3]
  · by_cases e : u = s
    · rw [e, updI_same]
      refine ⟨Maps.has_put_same h1.isMap (by exact trivial) _, fun z hz zd => ?_⟩
      obtain rfl : x = z := Option.some.inj hz
      rw [Maps.atKey_put_same h1.isMap (by exact trivial)]
    · rw [updI_other _ _ e]
      refine ⟨by rw [Maps.has_put_other (iL_ne e), (h2 u).1], fun z hz zd => ?_⟩
      rw [Maps.atKey_put_other (iL_ne e), (h2 u).2 z hz]
theorem TM.del {w : World} {m n N : Nat} {q : QF} (h : TM w m n N q) {s : Int} (hs : InR s) : ∃ w', (∀ ty, (Builtin.delete_ #[47, 3] ty #[.map (some m), .int .i64 s]).run Try.prog w = .ok (.tuple #[]) w') ∧ TM w' m n (if (q s).isSome then N - 1 else N) (updI q s none) ∧ w.grownBy w' (some m) := by
  obtain ⟨D, h1, h3, h2⟩ := h
  have htd := h1.tidy KIt
  obtain ⟨es, cl, hb, F, hsz, rfl⟩ := h1
  obtain ⟨es', hrun, F', hle, hdel, _⟩ := Maps.fit_drop (ty := 0) KIt Try.underlying47 hb F (keyI hs)
  have hrun' : ∀ ty, (Builtin.delete_ #[47, 3] ty #[.map (some m), .int .i64 s]).run Try.prog w = _ := fun ty => (show (Builtin.delete_ #[47, 3] ty #[.map (some m), .int .i64 s]).run Try.prog w = (Builtin.delete_ #[47, 3] 0 #[.map (some m), .int .i64 s]).run Try.prog w from rfl).trans hrun
  refine ⟨_, hrun', ⟨_, ⟨es', cl, ChangeMaps.heap_setBlock_same hb _, F', Nat.le_trans hle hsz, rfl⟩, ?_, fun u => ?_⟩, World.mapTurned.grown ⟨es, cl, es', cl, hb, rfl⟩⟩
  · rw [hdel, ← DataW.del_eq]
    have k := Maps.size_del (k := .int .i64 s) htd
    rw [(h2 s).1, h3] at k
    split at k <;> rename_i hq
    · rw [if_pos hq]; omega
    · rw [if_neg hq]; omega
  · rw [hdel, ← DataW.del_eq]
    by_cases e : u = s
    · rw [e, updI_same]
      exact ⟨Maps.has_del_same, fun z hz => by cases hz⟩
    · rw [updI_other _ _ e]
      refine ⟨by rw [Maps.has_del_other (iL_ne e), (h2 u).1], fun z hz zd => ?_⟩
      rw [Maps.atKey_del_other (iL_ne e), (h2 u).2 z hz]
/-- The map tells the list. -/
def RQL (q : QF) (L : List Pr) : Prop := (L.map Prod.fst).Nodup ∧ ∀ s t, q s = some t ↔ (s, t) ∈ L
theorem RQL.nil : RQL (fun _ => none) [] := ⟨List.nodup_nil, fun s t => ⟨fun h => (by cases h), fun h => (by cases h)⟩⟩
theorem RQL.has {q : QF} {L : List Pr} (h : RQL q L) (s : Int) : (q s).isSome = hasL s L := by
  cases hq : q s with
  | some t =>
    have := hasL_iff.2 ⟨(s, t), (h.2 s t).1 hq, rfl⟩
    rw [this]; rfl
  | none =>
    cases hh : hasL s L with
    | false => rfl
    | true =>
      obtain ⟨p, hp, e⟩ := hasL_iff.1 hh
      have := (h.2 p.1 p.2).2 hp
      rw [e, hq] at this
      cases this
theorem RQL.put {q : QF} {L : List Pr} (h : RQL q L) {s t : Int} (hn : ∀ p ∈ L, p.1 ≠ s) : RQL (updI q s (some t)) (insL (s, t) L) := by
  refine ⟨ins_nodup h.1 hn, fun u x => ?_⟩
  rw [(insL_perm _ _).mem_iff, List.mem_cons]
  by_cases e : u = s
  · rw [e, updI_same]
    constructor
    · intro k; cases k; exact .inl rfl
    · rintro (k | k)
      · cases k; rfl
      · exact absurd rfl (hn _ k)
  · rw [updI_other _ _ e, h.2 u x]
    constructor
    · exact .inr
    · rintro (k | k)
      · cases k; exact absurd rfl e
      · exact k
theorem RQL.off {q : QF} {L : List Pr} (h : RQL q L) (s : Int) : RQL (updI q s none) (offL s L) := by
  refine ⟨off_nodup h.1, fun u x => ?_⟩
  rw [mem_off]
  by_cases e : u = s
  · rw [e, updI_same]
    exact ⟨fun k => (by cases k), fun k => absurd rfl k.2⟩
  · rw [updI_other _ _ e, h.2 u x]
    exact ⟨fun k => ⟨k, e⟩, fun k => k.1⟩
theorem off_len1 {id : Int} : ∀ {L : List Pr}, (L.map Prod.fst).Nodup → hasL id L = true → (offL id L).length = L.length - 1
  | [], _, h => by cases h
  | p :: t, hn, h => by
    rw [List.map_cons] at hn
    obtain ⟨n1, n2⟩ := List.nodup_cons.1 hn
    by_cases e : p.1 = id
    · have : offL id (p :: t) = t := by
        unfold offL
        rw [List.filter_cons, if_neg (by simp [e])]
        exact off_none fun q hq e2 => n1 (List.mem_map.2 ⟨q, hq, e2.trans e.symm⟩)
      rw [this]; rfl
    · have h2 : hasL id t = true := by
        obtain ⟨q, hq, eq⟩ := hasL_iff.1 h
        rcases List.mem_cons.1 hq with r | r
        · rw [r] at eq; exact absurd eq e
        · exact hasL_iff.2 ⟨q, r, eq⟩
      have ih := off_len1 n2 h2
      have : offL id (p :: t) = p :: offL id t := by
        unfold offL
        rw [List.filter_cons, if_pos (by simpa using e)]
      have hp : 0 < t.length := by
        obtain ⟨q, hq, _⟩ := hasL_iff.1 h2
        exact List.length_pos_of_mem hq
      rw [this]
      show (offL id t).length + 1 = t.length + 1 - 1
      omega
theorem off_len0 {id : Int} {L : List Pr} (h : hasL id L = false) : (offL id L).length = L.length := by
  rw [off_none fun p hp e => by rw [hasL_iff.2 ⟨p, hp, e⟩] at h; cases h]
/-- What has happened is a beginning. -/
theorem pass_pre {T : Int} : ∀ {L : List Pr}, L.Pairwise klt → passI T L = (L.take (passI T L).length).map Prod.fst ∧ passR T L = L.drop (passI T L).length ∧ ∀ p ∈ L.take (passI T L).length, p.2 ≤ T
  | [], _ => ⟨rfl, rfl, fun p hp => by simp at hp⟩
  | p :: t, h => by
    by_cases c : p.2 ≤ T
    · obtain ⟨e1, e2, e3⟩ := pass_pre (T := T) (List.pairwise_cons.1 h).2
      rw [passI_cons c, passR_cons c]
      refine ⟨?_, ?_, fun q hq => ?_⟩
      · rw [List.length_cons, List.take_succ_cons, List.map_cons, ← e1]
      · rw [List.length_cons, List.drop_succ_cons]; exact e2
      · rw [List.length_cons, List.take_succ_cons] at hq
        rcases List.mem_cons.1 hq with r | r
        · rw [r]; exact c
        · exact e3 q r
    · obtain ⟨e1, e2⟩ := pass_stop h c
      rw [e1, e2]
      exact ⟨rfl, rfl, fun q hq => by simp at hq⟩
theorem drop_off {L : List Pr} {j : Nat} {p : Pr} (hn : (L.map Prod.fst).Nodup) (hj : L[j]? = some p) : offL p.1 (L.drop j) = L.drop (j + 1) := by
  obtain ⟨hk, e⟩ := List.getElem?_eq_some_iff.1 hj
  have hd : L.drop j = p :: L.drop (j + 1) := by rw [List.drop_eq_getElem_cons hk, e]
  rw [hd]
  have : ((p :: L.drop (j + 1)).map Prod.fst).Nodup := by
    rw [← hd]
    exact List.Nodup.sublist (List.Sublist.map _ (List.drop_sublist _ _)) hn
  exact off_head this
/-- Numbers that came in, as a list. -/
theorem open_rd {H : Type} {enc : TypeId × Value → H} {w : World} {base : Nat} {held : Bool} {a : Option Addr} {len cap : Nat} {x : DataW H × List MemPlace}
    (h : ∃ fuel, DataW.trod enc Try.prog w base (fun _ => true) held fuel 31 (Value.slice a len cap).cells.toList = some x) : ∃ zs : List Int, zs.length = len ∧ RdR 1 encI w a cap zs := by
  obtain ⟨fuel, hf⟩ := h
  rcases open_ints Try.underlying31 Try.underlying3 (by kernel_rfl) hf with ⟨hcs, _⟩ | ⟨x, l, c, zs, hcs, _, hl, hm, hz, _, hcell, hwz⟩
  · simp [Value.cells] at hcs
    obtain ⟨rfl, rfl, rfl⟩ := hcs
    exact ⟨[], rfl, RdR.emp _ _ _⟩
  · simp [Value.cells] at hcs
    obtain ⟨rfl, rfl, rfl⟩ := hcs
    have hz' : zs.length = cap := by simpa using hz
    refine ⟨zs.take len, by rw [List.length_take]; omega, (fun e => by cases e), by rw [List.length_take]; omega, hm, fun hp => ?_⟩
    rw [List.length_take] at hp
    obtain ⟨b, off, rfl, hc⟩ := ints_at hcell (by omega)
    refine ⟨b, off, rfl, cell_lt (hc 0 (by omega)), fun j y hj i hi => ?_⟩
    obtain rfl : i = 0 := by omega
    have hjl := (List.getElem?_eq_some_iff.1 hj).1
    rw [List.length_take] at hjl
    rw [List.getElem?_take_of_lt (by omega)] at hj
    have e := hc j (by omega)
    rw [Nat.mul_one, Nat.add_zero, e, List.getD_eq_getElem?_getD, hj]
    rfl
end Go.Proofs.Ytofnnphpogpcdaa
