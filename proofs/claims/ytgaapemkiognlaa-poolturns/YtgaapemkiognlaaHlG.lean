/- PoolTurns: the map of what was met; the state. -/
import Derived.Test.YtgaapemkiognlaaHlF
import Derived.Maps.RangeWalk
namespace Go.Proofs.Ytgaapemkiognlaa
open Go.RowKit
set_option linter.unusedVariables false

/-- What was met behind k picks. -/
def MT (w : World) (mk m n s t0 k : Nat) (D : DataW Nat) : Prop := w.ownsMap Try.prog 9 (plainElem Try.prog 3) mk m D ∧ (∀ p, p < n → D.atKey (kL (nmK p)) (.lit (.int .i64 0)) = .lit (.int .i64 ((cntP n s t0 k p : Nat) : Int))) ∧ ∀ u : KS, Maps.has D (kL u) = true → ∃ p, p < n ∧ u = nmK p ∧ 0 < cntP n s t0 k p
theorem MT.new (w : World) (n s t0 : Nat) : MT (w.alloc (.map #[] 0)) w.heap.size 0 n s t0 0 (.map []) := ⟨World.ownsMap_made (H := Nat) w Try.prog 9 (plainElem Try.prog 3), fun p hp => WideAt.atKey_none _ (fun p hp => by cases hp), fun u hu => by cases hu⟩
theorem MT.move {w w' : World} {mk m n s t0 k : Nat} {D : DataW Nat} (h : MT w mk m n s t0 k D) (e : w'.heap[mk]? = w.heap[mk]?) : MT w' mk m n s t0 k D := by
  obtain ⟨⟨es, cl, h1, r⟩, h2⟩ := h
  exact ⟨⟨es, cl, e.trans h1, r⟩, h2⟩
theorem nm_sz (p : Nat) : (nmK p).size ≤ maxLen := by show 1 ≤ maxLen; decide
theorem MT.step {w : World} {mk m n s t0 k : Nat} {D : DataW Nat} (h : MT w mk m n s t0 k D) (hn : n ≤ 8) (hm : m ≤ 1000) (hk : k ≤ 1000) (p : Nat) (hp : p < n) (hpl : placeOf n s (stT n s t0 k) = p) :
    (Instr.lookup 77 (.map (some mk)) (.string (nmK p)) false).run Try.prog w = .ok (.int .i64 ((cntP n s t0 k p : Nat) : Int)) w ∧
    ∃ w', (Instr.mapUpdate 77 (.map (some mk)) (.string (nmK p)) (.int .i64 (((cntP n s t0 k p : Nat) : Int) + 1))).run Try.prog w = .ok () w' ∧ w.grownBy w' (some mk) ∧ MT w' mk (m + 1) n s t0 (k + 1) (D.put (kL (nmK p)) (.lit (.int .i64 (((cntP n s t0 k p : Nat) : Int) + 1)))) := by
  obtain ⟨h1, h2, h3⟩ := h
  have hc := cnt_le n s t0 k p
  obtain ⟨c, hrun, hat, _⟩ := h1.lookup_int KSt Try.underlying77 Try.underlying3 (Try.zeroValue3 _) (key_of (nm_sz p))
  rw [h2 p hp] at hat
  obtain ⟨w', r, o, g⟩ := h1.update KSt Try.underlying77 (by unfold maxLen; omega) (key_of (nm_sz p)) (plainElem_int Try.underlying3 (WalkArith.wf_i64 (n := ((cntP n s t0 k p : Nat) : Int) + 1) (by omega)))
  refine ⟨by rw [hrun, ← lit_inj hat], w', r, g, o, fun p' hp' => ?_, fun u hu => ?_⟩
  · by_cases e : p' = p
    · subst e
      rw [Maps.atKey_put_same h1.isMap (by exact trivial)]
      show _ = DataW.lit (.int .i64 ((cntP n s t0 k p' + (if placeOf n s (stT n s t0 k) = p' then 1 else 0) : Nat) : Int))
      rw [if_pos hpl]
      rfl
    · have hne : nmK p' ≠ nmK p := fun q => e (nm_inj (by omega) (by omega) q)
      rw [Maps.atKey_put_other (kL_ne hne), h2 p' hp']
      show _ = DataW.lit (.int .i64 ((cntP n s t0 k p' + (if placeOf n s (stT n s t0 k) = p' then 1 else 0) : Nat) : Int))
      rw [if_neg (by rw [hpl]; exact fun q => e q.symm), Nat.add_zero]
  · by_cases e : u = nmK p
    · refine ⟨p, hp, e, ?_⟩
      show 0 < cntP n s t0 k p + (if placeOf n s (stT n s t0 k) = p then 1 else 0)
      rw [if_pos hpl]
      omega
    · rw [Maps.has_put_other (kL_ne e)] at hu
      obtain ⟨p', hp', e', hc'⟩ := h3 u hu
      refine ⟨p', hp', e', ?_⟩
      show 0 < cntP n s t0 k p' + _
      omega
theorem keyS_inv {key : Value} {kl : Lit} (h : keyOf Try.prog 9 key = some kl) : ∃ x : ByteArray, key = .string x ∧ kl = kL x := by
  cases key <;> simp [keyOf, mapKey, Try.underlying9] at h
  exact ⟨_, rfl, h.2.symm⟩
/-- The step of a range over a map of numbers by texts. -/
theorem wpList_next_ranges_si (w : World) {ops : Array Oper} {rest : List Oper} {o : Oper} {a : Act} {Q : Exit → Act → World → Prop} (hg : o.guard = none) (it : Operand) (hop : o.op = Op.next it false) (b r n : Nat) (D : DataW Nat) (left : Lit → Bool) (cnt : Nat)
    (hit : a.eval it = .pointer (some ⟨r, 0, none⟩)) (h : w.ranges Try.prog 9 (plainElem Try.prog 3) b r n D left cnt)
    (hDone : cnt = 0 → (∀ kl, left kl = false) → wpList Try.prog ops Q rest (a.put o.dst (.tuple #[.bool false])) w)
    (hMore : ∀ (x : ByteArray) (c : Int) (w' : World) (cnt' : Nat), (∀ zd, D.atKey (kL x) zd = .lit (.int .i64 c)) → w'.ranges Try.prog 9 (plainElem Try.prog 3) b r n D (fun z => left z && !z.sameKey (kL x)) cnt' → cnt' < cnt →
      w.grownBy w' (some r) → w'.heap.size = w.heap.size → (Instr.entry (.pointer (some ⟨r, 0, none⟩))).run Try.prog w' = .ok (.tuple #[.string x, .int .i64 c]) w' → wpList Try.prog ops Q rest (a.put o.dst (.tuple #[.bool true, .string x, .int .i64 c])) w') :
    wpList Try.prog ops Q (o :: rest) a w :=
  wpList_next_ranges w hg it hop 9 KSt (plainElem Try.prog 3) (Value.string) (Value.int .i64) (fun key kl hkey => by obtain ⟨x, rfl, _⟩ := keyS_inv hkey; exact ⟨x, rfl⟩) (fun v y hv => by obtain ⟨c, rfl, _⟩ := plainElem_int_inv Try.underlying3 hv; exact ⟨c, rfl⟩)
    b r n D left cnt hit h hDone (fun x c kl y w' cnt' hkey hlk hv hat hrg hlt hgr hsz hen => by
      obtain ⟨x', ex, rfl⟩ := keyS_inv hkey
      cases ex
      obtain ⟨c', ec, rfl, _⟩ := plainElem_int_inv Try.underlying3 hv
      cases ec
      exact hMore x c w' cnt' hat hrg hlt hgr hsz hen)
/-- The state stays where another map turns. -/
theorem CS.other {W W' : World} {h a b c n : Nat} {t f : KS → Int} {q : BF} {ub : Nat} {nm : KS} {ad : Option Addr} {cp : Nat} {xs : List KS} {w : World} (s : CS W h a b c n t f q ub nm ad cp xs w) {mk : Nat} {es : Array MapEntry} {cl : Nat} (hm : W.heap[mk]? = some (.map es cl)) (g : W.grownBy W' (some mk)) (ha : mk ≠ a) (hb : mk ≠ b) (hc : mk ≠ c) (hw : w.heap.size ≤ mk) : CS W' h a b c n t f q ub nm ad cp xs w := by
  have hh : h ≠ mk := fun e => by
    have := s.hl.bk
    rw [e, hm] at this
    cases this
  refine ⟨⟨(g.block h s.hl.lt (fun e => hh (by cases e; rfl))).trans s.hl.bk, s.hl.ta.move (g.block a s.hl.ta.lt (fun e => ha (by cases e; rfl))), s.hl.fa.move (g.block b s.hl.fa.lt (fun e => hb (by cases e; rfl))), s.hl.qa.move (g.block c s.hl.qa.lt (fun e => hc (by cases e; rfl))), s.hl.d1, s.hl.d2, s.hl.d3, s.hl.qr⟩, ⟨s.tx.1, s.tx.2.1, fun hp => ?_⟩, cell_turn hm g s.c0, cell_turn hm g s.c1, s.be.grown g s.be.size (fun k e => by cases e; exact hw), s.ba, s.bb, s.bc⟩
  obtain ⟨g', off, e, hg, hcc⟩ := s.tx.2.2 hp
  exact ⟨g', off, e, Nat.lt_of_lt_of_le hg g.size, fun i hi => cell_turn hm g (hcc i hi)⟩
theorem conv_nm (w : World) (i k : Nat) (hi : i < 9) (h : w.cell? ⟨k, 0, none⟩ = some (.int .u8 (97 + (i : Int)))) : (convert 76 9 (.slice (some ⟨k, 0, none⟩) 1 1)).run Try.prog w = .ok (.string (nmK i)) w := by
  refine run_convert_bytes_back (P := Try.prog) w 76 9 5 ⟨k, 0, none⟩ 1 [UInt8.ofNat (97 + i)] Try.underlying76 Try.underlying5 Try.underlying9 (fun j hj => ?_)
  obtain rfl : j = 0 := by simpa using hj
  have e : (([UInt8.ofNat (97 + i)] : List UInt8)[0].toNat : Int) = 97 + (i : Int) := by
    show ((UInt8.ofNat (97 + i)).toNat : Int) = _
    rw [UInt8.toNat_ofNat', Nat.mod_eq_of_lt (by omega)]
    rfl
  rw [e]
  exact h
/-- Whether an aim is sick, behind the fail. -/
theorem sick_nm {n s p : Nat} (hs : s < 9) (hp : p < 9) (now : Int) : sickB (upd (fun _ => none) (nmK s) (some (100, 10)) (nmK p)) now = (decide (p = s) && decide (now < 110)) := by
  by_cases e : p = s
  · rw [e, upd_same, decide_eq_true rfl, Bool.true_and]
    rfl
  · rw [upd_other _ _ (fun q => e (nm_inj hp hs q)), decide_eq_false e]
    rfl
theorem pick_at2 {W : World} {h a b c n : Nat} {t f : KS → Int} {q : BF} {ub : Nat} {nm : KS} {ad : Option Addr} {cp : Nat} {xs : List KS} {w : World} (s : CS W h a b c n t f q ub nm ad cp xs w) (now : Int) (tn i : Nat) (hnm : nm.size ≤ 281474976710656) (hn : n ≤ 1000000) (hnow : InR now) (htn : t nm = (tn : Int)) (htb : tn ≤ 1000000)
    (hi : i < xs.length) (hs : ∀ j, j < i → sickB (q (aimAt xs tn j)) now = true) (hw : sickB (q (aimAt xs tn i)) now = false) :
    Calls Try.prog 28 #[.pointer (some ⟨h, 0, none⟩), .agg #[.string nm, .slice ad xs.length cp], .int .i64 now] W fun e W' => e = .returned (.tuple #[.string (aimAt xs tn i), .int .i64 0]) ∧ CS W' h a b c (n + 1) (upd t nm (((tn + i) % xs.length + 1 : Nat) : Int)) f q ub nm ad cp xs w ∧ FrM a b c W W' := by
  refine (hlpick_any nm xs ad cp now tn h a b c n t f q W s.hl s.tx hnm hn hnow htn htb).mono ?_
  rintro e W' (⟨k, hk, ks, kw, rfl, H, F⟩ | ⟨ks, rfl, _⟩)
  · obtain rfl : k = i := by
      rcases Nat.lt_trichotomy k i with x | x | x
      · have := hs k x; rw [kw] at this; cases this
      · exact x
      · have := ks i x; rw [hw] at this; cases this
    exact ⟨rfl, s.frm F H, F⟩
  · have := ks i hi; rw [hw] at this; cases this
/-- A pick while the aim P is sick, and there are others. -/
theorem pick_sick {W : World} {h a b c n : Nat} {t f : KS → Int} {ub : Nat} {g off cp : Nat} {i P : Nat} {w : World} (s : CS W h a b c n t f (upd (fun _ => none) (nmK P) (some (100, 10))) ub kU (some ⟨g, off, none⟩) cp (xsN i) w) (now : Int) (tn : Nat) (hn : n ≤ 1000000) (h0 : 0 ≤ now) (h1 : now < 110) (htn : t kU = (tn : Int)) (htb : tn ≤ i) (hi : 2 ≤ i) (hi8 : i ≤ 8) (hP : P < i) :
    Calls Try.prog 28 #[.pointer (some ⟨h, 0, none⟩), .agg #[.string kU, .slice (some ⟨g, off, none⟩) i cp], .int .i64 now] W fun e W' => e = .returned (.tuple #[.string (nmK (placeOf i P tn)), .int .i64 0]) ∧ CS W' h a b c (n + 1) (upd t kU ((placeOf i P tn + 1 : Nat) : Int)) f (upd (fun _ => none) (nmK P) (some (100, 10))) ub kU (some ⟨g, off, none⟩) cp (xsN i) w ∧ FrM a b c W W' := by
  have hpl := place_lt (s := P) (tn := tn) (show 0 < i by omega)
  have hne := place_ne ⟨i, by omega⟩ ⟨P, by omega⟩ ⟨tn, by omega⟩ hi hP htb
  have k := pick_at2 s now tn (offOf i P tn) (by decide) hn (by unfold InR; omega) htn (by omega) (by rw [xsN_len]; unfold offOf; split <;> omega) (fun j hj => by
    unfold offOf at hj
    by_cases e : tn % i = P
    · rw [if_pos e] at hj
      obtain rfl : j = 0 := by omega
      rw [aim_nm (by omega), Nat.add_zero, e, sick_nm (n := 0) (by omega) (by omega), decide_eq_true rfl, decide_eq_true h1]
      rfl
    · rw [if_neg e] at hj; omega) (by
    rw [aim_nm (by omega), off_place, sick_nm (n := 0) (by omega) (by omega), decide_eq_false hne]
    rfl)
  rw [aim_nm (by omega), off_place] at k
  simp only [xsN_len, off_place] at k
  exact k
/-- A pick when the aim P is well again. -/
theorem pick_well {W : World} {h a b c n : Nat} {t f : KS → Int} {ub : Nat} {g off cp : Nat} {i P : Nat} {w : World} (s : CS W h a b c n t f (upd (fun _ => none) (nmK P) (some (100, 10))) ub kU (some ⟨g, off, none⟩) cp (xsN i) w) (tn : Nat) (hn : n ≤ 1000000) (htn : t kU = (tn : Int)) (htb : tn ≤ 100) (hi : 1 ≤ i) (hi8 : i ≤ 8) (hP : P < i) :
    Calls Try.prog 28 #[.pointer (some ⟨h, 0, none⟩), .agg #[.string kU, .slice (some ⟨g, off, none⟩) i cp], .int .i64 110] W fun e W' => (∃ u, e = .returned (.tuple #[.string u, .int .i64 0])) ∧ ∃ n' t', CS W' h a b c n' t' f (upd (fun _ => none) (nmK P) (some (100, 10))) ub kU (some ⟨g, off, none⟩) cp (xsN i) w := by
  have hm := Nat.mod_lt tn (show 0 < i by omega)
  have k := pick_at2 s 110 tn 0 (by decide) hn (by unfold InR; omega) htn (by omega) (by rw [xsN_len]; omega) (fun j hj => absurd hj (Nat.not_lt_zero _)) (by
    rw [aim_nm (by omega), Nat.add_zero, sick_nm (n := 0) (by omega) (by omega), show decide ((110 : Int) < 110) = false by decide, Bool.and_false])
  simp only [xsN_len] at k
  exact k.mono fun e W' ⟨h1, h2, _⟩ => ⟨⟨_, h1⟩, _, _, h2⟩
/-- There is no other one. -/
theorem pick_one {W : World} {h a b c n : Nat} {t f : KS → Int} {ub : Nat} {g off cp : Nat} {w : World} (s : CS W h a b c n t f (upd (fun _ => none) (nmK 0) (some (100, 10))) ub kU (some ⟨g, off, none⟩) cp (xsN 1) w) (tn : Nat) (hn : n ≤ 1000000) (htn : t kU = (tn : Int)) (htb : tn ≤ 100) :
    Calls Try.prog 28 #[.pointer (some ⟨h, 0, none⟩), .agg #[.string kU, .slice (some ⟨g, off, none⟩) 1 cp], .int .i64 109] W fun e W' => e = .returned (.tuple #[.string ⟨#[]⟩, .int .i64 4]) ∧ CS W' h a b c n t f (upd (fun _ => none) (nmK 0) (some (100, 10))) ub kU (some ⟨g, off, none⟩) cp (xsN 1) w :=
  pick_none s 109 tn (by decide) hn (by unfold InR; omega) htn (by omega) (fun j hj => by
    rw [aim_nm (by omega), Nat.mod_one, sick_nm (n := 0) (by omega) (by omega)]
    decide)
theorem MT.frm {w w' : World} {mk m n s t0 k a b c : Nat} {D : DataW Nat} (h : MT w mk m n s t0 k D) (F : FrM a b c w w') (ha : mk ≠ a) (hb : mk ≠ b) (hc : mk ≠ c) : MT w' mk m n s t0 k D := h.move (F.block mk h.1.lt ha hb hc)
end Go.Proofs.Ytgaapemkiognlaa
