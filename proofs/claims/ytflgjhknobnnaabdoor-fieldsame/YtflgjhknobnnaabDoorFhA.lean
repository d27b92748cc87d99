/- FieldSame, walked. -/
import Derived.Test.YtflgjhknobnnaabDoorFdA
import Derived.Deep.AppendLies
namespace Go.Proofs.YtflgjhknobnnaabDoor
open Go.ChangeShapes Go.WideShapes Go.ChangeAt Go.RowKit
set_option linter.unusedVariables false

/-- Fields appended; no block but the row's own one turns. -/
theorem ownF_append2 {B C : Nat} {w : World} {v : Value} {X Y : Fs} {a : Option Addr} {n c : Nat} (h : OwnF B w v X) (hs : Fds C w (.slice a n c) Y) (hmax : X.length + Y.length ≤ 4294967296) (hB : B ≤ w.heap.size) :
    ∃ v' w', (Builtin.append_ #[22, 22] 22 #[v, .slice a n c]).run Tryd.prog w = .ok v' w' ∧ OwnF B w' v' (X ++ Y) ∧ Below B w w' ∧ (∀ k, k < w.heap.size → v.ownBlock ≠ some k → w'.heap[k]? = w.heap[k]?) := by
  obtain ⟨i, hi, hz0, hz1, hz2⟩ := info_parts infoF
  obtain ⟨a', c', e, hnil, h1, h2, h3⟩ := hs
  obtain ⟨e1, e2, e3⟩ := slice_inj e
  subst e1 e2 e3
  have hmx : X.length + Y.length ≤ maxLen := by unfold maxLen; omega
  cases a with
  | none =>
    have hc := hnil rfl
    have hy : Y = [] := by
      rcases Nat.eq_zero_or_pos Y.length with q | q
      · exact List.eq_nil_of_length_eq_zero q
      · obtain ⟨_, _, q, _⟩ := h3 q; cases q
    subst hy hc
    exact ⟨v, w, run_append_owned_none w B 22 22 34 i 2 Tryd.underlying22 hi v _ _ h, by rw [List.append_nil]; exact h, Below.refl _ _, fun _ _ _ => rfl⟩
  | some ad =>
    obtain ⟨v', w', hr, q1, q2, q3, q4⟩ := run_append_own_at (P := Tryd.prog) w B 22 22 34 i (.agg #[.string ByteArray.empty, .string ByteArray.empty]) 2 32 Tryd.underlying22 hi hz0 hz1 hz2 rfl (by decide) v X.length (rowF X) h ad Y.length c (rowF Y) (rowF_len Y)
      (fun j u hj => by
        have hjl := (List.getElem?_eq_some_iff.1 hj).1
        rw [rowF_len] at hjl
        obtain ⟨k, off, ha, _, hc⟩ := h3 (by omega)
        have : ad = ⟨k, off, none⟩ := by simpa using ha
        subst this
        rw [addr_add]
        have r := rowF_at Y (j / 2) (by omega)
        have q := hc (j / 2) (by omega)
        rcases Nat.mod_two_eq_zero_or_one j with m | m
        · have e1 : j / 2 * 2 = j := by omega
          rw [e1] at r q
          rw [q.1, ← r.1, hj]
        · have e1 : j / 2 * 2 + 1 = j := by omega
          have e2 : off + j / 2 * 2 + 1 = off + j := by omega
          rw [e1] at r
          rw [e2] at q
          rw [q.2, ← r.2, hj]) (rowF_one _) hmx (by omega) hB
    refine ⟨v', w', hr, ?_, (Below.refl _ _).grown q2 hB (fun q hq => (h.lt q hq).1), fun k hk hn => q2.block k hk (fun e => hn e.symm)⟩
    unfold OwnF
    rw [List.length_append, rowF_app]; exact q1
theorem step_ownF {ops : Array Oper} {o : Oper} {a : Act} {K : Act → World → Prop} {Q : Exit → Act → World → Prop} {E : Prop} {w : World} (hgd : o.guard = none) (s x : Operand)
    (ho : o.op = .call { callee := .builtin .append, args := #[s, x], argTypes := #[22, 22] }) (hty : o.type = 22)
    (B : Nat) (v : Value) (X : Fs) (hs : a.eval s = v) (hown : OwnF B w v X) (C : Nat) (ad : Option Addr) (n c : Nat) (Y : Fs) (hx : a.eval x = .slice ad n c) (hsrc : Fds C w (.slice ad n c) Y) (hmax : X.length + Y.length ≤ 4294967296) (hB : B ≤ w.heap.size)
    (g : Nat) (hg : v.ownBlock = some g) (h : ∀ v' w', OwnF B w' v' (X ++ Y) → Below B w w' → (∀ k, k < w.heap.size → ¬ k = g → w'.heap[k]? = w.heap[k]?) → K (a.put o.dst v') w') :
    if Region.wanted o (yielded ops a.tmps) = true then Oper.wp Tryd.prog o a w K Q else E := by
  have hw : Region.wanted o (yielded ops a.tmps) = true := by simp [Region.wanted, hgd]
  rw [if_pos hw]
  obtain ⟨v', w', hr, O, Bl, Kl⟩ := ownF_append2 hown hsrc hmax hB
  unfold Oper.wp execOp
  simp only [ho, hty, resolve, invoke, builtin, Sem.run_bind, Sem.run_pure, Result.andThen_ok, List.map_toArray, List.map_cons, List.map_nil, hs, hx, hr]
  exact h v' w' O Bl (fun k hk hn => Kl k hk (by rw [hg]; intro e; exact hn (Option.some.inj e).symm))
theorem step_ownF1 {ops : Array Oper} {o : Oper} {a : Act} {K : Act → World → Prop} {Q : Exit → Act → World → Prop} {E : Prop} {w : World} (hgd : o.guard = none) (s x : Operand)
    (ho : o.op = .call { callee := .builtin .append, args := #[s, x], argTypes := #[22, 22] }) (hty : o.type = 22)
    (B : Nat) (v : Value) (X : Fs) (hs : a.eval s = v) (hown : OwnF B w v X) (C : Nat) (ad : Option Addr) (n c : Nat) (Y : Fs) (hx : a.eval x = .slice ad n c) (hsrc : Fds C w (.slice ad n c) Y) (hmax : X.length + Y.length ≤ 4294967296) (hB : B ≤ w.heap.size)
    (h : ∀ v' w', OwnF B w' v' (X ++ Y) → Below B w w' → K (a.put o.dst v') w') :
    if Region.wanted o (yielded ops a.tmps) = true then Oper.wp Tryd.prog o a w K Q else E := by
  have hw : Region.wanted o (yielded ops a.tmps) = true := by simp [Region.wanted, hgd]
  rw [if_pos hw]
  obtain ⟨v', w', hr, O, Bl, _⟩ := ownF_append2 hown hsrc hmax hB
  unfold Oper.wp execOp
  simp only [ho, hty, resolve, invoke, builtin, Sem.run_bind, Sem.run_pure, Result.andThen_ok, List.map_toArray, List.map_cons, List.map_nil, hs, hx, hr]
  exact h v' w' O Bl
theorem blk2 (w : World) (o o' : Obj) : ((w.alloc o).alloc o').heap[w.heap.size + 1]? = some o' := by
  have k := tblk_new (w.alloc o) o'
  rw [show (w.alloc o).heap.size = w.heap.size + 1 from by simp] at k
  exact k
theorem own_blk0 {W : World} {B g : Nat} (hB : B ≤ g) (h : W.heap[g]? = some (.cells #[] 34)) : OwnF B W (.slice (some ⟨g, 0, none⟩) 0 0) [] :=
  ⟨rfl, .inr ⟨g, 0, #[], rfl, hB, h, Nat.le_refl _, by decide, rfl, rfl⟩⟩
theorem fds_blk {W : World} {g : Nat} {n v : ByteArray} (h : W.heap[g]? = some (.cells #[.string n, .string v] 34)) : Fds W.heap.size W (.slice (some ⟨g, 0, none⟩) 1 1) [(n, v)] :=
  ⟨_, 1, rfl, (fun e => by cases e), Nat.le_refl _, by decide, fun _ => ⟨g, 0, rfl, heap_lt h, fun j hj => by
    have : j = 0 := by simpa using hj
    subst this
    exact ⟨tblk_cell h rfl, tblk_cell h rfl⟩⟩⟩

theorem Fds.take {B : Nat} {w : World} {a : Option Addr} {n c : Nat} {fs : Fs} (h : Fds B w (.slice a n c) fs) (m : Nat) (hm : m ≤ n) : Fds B w (.slice a m c) (fs.take m) := by
  obtain ⟨a', c', e, h1, h2, h3, h4⟩ := h
  obtain ⟨rfl, rfl, rfl⟩ := slice_inj e
  have hl : (fs.take m).length = m := by rw [List.length_take]; omega
  refine ⟨a, c, by rw [hl], h1, by omega, h3, fun hp => ?_⟩
  obtain ⟨g, off, ea, hg, hc⟩ := h4 (by omega)
  refine ⟨g, off, ea, hg, fun j hj => ?_⟩
  rw [List.getElem_take]
  exact hc j (by omega)
theorem own_set2 {B : Nat} {w : World} {g c : Nat} {fs : Fs} (h : OwnF B w (.slice (some ⟨g, 0, none⟩) fs.length c) fs) (i : Nat) (hi : i < fs.length) (y : ByteArray) : Fds w.heap.size (w.setCell ⟨g, i * 2 + 1, none⟩ (.string y)) (.slice (some ⟨g, 0, none⟩) fs.length c) (fs.set i (fs[i].1, y)) := by
  have hfd := h.fds
  obtain ⟨h1, ⟨h2, h3⟩ | ⟨g', c', cur, hv, hB, hg, hl, hm, hs, ht⟩⟩ := h
  · cases h2
  · obtain ⟨e1, _, e3⟩ := slice_inj hv
    have eg : g = g' := by simpa using e1
    subst eg e3
    obtain ⟨a', c', e, q1, q2, q3, q4⟩ := hfd
    obtain ⟨rfl, _, rfl⟩ := slice_inj e
    obtain ⟨g2, off, ea, hgl, hc⟩ := q4 (by omega)
    have e2 : g2 = g ∧ off = 0 := by
      injection ea with ea
      injection ea with x1 x2
      exact ⟨x1.symm, x2.symm⟩
    obtain ⟨rfl, rfl⟩ := e2
    have hset : (w.setCell ⟨g2, i * 2 + 1, none⟩ (.string y)).heap[g2]? = some (.cells (cur.setIfInBounds (i * 2 + 1) (.string y)) 34) := by simp [World.setCell, Array.getElem?_modify, hg]
    have hcur : ∀ k v, w.cell? ⟨g2, k, none⟩ = some v → cur[k]? = some v := fun k v q => by
      unfold World.cell? at q
      rw [hg] at q
      exact q
    refine ⟨_, c, by rw [List.length_set], q1, by rw [List.length_set]; exact q2, q3, fun _ => ⟨g2, 0, rfl, hgl, fun j hj => ?_⟩⟩
    rw [List.length_set] at hj
    have k := hc j hj
    rw [Nat.zero_add] at k ⊢
    by_cases hij : i = j
    · subst hij
      rw [List.getElem_set_self]
      have hsz : i * 2 + 1 < cur.size := by rw [hs]; omega
      exact ⟨tblk_cell hset (by rw [Array.getElem?_setIfInBounds_ne (by omega)]; exact hcur _ _ k.1), tblk_cell hset (by rw [Array.getElem?_setIfInBounds_self_of_lt hsz])⟩
    · rw [List.getElem_set_ne hij]
      exact ⟨tblk_cell hset (by rw [Array.getElem?_setIfInBounds_ne (by omega)]; exact hcur _ _ k.1), tblk_cell hset (by rw [Array.getElem?_setIfInBounds_ne (by omega)]; exact hcur _ _ k.2)⟩
theorem ownF_cell {B : Nat} {w : World} {g c : Nat} {fs : Fs} (h : OwnF B w (.slice (some ⟨g, 0, none⟩) fs.length c) fs) (i : Nat) (hi : i < fs.length) : w.cell? ⟨g, i * 2 + 1, none⟩ = some (.string fs[i].2) :=
  (World.ownsRow.cellAt h (i * 2 + 1) (by omega)).trans (rowF_at fs i hi).2
theorem same_set (fs : Fs) (i : Nat) (hi : i < fs.length) : sameF fs (fs.set i (fs[i].1, fs[i].2 ++ (⟨#[120]⟩ : ByteArray))) = false := by
  unfold sameF
  refine decide_eq_false (fun h => ?_)
  have k : fs[i]? = (fs.set i (fs[i].1, fs[i].2 ++ (⟨#[120]⟩ : ByteArray)))[i]? := by rw [← h]
  rw [List.getElem?_eq_getElem hi, List.getElem?_set_self hi] at k
  have q := congrArg (fun x : ByteArray × ByteArray => x.2.size) (Option.some.inj k)
  have q2 : fs[i].2.size = (fs[i].2 ++ (⟨#[120]⟩ : ByteArray)).size := q
  rw [cat_size] at q2
  have : (⟨#[120]⟩ : ByteArray).size = 1 := rfl
  omega
theorem same_len {a b : Fs} (h : ¬ a.length = b.length) : sameF a b = false := by
  unfold sameF
  exact decide_eq_false (fun e => h (by rw [e]))
theorem same_refl (a : Fs) : sameF a a = true := by
  unfold sameF
  exact decide_eq_true rfl

set_option maxRecDepth 100000 in
set_option maxHeartbeats 2000000 in
theorem fsame_walk (fs : Fs) (a : Option Addr) (n c : Nat) (at_ : Int) (mn mv : ByteArray) (w : World) (hf : Fds w.heap.size w (.slice a n c) fs) (hb : FBd 140737488351232 fs) (hM : MaxL w) :
    Calls Tryd.prog 6 #[.slice a n c, .int .i64 at_, .agg #[.string mn, .string mv]] w fun e w' => e = .returned (.bool true) ∧ Below w.heap.size w w' := by
  obtain ⟨hle, h2, h3⟩ := hf.len
  unfold maxLen at h3
  subst hle
  have C0 : Below w.heap.size w (w.alloc (.cells #[.string mn, .string mv] 34)) := (Below.refl _ _).alloc (Nat.le_refl _) _
  have G0 : (w.alloc (.cells #[.string mn, .string mv] 34)).heap[w.heap.size]? = some (.cells #[.string mn, .string mv] 34) := tblk_new _ _
  by_cases hbig : (100 : Int) < (fs.length : Int)
  · clear hf hb
    go_enter Tryd.func6, Tryd.ntmps6
    go_wp2_with fail
    refine (looking_any _ (hM.below C0)).mono ?_
    rintro e w1 ⟨rfl, B1⟩
    have D1 := C0.trans (B1.mono C0.size)
    go_wp2
    go_ret
    exact ⟨rfl, D1⟩
  · have hl : fs.length ≤ 100 := by omega
    have HF : Hid (Fds w.heap.size w (.slice a fs.length c) fs) := hf
    have HB : Hid (FBd 140737488351232 fs) := hb
    clear hf hb
    go_enter Tryd.func6, Tryd.ntmps6
    go_wp2_with fail
    refine (looking_any _ (hM.below C0)).mono ?_
    rintro e w1 ⟨rfl, B1⟩
    have D1 := C0.trans (B1.mono C0.size)
    have G1 : w1.heap[w.heap.size]? = some (.cells #[.string mn, .string mv] 34) := tblk_below G0 B1
    have c0 : w1.cell? ⟨w.heap.size, 0, none⟩ = some (.string mn) := tblk_cell G1 rfl
    have c1 : w1.cell? ⟨w.heap.size, 1, none⟩ = some (.string mv) := tblk_cell G1 rfl
    clear C0 G0 B1
    have hlt1 : w.heap.size < w1.heap.size := heap_lt G1
    go_wp2_with fail
    go_region_held3 (fun W => W.cell? ⟨w.heap.size, 0, none⟩ = some (.string mn) ∧ W.cell? ⟨w.heap.size, 1, none⟩ = some (.string mv)) (first | go_keep | (refine ⟨(B6.cell (p := ⟨w.heap.size, 0, none⟩) hlt1).trans ?_, (B6.cell (p := ⟨w.heap.size, 1, none⟩) hlt1).trans ?_⟩ <;> simp [*]) | (refine ⟨(B7.cell (p := ⟨w.heap.size, 0, none⟩) hlt1).trans ?_, (B7.cell (p := ⟨w.heap.size, 1, none⟩) hlt1).trans ?_⟩ <;> simp [*])) (first | (refine step_ownF rfl _ _ rfl rfl w1.heap.size _ [] rfl (own_blk0 (by simp <;> omega) (by first | exact tblk_new _ _ | exact (Below.heap_alloc _ _ _ (by simp <;> omega)).trans (tblk_new _ _) | exact blk2 _ _ _)) w.heap.size _ _ _ fs rfl (HF.out.keep (by repeat (refine Below.drew ?_); first | exact D1.alloc D1.size _ | exact (D1.alloc D1.size _).alloc (by have := D1.size; simp <;> omega) _)) (by simp <;> omega) (by simp <;> omega) _ rfl ?_; intro v6 w6 O6 B6 K6) | (refine step_ownF1 rfl _ _ rfl rfl w1.heap.size _ ([] ++ fs) rfl (by first | exact O6 | exact OwnF.keep O6 ((Below.refl _ _).alloc (Nat.le_refl _) _)) _ _ _ _ [(mn, mv)] rfl (by first | exact fds_blk (tblk_new _ _) | exact fds_blk ((K6 _ (by simp <;> omega) (by simp <;> omega)).trans (blk2 _ _ _)) | exact fds_blk ((K6 _ (by simp <;> omega) (by simp <;> omega)).trans ((Below.heap_alloc _ _ _ (by simp <;> omega)).trans (tblk_new _ _)))) (by simp <;> omega) (by have := B6.size; (simp at this ⊢ <;> omega)) ?_; intro v7 w7 O7 B7))
    all_goals
      have DD : Below w1.heap.size w1 w7 := by
        first
          | exact (((((Below.refl _ _).alloc (Nat.le_refl _) _).drew).trans B6).alloc (Nat.le_trans (by simp) B6.size) _).trans B7
          | exact ((((((Below.refl _ _).alloc (Nat.le_refl _) _).alloc (by simp) _).drew).trans B6)).trans B7
      have D7 := D1.trans (DD.mono D1.size)
      obtain ⟨LG, hLG⟩ : ∃ F : Fs, F = [] ++ fs ++ [(mn, mv)] := ⟨_, rfl⟩
      rw [← hLG] at O7
      obtain ⟨a7, c7, rfl, _⟩ := O7.form
      have hLL : LG.length = fs.length + 1 := by rw [hLG]; simp
      have HLG : Hid (sameF fs LG = false ∧ sameF LG fs = false) := ⟨same_len (by omega), same_len (by omega)⟩
      have HFW : Hid (∀ W, Below w7.heap.size w7 W → Fds W.heap.size W (.slice a fs.length c) fs) := fun W i => HF.out.over (D7.trans (i.mono D7.size))
      have HLW : Hid (∀ W, Below w7.heap.size w7 W → Fds W.heap.size W (.slice a7 LG.length c7) LG) := fun W i => O7.fds.over i
      have HD7 : Hid (Below w.heap.size w w7) := D7
      have E8 : Below w7.heap.size w7 (w7.alloc (.cells #[] 34)) := (Below.refl _ _).alloc (Nat.le_refl _) _
      obtain ⟨v8, w8, r8, O8, B8⟩ := ownF_append (OwnF.empty w7.heap.size w7 (Nat.le_refl _)) (HFW.out _ E8) (by simp; omega) E8.size
      have C8 := E8.trans B8
      rw [List.nil_append] at O8
      obtain ⟨a8, c8, rfl, _⟩ := O8.form
      have HR8 : Hid _ := r8
      have S1 : Hid (Calls Tryd.prog 26 #[.slice a fs.length c, .slice a8 fs.length c8] w8 fun e w' => e = .returned (.bool true) ∧ Below w8.heap.size w8 w') := by
        have k := fsame_any fs fs a a8 c c8 w8 (HFW.out _ C8) O8.fds
        rw [same_refl] at k
        exact k
      have S2 : Hid (∀ W, Below w7.heap.size w7 W → Calls Tryd.prog 26 #[.slice a fs.length c, .slice a7 LG.length c7] W fun e w' => e = .returned (.bool false) ∧ Below W.heap.size W w') := fun W i => by
        have k := fsame_any fs LG a a7 c c7 W (HFW.out _ i) (HLW.out _ i)
        rw [HLG.out.1] at k
        exact k
      have S3 : Hid (∀ W, Below w7.heap.size w7 W → Calls Tryd.prog 26 #[.slice a7 LG.length c7, .slice a fs.length c] W fun e w' => e = .returned (.bool false) ∧ Below W.heap.size W w') := fun W i => by
        have k := fsame_any LG fs a7 a c7 c W (HLW.out _ i) (HFW.out _ i)
        rw [HLG.out.2] at k
        exact k
      clear O6 O7 B6 B7 DD D7 hLG hLL r8 O8 B8 E8 D1 G1 c0 c1
      generalize LG.length = LL at *
      go_wp2_with (at_builtin; refine wpList_append_run2 rfl _ _ 22 22 rfl _ _ _ w8 rfl rfl HR8.out ?_)
      refine S1.out.mono ?_
      rintro e w9 ⟨rfl, B9⟩
      have C9 := C8.trans (B9.mono C8.size)
      go_wp2_with fail
      refine (S2.out _ C9).mono ?_
      rintro e w10 ⟨rfl, B10⟩
      have C10 := C9.trans (B10.mono C9.size)
      go_wp2_with fail
      refine (S3.out _ C10).mono ?_
      rintro e w11 ⟨rfl, B11⟩
      have C11 := C10.trans (B11.mono C10.size)
      clear S1 S2 S3 HR8 B9 B10 B11 C8 C9 C10
      rcases Nat.eq_zero_or_pos fs.length with h0 | hp
      · have h0' : ((fs.length : Int) == 0) = true := by rw [h0]; rfl
        have he : fs = [] := List.eq_nil_of_length_eq_zero h0
        subst he
        clear h0 h0'
        go_wp2
        go_ret
        exact ⟨rfl, HD7.out.trans (C11.mono HD7.out.size)⟩
      · have hne : ((fs.length : Int) == 0) = false := by
          have : ¬ (fs.length : Int) = 0 := by omega
          simpa using this
        have E12 : Below w7.heap.size w7 (w11.alloc (.cells #[] 34)) := C11.alloc C11.size _
        obtain ⟨v12, w12, r12, O12, B12⟩ := ownF_append (OwnF.empty w11.heap.size w11 (Nat.le_refl _)) (HFW.out _ E12) (by simp; omega) (by simp)
        have C12 : Below w7.heap.size w7 w12 := E12.trans (B12.mono C11.size)
        rw [List.nil_append] at O12
        obtain ⟨g12, cur12, hag, hg12, hblk, hcs⟩ : ∃ g cur, v12.ownBlock = some g ∧ w11.heap.size ≤ g ∧ w12.heap[g]? = some (.cells cur 34) ∧ fs.length * 2 ≤ cur.size := by
          obtain ⟨q1, ⟨q2, q3⟩ | ⟨g, c', cur, hv, hB, hg, hl', hm, hs, ht⟩⟩ := O12
          · omega
          · exact ⟨g, cur, by rw [hv]; rfl, hB, hg, by rw [hs]; omega⟩
        obtain ⟨a12, c12, rfl, _⟩ := O12.form
        have ha12 : a12 = some ⟨g12, 0, none⟩ := by
          rcases O12.2 with ⟨q2, q3⟩ | ⟨g, c', cur, hv, _⟩
          · omega
          · obtain ⟨e1, _, _⟩ := slice_inj hv
            rw [e1] at hag ⊢
            have : g = g12 := by simpa [Value.ownBlock] using hag
            rw [this]
        subst ha12
        obtain ⟨x, hx, hbx0⟩ := and_mask at_ 1023 (by decide)
        have hbx : bits BinOp.and IntKind.i64 at_ 1023 = (x : Int) := hbx0
        obtain ⟨i, hi⟩ : ∃ i : Nat, i = x % fs.length := ⟨_, rfl⟩
        have hil : i < fs.length := by rw [hi]; exact Nat.mod_lt _ hp
        have hmod : (x : Int) % (fs.length : Int) = (i : Int) := by rw [hi]; simp
        have hsz := (HB.out fs[i] (List.getElem_mem hil)).2
        have hcl := ownF_cell O12 i hil
        have hfz := tblk_z (i := i * 2 + 1) hblk
        have hset := own_set2 O12 i hil (fs[i].2 ++ (⟨#[120]⟩ : ByteArray))
        have hsame := same_set fs i hil
        have hcat := fun W : World => sum_run W fs[i].2 ⟨#[120]⟩ (by show fs[i].2.size + 1 ≤ _; omega)
        have C13 : Below w7.heap.size w7 (w12.setCell ⟨g12, i * 2 + 1, none⟩ (.string (fs[i].2 ++ (⟨#[120]⟩ : ByteArray)))) := C12.setCell (p := ⟨g12, i * 2 + 1, none⟩) (Nat.le_trans C11.size hg12) _
        have hlen : (fs.set i (fs[i].1, fs[i].2 ++ (⟨#[120]⟩ : ByteArray))).length = fs.length := List.length_set
        have S4 : Hid (Calls Tryd.prog 26 #[.slice a fs.length c, .slice (some ⟨g12, 0, none⟩) fs.length c12] (w12.setCell ⟨g12, i * 2 + 1, none⟩ (.string (fs[i].2 ++ (⟨#[120]⟩ : ByteArray)))) fun e w' => e = .returned (.bool false) ∧ Below (w12.setCell ⟨g12, i * 2 + 1, none⟩ (.string (fs[i].2 ++ (⟨#[120]⟩ : ByteArray)))).heap.size (w12.setCell ⟨g12, i * 2 + 1, none⟩ (.string (fs[i].2 ++ (⟨#[120]⟩ : ByteArray)))) w') := by
          have k := fsame_any fs (fs.set i (fs[i].1, fs[i].2 ++ (⟨#[120]⟩ : ByteArray))) a (some ⟨g12, 0, none⟩) c c12 _ (HFW.out _ C13) (by rw [hlen]; exact hset)
          rw [hsame, hlen] at k
          exact k
        have S5 : Hid (∀ W, Below (w12.setCell ⟨g12, i * 2 + 1, none⟩ (.string (fs[i].2 ++ (⟨#[120]⟩ : ByteArray)))).heap.size (w12.setCell ⟨g12, i * 2 + 1, none⟩ (.string (fs[i].2 ++ (⟨#[120]⟩ : ByteArray)))) W → Calls Tryd.prog 26 #[.slice (some ⟨g12, 0, none⟩) (fs.length - 1) c12, .slice a fs.length c] W fun e w' => e = .returned (.bool false) ∧ Below W.heap.size W w') := fun W j => by
          have hsz2 : (w12.setCell ⟨g12, i * 2 + 1, none⟩ (.string (fs[i].2 ++ (⟨#[120]⟩ : ByteArray)))).heap.size = w12.heap.size := by simp [World.setCell]
          have hq : Fds w12.heap.size W (.slice (some ⟨g12, 0, none⟩) fs.length c12) (fs.set i (fs[i].1, fs[i].2 ++ (⟨#[120]⟩ : ByteArray))) := hset.keep (by rw [← hsz2]; exact j)
          have ht := hq.take (fs.length - 1) (by omega)
          have hl3 : ((fs.set i (fs[i].1, fs[i].2 ++ (⟨#[120]⟩ : ByteArray))).take (fs.length - 1)).length = fs.length - 1 := by rw [List.length_take, hlen]; omega
          have k := fsame_any ((fs.set i (fs[i].1, fs[i].2 ++ (⟨#[120]⟩ : ByteArray))).take (fs.length - 1)) fs (some ⟨g12, 0, none⟩) a c12 c W (by rw [hl3]; exact ht) (HFW.out _ (C13.trans (j.mono C13.size)))
          rw [same_len (by rw [hl3]; omega), hl3] at k
          exact k
        have HR12 : Hid _ := r12
        have HC13 : Hid _ := C13
        have hcap : fs.length ≤ c12 := by
          obtain ⟨_, q, _⟩ := (O12.fds).len
          exact q
        have hil2 : (i : Int) < (fs.length : Int) := by omega
        have hi0 : (0 : Int) ≤ (i : Int) := by omega
        clear O12 B12 r12 C12 E12 hag hg12 hblk hcs hset hsame hsz hi C13 hlen hbx0
        generalize hvx : fs[i].2 ++ (⟨#[120]⟩ : ByteArray) = VX at *
        clear hvx
        generalize fs[i].2 = VV at *
        go_wp2_with (at_builtin; refine wpList_append_run2 rfl _ _ 22 22 rfl _ _ _ w12 rfl rfl HR12.out ?_)
        refine S4.out.mono ?_
        rintro e w14 ⟨rfl, B14⟩
        go_wp2_with fail
        refine (S5.out _ B14).mono ?_
        rintro e w15 ⟨rfl, B15⟩
        have C15 := B14.trans (B15.mono B14.size)
        go_wp2
        go_ret
        exact ⟨rfl, HD7.out.trans ((HC13.out.trans (C15.mono HC13.out.size)).mono HD7.out.size)⟩
end Go.Proofs.YtflgjhknobnnaabDoor
