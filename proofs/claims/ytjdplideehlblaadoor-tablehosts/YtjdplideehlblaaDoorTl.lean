/- Texts that the proof leans on, one behind the other: TdF -/
import Derived.Test.YtjdplideehlblaaDoorTk
import Derived.Test.YtjdplideehlblaaDoorTf
import Derived.Test.YtjdplideehlblaaDoorTg
import Derived.Deep.RegionHeld3
/- TableTurns: the walk. -/
namespace Go.Proofs.YtjdplideehlblaaDoor
open Go.ChangeShapes Go.WideShapes Go.ChangeAt Go.RowKit
set_option linter.unusedVariables false

theorem step_ownC {ops : Array Oper} {o : Oper} {a : Act} {K : Act → World → Prop} {Q : Exit → Act → World → Prop} {E : Prop} {w : World} (hgd : o.guard = none) (s x : Operand)
    (ho : o.op = .call { callee := .builtin .append, args := #[s, x], argTypes := #[22, 22] }) (hty : o.type = 22)
    (N : Nat) (v : Value) (X : List SlotX) (hs : a.eval s = v) (hown : OwnC N w v X) (ad : Option Addr) (n c : Nat) (Y : List SlotX) (hx : a.eval x = .slice ad n c) (hsrc : SrcC N w (.slice ad n c) Y) (hmax : X.length + Y.length ≤ 1048576) (hB : N ≤ w.heap.size)
    (h : ∀ v' w', OwnC N w' v' (X ++ Y) → Below N w w' → K (a.put o.dst v') w') :
    if Region.wanted o (yielded ops a.tmps) = true then Oper.wp Tryd.prog o a w K Q else E := by
  have hw : Region.wanted o (yielded ops a.tmps) = true := by simp [Region.wanted, hgd]
  rw [if_pos hw]
  obtain ⟨v', w', hr, O, Bl⟩ := ownC_append hown hsrc hmax hB
  unfold Oper.wp execOp
  simp only [ho, hty, resolve, invoke, builtin, Sem.run_bind, Sem.run_pure, Result.andThen_ok, List.map_toArray, List.map_cons, List.map_nil, hs, hx, hr]
  exact h v' w' O Bl
theorem ownC_blk0 {W : World} {N g : Nat} (hB : N ≤ g) (h : W.heap[g]? = some (.cells #[] 32)) : OwnC N W (.slice (some ⟨g, 0, none⟩) 0 0) [] :=
  ⟨⟨rfl, .inr ⟨g, 0, #[], rfl, hB, h, Nat.le_refl _, by decide, rfl, rfl⟩⟩, fun x hx => by cases hx⟩
theorem modn (k n : Nat) : (k : Int).tmod (n : Int) = ((k % n : Nat) : Int) := by rw [Int.tmod_eq_emod_of_nonneg (by omega)]; omega

theorem SrcC.part' {N : Nat} {w : World} {g off c m : Nat} {Y : List SlotX} (h : SrcC N w (.slice (some ⟨g, off, none⟩) m c) Y) (hm' : Y.length = m) (k n : Nat) (hk : k + n ≤ m) (a : Option Addr) (c' : Nat) (ha : 0 < n → a = some ⟨g, off + k * 8, none⟩) (h0 : a = none → c' = 0) (hc : n ≤ c') (hm : c' ≤ maxLen) : SrcC N w (.slice a n c') ((Y.drop k).take n) := by
  subst hm'
  exact SrcC.part h k n hk a c' ha h0 hc hm

set_option maxRecDepth 100000 in
set_option maxHeartbeats 4000000 in
theorem turns_walk (ts : List SlotP) (a : Option Addr) (n c : Nat) (turn away : Int) (w : World) (hf : Sls w.heap.size w (.slice a n c) ts) (hb : ∀ s ∈ ts, SBd s) (hM : MaxL w) (hP : PowT w) :
    Calls Tryd.prog 5 #[.slice a n c, .int .i64 turn, .int .i64 away] w fun e w' => e = .returned (.bool true) ∧ Below w.heap.size w w' := by
  obtain ⟨rfl, hlen⟩ := hf.len
  have HA : Hid (Calls Tryd.prog 7 #[] w fun e w' => e = .returned (.bool true) ∧ Below w.heap.size w w') := alive9_any w hM hP
  unfold maxLen at hlen
  by_cases h16 : ts.length ≤ 16
  · have h16' : decide (16 < (ts.length : Int)) = false := decide_eq_false (by omega)
    rcases Nat.eq_zero_or_pos ts.length with h0 | h0
    · have h0' : ((ts.length : Int) == 0) = true := by simp [h0]
      clear hf hb hM hP
      go_enter Tryd.func5, Tryd.ntmps5
      go_wp2_with fail
      refine HA.out.mono ?_
      rintro e w1 ⟨rfl, B1⟩
      go_wp2
      go_ret
      exact ⟨rfl, B1⟩
    · have h0' : ((ts.length : Int) == 0) = false := beq_eq_false_iff_ne.2 (by omega)
      obtain ⟨Y, hY, hS⟩ := srcC_of hf
      have hYl : Y.length = ts.length := by rw [← hY, List.length_map]
      obtain ⟨a', c', e, q1, q2, q3, hSl, hSh⟩ := id hS
      obtain ⟨rfl, q4, rfl⟩ := slice_inj e
      obtain ⟨g, off, rfl, hg, hc⟩ := hSl (by omega)
      clear q1 q2 q3 q4 e hSl
      obtain ⟨kk, hkk, hbits0⟩ := and_mask turn 1023 (by decide)
      obtain ⟨ii, hii, hbitc0⟩ := and_mask away 1023 (by decide)
      have hbits : bits .and .i64 turn (1023 : Int) = (kk : Int) := hbits0
      have hbitc : bits .and .i64 away (1023 : Int) = (ii : Int) := hbitc0
      clear hbits0 hbitc0
      have hmk := modn kk ts.length
      have hmi := modn ii ts.length
      have hkl : kk % ts.length < ts.length := Nat.mod_lt _ h0
      have hil : ii % ts.length < ts.length := Nat.mod_lt _ h0
      generalize kk % ts.length = k at hmk hkl
      generalize ii % ts.length = i at hmi hil
      have HC : Hid (∀ (j : Nat) (hj : j < Y.length) (i : Nat), i < 8 → w.cell? ⟨g, off + j * 8 + i, none⟩ = (slotV Y[j].s Y[j].a Y[j].c)[i]?) := hc
      have HSL : Hid (Sls w.heap.size w (.slice (some ⟨g, off, none⟩) ts.length c) ts) := hf
      have HS : Hid (SrcC w.heap.size w (.slice (some ⟨g, off, none⟩) ts.length c) Y) := hS
      have HBD : Hid (∀ s ∈ ts, SBd s) := hb
      have HYM : Hid (Y.map (·.s) = ts) := hY
      have HYL : Hid (Y.length = ts.length) := hYl
      have HMX : Hid (MaxL w) := hM
      have HPW : Hid (PowT w) := hP
      clear hc hf hS hb hY hYl hM hP hSh hkk hii
      go_enter Tryd.func5, Tryd.ntmps5
      go_wp2_with fail
      refine HA.out.mono ?_
      rintro e w1 ⟨rfl, B1⟩
      clear HA
      go_wp2_with fail
      go_loopw [31] (fun vi wr => ∃ k : Nat, k ≤ ts.length ∧ vi = .int .i64 k ∧ Below w.heap.size w wr) (fun vi _ => ts.length - (intOf vi).toNat)
      case atStart => exact ⟨0, Nat.zero_le _, rfl, B1⟩
      case round =>
        obtain ⟨j, hj, rfl, hB⟩ := hrel
        by_cases hlt : j < ts.length
        · have hjY : j < Y.length := by have := HYL.out; omega
          have hcell : ∀ i, i < 8 → wr.cell? ⟨g, off + j * 8 + i, none⟩ = (slotV Y[j].s Y[j].a Y[j].c)[i]? := fun i hi => (hB.cell (p := ⟨g, _, none⟩) hg).trans (HC.out j hjY i hi)
          have d0 := hcell 0 (by decide)
          have d1 := hcell 1 (by decide)
          have d2 := hcell 2 (by decide)
          have d3 := hcell 3 (by decide)
          have d4 := hcell 4 (by decide)
          have d5 := hcell 5 (by decide)
          have d6 := hcell 6 (by decide)
          have d7 := hcell 7 (by decide)
          clear hcell HC HSL HS HBD HYM HYL
          generalize Y[j] = y at *
          obtain ⟨s, ya, yc⟩ := y
          obtain ⟨sn, sh, sq, sc, sp, sr, sb, su⟩ := s
          simp [slotV] at d0 d1 d2 d3 d4 d5 d6 d7
          have E1 : ∀ o, Below w.heap.size w (wr.alloc o) := fun o => hB.alloc hB.size _
          go_wp2
          · go_ret
            exact ⟨rfl, E1 _⟩
          · go_roundw
            case rel => exact ⟨j + 1, by omega, by go_num, E1 _⟩
            case measure => simp [intOf]; omega
        · clear HC hj B1
          have hkc : ¬ c = k := by omega
          have HN : Hid (ts.length ≤ 16) := h16
          have HSW : Hid (∀ W, Below w.heap.size w W → SrcC W.heap.size W (.slice (some ⟨g, off, none⟩) ts.length c) Y) := fun W b => by
            obtain ⟨a1, c1, e1, r1, r2, r3, r4, r5⟩ := HS.out.keep b
            exact ⟨a1, c1, e1, r1, r2, r3, fun hp => by
              obtain ⟨g1, o1, z1, z2, z3⟩ := r4 hp
              exact ⟨g1, o1, z1, Nat.lt_of_lt_of_le z2 b.size, z3⟩, fun y hy => (r5 y hy).mono b.size⟩
          have hp1 := (HSW.out wr hB).part' HYL.out k (ts.length - k) (by omega) (some ⟨g, off + k * 8, none⟩) (c - k) (fun _ => rfl) (fun e => by cases e) (by omega) (by unfold maxLen; omega)
          have hp2 := (HSW.out wr hB).part' HYL.out 0 k (by omega) (some ⟨g, off, none⟩) c (fun _ => by rw [Nat.zero_mul, Nat.add_zero]) (fun e => by cases e) (by omega) (by unfold maxLen; omega)
          rw [List.take_of_length_le (by rw [List.length_drop]; have := HYL.out; omega)] at hp1
          rw [List.drop_zero] at hp2
          have HD1 : Hid (∀ W, Below wr.heap.size wr W → SrcC wr.heap.size W (.slice (some ⟨g, off + k * 8, none⟩) (ts.length - k) (c - k)) (Y.drop k)) := fun W b => hp1.keep b
          have HD2 : Hid (∀ W, Below wr.heap.size wr W → SrcC wr.heap.size W (.slice (some ⟨g, off, none⟩) k c) (Y.take k)) := fun W b => hp2.keep b
          have M1 : Hid (([] : List SlotX).length + (Y.drop k).length ≤ 1048576) := by rw [Hid, List.length_drop]; have := HYL.out; have := HN.out; show 0 + _ ≤ _; omega
          have M2 : Hid (([] ++ Y.drop k).length + (Y.take k).length ≤ 1048576) := by rw [Hid, List.nil_append, List.length_drop, List.length_take]; have := HYL.out; have := HN.out; omega
          clear hp1 hp2
          have b1 : (0 : Int) ≤ (k : Int) := by omega
          have b2 : (k : Int) ≤ (ts.length : Int) := by omega
          have b3 : (k : Int) ≤ (c : Int) := by omega
          have b4 : (ts.length : Int) ≤ (c : Int) := by omega
          have b5 : ¬ (c : Int) = (k : Int) := by omega
          have b6 : k ≤ ts.length := by omega
          have b7 : ts.length ≤ c := hlen.1
          have b8 : k ≤ c := by omega
          go_wp2_with fail
          go_region_held3 (fun _ => True) (go_keep) (first | (have g6 := O6; clear g6; refine step_ownC rfl _ _ rfl rfl wr.heap.size _ ([] ++ Y.drop k) rfl O6 _ _ _ (Y.take k) rfl (HD2.out _ ((((Below.refl _ _).alloc (Nat.le_refl _) _).drew).trans B6)) M2.out (Nat.le_trans (by simp) B6.size) ?_; intro v7 w7 O7 B7) | (refine step_ownC rfl _ _ rfl rfl wr.heap.size _ [] rfl (ownC_blk0 (Nat.le_refl _) (by first | exact new_at _ _)) _ _ _ (Y.drop k) rfl (HD1.out _ (((Below.refl _ _).alloc (Nat.le_refl _) _).drew)) M1.out (by simp) ?_; intro v6 w6 O6 B6))
          have DD : Below wr.heap.size wr w7 := (((((Below.refl _ _).alloc (Nat.le_refl _) _).drew).trans B6)).trans B7
          have D7 : Below w.heap.size w w7 := hB.trans (DD.mono hB.size)
          obtain ⟨a7, c7, rfl, _⟩ := O7.form
          have hm7 : (([] : List SlotX) ++ Y.drop k ++ Y.take k).map (·.s) = ts.drop k ++ ts.take k := by rw [List.nil_append, List.map_append, List.map_drop, List.map_take, HYM.out]
          have hl7 : (([] : List SlotX) ++ Y.drop k ++ Y.take k).length = ts.length := by rw [List.nil_append, List.length_append, List.length_drop, List.length_take]; have := HYL.out; omega
          have hlr : (ts.drop k ++ ts.take k).length = ts.length := by rw [List.length_append, List.length_drop, List.length_take]; omega
          have S7 := O7.sls DD.size
          rw [hm7, hl7] at S7
          rw [hl7]
          have hbr : ∀ s ∈ ts.drop k ++ ts.take k, SBd s := fun s hs => HBD.out s (by
            rcases List.mem_append.1 hs with q | q
            · exact List.mem_of_mem_drop q
            · exact List.mem_of_mem_take q)
          have R1 : Hid (∀ W, Below w7.heap.size w7 W → Calls Tryd.prog 11 #[.slice a7 ts.length c7] W fun e w' => e = .returned (.bool (rightP ts)) ∧ Below W.heap.size W w') := fun W b => by
            have q := tright_any (ts.drop k ++ ts.take k) a7 c7 W (by rw [hlr]; exact (S7.keep b).mono b.size) hbr
            rw [hlr, rot_same] at q
            exact q
          have R2 : Hid (∀ W, Below w.heap.size w W → Calls Tryd.prog 11 #[.slice (some ⟨g, off, none⟩) ts.length c] W fun e w' => e = .returned (.bool (rightP ts)) ∧ Below W.heap.size W w') := fun W b => tright_any ts _ c W ((HSL.out.keep b).mono b.size) HBD.out
          have B70 := Below.refl w7.heap.size w7
          cases hR : rightP ts
          · rw [hR] at R1 R2
            clear hR
            go_wp2_with fail
            refine (R1.out _ B70).mono ?_
            rintro e w8 ⟨rfl, B8⟩
            have D8 := D7.trans (B8.mono D7.size)
            go_wp2_with fail
            refine (R2.out _ D8).mono ?_
            rintro e w9 ⟨rfl, B9⟩
            have D9 := D8.trans (B9.mono D8.size)
            go_wp2_with fail
            refine (R2.out _ D9).mono ?_
            rintro e w10 ⟨rfl, B10⟩
            go_wp2
            go_ret
            exact ⟨rfl, D9.trans (B10.mono D9.size)⟩
          · rw [hR] at R1 R2
            have hRT := (right_iff ts).1 hR
            have hrk : RightT (ts.take k ++ ts.drop k) := by rw [List.take_append_drop]; exact hRT
            have hdr : RightT (ts.drop k) := right_left (right_rot _ _ hrk) (by rw [List.length_drop]; omega)
            have hro : RightT (ts.drop k ++ ts.take k) := right_rot _ _ hrk
            have W2 : Hid (∀ W, Below w.heap.size w W → Calls Tryd.prog 8 #[.slice (some ⟨g, off + k * 8, none⟩) (ts.length - k) (c - k)] W fun e w' => e = .returned (.tuple #[.string ⟨(tellP (ts.drop k)).toArray⟩, .int .i64 0]) ∧ Below W.heap.size W w') := fun W b => by
              have hs : Sls W.heap.size W (.slice (some ⟨g, off + k * 8, none⟩) (ts.length - k) (c - k)) (ts.drop k) := by
                have z := (HSW.out W b).part' HYL.out k (ts.length - k) (by omega) (some ⟨g, off + k * 8, none⟩) (c - k) (fun _ => rfl) (fun e => by cases e) (by omega) (by unfold maxLen; omega)
                rw [List.take_of_length_le (by rw [List.length_drop]; have := HYL.out; omega)] at z
                have z2 := z.sls
                rw [List.map_drop, HYM.out] at z2
                exact z2
              have hl : (ts.drop k).length = ts.length - k := List.length_drop
              have q := write_any (ts.drop k) (some ⟨g, off + k * 8, none⟩) (c - k) W (by rw [hl]; exact hs) (fun s h => HBD.out s (List.mem_of_mem_drop h)) (fun _ => right_bd hdr) (HPW.out.below b)
              rw [hl, if_pos ((right_iff _).2 hdr)] at q
              exact q
            have W3 : Hid (∀ W, Below w7.heap.size w7 W → Below w.heap.size w W → Calls Tryd.prog 8 #[.slice a7 ts.length c7] W fun e w' => e = .returned (.tuple #[.string ⟨(tellP (ts.drop k ++ ts.take k)).toArray⟩, .int .i64 0]) ∧ Below W.heap.size W w') := fun W b b' => by
              have q := write_any (ts.drop k ++ ts.take k) a7 c7 W (by rw [hlr]; exact (S7.keep b).mono b.size) hbr (fun _ => right_bd hro) (HPW.out.below b')
              rw [hlr, if_pos ((right_iff _).2 hro)] at q
              exact q
            have W1 : Hid (∀ W, Below w.heap.size w W → Calls Tryd.prog 8 #[.slice (some ⟨g, off, none⟩) k c] W fun e w' => e = .returned (if k = 0 then .tuple #[.string ⟨#[]⟩, .int .i64 60] else .tuple #[.string ⟨(tellP (ts.take k)).toArray⟩, .int .i64 0]) ∧ Below W.heap.size W w') := fun W b => by
              have hs : Sls W.heap.size W (.slice (some ⟨g, off, none⟩) k c) (ts.take k) := by
                have z := (HSW.out W b).part' HYL.out 0 k (by omega) (some ⟨g, off, none⟩) c (fun _ => by rw [Nat.zero_mul, Nat.add_zero]) (fun e => by cases e) (by omega) (by unfold maxLen; omega)
                rw [List.drop_zero] at z
                have z2 := z.sls
                rw [List.map_take, HYM.out] at z2
                exact z2
              have hl : (ts.take k).length = k := by rw [List.length_take]; omega
              by_cases hk0 : k = 0
              · subst hk0
                have q := write_any (ts.take 0) (some ⟨g, off, none⟩) c W (by rw [hl]; exact hs) (fun s h => HBD.out s (List.mem_of_mem_take h)) (fun h => by rw [List.take_zero, right_nil] at h; cases h) (HPW.out.below b)
                rw [hl, if_neg (by rw [List.take_zero, right_nil]; decide)] at q
                rw [if_pos rfl]
                exact q
              · have hrt : RightT (ts.take k) := right_left hrk (by omega)
                have q := write_any (ts.take k) (some ⟨g, off, none⟩) c W (by rw [hl]; exact hs) (fun s h => HBD.out s (List.mem_of_mem_take h)) (fun _ => right_bd hrt) (HPW.out.below b)
                rw [hl, if_pos ((right_iff _).2 hrt)] at q
                rw [if_neg hk0]
                exact q
            have hsum : (⟨(tellP (ts.drop k)).toArray⟩ : ByteArray) ++ ⟨(tellP (ts.take k)).toArray⟩ = ⟨(tellP (ts.drop k ++ ts.take k)).toArray⟩ := by
              apply td_eq
              rw [tellP_app]
              simp
            have hz1 : (⟨(tellP (ts.drop k)).toArray⟩ : ByteArray).size ≤ 100000000 := (right_bd hdr).1
            have hz0 : k = 0 → tellP (ts.take k) = [] := fun e => by rw [e]; rfl
            have hz2 : (⟨(tellP (ts.take k)).toArray⟩ : ByteArray).size ≤ 100000000 := by
              show (tellP (ts.take k)).length ≤ _
              by_cases e : k = 0
              · rw [hz0 e]; exact Nat.zero_le _
              · exact (right_bd (right_left hrk (by rw [List.length_take]; omega))).1
            have hcat := fun W : World => run_string_add_sum (P := Tryd.prog) W ⟨(tellP (ts.drop k)).toArray⟩ ⟨(tellP (ts.take k)).toArray⟩ (by omega)
            rw [hsum] at hcat
            have hk0x : k = 0 → (⟨(tellP (ts.take k)).toArray⟩ : ByteArray) = ⟨#[]⟩ := fun e => by rw [hz0 e]
            clear hsum hz1 hz2 hz0 hro hdr hrk hm7 hl7 O7 hbr
            generalize (⟨(tellP (ts.drop k ++ ts.take k)).toArray⟩ : ByteArray) = TO at *
            generalize (⟨(tellP (ts.drop k)).toArray⟩ : ByteArray) = TD at *
            generalize (⟨(tellP (ts.take k)).toArray⟩ : ByteArray) = TT at *
            go_wp2_with fail
            refine (R1.out _ B70).mono ?_
            rintro e w8 ⟨rfl, B8⟩
            have D8 := D7.trans (B8.mono D7.size)
            have C8 := B8
            go_wp2_with fail
            refine (R2.out _ D8).mono ?_
            rintro e w9 ⟨rfl, B9⟩
            have D9 := D8.trans (B9.mono D8.size)
            have C9 := C8.trans (B9.mono C8.size)
            go_wp2_with fail
            refine (R2.out _ D9).mono ?_
            rintro e w10 ⟨rfl, B10⟩
            have D10 := D9.trans (B10.mono D9.size)
            have C10 := C9.trans (B10.mono C9.size)
            clear R1 R2 D8 D9 C8 C9 B8 B9 B10 DD B6 B7
            go_wp2_with fail
            refine (W1.out _ D10).mono ?_
            rintro e w11 ⟨rfl, B11⟩
            have D11 := D10.trans (B11.mono D10.size)
            have C11 := C10.trans (B11.mono C10.size)
            clear W1 D10 C10 B11
            by_cases hk0 : k = 0
            case' pos =>
              rw [if_pos hk0]
              have hk0' : ((k : Int) == 0) = true := by simp [hk0]
              obtain rfl := hk0x hk0
            case' neg =>
              rw [if_neg hk0]
              have hk0' : ((k : Int) == 0) = false := beq_eq_false_iff_ne.2 (by omega)
            all_goals
              clear hk0
              go_wp2_with fail
              refine (W2.out _ D11).mono ?_
              rintro e w12 ⟨rfl, B12⟩
              have D12 := D11.trans (B12.mono D11.size)
              have C12 := C11.trans (B12.mono C11.size)
              clear W2 D11 C11 B12
              go_wp2_with fail
              refine (W3.out _ C12 D12).mono ?_
              rintro e w13 ⟨rfl, B13⟩
              have D13 := D12.trans (B13.mono D12.size)
              clear W3 D12 C12 B13
              clear hk0x S7 hlr hbits hmk
              have b11 : (0 : Int) ≤ (i : Int) := by omega
              have b12 : (i : Int) ≤ (ts.length : Int) := by omega
              have b13 : (i : Int) ≤ (c : Int) := by omega
              have b16 : i ≤ ts.length := by omega
              have b18 : i ≤ c := by omega
              have b19 : IntKind.i64.wrap ((i : Int) + 1) = (i : Int) + 1 := by unfold IntKind.wrap; simp [IntKind.bits, IntKind.signed]; omega
              have b21 : (0 : Int) ≤ (i : Int) + 1 := by omega
              have b22 : (i : Int) + 1 ≤ (ts.length : Int) := by omega
              have b23 : (i : Int) + 1 ≤ (c : Int) := by omega
              have b24 : i + 1 ≤ ts.length := by omega
              have b25 : i + 1 ≤ c := by omega
              have hp3 := (HSW.out w13 D13).part' HYL.out 0 i (by omega) (some ⟨g, off, none⟩) c (fun _ => by rw [Nat.zero_mul, Nat.add_zero]) (fun e => by cases e) (by omega) (by unfold maxLen; omega)
              rw [List.drop_zero] at hp3
              have HD3 : Hid (∀ W, Below w13.heap.size w13 W → SrcC w13.heap.size W (.slice (some ⟨g, off, none⟩) i c) (Y.take i)) := fun W b => hp3.keep b
              have HD4 : Hid (∀ (A : Option Addr), (0 < ts.length - (i + 1) → A = some ⟨g, off + (i + 1) * 8, none⟩) → (A = none → c - (i + 1) = 0) → ∀ W, Below w13.heap.size w13 W → SrcC w13.heap.size W (.slice A (ts.length - (i + 1)) (c - (i + 1))) (Y.drop (i + 1))) := fun A hA hA2 W b => by
                have z := ((HSW.out w13 D13).part' HYL.out (i + 1) (ts.length - (i + 1)) (by omega) A (c - (i + 1)) hA hA2 (by omega) (by unfold maxLen; omega)).keep b
                rw [List.take_of_length_le (by rw [List.length_drop]; have := HYL.out; omega)] at z
                exact z
              have M3 : Hid (([] : List SlotX).length + (Y.take i).length ≤ 1048576) := by rw [Hid, List.length_take]; have := HYL.out; have := HN.out; show 0 + _ ≤ _; omega
              have M4 : Hid (([] ++ Y.take i).length + (Y.drop (i + 1)).length ≤ 1048576) := by rw [Hid, List.nil_append, List.length_drop, List.length_take]; have := HYL.out; have := HN.out; omega
              clear hp3
              go_wp2_with fail
              go_region_held3 (fun _ => True) (go_keep) (first | (have g6 := O16; clear g6; refine step_ownC rfl _ _ rfl rfl w13.heap.size _ ([] ++ Y.take i) rfl O16 _ _ _ (Y.drop (i + 1)) rfl (HD4.out _ (fun q => by split <;> first | rfl | omega) (fun e => by split at e <;> first | cases e | omega) _ ((((Below.refl _ _).alloc (Nat.le_refl _) _).drew).trans B16)) M4.out (Nat.le_trans (by simp) B16.size) ?_; intro v17 w17 O17 B17) | (refine step_ownC rfl _ _ rfl rfl w13.heap.size _ [] rfl (ownC_blk0 (Nat.le_refl _) (by first | exact new_at _ _)) _ _ _ (Y.take i) rfl (HD3.out _ (((Below.refl _ _).alloc (Nat.le_refl _) _).drew)) M3.out (by simp) ?_; intro v16 w16 O16 B16))
              by_cases hci : c = i + 1
              case' pos => simp only [if_pos hci]
              case' neg => simp only [if_neg hci]
              all_goals
                clear hci
                have DD17 : Below w13.heap.size w13 w17 := (((((Below.refl _ _).alloc (Nat.le_refl _) _).drew).trans B16)).trans B17
                have D17 : Below w.heap.size w w17 := D13.trans (DD17.mono D13.size)
                obtain ⟨a17, c17, rfl, _⟩ := O17.form
                have hm17 : (([] : List SlotX) ++ Y.take i ++ Y.drop (i + 1)).map (·.s) = ts.take i ++ ts.drop (i + 1) := by rw [List.nil_append, List.map_append, List.map_drop, List.map_take, HYM.out]
                have hl17 : (([] : List SlotX) ++ Y.take i ++ Y.drop (i + 1)).length = (ts.take i ++ ts.drop (i + 1)).length := by rw [← hm17, List.length_map]
                have S17 := O17.sls DD17.size
                rw [hm17, hl17] at S17
                rw [hl17]
                have hcut := cut_at i hil
                have hRT2 := hRT
                rw [hcut] at hRT2
                have hlen2 : (ts.take i ++ ts.drop (i + 1)).length = ts.length - 1 := by rw [List.length_append, List.length_take, List.length_drop]; omega
                have hrl : rightP (ts.take i ++ ts.drop (i + 1)) = decide (1 < ts.length) := by
                  by_cases h1 : 1 < ts.length
                  · rw [decide_eq_true h1]
                    exact (right_iff _).2 (right_less hRT2 (by omega))
                  · rw [decide_eq_false h1]
                    have e : ts.take i ++ ts.drop (i + 1) = [] := List.eq_nil_of_length_eq_zero (by omega)
                    rw [e]; exact right_nil
                have hhp := (hosts_pos (hRT.each ts[i] (List.getElem_mem hil))).1
                have hnl := less_named hRT2
                have hfl := less_find hRT2 (ts[i].h[0]) (List.getElem_mem hhp)
                have HSL2 : Hid (∀ W, Below w.heap.size w W → ∃ ha hc gh oh, W.cell? ⟨g, off + i * 8, none⟩ = some (.string ts[i].n) ∧ W.cell? ⟨g, off + i * 8 + 1, none⟩ = some (.slice ha ts[i].h.length hc) ∧ ha = some ⟨gh, oh, none⟩ ∧ W.cell? ⟨gh, oh, none⟩ = some (.string (ts[i].h[0]))) := fun W b => by
                  obtain ⟨a1, c1, e1, _, _, _, h4⟩ := HSL.out.keep b
                  obtain ⟨e2, _, _⟩ := slice_inj e1
                  subst e2
                  obtain ⟨g1, o1, e3, _, hcc⟩ := h4 h0
                  obtain ⟨rfl, rfl⟩ : g = g1 ∧ off = o1 := by simpa using e3
                  obtain ⟨ha, hc, k0, k1, _, _, _, _, _, _, kt⟩ := hcc i hil
                  obtain ⟨a2, c2, e4, _, _, _, h5⟩ := kt
                  obtain ⟨e5, _, _⟩ := slice_inj e4
                  subst e5
                  obtain ⟨gh, oh, e6, _, hcc2⟩ := h5 hhp
                  exact ⟨ha, hc, gh, oh, k0, k1, e6, hcc2 0 hhp⟩
                have hbl : ∀ s ∈ ts.take i ++ ts.drop (i + 1), SBd s := fun s hs => HBD.out s (by
                  rcases List.mem_append.1 hs with q | q
                  · exact List.mem_of_mem_take q
                  · exact List.mem_of_mem_drop q)
                have R5 : Hid (∀ W, Below w17.heap.size w17 W → Calls Tryd.prog 11 #[.slice a17 (ts.take i ++ ts.drop (i + 1)).length c17] W fun e w' => e = .returned (.bool (decide (1 < ts.length))) ∧ Below W.heap.size W w') := fun W b => by
                  have q := tright_any (ts.take i ++ ts.drop (i + 1)) a17 c17 W ((S17.keep b).mono b.size) hbl
                  rw [hrl] at q
                  exact q
                have N5 : Hid (∀ W, Below w17.heap.size w17 W → Calls Tryd.prog 12 #[.slice a17 (ts.take i ++ ts.drop (i + 1)).length c17, .string ts[i].n] W fun e w' => e = .returned (.int .i64 (-1)) ∧ Below W.heap.size W w') := fun W b => by
                  have q := named_any (ts.take i ++ ts.drop (i + 1)) a17 c17 ts[i].n W ((S17.keep b).mono b.size)
                  rw [hnl] at q
                  exact q
                have F5 : Hid (∀ W, Below w17.heap.size w17 W → Calls Tryd.prog 13 #[.slice a17 (ts.take i ++ ts.drop (i + 1)).length c17, .string (ts[i].h[0])] W fun e w' => e = .returned (.int .i64 (-1)) ∧ Below W.heap.size W w') := fun W b => by
                  have q := find_any (ts.take i ++ ts.drop (i + 1)) a17 c17 (ts[i].h[0]) W ((S17.keep b).mono b.size)
                  rw [hfl] at q
                  exact q
                have hpos0 : 0 < ts[i].h.length := hhp
                clear hm17 hl17 S17 hcut hRT2 hrl hnl hfl hbl O17 O16 HD3 HD4 M3 M4 hRT hR HSW HS HSL HYM HYL HBD hlen2
                generalize (ts.take i ++ ts.drop (i + 1)).length = LL at *
                generalize ts[i].h[0] = hx at *
                generalize ts[i].n = nx at *
                generalize ts[i].h.length = lx at *
                have B170 := Below.refl w17.heap.size w17
                have hd : decide ((1 : Int) < (ts.length : Int)) = decide (1 < ts.length) := by apply decide_eq_decide.2; omega
                cases hdd : decide (1 < ts.length)
                all_goals
                  rw [hdd] at R5 hd
                  clear hdd
                  go_wp2_with fail
                  refine (R5.out _ B170).mono ?_
                  rintro e w18 ⟨rfl, B18⟩
                  have D18 := D17.trans (B18.mono D17.size)
                  obtain ⟨ha8, hc8, gh8, oh8, t0, _, _, _⟩ := HSL2.out w18 D18
                  go_wp2_with fail
                  refine (N5.out _ B18).mono ?_
                  rintro e w19 ⟨rfl, B19⟩
                  have D19 := D18.trans (B19.mono D18.size)
                  have B1719 := B18.trans (B19.mono B18.size)
                  obtain ⟨ha9, hc9, gh9, oh9, _, t1, rfl, t2⟩ := HSL2.out w19 D19
                  go_wp2_with fail
                  refine (F5.out _ B1719).mono ?_
                  rintro e w20 ⟨rfl, B20⟩
                  go_wp2
                  go_ret
                  exact ⟨rfl, D19.trans (B20.mono D19.size)⟩
  · have h16' : decide (16 < (ts.length : Int)) = true := decide_eq_true (by omega)
    clear hf hb hM hP
    go_enter Tryd.func5, Tryd.ntmps5
    go_wp2_with fail
    refine HA.out.mono ?_
    rintro e w1 ⟨rfl, B1⟩
    go_wp2
    go_ret
    exact ⟨rfl, B1⟩
end Go.Proofs.YtjdplideehlblaaDoor
