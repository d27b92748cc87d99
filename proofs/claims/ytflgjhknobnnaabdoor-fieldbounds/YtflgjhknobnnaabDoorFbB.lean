/- FieldBack, walked. -/
import Derived.Test.YtflgjhknobnnaabDoorFbA
import Derived.Test.YtflgjhknobnnaabDoorFldQ
import Derived.Test.YtflgjhknobnnaabDoorFsG
namespace Go.Proofs.YtflgjhknobnnaabDoor
open Go.ChangeShapes Go.WideShapes Go.ChangeAt Go.RowKit
set_option linter.unusedVariables false

/-- A block of the walk's own stays. -/
structure BI (w : World) (o : Obj) (W : World) : Prop where
  below : Below w.heap.size w W
  blk : W.heap[w.heap.size]? = some o
theorem BI.next {w W W' : World} {o : Obj} (h : BI w o W) (b : Below W.heap.size W W') : BI w o W' := ⟨h.below.trans (b.mono h.below.size), tblk_below h.blk b⟩
theorem BI.new (w : World) (o : Obj) : BI w o (w.alloc o) := ⟨(Below.refl _ _).alloc (Nat.le_refl _) _, tblk_new _ _⟩
theorem byte_ne {b c : UInt8} {x : Int} (h : b ≠ c) (hx : (c.toNat : Int) = x := by rfl) : ((b.toNat : Int) == x) = false := by
  subst hx
  rw [beq_eq_false_iff_ne]
  intro e
  exact h (UInt8.toNat_inj.1 (by omega))
theorem right_one (n v : ByteArray) : rightF [(n, v)] = okF n v := by
  unfold rightF anyW wrF
  simp

set_option maxRecDepth 100000 in
set_option maxHeartbeats 2000000 in
theorem fback_walk (n v : ByteArray) (w : World) (hn : n.size ≤ 140737488351232) (hv : v.size ≤ 140737488351232) (hM : MaxL w) :
    Calls Tryd.prog 4 #[.agg #[.string n, .string v]] w fun e w' => e = .returned (.bool true) ∧ Below w.heap.size w w' := by
  have I0 := BI.new w (.cells #[.string n, .string v] 34)
  have HP : Hid (∀ W, BI w (.cells #[.string n, .string v] 34) W → Calls Tryd.prog 22 #[] W fun e w' => e = .returned (.bool true) ∧ BI w (.cells #[.string n, .string v] 34) w') := fun W i => (parsing_any W (hM.below i.below)).mono fun e w' z => ⟨z.1, i.next z.2⟩
  have HL : Hid (∀ W, BI w (.cells #[.string n, .string v] 34) W → Calls Tryd.prog 9 #[] W fun e w' => e = .returned (.bool true) ∧ BI w (.cells #[.string n, .string v] 34) w') := fun W i => (looking_any W (hM.below i.below)).mono fun e w' z => ⟨z.1, i.next z.2⟩
  have HR : Hid (∀ W, BI w (.cells #[.string n, .string v] 34) W → Calls Tryd.prog 17 #[.slice (some ⟨W.heap.size, 0, none⟩) 1 1] (W.alloc (.cells #[.string n, .string v] 34)) fun e w' => e = .returned (.bool (okF n v)) ∧ BI w (.cells #[.string n, .string v] 34) w') := fun W i => by
    have k := right_any [(n, v)] (some ⟨W.heap.size, 0, none⟩) 1 (W.alloc (.cells #[.string n, .string v] 34)) (fds_new W n v) (fun f hf => by rw [List.mem_singleton.1 hf]; exact ⟨by show n.size ≤ _; omega, by show v.size ≤ _; omega⟩)
    rw [right_one] at k
    exact k.mono fun e w' z => ⟨z.1, (i.next ((Below.refl _ _).alloc (Nat.le_refl _) _)).next z.2⟩
  cases hok : okF n v
  · rw [hok] at HR
    clear hn hv hok
    go_enter Tryd.func4, Tryd.ntmps4
    go_wp2_with fail
    refine (HP.out _ I0).mono ?_
    rintro e w1 ⟨rfl, I1⟩
    go_wp2_with fail
    refine (HL.out _ I1).mono ?_
    rintro e w2 ⟨rfl, I2⟩
    have c0 : w2.cell? ⟨w.heap.size, 0, none⟩ = some (.string n) := tblk_cell I2.blk rfl
    have c1 : w2.cell? ⟨w.heap.size, 1, none⟩ = some (.string v) := tblk_cell I2.blk rfl
    go_wp2_with fail
    refine (HR.out _ I2).mono ?_
    rintro e w3 ⟨rfl, I3⟩
    go_wp2
    go_ret
    exact ⟨rfl, I3.below⟩
  · rw [hok] at HR
    obtain ⟨z1, z2, _⟩ := okF_parts hok
    have HLN : Hid (∀ W, Calls Tryd.prog 23 #[.agg #[.string n, .string v]] W fun e w' => e = .returned (.string (lineT n v)) ∧ Below W.heap.size W w') := fun W => line_any n v W (by omega)
    have hS1 : Hid ((lineT n v).size = n.size + v.size + 4) := line_size n v
    have hS2 : Hid ((lineT n v).extract ((lineT n v).size - 2) (lineT n v).size = ⟨#[13, 10]⟩) := line_end n v
    have hS3 : Hid ((lineT n v).extract 0 ((lineT n v).size - 2) = bodyT n v) := line_cut n v
    have hS4 : Hid (∀ (i : Nat) (hi : i < (lineT n v).size), i < (lineT n v).size - 2 → (lineT n v)[i] ≠ 13 ∧ (lineT n v)[i] ≠ 10) := fun i hi h2 => by
      have e : (lineT n v)[i] = (lineT n v).data.toList[i]'hi := rfl
      have hb : i < (bodyT n v).data.toList.length := by
        show i < (bodyT n v).size
        rw [body_size]; rw [line_size] at h2; omega
      have k : (lineT n v).data.toList[i]? = some ((bodyT n v).data.toList[i]'hb) := by
        rw [line_data, List.getElem?_append_left hb, List.getElem?_eq_getElem hb]
      rw [List.getElem?_eq_getElem (show i < (lineT n v).data.toList.length from hi)] at k
      rw [e, Option.some.inj k]
      exact body_no hok _ (List.getElem_mem hb)
    have HPS : Hid (∀ W, MaxL W → Calls Tryd.prog 24 #[.string (bodyT n v)] W fun e w' => e = .returned (.tuple #[.agg #[.string n, .string v], .int .i64 0]) ∧ Below W.heap.size W w') := fun W m => by
      have k := parse_any (bodyT n v) W (by rw [body_size]; omega) m
      rw [prs_body hok] at k
      exact k
    clear hn hv hok
    generalize lineT n v = S at *
    generalize bodyT n v = T at *
    have hs1 := hS1.out
    have hz4 : ((S.size : Int) != (n.size : Int) + (v.size : Int) + 4) = false := by
      have : (S.size : Int) = (n.size : Int) + (v.size : Int) + 4 := by omega
      simpa using this
    have hs5 : S.size ≤ 1104 := by omega
    have hs6 : 4 ≤ S.size := by omega
    clear hs1
    have he13 : ((S.extract (S.size - 2) S.size).toList == [13, 10]) = true := by rw [hS2.out, ByteArray.toList_eq]; rfl
    go_enter Tryd.func4, Tryd.ntmps4
    go_wp2_with fail
    refine (HP.out _ I0).mono ?_
    rintro e w1 ⟨rfl, I1⟩
    go_wp2_with fail
    refine (HL.out _ I1).mono ?_
    rintro e w2 ⟨rfl, I2⟩
    have c0 : w2.cell? ⟨w.heap.size, 0, none⟩ = some (.string n) := tblk_cell I2.blk rfl
    have c1 : w2.cell? ⟨w.heap.size, 1, none⟩ = some (.string v) := tblk_cell I2.blk rfl
    go_wp2_with fail
    refine (HR.out _ I2).mono ?_
    rintro e w3 ⟨rfl, I3⟩
    clear c0 c1
    have c0 : w3.cell? ⟨w.heap.size, 0, none⟩ = some (.string n) := tblk_cell I3.blk rfl
    have c1 : w3.cell? ⟨w.heap.size, 1, none⟩ = some (.string v) := tblk_cell I3.blk rfl
    go_wp2_with fail
    refine (HLN.out _).mono ?_
    rintro e w4 ⟨rfl, B4⟩
    have I4 := I3.next B4
    clear c0 c1 I0 I1 I2 I3 B4 HP HL HR HLN
    have c0 : w4.cell? ⟨w.heap.size, 0, none⟩ = some (.string n) := tblk_cell I4.blk rfl
    have c1 : w4.cell? ⟨w.heap.size, 1, none⟩ = some (.string v) := tblk_cell I4.blk rfl
    go_wp2_with fail
    clear he13 hz4 c0 c1 hS1 hS2
    go_loop [4] (fun vi => ∃ k : Nat, k + 2 ≤ S.size ∧ vi = .int .i64 k) (fun vi => S.size - (intOf vi).toNat)
    case atStart => exact ⟨0, by omega, rfl⟩
    case round =>
      obtain ⟨k, hk, rfl⟩ := hrel
      by_cases hlt : k + 2 < S.size
      · have hlt2 : (k : Int) < (S.size : Int) - 2 := by omega
        have hb := hS4.out k (by omega) (by omega)
        have h13 : ((S[k].toNat : Int) == 13) = false := byte_ne hb.1
        have h10 : ((S[k].toNat : Int) == 10) = false := byte_ne hb.2
        clear hb
        go_wp2
        go_round
        case rel => exact ⟨k + 1, by omega, by go_num⟩
        case measure => simp [intOf]; omega
      · have hge : ¬ (k : Int) < (S.size : Int) - 2 := by omega
        have hT : S.extract 0 (S.size - 2) = T := hS3.out
        have HM4 : Hid (MaxL w4) := hM.below I4.below
        clear hS4 hS3 hlt
        go_wp2_with fail
        refine (HPS.out _ HM4.out).mono ?_
        rintro e w5 ⟨rfl, B5⟩
        have I5 := I4.next B5
        have c0 : w5.cell? ⟨w.heap.size, 0, none⟩ = some (.string n) := tblk_cell I5.blk rfl
        have c1 : w5.cell? ⟨w.heap.size, 1, none⟩ = some (.string v) := tblk_cell I5.blk rfl
        have hlt5 : w.heap.size < w5.heap.size := heap_lt I5.blk
        have D5 := I5.below.alloc I5.below.size (.cells #[.string n, .string v] 34)
        clear B5 I4 hT HPS
        go_wp2
        go_ret
        exact ⟨ret_bool (by simp), D5⟩
end Go.Proofs.YtflgjhknobnnaabDoor
