/- Whatever the number and the calls, ConnPlays answers true: in every order of calls a connection answers as the document says, and its meter holds what it says; no condition. -/
import Derived.Test.YtemmmdhmkegaaaaGreatDoorCbC
import Derived.Test.YtemmmdhmkegaaaaGreatDoorCbD
import Derived.Test.YtemmmdhmkegaaaaGreatDoorCbE
import Derived.Deep.CutBlock
import Derived.Deep.Cut
import Derived.Deep.CutRange
import Derived.Test.YtemmmdhmkegaaaaGreatDoorRows
import Derived.Test.YtemmmdhmkegaaaaGreatDoorCards
import Derived.Test.YtemmmdhmkegaaaaGreatDoorTie
import Derived.WalkKit
import Derived.ProofKit
import Derived.OpenShut
import Derived.ShutString
import Derived.ChangeOld
import Derived.Below
import Derived.LaidMore
import Derived.Lay
import Derived.Stop.Joined
import Derived.SevenTiedAt
import Derived.Shelf.Vars
import Derived.Deep.DeepHandedRow
import Derived.Deep.DeepWitnessRowRef
/- ConnPlays: the walk, up to its loop. -/
namespace Go.Proofs.YtemmmdhmkegaaaaGreatDoor
open Go.RowKit
set_option linter.unusedVariables false

theorem mst_rng (a : Int) : 0 ≤ mst a ∧ mst a ≤ 1099511627776 := by unfold mst; omega
theorem many_mst {w : World} (a : Int) : Many (fun k => k < w.heap.size) w (w.alloc (.cells #[.int .i64 (mst a), .int .i64 0, .int .i64 0] 79)) w.heap.size [] [] (mst a) 0 := by
  have k := isM_start (w := w) (mst a) (mst_rng a).1 (mst_rng a).2
  rw [mst_in (mst_rng a).1 (mst_rng a).2] at k
  exact k
theorem pv_start {w w4 : World} {F : Nat → Prop} {rs : List Nat} {b : Nat} {m : Int} (C : Cn F w w4 w.heap.size rs [[], []] m b 0 newS) (hF : ∀ k, k < w.heap.size → F k) :
    PV w rs b w4.heap.size m newS newS (fun k => F k ∨ (w4.heap.size ≤ k ∧ k < (w4.alloc (.cells (dv none 0 0 none 0 0 0 false false false 0 0 m) 35)).heap.size)) none 0 none 0 0 0 (w4.alloc (.cells (dv none 0 0 none 0 0 0 false false false 0 0 m) 35)) :=
  ⟨fun k hk => .inl (hF k hk), C.belowN ((Below.refl _ _).alloc (Nat.le_refl _) _), .inr ⟨Nat.le_refl _, by simp⟩, by have := C.lt; omega, C.bel.size, tblk_new w4 _, rfl, RowK.nil, RowK.nil⟩
set_option maxRecDepth 100000 in
set_option maxHeartbeats 16000000 in
theorem plays18_walk (a0 : Int) (a1 : Option Addr) (n1 c1 : Nat) (w : World) (h1 : Ops18 w a1 n1) (hM : MaxL w) :
    Calls Tryz.prog 3 #[.int .i64 a0, .slice a1 n1 c1] w fun e w' => e = .returned (.bool true) ∧ Below w.heap.size w w' := by
  have m1 := h1.1
  unfold maxLen at m1
  have HO : Hid (Ops18 w a1 n1) := h1
  have HM : Hid (MaxL w) := hM
  clear h1 hM
  obtain ⟨mm, hmm⟩ : ∃ m, m = mst a0 := ⟨_, rfl⟩
  go_enter Tryz.func3, Tryz.ntmps3
  go_wp2_with fail
  refine (new_any a0 _).mono ?_
  rintro e w1 ⟨rfl, hw1⟩
  have M0 : Many (fun k => k < w.heap.size) w w1 w.heap.size [] [] mm 0 := by rw [hw1, hmm]; exact many_mst a0
  have HB1 : Hid (Below w.heap.size w w1) := by rw [hw1]; exact (Below.refl _ _).alloc (Nat.le_refl _) _
  clear hw1
  go_wp2_with fail
  refine (alive18_any w1 (HM.out.below HB1.out)).mono ?_
  rintro e w2 ⟨rfl, B2⟩
  have M1 := M0.below B2
  clear M0 HB1 B2
  go_wp2_with fail
  refine (conew_any M1).mono ?_
  rintro e w3 ⟨b, rs, rfl, hb, C0, hrl, B3⟩
  have hb1 : w.heap.size < b := by have := M1.isM.lt; omega
  have C3 : Hid (Cn (fun k => k < w.heap.size ∨ k = b) w w3 w.heap.size rs [[], []] mm b 0 newS) := C0
  clear C0 M1 B3 hb
  go_wp2_with fail
  refine (rnew_any a0 _).mono ?_
  rintro e w4 ⟨rfl, B4⟩
  rw [← hmm]
  have C4 := C3.out.belowN B4
  have HC4 := hidZ C4
  have hw34 := B4.size
  clear C4 C3
  go_wp2_with fail
  go_loopw [8, 35] (fun v8 v35 wr => ∃ (i U : Nat), i ≤ n1 ∧ v35 = .int .i64 i ∧ v8 = .int .i64 U ∧ U ≤ 3000 ∧ Hid (∃ F s ai ci ao co h q, PV w rs b w4.heap.size mm s s F ai ci ao co h q wr)) (fun _ v35 _ => n1 - (intOf v35).toNat)
  case atStart =>
    refine ⟨0, 0, Nat.zero_le _, rfl, rfl, Nat.zero_le _, ?_⟩
    rw [← hmm]
    exact ⟨_, newS, _, _, _, _, _, _, pv_start HC4.out (fun k hk => .inl (.inl hk))⟩
  case round =>
    obtain ⟨i, U, hi, rfl, rfl, hU, HV⟩ := hrel
    clear HC4 hw34 B4 hmm
    by_cases hin : i < n1
    · have k1 : (i : Int) < n1 := by omega
      obtain ⟨bk, off, rfl, hbk, hops⟩ := HO.out.2 (by omega)
      obtain ⟨o, xa, xc, kx, c0, c1, c2, c3, hsx, hkx⟩ := hops i hin
      obtain ⟨F, s, ai, ci, ao, co, h, q, PVr⟩ := HV.out
      have hB := PVr.bel
      have c0 := (hB.cell hbk).trans c0
      have c1 := (hB.cell hbk).trans c1
      have c2 := (hB.cell hbk).trans c2
      have c3 := (hB.cell hbk).trans c3
      have HSX : Hid (Src w kx (.slice xa o.b.length xc) o.b ∧ (0 < o.b.length → kx < w.heap.size)) := ⟨hsx, hkx⟩
      have HP : Hid (PV w rs b w4.heap.size mm s s F ai ci ao co h q wr) := PVr
      obtain ⟨ok, on, ob, ol⟩ := o
      simp only at c0 c1 c2 c3
      clear hops hB hsx hkx HV PVr HO
      by_cases h40 : 40 ≤ i
      · have q40 : (40 : Int) ≤ (i : Int) := by omega
        have HE : Hid (Below w.heap.size w wr) := HP.out.bel
        clear HP HSX
        go_wp2
        go_ret
        exact ⟨rfl, HE.out.trans (((Below.refl _ _).alloc (Nat.le_refl _) _).mono HE.out.size)⟩
      · have q40 : ¬ (40 : Int) ≤ (i : Int) := by omega
        by_cases hU3 : 3000 < U + min ob.length 3000
        · have qU : (3000 : Int) < ((U + min ob.length 3000 : Nat) : Int) := by omega
          have HE : Hid (Below w.heap.size w wr) := HP.out.bel
          clear HP HSX
          go_wp2
          go_ret
          exact ⟨rfl, HE.out.trans (((Below.refl _ _).alloc (Nat.le_refl _) _).mono HE.out.size)⟩
        · have qU : ¬ (3000 : Int) < ((U + min ob.length 3000 : Nat) : Int) := by omega
          have HQU : Hid (U + min ob.length 3000 ≤ 3000) := by rw [Hid]; omega
          have P0 := HP.out.below ((Below.refl wr.heap.size wr).alloc (Nat.le_refl _) (.cells #[.int .i64 ok, .int .i64 on, .slice xa ob.length xc, .bool ol] 37))
          have ho := tblk_new wr (.cells #[.int .i64 ok, .int .i64 on, .slice xa ob.length xc, .bool ol] 37)
          have hnx : wr.heap.size ≠ w4.heap.size := by have := heap_lt HP.out.fcells; omega
          generalize (fun k => F k ∨ (wr.heap.size ≤ k ∧ k < (wr.alloc (.cells #[.int .i64 ok, .int .i64 on, .slice xa ob.length xc, .bool ol] 37)).heap.size)) = F0 at P0
          have HP0 := hidZ P0
          clear P0 HP
          go_upto_block 2 with fail
          clear c0 c1 c2 c3
          generalize (wr.alloc (.cells #[.int .i64 ok, .int .i64 on, .slice xa ob.length xc, .bool ol] 37)) = wo at *
          go_cut [11, 12, 13, 14, 15, 16, 17, 18, 19, 35] from 35 to 219 (fun v11 v12 _ _ _ _ _ _ _ v35 wx => ∃ z : Bool, v11 = .bool z ∧ v12 = .bool z ∧ v35 = .int .i64 i ∧ Hid (∃ F s ai ci ao co h q, PV w rs b w4.heap.size mm s s F ai ci ao co h q wx))
          case first =>
            by_cases k1 : ok = 1
            · subst k1
              refine plays18_arm1 HP0 HSX HM ho hnx ?_
              intro z y13 y14 y15 y16 y17 y18 y19 y54 y55 y56 y57 y58 y59 y60 y61 y62 y63 y64 y65 y66 y67 y68 y69 y70 y71 y72 y73 y74 y75 y76 y77 y78 y79 y80 y81 y82 y83 y84 y85 y86 y87 y88 y89 y90 y91 y92 y93 y94 y95 y96 y97 y98 y99 y100 y101 y102 y103 y104 y105 y106 y107 y108 y109 y110 y111 y112 y113 y114 y115 y116 y117 y118 y119 y120 y121 y122 y123 y124 y125 y126 y127 y128 y129 y130 y131 y132 y133 y134 y135 y136 y137 y138 y139 y140 y141 y142 y143 y144 y145 y146 y147 y148 y149 y150 y151 y152 y153 y154 y155 y156 y157 y158 y159 y160 y161 wx HX
              dsimp only
              go_wp2_with fail
              go_meet
              exact ⟨z, rfl, rfl, rfl, HX⟩
            · skip
              by_cases k2 : ok = 2
              · subst k2
                refine plays18_arm2 HP0 HSX HM ho hnx ?_
                intro z y13 y14 y15 y16 y17 y18 y19 y54 y55 y56 y57 y58 y59 y60 y61 y62 y63 y64 y65 y66 y67 y68 y69 y70 y71 y72 y73 y74 y75 y76 y77 y78 y79 y80 y81 y82 y83 y84 y85 y86 y87 y88 y89 y90 y91 y92 y93 y94 y95 y96 y97 y98 y99 y100 y101 y102 y103 y104 y105 y106 y107 y108 y109 y110 y111 y112 y113 y114 y115 y116 y117 y118 y119 y120 y121 y122 y123 y124 y125 y126 y127 y128 y129 y130 y131 y132 y133 y134 y135 y136 y137 y138 y139 y140 y141 y142 y143 y144 y145 y146 y147 y148 y149 y150 y151 y152 y153 y154 y155 y156 y157 y158 y159 y160 y161 wx HX
                dsimp only
                go_wp2_with fail
                go_meet
                exact ⟨z, rfl, rfl, rfl, HX⟩
              · skip
                by_cases k3 : ok = 3
                · subst k3
                  refine plays18_arm3 HP0 HSX HM ho hnx ?_
                  intro z y13 y14 y15 y16 y17 y18 y19 y54 y55 y56 y57 y58 y59 y60 y61 y62 y63 y64 y65 y66 y67 y68 y69 y70 y71 y72 y73 y74 y75 y76 y77 y78 y79 y80 y81 y82 y83 y84 y85 y86 y87 y88 y89 y90 y91 y92 y93 y94 y95 y96 y97 y98 y99 y100 y101 y102 y103 y104 y105 y106 y107 y108 y109 y110 y111 y112 y113 y114 y115 y116 y117 y118 y119 y120 y121 y122 y123 y124 y125 y126 y127 y128 y129 y130 y131 y132 y133 y134 y135 y136 y137 y138 y139 y140 y141 y142 y143 y144 y145 y146 y147 y148 y149 y150 y151 y152 y153 y154 y155 y156 y157 y158 y159 y160 y161 wx HX
                  dsimp only
                  go_wp2_with fail
                  go_meet
                  exact ⟨z, rfl, rfl, rfl, HX⟩
                · skip
                  by_cases k4 : ok = 4
                  · subst k4
                    refine plays18_arm4 HP0 HSX HM ho hnx ?_
                    intro z y13 y14 y15 y16 y17 y18 y19 y54 y55 y56 y57 y58 y59 y60 y61 y62 y63 y64 y65 y66 y67 y68 y69 y70 y71 y72 y73 y74 y75 y76 y77 y78 y79 y80 y81 y82 y83 y84 y85 y86 y87 y88 y89 y90 y91 y92 y93 y94 y95 y96 y97 y98 y99 y100 y101 y102 y103 y104 y105 y106 y107 y108 y109 y110 y111 y112 y113 y114 y115 y116 y117 y118 y119 y120 y121 y122 y123 y124 y125 y126 y127 y128 y129 y130 y131 y132 y133 y134 y135 y136 y137 y138 y139 y140 y141 y142 y143 y144 y145 y146 y147 y148 y149 y150 y151 y152 y153 y154 y155 y156 y157 y158 y159 y160 y161 wx HX
                    dsimp only
                    go_wp2_with fail
                    go_meet
                    exact ⟨z, rfl, rfl, rfl, HX⟩
                  · skip
                    by_cases k5 : ok = 5
                    · subst k5
                      refine plays18_arm5 HP0 HSX HM ho hnx ?_
                      intro z y13 y14 y15 y16 y17 y18 y19 y54 y55 y56 y57 y58 y59 y60 y61 y62 y63 y64 y65 y66 y67 y68 y69 y70 y71 y72 y73 y74 y75 y76 y77 y78 y79 y80 y81 y82 y83 y84 y85 y86 y87 y88 y89 y90 y91 y92 y93 y94 y95 y96 y97 y98 y99 y100 y101 y102 y103 y104 y105 y106 y107 y108 y109 y110 y111 y112 y113 y114 y115 y116 y117 y118 y119 y120 y121 y122 y123 y124 y125 y126 y127 y128 y129 y130 y131 y132 y133 y134 y135 y136 y137 y138 y139 y140 y141 y142 y143 y144 y145 y146 y147 y148 y149 y150 y151 y152 y153 y154 y155 y156 y157 y158 y159 y160 y161 wx HX
                      dsimp only
                      go_wp2_with fail
                      go_meet
                      exact ⟨z, rfl, rfl, rfl, HX⟩
                    · skip
                      by_cases k6 : ok = 6
                      · subst k6
                        refine plays18_arm6 HP0 HSX HM ho hnx ?_
                        intro z y13 y14 y15 y16 y17 y18 y19 y54 y55 y56 y57 y58 y59 y60 y61 y62 y63 y64 y65 y66 y67 y68 y69 y70 y71 y72 y73 y74 y75 y76 y77 y78 y79 y80 y81 y82 y83 y84 y85 y86 y87 y88 y89 y90 y91 y92 y93 y94 y95 y96 y97 y98 y99 y100 y101 y102 y103 y104 y105 y106 y107 y108 y109 y110 y111 y112 y113 y114 y115 y116 y117 y118 y119 y120 y121 y122 y123 y124 y125 y126 y127 y128 y129 y130 y131 y132 y133 y134 y135 y136 y137 y138 y139 y140 y141 y142 y143 y144 y145 y146 y147 y148 y149 y150 y151 y152 y153 y154 y155 y156 y157 y158 y159 y160 y161 wx HX
                        dsimp only
                        go_wp2_with fail
                        go_meet
                        exact ⟨z, rfl, rfl, rfl, HX⟩
                      · skip
                        by_cases k7 : ok = 7
                        · subst k7
                          refine plays18_arm7 HP0 HSX HM ho hnx ?_
                          intro z y13 y14 y15 y16 y17 y18 y19 y54 y55 y56 y57 y58 y59 y60 y61 y62 y63 y64 y65 y66 y67 y68 y69 y70 y71 y72 y73 y74 y75 y76 y77 y78 y79 y80 y81 y82 y83 y84 y85 y86 y87 y88 y89 y90 y91 y92 y93 y94 y95 y96 y97 y98 y99 y100 y101 y102 y103 y104 y105 y106 y107 y108 y109 y110 y111 y112 y113 y114 y115 y116 y117 y118 y119 y120 y121 y122 y123 y124 y125 y126 y127 y128 y129 y130 y131 y132 y133 y134 y135 y136 y137 y138 y139 y140 y141 y142 y143 y144 y145 y146 y147 y148 y149 y150 y151 y152 y153 y154 y155 y156 y157 y158 y159 y160 y161 wx HX
                          dsimp only
                          go_wp2_with fail
                          go_meet
                          exact ⟨z, rfl, rfl, rfl, HX⟩
                        · skip
                          by_cases k8 : ok = 8
                          · subst k8
                            refine plays18_arm8 HP0 HSX HM ho hnx ?_
                            intro z y13 y14 y15 y16 y17 y18 y19 y54 y55 y56 y57 y58 y59 y60 y61 y62 y63 y64 y65 y66 y67 y68 y69 y70 y71 y72 y73 y74 y75 y76 y77 y78 y79 y80 y81 y82 y83 y84 y85 y86 y87 y88 y89 y90 y91 y92 y93 y94 y95 y96 y97 y98 y99 y100 y101 y102 y103 y104 y105 y106 y107 y108 y109 y110 y111 y112 y113 y114 y115 y116 y117 y118 y119 y120 y121 y122 y123 y124 y125 y126 y127 y128 y129 y130 y131 y132 y133 y134 y135 y136 y137 y138 y139 y140 y141 y142 y143 y144 y145 y146 y147 y148 y149 y150 y151 y152 y153 y154 y155 y156 y157 y158 y159 y160 y161 wx HX
                            dsimp only
                            go_wp2_with fail
                            go_meet
                            exact ⟨z, rfl, rfl, rfl, HX⟩
                          · skip
                            refine plays18_arm0 k1 k2 k3 k4 k5 k6 k7 k8 HP0 HSX HM ho hnx ?_
                            intro z y13 y14 y15 y16 y17 y18 y19 y54 y55 y56 y57 y58 y59 y60 y61 y62 y63 y64 y65 y66 y67 y68 y69 y70 y71 y72 y73 y74 y75 y76 y77 y78 y79 y80 y81 y82 y83 y84 y85 y86 y87 y88 y89 y90 y91 y92 y93 y94 y95 y96 y97 y98 y99 y100 y101 y102 y103 y104 y105 y106 y107 y108 y109 y110 y111 y112 y113 y114 y115 y116 y117 y118 y119 y120 y121 y122 y123 y124 y125 y126 y127 y128 y129 y130 y131 y132 y133 y134 y135 y136 y137 y138 y139 y140 y141 y142 y143 y144 y145 y146 y147 y148 y149 y150 y151 y152 y153 y154 y155 y156 y157 y158 y159 y160 y161 wx HX
                            dsimp only
                            go_wp2_with fail
                            go_meet
                            exact ⟨z, rfl, rfl, rfl, HX⟩
          case rest =>
            obtain ⟨z, rfl, rfl, rfl, HX⟩ := hcut
            obtain ⟨F5, s5, a1, d1, a2, d2, h5, q5, p5⟩ := HX.out
            have HP5 := hidZ p5
            clear HX p5 HP0 HSX ho
            go_upto_region 44 with fail
            refine Code.wp_mono ?_ (plays18_r44 HP5.out)
            rintro e a9 w9 ⟨rfl, hB, y162, y163, y164, y165, y166, y167, y168, y169, y170, y171, y172, y173, y174, y175, y176, y177, y178, y179, y180, y181, y182, y183, y184, y185, y186, y187, y188, y189, y190, y191, y192, y193, y194, y195, y196, y197, y198, y199, y200, y201, y202, y203, y204, y205, y206, y207, y208, y209, y210, y211, y212, y213, y214, y215, y216, y217, rfl⟩
            have HB := hidZ hB
            clear hB
            go_wp2
            go_roundw
            case rel => exact ⟨i + 1, U + min ob.length 3000, by omega, by go_num, by go_num, HQU.out, ⟨_, _, _, _, _, _, _, _, HP5.out.below HB.out⟩⟩
            case measure => simp [intOf]; omega
    · have k1 : ¬ (i : Int) < n1 := by omega
      have HE : Hid (Below w.heap.size w wr) := by obtain ⟨F, s, ai, ci, ao, co, h, q, PVr⟩ := HV.out; exact PVr.bel
      clear HO HV
      go_wp2
      go_ret
      exact ⟨rfl, HE.out⟩
end Go.Proofs.YtemmmdhmkegaaaaGreatDoor

/- Whatever the number and the calls, ConnPlays answers true: in every order of calls a connection answers as the document says, and its meter holds what it says; no condition. -/
namespace Go.Proofs.YtemmmdhmkegaaaaGreatDoor.connPlays
open Go.ChangeShapes Go.WideShapes Go.ChangeAt Go.RowKit
open Go.ChangeMaps (open_string shut_string)
set_option linter.unusedVariables false

theorem own : ownKnob Tryz.prog.godebug = none := by kernel_rfl
theorem laidOut : laidOutB Tryz.prog = true := by kernel_rfl
theorem maxL_of {W : World} (hsh : W.ShapedOpen Tryz.prog) : MaxL W :=
  cell_of_shapedOpen_int (P := Tryz.prog) (g := 0) (t := 3) (zero := #[.int .i64 0]) hsh (of_decide_eq_true (by kernel_rfl)) (by kernel_rfl) rfl (by kernel_rfl) (by kernel_rfl) Tryz.underlying3
noncomputable def laidWorld (os : Os) : World := World.laidAll Tryz.prog os Rows.connPlaysRow.laid
theorem laid_met (os : Os) : laidMetH Tryz.prog Rows.connPlaysRow.laid ((laidWorld os).forCall (fun _ _ => 0) ⟨#[], #[.int .i64 0, .slice none 0 0], []⟩).memory := by
  rw [MakeChecks.laidMetH_plain _ _ _ (by kernel_rfl)]
  exact laidMet_laidAll _ (by kernel_rfl) (by kernel_rfl)
set_option maxRecDepth 100000 in
theorem lifted (os : Os) (started : os.Started) (H : Type) (enc : TypeId × Value → H) (F : Stop.Interp) :
    ReturnsInHanded {} Tryz.checked os 3 .any ((OpenSpec.ofChange Rows.connPlaysSpec).preRow enc Tryz.prog Tryz.f3 Rows.connPlaysRow.domain false Rows.connPlaysRow.laid) (((OpenSpec.ofChange Rows.connPlaysSpec).at F).post enc Tryz.prog Tryz.f3 false true false false) := by
  obtain ⟨places, hx⟩ := (⟨[], by kernel_rfl⟩ : ∃ places, DataW.whole enc Tryz.prog ((laidWorld os).forCall (fun _ _ => 0) ⟨#[], #[.int .i64 0, .slice none 0 0], []⟩).memory Tryz.f3.params.toList Rows.connPlaysSpec.vars false (#[.int .i64 0, .slice none 0 0] : Array Value).toList 8 = some ([.lit (.int .i64 0), .nil], [], places))
  refine returnsInHanded_of_row (C := Tryz.checked) (s := OpenSpec.ofChange Rows.connPlaysSpec) own started (by kernel_rfl) Tryz.func3
    (witness_row_atRef (enc := enc) (C := Tryz.checked) false (laidWorld os) #[.int .i64 0, .slice none 0 0] rfl (by kernel_rfl) (by kernel_rfl) (by kernel_rfl)
      (OpenSpec.preRow_of_cond 8 hx (by kernel_rfl) (fun k hk => by cases hk) (by kernel_rfl) (laid_met os))) ?_
  intro W base args ds gs before hval0 hW _ hcond hsz hlaid hsh _
  have hM := maxL_of hsh
  clear hsh
  have hval : ∀ (j : Nat) t v, Tryz.f3.params[j]? = some t → args[j]? = some v → Value.okWide Tryz.prog W .any base t v := hval0
  have hW' := hW
  obtain ⟨p, q, hA0, hV, rfl, hfz, hnd⟩ := hW
  have hA : DataW.TrodAll enc Tryz.prog W 0 (fun _ => true) true Tryz.f3.params.toList args.toList ds p := hA0
  rw [Tryz.params3] at hA hval
  obtain ⟨v0, vs0, d0, ds0, p0, q0, hargs, rfl, rfl, h0, r0⟩ := trodAll_cons hA
  obtain ⟨v1, vs1, d1, ds1, p1, q1, rfl, rfl, rfl, h1, r1⟩ := trodAll_cons r0
  obtain ⟨rfl, rfl, rfl⟩ := trodAll_nil r1
  obtain rfl : args = #[v0, v1] := by cases args; simp_all
  obtain ⟨rfl, rfl⟩ := trodVars_none hV
  obtain ⟨a0, rfl, rfl, rfl, w0⟩ := open_int Tryz.underlying3 (hval 0 3 v0 rfl rfl) h0
  obtain ⟨a1, len1, cap1, rfl⟩ := okWide_slice Tryz.underlying22 (hval 1 22 v1 rfl rfl)
  have k1 := h1
  have lt1 : ∀ x ∈ p1, x.block < W.heap.size := by obtain ⟨m, hm⟩ := k1; exact DataW.trod_lt m _ _ _ hm
  have w1 := open_ops18 h1
  clear hA0 hval0
  refine (plays18_walk a0 a1 len1 cap1 W w1 hM).mono fun e W' ⟨he, bel⟩ => ?_
  subst he
  exact ⟨_, rfl, _, _, _, [], _, [], hW', trodAll_mk1 (shut_bool Tryz.underlying4 _), (trodAll_cons_mk (shut_int Tryz.underlying3 w0) (trodAll_cons_mk (Below.trod laidOut (by kernel_rfl) (of_decide_eq_true (by kernel_rfl)) k1 bel lt1) trodAll_mk0)), rfl, bel.frame _, fun h => by cases h⟩

theorem over : Rows.ConnPlaysSaid :=
  OpenClaim.holds_of_cond 3 Tryz.f3 rfl rfl rfl rfl rfl rfl rfl ⟨rfl, rfl, rfl, rfl, rfl⟩ rfl rfl rfl rfl rfl (by kernel_rfl) Tryz.func3 (by kernel_rfl)
    (of_decide_eq_true (by kernel_rfl)) (by unfold Func.isWrapper; first | (rw [if_pos (by decide +kernel)]; kernel_rfl) | (rw [if_neg (by decide +kernel)]; exact ⟨rfl, rfl⟩))
    (fun os started H enc _ F => by rw [OpenClaim.pre_eq_preRow]; exact lifted os started H enc F)

end Go.Proofs.YtemmmdhmkegaaaaGreatDoor.connPlays
namespace Go.Proofs.YtemmmdhmkegaaaaGreatDoor
theorem connPlays_holds : Rows.ConnPlaysCardSaid :=
  Claim7.holds_tied_plain_at .later [] _ _ _ _
    connPlays.over (fun _ h => by cases h) (by kernel_rfl) (fun _ h => by cases h) connPlays_row_tie rfl ⟨rfl, rfl⟩ (by kernel_rfl) rfl
    (fun f fn hf hfn => by
      obtain rfl : f = 3 := Option.some.inj ((show Tryz.prog.funcNamed "tollbar/tollbarlaw18.ConnPlays" = some 3 by kernel_rfl).symm.trans hf) |>.symm
      obtain rfl : fn = Tryz.f3 := (Option.some.inj (Tryz.func3.symm.trans hfn)).symm
      exact ⟨by kernel_rfl, fun j t ht => by
        rw [Tryz.params3] at ht
        have hm : t ∈ [3, 22] := by simpa using Array.mem_of_getElem? ht
        have hall : ([3, 22].all fun u => !Tryz.prog.wantsStandIn u) = true := by kernel_rfl
        exact (show Tryz.prog.wantsStandIn t = false by simpa using List.all_eq_true.1 hall t hm)⟩)
    (by kernel_rfl)
#print axioms connPlays_holds
end Go.Proofs.YtemmmdhmkegaaaaGreatDoor
