/- Texts that the proof leans on, one behind the other: PlD -/
import Derived.Test.YtemmmdhmkegaaaaGreatDoorCbB
import Derived.Deep.Cut
/- ConnPlays: Next, Write, and what does nothing (written by plb.py). -/
namespace Go.Proofs.YtemmmdhmkegaaaaGreatDoor
open Go.RowKit
set_option linter.unusedVariables false

set_option maxRecDepth 1000000 in
set_option maxHeartbeats 16000000 in
theorem plays18_arm2 {x0 x1 x2 x3 x4 x5 x8 x9 x13 x14 x15 x16 x17 x18 x19 x20 x21 x22 x23 x24 x25 x26 x27 x28 x29 x30 x31 x32 x33 x34 x36 x37 x38 x39 x40 x41 x42 x43 x44 x45 x46 x47 x48 x49 x50 x51 x52 x54 x55 x56 x57 x58 x59 x60 x61 x62 x63 x64 x65 x66 x67 x68 x69 x70 x71 x72 x73 x74 x75 x76 x77 x78 x79 x80 x81 x82 x83 x84 x85 x86 x87 x88 x89 x90 x91 x92 x93 x94 x95 x96 x97 x98 x99 x100 x101 x102 x103 x104 x105 x106 x107 x108 x109 x110 x111 x112 x113 x114 x115 x116 x117 x118 x119 x120 x121 x122 x123 x124 x125 x126 x127 x128 x129 x130 x131 x132 x133 x134 x135 x136 x137 x138 x139 x140 x141 x142 x143 x144 x145 x146 x147 x148 x149 x150 x151 x152 x153 x154 x155 x156 x157 x158 x159 x160 x161 x162 x163 x164 x165 x166 x167 x168 x169 x170 x171 x172 x173 x174 x175 x176 x177 x178 x179 x180 x181 x182 x183 x184 x185 x186 x187 x188 x189 x190 x191 x192 x193 x194 x195 x196 x197 x198 x199 x200 x201 x202 x203 x204 x205 x206 x207 x208 x209 x210 x211 x212 x213 x214 x215 x216 x217 x218 x219 vi : Value} {w wo : World} {rs : List Nat} {b bx og kx xc : Nat} {mm : Int} {s : Cs} {F0 : Nat → Prop} {ai ao xa : Option Addr} {ci co : Nat} {h q on : Int} {ob : List UInt8} {ol : Bool} 
    (HP0 : Hid (PV w rs b bx mm s s F0 ai ci ao co h q wo)) (HSX : Hid (Src w kx (.slice xa ob.length xc) ob ∧ (0 < ob.length → kx < w.heap.size))) (HM : Hid (MaxL w)) (ho : wo.heap[og]? = some (.cells #[.int .i64 2, .int .i64 on, .slice xa ob.length xc, .bool ol] 37)) (hnx : og ≠ bx)
    {Q : Exit → Act → World → Prop} (HQ : Hid (∀ (z : Bool) (y13 y14 y15 y16 y17 y18 y19 y54 y55 y56 y57 y58 y59 y60 y61 y62 y63 y64 y65 y66 y67 y68 y69 y70 y71 y72 y73 y74 y75 y76 y77 y78 y79 y80 y81 y82 y83 y84 y85 y86 y87 y88 y89 y90 y91 y92 y93 y94 y95 y96 y97 y98 y99 y100 y101 y102 y103 y104 y105 y106 y107 y108 y109 y110 y111 y112 y113 y114 y115 y116 y117 y118 y119 y120 y121 y122 y123 y124 y125 y126 y127 y128 y129 y130 y131 y132 y133 y134 y135 y136 y137 y138 y139 y140 y141 y142 y143 y144 y145 y146 y147 y148 y149 y150 y151 y152 y153 y154 y155 y156 y157 y158 y159 y160 y161 : Value) (wx : World), Hid (∃ F s ai ci ao co h q, PV w rs b bx mm s s F ai ci ao co h q wx) → Q .normal ⟨#[x0, x1, x2, x3, x4, x5, .pointer (some ⟨b, 0, none⟩), .pointer (some ⟨bx, 0, none⟩), x8, x9, .pointer (some ⟨og, 0, none⟩), .bool z, .bool z, y13, y14, y15, y16, y17, y18, y19, x20, x21, x22, x23, x24, x25, x26, x27, x28, x29, x30, x31, x32, x33, x34, vi, x36, x37, x38, x39, x40, x41, x42, x43, x44, x45, x46, x47, x48, x49, x50, x51, x52, .int .i64 2, y54, y55, y56, y57, y58, y59, y60, y61, y62, y63, y64, y65, y66, y67, y68, y69, y70, y71, y72, y73, y74, y75, y76, y77, y78, y79, y80, y81, y82, y83, y84, y85, y86, y87, y88, y89, y90, y91, y92, y93, y94, y95, y96, y97, y98, y99, y100, y101, y102, y103, y104, y105, y106, y107, y108, y109, y110, y111, y112, y113, y114, y115, y116, y117, y118, y119, y120, y121, y122, y123, y124, y125, y126, y127, y128, y129, y130, y131, y132, y133, y134, y135, y136, y137, y138, y139, y140, y141, y142, y143, y144, y145, y146, y147, y148, y149, y150, y151, y152, y153, y154, y155, y156, y157, y158, y159, y160, y161, x162, x163, x164, x165, x166, x167, x168, x169, x170, x171, x172, x173, x174, x175, x176, x177, x178, x179, x180, x181, x182, x183, x184, x185, x186, x187, x188, x189, x190, x191, x192, x193, x194, x195, x196, x197, x198, x199, x200, x201, x202, x203, x204, x205, x206, x207, x208, x209, x210, x211, x212, x213, x214, x215, x216, x217, x218, x219], []⟩ wx)) :
    Code.wp Tryz.prog sw2 Q ⟨#[x0, x1, x2, x3, x4, x5, .pointer (some ⟨b, 0, none⟩), .pointer (some ⟨bx, 0, none⟩), x8, x9, .pointer (some ⟨og, 0, none⟩), .bool true, .bool true, x13, x14, x15, x16, x17, x18, x19, x20, x21, x22, x23, x24, x25, x26, x27, x28, x29, x30, x31, x32, x33, x34, vi, x36, x37, x38, x39, x40, x41, x42, x43, x44, x45, x46, x47, x48, x49, x50, x51, x52, .int .i64 2, x54, x55, x56, x57, x58, x59, x60, x61, x62, x63, x64, x65, x66, x67, x68, x69, x70, x71, x72, x73, x74, x75, x76, x77, x78, x79, x80, x81, x82, x83, x84, x85, x86, x87, x88, x89, x90, x91, x92, x93, x94, x95, x96, x97, x98, x99, x100, x101, x102, x103, x104, x105, x106, x107, x108, x109, x110, x111, x112, x113, x114, x115, x116, x117, x118, x119, x120, x121, x122, x123, x124, x125, x126, x127, x128, x129, x130, x131, x132, x133, x134, x135, x136, x137, x138, x139, x140, x141, x142, x143, x144, x145, x146, x147, x148, x149, x150, x151, x152, x153, x154, x155, x156, x157, x158, x159, x160, x161, x162, x163, x164, x165, x166, x167, x168, x169, x170, x171, x172, x173, x174, x175, x176, x177, x178, x179, x180, x181, x182, x183, x184, x185, x186, x187, x188, x189, x190, x191, x192, x193, x194, x195, x196, x197, x198, x199, x200, x201, x202, x203, x204, x205, x206, x207, x208, x209, x210, x211, x212, x213, x214, x215, x216, x217, x218, x219], []⟩ wo := by
  conv => arg 2; whnf
  obtain ⟨s1, r1, z1, hf⟩ : ∃ s1 r1 z1, nextS s = (s1, r1, z1) := ⟨_, _, _, rfl⟩
  have HA := hidZ (pvd_next HP0.out hf)
  have hx := HP0.out.cells
  obtain ⟨x0, x1, x2, x3, x4, x5, x6, x7, x8⟩ := t9_cells hx
  have o0 : wo.cell? ⟨og, 0, none⟩ = some (.int .i64 2) := tblk_cell ho rfl
  go_wp2_with fail
  refine HA.out.mono ?_
  rintro e w1 ⟨a1, d1, a2, d2, h1, q1, fa, ba, fc, bc, rfl, B1, hp1⟩
  have hx1 := tblk_below hx B1
  have hxl : bx < w1.heap.size := heap_lt hx1
  have hbl : b < w1.heap.size := Nat.lt_of_lt_of_le HP0.out.fcn.lt B1.size
  have hol := B1.size
  have BW : Below w1.heap.size w1 ((w1.alloc (.cells #[.slice a1 s1.li.length d1, .slice a2 s1.lo.length d2, .int .i64 s1.win, .bool s1.bz, .bool s1.cl, .bool s1.wt, .int .i64 h1, .int .i64 q1, .int .i64 mm] 35)).alloc (.cells #[.string r1.m, .string r1.t, .int .i64 r1.minor, .slice fa r1.fs.length fc, .slice ba r1.body.length bc] 43)) := ((Below.refl _ _).alloc (Nat.le_refl _) _).alloc (by simp) _
  obtain ⟨hp2, hsm⟩ := hp1 _ BW
  have h13 : ((w1.alloc (.cells #[.slice a1 s1.li.length d1, .slice a2 s1.lo.length d2, .int .i64 s1.win, .bool s1.bz, .bool s1.cl, .bool s1.wt, .int .i64 h1, .int .i64 q1, .int .i64 mm] 35)).alloc (.cells #[.string r1.m, .string r1.t, .int .i64 r1.minor, .slice fa r1.fs.length fc, .slice ba r1.body.length bc] 43)).heap[w1.heap.size]? = some (.cells #[.slice a1 s1.li.length d1, .slice a2 s1.lo.length d2, .int .i64 s1.win, .bool s1.bz, .bool s1.cl, .bool s1.wt, .int .i64 h1, .int .i64 q1, .int .i64 mm] 35) := (Below.heap_alloc _ _ _ (by simp)).trans (tblk_new _ _)
  have h14 : ((w1.alloc (.cells #[.slice a1 s1.li.length d1, .slice a2 s1.lo.length d2, .int .i64 s1.win, .bool s1.bz, .bool s1.cl, .bool s1.wt, .int .i64 h1, .int .i64 q1, .int .i64 mm] 35)).alloc (.cells #[.string r1.m, .string r1.t, .int .i64 r1.minor, .slice fa r1.fs.length fc, .slice ba r1.body.length bc] 43)).heap[w1.heap.size + 1]? = some (.cells #[.string r1.m, .string r1.t, .int .i64 r1.minor, .slice fa r1.fs.length fc, .slice ba r1.body.length bc] 43) := by
    have k := tblk_new (w1.alloc (.cells #[.slice a1 s1.li.length d1, .slice a2 s1.lo.length d2, .int .i64 s1.win, .bool s1.bz, .bool s1.cl, .bool s1.wt, .int .i64 h1, .int .i64 q1, .int .i64 mm] 35)) (.cells #[.string r1.m, .string r1.t, .int .i64 r1.minor, .slice fa r1.fs.length fc, .slice ba r1.body.length bc] 43)
    rw [show (w1.alloc (.cells #[.slice a1 s1.li.length d1, .slice a2 s1.lo.length d2, .int .i64 s1.win, .bool s1.bz, .bool s1.cl, .bool s1.wt, .int .i64 h1, .int .i64 q1, .int .i64 mm] 35)).heap.size = w1.heap.size + 1 by simp] at k
    exact k
  have hx2 := tblk_below hx1 BW
  have HF14 : Hid (F0 (w1.heap.size + 1) ∨ (wo.heap.size ≤ w1.heap.size + 1 ∧ w1.heap.size + 1 < ((w1.alloc (.cells #[.slice a1 s1.li.length d1, .slice a2 s1.lo.length d2, .int .i64 s1.win, .bool s1.bz, .bool s1.cl, .bool s1.wt, .int .i64 h1, .int .i64 q1, .int .i64 mm] 35)).alloc (.cells #[.string r1.m, .string r1.t, .int .i64 r1.minor, .slice fa r1.fs.length fc, .slice ba r1.body.length bc] 43)).heap.size)) := .inr ⟨by omega, by simp⟩
  have H14 := hidZ ((nine_away (v0 := (.slice a1 s1.li.length d1)) (v1 := (.slice a2 s1.lo.length d2)) (v2 := (.int .i64 s1.win)) (v3 := (.bool s1.bz)) (v4 := (.bool s1.cl)) (v5 := (.bool s1.wt)) (v6 := (.int .i64 h1)) (v7 := (.int .i64 q1)) (v8 := (.int .i64 mm)) (show w1.heap.size + 1 ≠ bx by omega)).trans h14)
  have HP2 := hidZ hp2
  have HSM := hidZ hsm
  unfold nine at H14 HP2 HSM
  clear hp1 hp2 hsm HA HP0 HSX hx hx1 ho B1 x0 x1 x2 x3 x4 x5 x6 x7 x8 o0
  go_upto_region 20 with fail
  generalize ((w1.alloc (.cells #[.slice a1 s1.li.length d1, .slice a2 s1.lo.length d2, .int .i64 s1.win, .bool s1.bz, .bool s1.cl, .bool s1.wt, .int .i64 h1, .int .i64 q1, .int .i64 mm] 35)).alloc (.cells #[.string r1.m, .string r1.t, .int .i64 r1.minor, .slice fa r1.fs.length fc, .slice ba r1.body.length bc] 43)) = w2 at *
  obtain ⟨c0, c1, c2, c3, c4, c5, c6, c7, c8⟩ := t9_cells h13
  obtain ⟨x0, x1, x2, x3, x4, x5, x6, x7, x8⟩ := t9_cells hx2
  obtain ⟨y0, y1, y2, y3, y4, y5, y6, y7, y8⟩ := t9_z hx2
  clear h14
  go_upto_region 21 with fail
  generalize (((((((((w2.setCell ⟨bx, 0, none⟩ (.slice a1 s1.li.length d1)).setCell ⟨bx, 1, none⟩ (.slice a2 s1.lo.length d2)).setCell ⟨bx, 2, none⟩ (.int .i64 s1.win)).setCell ⟨bx, 3, none⟩ (.bool s1.bz)).setCell ⟨bx, 4, none⟩ (.bool s1.cl)).setCell ⟨bx, 5, none⟩ (.bool s1.wt)).setCell ⟨bx, 6, none⟩ (.int .i64 h1)).setCell ⟨bx, 7, none⟩ (.int .i64 q1)).setCell ⟨bx, 8, none⟩ (.int .i64 mm)) = w3 at *
  clear h13 hx2 c0 c1 c2 c3 c4 c5 c6 c7 c8 x0 x1 x2 x3 x4 x5 x6 x7 x8 y0 y1 y2 y3 y4 y5 y6 y7 y8
  go_wp2_with fail
  refine (pvc_next HP2.out HM.out hf).mono ?_
  rintro e w9 ⟨fa2, ba2, fc2, bc2, rfl, f1, f2, hp4, K4⟩
  have h14 := (K4.1 _ HF14.out (by omega)).trans H14.out
  have HS4 : Hid (∀ V, Below w9.heap.size w9 V → Calls Tryz.prog 17 #[.agg #[.string r1.m, .string r1.t, .int .i64 r1.minor, .slice fa2 r1.fs.length fc2, .slice ba2 r1.body.length bc2], .agg #[.string r1.m, .string r1.t, .int .i64 r1.minor, .slice fa r1.fs.length fc, .slice ba r1.body.length bc]] V fun e u => e = .returned (.bool true) ∧ Below V.heap.size V u) := fun V BV => HSM.out w9 V fa2 ba2 fc2 bc2 K4 BV f1 f2
  have BA : Below w9.heap.size w9 (w9.alloc (.cells #[.string r1.m, .string r1.t, .int .i64 r1.minor, .slice fa2 r1.fs.length fc2, .slice ba2 r1.body.length bc2] 43)) := (Below.refl _ _).alloc (Nat.le_refl _) _
  have h14 := tblk_below h14 BA
  have h16 := tblk_new w9 (.cells #[.string r1.m, .string r1.t, .int .i64 r1.minor, .slice fa2 r1.fs.length fc2, .slice ba2 r1.body.length bc2] 43)
  have HP4 := hidZ hp4
  clear hp4 K4 f1 f2 HSM HF14 H14 HP2 BW
  go_upto_region 22 with fail
  generalize (w9.alloc (.cells #[.string r1.m, .string r1.t, .int .i64 r1.minor, .slice fa2 r1.fs.length fc2, .slice ba2 r1.body.length bc2] 43)) = w5 at *
  have c0 : w5.cell? ⟨(w1.heap.size + 1), 0, none⟩ = some (.string r1.m) := tblk_cell h14 rfl
  have c1 : w5.cell? ⟨(w1.heap.size + 1), 1, none⟩ = some (.string r1.t) := tblk_cell h14 rfl
  have c2 : w5.cell? ⟨(w1.heap.size + 1), 2, none⟩ = some (.int .i64 r1.minor) := tblk_cell h14 rfl
  have c3 : w5.cell? ⟨(w1.heap.size + 1), 3, none⟩ = some (.slice fa r1.fs.length fc) := tblk_cell h14 rfl
  have c4 : w5.cell? ⟨(w1.heap.size + 1), 4, none⟩ = some (.slice ba r1.body.length bc) := tblk_cell h14 rfl
  have x0 : w5.cell? ⟨w9.heap.size, 0, none⟩ = some (.string r1.m) := tblk_cell h16 rfl
  have x1 : w5.cell? ⟨w9.heap.size, 1, none⟩ = some (.string r1.t) := tblk_cell h16 rfl
  have x2 : w5.cell? ⟨w9.heap.size, 2, none⟩ = some (.int .i64 r1.minor) := tblk_cell h16 rfl
  have x3 : w5.cell? ⟨w9.heap.size, 3, none⟩ = some (.slice fa2 r1.fs.length fc2) := tblk_cell h16 rfl
  have x4 : w5.cell? ⟨w9.heap.size, 4, none⟩ = some (.slice ba2 r1.body.length bc2) := tblk_cell h16 rfl
  go_wp2_with fail
  refine (HS4.out w5 BA).mono ?_
  rintro e w6 ⟨rfl, B6⟩
  have HP3 : Hid (∃ F s ai ci ao co h q, PV w rs b bx mm s s F ai ci ao co h q w6) := ⟨_, _, _, _, _, _, _, _, HP4.out.below (BA.trans (B6.mono BA.size))⟩
  clear HP4 HS4 BA B6 h14 h16 c0 c1 c2 c3 c4 x0 x1 x2 x3 x4
  go_wp2_with fail
  apply HQ.out
  exact HP3
set_option maxRecDepth 1000000 in
set_option maxHeartbeats 16000000 in
theorem plays18_arm7 {x0 x1 x2 x3 x4 x5 x8 x9 x13 x14 x15 x16 x17 x18 x19 x20 x21 x22 x23 x24 x25 x26 x27 x28 x29 x30 x31 x32 x33 x34 x36 x37 x38 x39 x40 x41 x42 x43 x44 x45 x46 x47 x48 x49 x50 x51 x52 x54 x55 x56 x57 x58 x59 x60 x61 x62 x63 x64 x65 x66 x67 x68 x69 x70 x71 x72 x73 x74 x75 x76 x77 x78 x79 x80 x81 x82 x83 x84 x85 x86 x87 x88 x89 x90 x91 x92 x93 x94 x95 x96 x97 x98 x99 x100 x101 x102 x103 x104 x105 x106 x107 x108 x109 x110 x111 x112 x113 x114 x115 x116 x117 x118 x119 x120 x121 x122 x123 x124 x125 x126 x127 x128 x129 x130 x131 x132 x133 x134 x135 x136 x137 x138 x139 x140 x141 x142 x143 x144 x145 x146 x147 x148 x149 x150 x151 x152 x153 x154 x155 x156 x157 x158 x159 x160 x161 x162 x163 x164 x165 x166 x167 x168 x169 x170 x171 x172 x173 x174 x175 x176 x177 x178 x179 x180 x181 x182 x183 x184 x185 x186 x187 x188 x189 x190 x191 x192 x193 x194 x195 x196 x197 x198 x199 x200 x201 x202 x203 x204 x205 x206 x207 x208 x209 x210 x211 x212 x213 x214 x215 x216 x217 x218 x219 vi : Value} {w wo : World} {rs : List Nat} {b bx og kx xc : Nat} {mm : Int} {s : Cs} {F0 : Nat → Prop} {ai ao xa : Option Addr} {ci co : Nat} {h q on : Int} {ob : List UInt8} {ol : Bool} 
    (HP0 : Hid (PV w rs b bx mm s s F0 ai ci ao co h q wo)) (HSX : Hid (Src w kx (.slice xa ob.length xc) ob ∧ (0 < ob.length → kx < w.heap.size))) (HM : Hid (MaxL w)) (ho : wo.heap[og]? = some (.cells #[.int .i64 7, .int .i64 on, .slice xa ob.length xc, .bool ol] 37)) (hnx : og ≠ bx)
    {Q : Exit → Act → World → Prop} (HQ : Hid (∀ (z : Bool) (y13 y14 y15 y16 y17 y18 y19 y54 y55 y56 y57 y58 y59 y60 y61 y62 y63 y64 y65 y66 y67 y68 y69 y70 y71 y72 y73 y74 y75 y76 y77 y78 y79 y80 y81 y82 y83 y84 y85 y86 y87 y88 y89 y90 y91 y92 y93 y94 y95 y96 y97 y98 y99 y100 y101 y102 y103 y104 y105 y106 y107 y108 y109 y110 y111 y112 y113 y114 y115 y116 y117 y118 y119 y120 y121 y122 y123 y124 y125 y126 y127 y128 y129 y130 y131 y132 y133 y134 y135 y136 y137 y138 y139 y140 y141 y142 y143 y144 y145 y146 y147 y148 y149 y150 y151 y152 y153 y154 y155 y156 y157 y158 y159 y160 y161 : Value) (wx : World), Hid (∃ F s ai ci ao co h q, PV w rs b bx mm s s F ai ci ao co h q wx) → Q .normal ⟨#[x0, x1, x2, x3, x4, x5, .pointer (some ⟨b, 0, none⟩), .pointer (some ⟨bx, 0, none⟩), x8, x9, .pointer (some ⟨og, 0, none⟩), .bool z, .bool z, y13, y14, y15, y16, y17, y18, y19, x20, x21, x22, x23, x24, x25, x26, x27, x28, x29, x30, x31, x32, x33, x34, vi, x36, x37, x38, x39, x40, x41, x42, x43, x44, x45, x46, x47, x48, x49, x50, x51, x52, .int .i64 7, y54, y55, y56, y57, y58, y59, y60, y61, y62, y63, y64, y65, y66, y67, y68, y69, y70, y71, y72, y73, y74, y75, y76, y77, y78, y79, y80, y81, y82, y83, y84, y85, y86, y87, y88, y89, y90, y91, y92, y93, y94, y95, y96, y97, y98, y99, y100, y101, y102, y103, y104, y105, y106, y107, y108, y109, y110, y111, y112, y113, y114, y115, y116, y117, y118, y119, y120, y121, y122, y123, y124, y125, y126, y127, y128, y129, y130, y131, y132, y133, y134, y135, y136, y137, y138, y139, y140, y141, y142, y143, y144, y145, y146, y147, y148, y149, y150, y151, y152, y153, y154, y155, y156, y157, y158, y159, y160, y161, x162, x163, x164, x165, x166, x167, x168, x169, x170, x171, x172, x173, x174, x175, x176, x177, x178, x179, x180, x181, x182, x183, x184, x185, x186, x187, x188, x189, x190, x191, x192, x193, x194, x195, x196, x197, x198, x199, x200, x201, x202, x203, x204, x205, x206, x207, x208, x209, x210, x211, x212, x213, x214, x215, x216, x217, x218, x219], []⟩ wx)) :
    Code.wp Tryz.prog sw2 Q ⟨#[x0, x1, x2, x3, x4, x5, .pointer (some ⟨b, 0, none⟩), .pointer (some ⟨bx, 0, none⟩), x8, x9, .pointer (some ⟨og, 0, none⟩), .bool true, .bool true, x13, x14, x15, x16, x17, x18, x19, x20, x21, x22, x23, x24, x25, x26, x27, x28, x29, x30, x31, x32, x33, x34, vi, x36, x37, x38, x39, x40, x41, x42, x43, x44, x45, x46, x47, x48, x49, x50, x51, x52, .int .i64 7, x54, x55, x56, x57, x58, x59, x60, x61, x62, x63, x64, x65, x66, x67, x68, x69, x70, x71, x72, x73, x74, x75, x76, x77, x78, x79, x80, x81, x82, x83, x84, x85, x86, x87, x88, x89, x90, x91, x92, x93, x94, x95, x96, x97, x98, x99, x100, x101, x102, x103, x104, x105, x106, x107, x108, x109, x110, x111, x112, x113, x114, x115, x116, x117, x118, x119, x120, x121, x122, x123, x124, x125, x126, x127, x128, x129, x130, x131, x132, x133, x134, x135, x136, x137, x138, x139, x140, x141, x142, x143, x144, x145, x146, x147, x148, x149, x150, x151, x152, x153, x154, x155, x156, x157, x158, x159, x160, x161, x162, x163, x164, x165, x166, x167, x168, x169, x170, x171, x172, x173, x174, x175, x176, x177, x178, x179, x180, x181, x182, x183, x184, x185, x186, x187, x188, x189, x190, x191, x192, x193, x194, x195, x196, x197, x198, x199, x200, x201, x202, x203, x204, x205, x206, x207, x208, x209, x210, x211, x212, x213, x214, x215, x216, x217, x218, x219], []⟩ wo := by
  conv => arg 2; whnf
  obtain ⟨s1, nn, hf, hn⟩ : ∃ s1 nn, writeS s on = s1 ∧ writeN s on = nn := ⟨_, _, rfl, rfl⟩
  have HA := hidZ (pvd_write HP0.out hf hn)
  have hx := HP0.out.cells
  obtain ⟨x0, x1, x2, x3, x4, x5, x6, x7, x8⟩ := t9_cells hx
  have o0 : wo.cell? ⟨og, 0, none⟩ = some (.int .i64 7) := tblk_cell ho rfl
  have o1 : wo.cell? ⟨og, 1, none⟩ = some (.int .i64 on) := tblk_cell ho rfl
  go_wp2_with fail
  refine HA.out.mono ?_
  rintro e w1 ⟨a1, d1, a2, d2, h1, q1, fa, fc, rfl, B1, hp1⟩
  have hx1 := tblk_below hx B1
  have hxl : bx < w1.heap.size := heap_lt hx1
  have ho1 := tblk_below ho B1
  have BW : Below w1.heap.size w1 (w1.alloc (.cells #[.slice a1 s1.li.length d1, .slice a2 s1.lo.length d2, .int .i64 s1.win, .bool s1.bz, .bool s1.cl, .bool s1.wt, .int .i64 h1, .int .i64 q1, .int .i64 mm] 35)) := (Below.refl _ _).alloc (Nat.le_refl _) _
  obtain ⟨hp2, hsm⟩ := hp1 _ BW
  have h13 := tblk_new w1 (.cells #[.slice a1 s1.li.length d1, .slice a2 s1.lo.length d2, .int .i64 s1.win, .bool s1.bz, .bool s1.cl, .bool s1.wt, .int .i64 h1, .int .i64 q1, .int .i64 mm] 35)
  have hx2 := tblk_below hx1 BW
  have ho2 := tblk_below ho1 BW
  have HO2 := hidZ ((nine_away (v0 := (.slice a1 s1.li.length d1)) (v1 := (.slice a2 s1.lo.length d2)) (v2 := (.int .i64 s1.win)) (v3 := (.bool s1.bz)) (v4 := (.bool s1.cl)) (v5 := (.bool s1.wt)) (v6 := (.int .i64 h1)) (v7 := (.int .i64 q1)) (v8 := (.int .i64 mm)) hnx).trans ho2)
  have HP2 := hidZ hp2
  have HSM := hidZ hsm
  unfold nine at HO2 HP2 HSM
  clear hp1 hp2 hsm HA HP0 HSX hx hx1 ho ho1 ho2 B1 BW x0 x1 x2 x3 x4 x5 x6 x7 x8 o0 o1
  go_upto_region 38 with fail
  generalize (w1.alloc (.cells #[.slice a1 s1.li.length d1, .slice a2 s1.lo.length d2, .int .i64 s1.win, .bool s1.bz, .bool s1.cl, .bool s1.wt, .int .i64 h1, .int .i64 q1, .int .i64 mm] 35)) = w2 at *
  obtain ⟨c0, c1, c2, c3, c4, c5, c6, c7, c8⟩ := t9_cells h13
  obtain ⟨x0, x1, x2, x3, x4, x5, x6, x7, x8⟩ := t9_cells hx2
  obtain ⟨y0, y1, y2, y3, y4, y5, y6, y7, y8⟩ := t9_z hx2
  go_upto_region 39 with fail
  generalize (((((((((w2.setCell ⟨bx, 0, none⟩ (.slice a1 s1.li.length d1)).setCell ⟨bx, 1, none⟩ (.slice a2 s1.lo.length d2)).setCell ⟨bx, 2, none⟩ (.int .i64 s1.win)).setCell ⟨bx, 3, none⟩ (.bool s1.bz)).setCell ⟨bx, 4, none⟩ (.bool s1.cl)).setCell ⟨bx, 5, none⟩ (.bool s1.wt)).setCell ⟨bx, 6, none⟩ (.int .i64 h1)).setCell ⟨bx, 7, none⟩ (.int .i64 q1)).setCell ⟨bx, 8, none⟩ (.int .i64 mm)) = w3 at *
  clear h13 hx2 c0 c1 c2 c3 c4 c5 c6 c7 c8 x0 x1 x2 x3 x4 x5 x6 x7 x8 y0 y1 y2 y3 y4 y5 y6 y7 y8
  have o1 : w3.cell? ⟨og, 1, none⟩ = some (.int .i64 on) := tblk_cell HO2.out rfl
  go_wp2_with fail
  refine (pvc_write HP2.out hf hn).mono ?_
  rintro e w9 ⟨g9, rfl, sr, hp4, K4⟩
  have HS4 := hidZ (HSM.out w9 g9 K4 sr)
  have HP4 := hidZ hp4
  clear hp4 K4 sr HSM HP2 HO2 o1
  go_wp2_with fail
  refine HS4.out.mono ?_
  rintro e w6 ⟨rfl, B6⟩
  have HP3 : Hid (∃ F s ai ci ao co h q, PV w rs b bx mm s s F ai ci ao co h q w6) := ⟨_, _, _, _, _, _, _, _, HP4.out.below B6⟩
  clear HP4 HS4 B6
  go_wp2_with fail
  apply HQ.out
  exact HP3
set_option maxRecDepth 1000000 in
set_option maxHeartbeats 16000000 in
theorem plays18_arm0 {x0 x1 x2 x3 x4 x5 x8 x9 x13 x14 x15 x16 x17 x18 x19 x20 x21 x22 x23 x24 x25 x26 x27 x28 x29 x30 x31 x32 x33 x34 x36 x37 x38 x39 x40 x41 x42 x43 x44 x45 x46 x47 x48 x49 x50 x51 x52 x54 x55 x56 x57 x58 x59 x60 x61 x62 x63 x64 x65 x66 x67 x68 x69 x70 x71 x72 x73 x74 x75 x76 x77 x78 x79 x80 x81 x82 x83 x84 x85 x86 x87 x88 x89 x90 x91 x92 x93 x94 x95 x96 x97 x98 x99 x100 x101 x102 x103 x104 x105 x106 x107 x108 x109 x110 x111 x112 x113 x114 x115 x116 x117 x118 x119 x120 x121 x122 x123 x124 x125 x126 x127 x128 x129 x130 x131 x132 x133 x134 x135 x136 x137 x138 x139 x140 x141 x142 x143 x144 x145 x146 x147 x148 x149 x150 x151 x152 x153 x154 x155 x156 x157 x158 x159 x160 x161 x162 x163 x164 x165 x166 x167 x168 x169 x170 x171 x172 x173 x174 x175 x176 x177 x178 x179 x180 x181 x182 x183 x184 x185 x186 x187 x188 x189 x190 x191 x192 x193 x194 x195 x196 x197 x198 x199 x200 x201 x202 x203 x204 x205 x206 x207 x208 x209 x210 x211 x212 x213 x214 x215 x216 x217 x218 x219 vi : Value} {w wo : World} {rs : List Nat} {b bx og kx xc : Nat} {mm : Int} {s : Cs} {F0 : Nat → Prop} {ai ao xa : Option Addr} {ci co : Nat} {h q ok on : Int} {ob : List UInt8} {ol : Bool} (k1 : ¬ ok = 1) (k2 : ¬ ok = 2) (k3 : ¬ ok = 3) (k4 : ¬ ok = 4) (k5 : ¬ ok = 5) (k6 : ¬ ok = 6) (k7 : ¬ ok = 7) (k8 : ¬ ok = 8)
    (HP0 : Hid (PV w rs b bx mm s s F0 ai ci ao co h q wo)) (HSX : Hid (Src w kx (.slice xa ob.length xc) ob ∧ (0 < ob.length → kx < w.heap.size))) (HM : Hid (MaxL w)) (ho : wo.heap[og]? = some (.cells #[.int .i64 ok, .int .i64 on, .slice xa ob.length xc, .bool ol] 37)) (hnx : og ≠ bx)
    {Q : Exit → Act → World → Prop} (HQ : Hid (∀ (z : Bool) (y13 y14 y15 y16 y17 y18 y19 y54 y55 y56 y57 y58 y59 y60 y61 y62 y63 y64 y65 y66 y67 y68 y69 y70 y71 y72 y73 y74 y75 y76 y77 y78 y79 y80 y81 y82 y83 y84 y85 y86 y87 y88 y89 y90 y91 y92 y93 y94 y95 y96 y97 y98 y99 y100 y101 y102 y103 y104 y105 y106 y107 y108 y109 y110 y111 y112 y113 y114 y115 y116 y117 y118 y119 y120 y121 y122 y123 y124 y125 y126 y127 y128 y129 y130 y131 y132 y133 y134 y135 y136 y137 y138 y139 y140 y141 y142 y143 y144 y145 y146 y147 y148 y149 y150 y151 y152 y153 y154 y155 y156 y157 y158 y159 y160 y161 : Value) (wx : World), Hid (∃ F s ai ci ao co h q, PV w rs b bx mm s s F ai ci ao co h q wx) → Q .normal ⟨#[x0, x1, x2, x3, x4, x5, .pointer (some ⟨b, 0, none⟩), .pointer (some ⟨bx, 0, none⟩), x8, x9, .pointer (some ⟨og, 0, none⟩), .bool z, .bool z, y13, y14, y15, y16, y17, y18, y19, x20, x21, x22, x23, x24, x25, x26, x27, x28, x29, x30, x31, x32, x33, x34, vi, x36, x37, x38, x39, x40, x41, x42, x43, x44, x45, x46, x47, x48, x49, x50, x51, x52, .int .i64 ok, y54, y55, y56, y57, y58, y59, y60, y61, y62, y63, y64, y65, y66, y67, y68, y69, y70, y71, y72, y73, y74, y75, y76, y77, y78, y79, y80, y81, y82, y83, y84, y85, y86, y87, y88, y89, y90, y91, y92, y93, y94, y95, y96, y97, y98, y99, y100, y101, y102, y103, y104, y105, y106, y107, y108, y109, y110, y111, y112, y113, y114, y115, y116, y117, y118, y119, y120, y121, y122, y123, y124, y125, y126, y127, y128, y129, y130, y131, y132, y133, y134, y135, y136, y137, y138, y139, y140, y141, y142, y143, y144, y145, y146, y147, y148, y149, y150, y151, y152, y153, y154, y155, y156, y157, y158, y159, y160, y161, x162, x163, x164, x165, x166, x167, x168, x169, x170, x171, x172, x173, x174, x175, x176, x177, x178, x179, x180, x181, x182, x183, x184, x185, x186, x187, x188, x189, x190, x191, x192, x193, x194, x195, x196, x197, x198, x199, x200, x201, x202, x203, x204, x205, x206, x207, x208, x209, x210, x211, x212, x213, x214, x215, x216, x217, x218, x219], []⟩ wx)) :
    Code.wp Tryz.prog sw2 Q ⟨#[x0, x1, x2, x3, x4, x5, .pointer (some ⟨b, 0, none⟩), .pointer (some ⟨bx, 0, none⟩), x8, x9, .pointer (some ⟨og, 0, none⟩), .bool true, .bool true, x13, x14, x15, x16, x17, x18, x19, x20, x21, x22, x23, x24, x25, x26, x27, x28, x29, x30, x31, x32, x33, x34, vi, x36, x37, x38, x39, x40, x41, x42, x43, x44, x45, x46, x47, x48, x49, x50, x51, x52, .int .i64 ok, x54, x55, x56, x57, x58, x59, x60, x61, x62, x63, x64, x65, x66, x67, x68, x69, x70, x71, x72, x73, x74, x75, x76, x77, x78, x79, x80, x81, x82, x83, x84, x85, x86, x87, x88, x89, x90, x91, x92, x93, x94, x95, x96, x97, x98, x99, x100, x101, x102, x103, x104, x105, x106, x107, x108, x109, x110, x111, x112, x113, x114, x115, x116, x117, x118, x119, x120, x121, x122, x123, x124, x125, x126, x127, x128, x129, x130, x131, x132, x133, x134, x135, x136, x137, x138, x139, x140, x141, x142, x143, x144, x145, x146, x147, x148, x149, x150, x151, x152, x153, x154, x155, x156, x157, x158, x159, x160, x161, x162, x163, x164, x165, x166, x167, x168, x169, x170, x171, x172, x173, x174, x175, x176, x177, x178, x179, x180, x181, x182, x183, x184, x185, x186, x187, x188, x189, x190, x191, x192, x193, x194, x195, x196, x197, x198, x199, x200, x201, x202, x203, x204, x205, x206, x207, x208, x209, x210, x211, x212, x213, x214, x215, x216, x217, x218, x219], []⟩ wo := by
  conv => arg 2; whnf
  have o0 : wo.cell? ⟨og, 0, none⟩ = some (.int .i64 ok) := tblk_cell ho rfl
  have j1 : (ok == 1) = false := by simp [k1]
  have j2 : (ok == 2) = false := by simp [k2]
  have j3 : (ok == 3) = false := by simp [k3]
  have j4 : (ok == 4) = false := by simp [k4]
  have j5 : (ok == 5) = false := by simp [k5]
  have j6 : (ok == 6) = false := by simp [k6]
  have j7 : (ok == 7) = false := by simp [k7]
  have j8 : (ok == 8) = false := by simp [k8]
  have HP3 : Hid (∃ F s ai ci ao co h q, PV w rs b bx mm s s F ai ci ao co h q wo) := ⟨_, _, _, _, _, _, _, _, HP0.out⟩
  clear HP0 HSX ho
  go_wp2_with fail
  apply HQ.out
  exact HP3
end Go.Proofs.YtemmmdhmkegaaaaGreatDoor
