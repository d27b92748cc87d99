/- Texts that the proof leans on, one behind the other: PlB PlC -/
import Derived.Test.YtemmmdhmkegaaaaGreatDoorCbB
import Derived.Deep.Cut
/- ConnPlays: Feed, Waits, Say (written by plb.py). -/
namespace Go.Proofs.YtemmmdhmkegaaaaGreatDoor
open Go.RowKit
set_option linter.unusedVariables false

set_option maxRecDepth 1000000 in
set_option maxHeartbeats 16000000 in
theorem plays18_arm1 {x0 x1 x2 x3 x4 x5 x8 x9 x13 x14 x15 x16 x17 x18 x19 x20 x21 x22 x23 x24 x25 x26 x27 x28 x29 x30 x31 x32 x33 x34 x36 x37 x38 x39 x40 x41 x42 x43 x44 x45 x46 x47 x48 x49 x50 x51 x52 x54 x55 x56 x57 x58 x59 x60 x61 x62 x63 x64 x65 x66 x67 x68 x69 x70 x71 x72 x73 x74 x75 x76 x77 x78 x79 x80 x81 x82 x83 x84 x85 x86 x87 x88 x89 x90 x91 x92 x93 x94 x95 x96 x97 x98 x99 x100 x101 x102 x103 x104 x105 x106 x107 x108 x109 x110 x111 x112 x113 x114 x115 x116 x117 x118 x119 x120 x121 x122 x123 x124 x125 x126 x127 x128 x129 x130 x131 x132 x133 x134 x135 x136 x137 x138 x139 x140 x141 x142 x143 x144 x145 x146 x147 x148 x149 x150 x151 x152 x153 x154 x155 x156 x157 x158 x159 x160 x161 x162 x163 x164 x165 x166 x167 x168 x169 x170 x171 x172 x173 x174 x175 x176 x177 x178 x179 x180 x181 x182 x183 x184 x185 x186 x187 x188 x189 x190 x191 x192 x193 x194 x195 x196 x197 x198 x199 x200 x201 x202 x203 x204 x205 x206 x207 x208 x209 x210 x211 x212 x213 x214 x215 x216 x217 x218 x219 vi : Value} {w wo : World} {rs : List Nat} {b bx og kx xc : Nat} {mm : Int} {s : Cs} {F0 : Nat → Prop} {ai ao xa : Option Addr} {ci co : Nat} {h q on : Int} {ob : List UInt8} {ol : Bool} 
    (HP0 : Hid (PV w rs b bx mm s s F0 ai ci ao co h q wo)) (HSX : Hid (Src w kx (.slice xa ob.length xc) ob ∧ (0 < ob.length → kx < w.heap.size))) (HM : Hid (MaxL w)) (ho : wo.heap[og]? = some (.cells #[.int .i64 1, .int .i64 on, .slice xa ob.length xc, .bool ol] 37)) (hnx : og ≠ bx)
    {Q : Exit → Act → World → Prop} (HQ : Hid (∀ (z : Bool) (y13 y14 y15 y16 y17 y18 y19 y54 y55 y56 y57 y58 y59 y60 y61 y62 y63 y64 y65 y66 y67 y68 y69 y70 y71 y72 y73 y74 y75 y76 y77 y78 y79 y80 y81 y82 y83 y84 y85 y86 y87 y88 y89 y90 y91 y92 y93 y94 y95 y96 y97 y98 y99 y100 y101 y102 y103 y104 y105 y106 y107 y108 y109 y110 y111 y112 y113 y114 y115 y116 y117 y118 y119 y120 y121 y122 y123 y124 y125 y126 y127 y128 y129 y130 y131 y132 y133 y134 y135 y136 y137 y138 y139 y140 y141 y142 y143 y144 y145 y146 y147 y148 y149 y150 y151 y152 y153 y154 y155 y156 y157 y158 y159 y160 y161 : Value) (wx : World), Hid (∃ F s ai ci ao co h q, PV w rs b bx mm s s F ai ci ao co h q wx) → Q .normal ⟨#[x0, x1, x2, x3, x4, x5, .pointer (some ⟨b, 0, none⟩), .pointer (some ⟨bx, 0, none⟩), x8, x9, .pointer (some ⟨og, 0, none⟩), .bool z, .bool z, y13, y14, y15, y16, y17, y18, y19, x20, x21, x22, x23, x24, x25, x26, x27, x28, x29, x30, x31, x32, x33, x34, vi, x36, x37, x38, x39, x40, x41, x42, x43, x44, x45, x46, x47, x48, x49, x50, x51, x52, .int .i64 1, y54, y55, y56, y57, y58, y59, y60, y61, y62, y63, y64, y65, y66, y67, y68, y69, y70, y71, y72, y73, y74, y75, y76, y77, y78, y79, y80, y81, y82, y83, y84, y85, y86, y87, y88, y89, y90, y91, y92, y93, y94, y95, y96, y97, y98, y99, y100, y101, y102, y103, y104, y105, y106, y107, y108, y109, y110, y111, y112, y113, y114, y115, y116, y117, y118, y119, y120, y121, y122, y123, y124, y125, y126, y127, y128, y129, y130, y131, y132, y133, y134, y135, y136, y137, y138, y139, y140, y141, y142, y143, y144, y145, y146, y147, y148, y149, y150, y151, y152, y153, y154, y155, y156, y157, y158, y159, y160, y161, x162, x163, x164, x165, x166, x167, x168, x169, x170, x171, x172, x173, x174, x175, x176, x177, x178, x179, x180, x181, x182, x183, x184, x185, x186, x187, x188, x189, x190, x191, x192, x193, x194, x195, x196, x197, x198, x199, x200, x201, x202, x203, x204, x205, x206, x207, x208, x209, x210, x211, x212, x213, x214, x215, x216, x217, x218, x219], []⟩ wx)) :
    Code.wp Tryz.prog sw2 Q ⟨#[x0, x1, x2, x3, x4, x5, .pointer (some ⟨b, 0, none⟩), .pointer (some ⟨bx, 0, none⟩), x8, x9, .pointer (some ⟨og, 0, none⟩), .bool true, .bool true, x13, x14, x15, x16, x17, x18, x19, x20, x21, x22, x23, x24, x25, x26, x27, x28, x29, x30, x31, x32, x33, x34, vi, x36, x37, x38, x39, x40, x41, x42, x43, x44, x45, x46, x47, x48, x49, x50, x51, x52, .int .i64 1, x54, x55, x56, x57, x58, x59, x60, x61, x62, x63, x64, x65, x66, x67, x68, x69, x70, x71, x72, x73, x74, x75, x76, x77, x78, x79, x80, x81, x82, x83, x84, x85, x86, x87, x88, x89, x90, x91, x92, x93, x94, x95, x96, x97, x98, x99, x100, x101, x102, x103, x104, x105, x106, x107, x108, x109, x110, x111, x112, x113, x114, x115, x116, x117, x118, x119, x120, x121, x122, x123, x124, x125, x126, x127, x128, x129, x130, x131, x132, x133, x134, x135, x136, x137, x138, x139, x140, x141, x142, x143, x144, x145, x146, x147, x148, x149, x150, x151, x152, x153, x154, x155, x156, x157, x158, x159, x160, x161, x162, x163, x164, x165, x166, x167, x168, x169, x170, x171, x172, x173, x174, x175, x176, x177, x178, x179, x180, x181, x182, x183, x184, x185, x186, x187, x188, x189, x190, x191, x192, x193, x194, x195, x196, x197, x198, x199, x200, x201, x202, x203, x204, x205, x206, x207, x208, x209, x210, x211, x212, x213, x214, x215, x216, x217, x218, x219], []⟩ wo := by
  conv => arg 2; whnf
  obtain ⟨s1, z1, hf⟩ : ∃ s1 z1, feedS s (s.li.length + s.lo.length) mm ob = (s1, z1) := ⟨_, _, rfl⟩
  have HA := hidZ (pvd_feed HP0.out HSX.out.1 HSX.out.2 hf)
  have hx := HP0.out.cells
  obtain ⟨x0, x1, x2, x3, x4, x5, x6, x7, x8⟩ := t9_cells hx
  have o0 : wo.cell? ⟨og, 0, none⟩ = some (.int .i64 1) := tblk_cell ho rfl
  have o2 : wo.cell? ⟨og, 2, none⟩ = some (.slice xa ob.length xc) := tblk_cell ho rfl
  go_wp2_with fail
  refine HA.out.mono ?_
  rintro e w1 ⟨a1, d1, a2, d2, h1, q1, F1, rfl, B1, hp1⟩
  have hx1 := tblk_below hx B1
  have ho1 := tblk_below ho B1
  have ho2 := hidZ ((nine_away (v0 := (.slice a1 s1.li.length d1)) (v1 := (.slice a2 s1.lo.length d2)) (v2 := (.int .i64 s1.win)) (v3 := (.bool s1.bz)) (v4 := (.bool s1.cl)) (v5 := (.bool s1.wt)) (v6 := (.int .i64 h1)) (v7 := (.int .i64 q1)) (v8 := (.int .i64 mm)) hnx).trans ho1)
  have HP1 := hidZ hp1
  unfold nine at ho2 HP1
  clear hp1 B1 HA HP0 hx ho ho1 x0 x1 x2 x3 x4 x5 x6 x7 x8 o0 o2
  obtain ⟨x0, x1, x2, x3, x4, x5, x6, x7, x8⟩ := t9_cells hx1
  obtain ⟨y0, y1, y2, y3, y4, y5, y6, y7, y8⟩ := t9_z hx1
  go_upto_region 17 with fail
  generalize (((((((((w1.setCell ⟨bx, 0, none⟩ (.slice a1 s1.li.length d1)).setCell ⟨bx, 1, none⟩ (.slice a2 s1.lo.length d2)).setCell ⟨bx, 2, none⟩ (.int .i64 s1.win)).setCell ⟨bx, 3, none⟩ (.bool s1.bz)).setCell ⟨bx, 4, none⟩ (.bool s1.cl)).setCell ⟨bx, 5, none⟩ (.bool s1.wt)).setCell ⟨bx, 6, none⟩ (.int .i64 h1)).setCell ⟨bx, 7, none⟩ (.int .i64 q1)).setCell ⟨bx, 8, none⟩ (.int .i64 mm)) = w2 at *
  clear hx1 x0 x1 x2 x3 x4 x5 x6 x7 x8 y0 y1 y2 y3 y4 y5 y6 y7 y8
  have o2 : w2.cell? ⟨og, 2, none⟩ = some (.slice xa ob.length xc) := tblk_cell ho2.out rfl
  go_wp2_with fail
  refine (pvc_feed HP1.out HSX.out.1 HSX.out.2 hf).mono ?_
  rintro e w3 ⟨rfl, hp3⟩
  have HP3 : Hid (∃ F s ai ci ao co h q, PV w rs b bx mm s s F ai ci ao co h q w3) := ⟨_, _, _, _, _, _, _, _, hp3⟩
  clear hp3 HP1 ho2 o2
  go_wp2_with fail
  apply HQ.out
  exact HP3
set_option maxRecDepth 1000000 in
set_option maxHeartbeats 16000000 in
theorem plays18_arm3 {x0 x1 x2 x3 x4 x5 x8 x9 x13 x14 x15 x16 x17 x18 x19 x20 x21 x22 x23 x24 x25 x26 x27 x28 x29 x30 x31 x32 x33 x34 x36 x37 x38 x39 x40 x41 x42 x43 x44 x45 x46 x47 x48 x49 x50 x51 x52 x54 x55 x56 x57 x58 x59 x60 x61 x62 x63 x64 x65 x66 x67 x68 x69 x70 x71 x72 x73 x74 x75 x76 x77 x78 x79 x80 x81 x82 x83 x84 x85 x86 x87 x88 x89 x90 x91 x92 x93 x94 x95 x96 x97 x98 x99 x100 x101 x102 x103 x104 x105 x106 x107 x108 x109 x110 x111 x112 x113 x114 x115 x116 x117 x118 x119 x120 x121 x122 x123 x124 x125 x126 x127 x128 x129 x130 x131 x132 x133 x134 x135 x136 x137 x138 x139 x140 x141 x142 x143 x144 x145 x146 x147 x148 x149 x150 x151 x152 x153 x154 x155 x156 x157 x158 x159 x160 x161 x162 x163 x164 x165 x166 x167 x168 x169 x170 x171 x172 x173 x174 x175 x176 x177 x178 x179 x180 x181 x182 x183 x184 x185 x186 x187 x188 x189 x190 x191 x192 x193 x194 x195 x196 x197 x198 x199 x200 x201 x202 x203 x204 x205 x206 x207 x208 x209 x210 x211 x212 x213 x214 x215 x216 x217 x218 x219 vi : Value} {w wo : World} {rs : List Nat} {b bx og kx xc : Nat} {mm : Int} {s : Cs} {F0 : Nat → Prop} {ai ao xa : Option Addr} {ci co : Nat} {h q on : Int} {ob : List UInt8} {ol : Bool} 
    (HP0 : Hid (PV w rs b bx mm s s F0 ai ci ao co h q wo)) (HSX : Hid (Src w kx (.slice xa ob.length xc) ob ∧ (0 < ob.length → kx < w.heap.size))) (HM : Hid (MaxL w)) (ho : wo.heap[og]? = some (.cells #[.int .i64 3, .int .i64 on, .slice xa ob.length xc, .bool ol] 37)) (hnx : og ≠ bx)
    {Q : Exit → Act → World → Prop} (HQ : Hid (∀ (z : Bool) (y13 y14 y15 y16 y17 y18 y19 y54 y55 y56 y57 y58 y59 y60 y61 y62 y63 y64 y65 y66 y67 y68 y69 y70 y71 y72 y73 y74 y75 y76 y77 y78 y79 y80 y81 y82 y83 y84 y85 y86 y87 y88 y89 y90 y91 y92 y93 y94 y95 y96 y97 y98 y99 y100 y101 y102 y103 y104 y105 y106 y107 y108 y109 y110 y111 y112 y113 y114 y115 y116 y117 y118 y119 y120 y121 y122 y123 y124 y125 y126 y127 y128 y129 y130 y131 y132 y133 y134 y135 y136 y137 y138 y139 y140 y141 y142 y143 y144 y145 y146 y147 y148 y149 y150 y151 y152 y153 y154 y155 y156 y157 y158 y159 y160 y161 : Value) (wx : World), Hid (∃ F s ai ci ao co h q, PV w rs b bx mm s s F ai ci ao co h q wx) → Q .normal ⟨#[x0, x1, x2, x3, x4, x5, .pointer (some ⟨b, 0, none⟩), .pointer (some ⟨bx, 0, none⟩), x8, x9, .pointer (some ⟨og, 0, none⟩), .bool z, .bool z, y13, y14, y15, y16, y17, y18, y19, x20, x21, x22, x23, x24, x25, x26, x27, x28, x29, x30, x31, x32, x33, x34, vi, x36, x37, x38, x39, x40, x41, x42, x43, x44, x45, x46, x47, x48, x49, x50, x51, x52, .int .i64 3, y54, y55, y56, y57, y58, y59, y60, y61, y62, y63, y64, y65, y66, y67, y68, y69, y70, y71, y72, y73, y74, y75, y76, y77, y78, y79, y80, y81, y82, y83, y84, y85, y86, y87, y88, y89, y90, y91, y92, y93, y94, y95, y96, y97, y98, y99, y100, y101, y102, y103, y104, y105, y106, y107, y108, y109, y110, y111, y112, y113, y114, y115, y116, y117, y118, y119, y120, y121, y122, y123, y124, y125, y126, y127, y128, y129, y130, y131, y132, y133, y134, y135, y136, y137, y138, y139, y140, y141, y142, y143, y144, y145, y146, y147, y148, y149, y150, y151, y152, y153, y154, y155, y156, y157, y158, y159, y160, y161, x162, x163, x164, x165, x166, x167, x168, x169, x170, x171, x172, x173, x174, x175, x176, x177, x178, x179, x180, x181, x182, x183, x184, x185, x186, x187, x188, x189, x190, x191, x192, x193, x194, x195, x196, x197, x198, x199, x200, x201, x202, x203, x204, x205, x206, x207, x208, x209, x210, x211, x212, x213, x214, x215, x216, x217, x218, x219], []⟩ wx)) :
    Code.wp Tryz.prog sw2 Q ⟨#[x0, x1, x2, x3, x4, x5, .pointer (some ⟨b, 0, none⟩), .pointer (some ⟨bx, 0, none⟩), x8, x9, .pointer (some ⟨og, 0, none⟩), .bool true, .bool true, x13, x14, x15, x16, x17, x18, x19, x20, x21, x22, x23, x24, x25, x26, x27, x28, x29, x30, x31, x32, x33, x34, vi, x36, x37, x38, x39, x40, x41, x42, x43, x44, x45, x46, x47, x48, x49, x50, x51, x52, .int .i64 3, x54, x55, x56, x57, x58, x59, x60, x61, x62, x63, x64, x65, x66, x67, x68, x69, x70, x71, x72, x73, x74, x75, x76, x77, x78, x79, x80, x81, x82, x83, x84, x85, x86, x87, x88, x89, x90, x91, x92, x93, x94, x95, x96, x97, x98, x99, x100, x101, x102, x103, x104, x105, x106, x107, x108, x109, x110, x111, x112, x113, x114, x115, x116, x117, x118, x119, x120, x121, x122, x123, x124, x125, x126, x127, x128, x129, x130, x131, x132, x133, x134, x135, x136, x137, x138, x139, x140, x141, x142, x143, x144, x145, x146, x147, x148, x149, x150, x151, x152, x153, x154, x155, x156, x157, x158, x159, x160, x161, x162, x163, x164, x165, x166, x167, x168, x169, x170, x171, x172, x173, x174, x175, x176, x177, x178, x179, x180, x181, x182, x183, x184, x185, x186, x187, x188, x189, x190, x191, x192, x193, x194, x195, x196, x197, x198, x199, x200, x201, x202, x203, x204, x205, x206, x207, x208, x209, x210, x211, x212, x213, x214, x215, x216, x217, x218, x219], []⟩ wo := by
  conv => arg 2; whnf
  obtain ⟨s1, z1, hf⟩ : ∃ s1 z1, waitS s = (s1, z1) := ⟨_, _, rfl⟩
  have HA := hidZ (pvd_waits HP0.out hf)
  have hx := HP0.out.cells
  obtain ⟨x0, x1, x2, x3, x4, x5, x6, x7, x8⟩ := t9_cells hx
  have o0 : wo.cell? ⟨og, 0, none⟩ = some (.int .i64 3) := tblk_cell ho rfl
  go_wp2_with fail
  refine HA.out.mono ?_
  rintro e w1 ⟨a1, d1, a2, d2, h1, q1, F1, rfl, B1, hp1⟩
  have hx1 := tblk_below hx B1
  have ho1 := tblk_below ho B1
  have ho2 := hidZ ((nine_away (v0 := (.slice a1 s1.li.length d1)) (v1 := (.slice a2 s1.lo.length d2)) (v2 := (.int .i64 s1.win)) (v3 := (.bool s1.bz)) (v4 := (.bool s1.cl)) (v5 := (.bool s1.wt)) (v6 := (.int .i64 h1)) (v7 := (.int .i64 q1)) (v8 := (.int .i64 mm)) hnx).trans ho1)
  have HP1 := hidZ hp1
  unfold nine at ho2 HP1
  clear hp1 B1 HA HP0 hx ho ho1 x0 x1 x2 x3 x4 x5 x6 x7 x8 o0
  obtain ⟨x0, x1, x2, x3, x4, x5, x6, x7, x8⟩ := t9_cells hx1
  obtain ⟨y0, y1, y2, y3, y4, y5, y6, y7, y8⟩ := t9_z hx1
  go_upto_region 26 with fail
  generalize (((((((((w1.setCell ⟨bx, 0, none⟩ (.slice a1 s1.li.length d1)).setCell ⟨bx, 1, none⟩ (.slice a2 s1.lo.length d2)).setCell ⟨bx, 2, none⟩ (.int .i64 s1.win)).setCell ⟨bx, 3, none⟩ (.bool s1.bz)).setCell ⟨bx, 4, none⟩ (.bool s1.cl)).setCell ⟨bx, 5, none⟩ (.bool s1.wt)).setCell ⟨bx, 6, none⟩ (.int .i64 h1)).setCell ⟨bx, 7, none⟩ (.int .i64 q1)).setCell ⟨bx, 8, none⟩ (.int .i64 mm)) = w2 at *
  clear hx1 x0 x1 x2 x3 x4 x5 x6 x7 x8 y0 y1 y2 y3 y4 y5 y6 y7 y8
  go_wp2_with fail
  refine (pvc_waits HP1.out HM.out hf).mono ?_
  rintro e w3 ⟨rfl, hp3⟩
  have HP3 : Hid (∃ F s ai ci ao co h q, PV w rs b bx mm s s F ai ci ao co h q w3) := ⟨_, _, _, _, _, _, _, _, hp3⟩
  clear hp3 HP1 ho2 
  go_wp2_with fail
  apply HQ.out
  exact HP3
set_option maxRecDepth 1000000 in
set_option maxHeartbeats 16000000 in
theorem plays18_arm4 {x0 x1 x2 x3 x4 x5 x8 x9 x13 x14 x15 x16 x17 x18 x19 x20 x21 x22 x23 x24 x25 x26 x27 x28 x29 x30 x31 x32 x33 x34 x36 x37 x38 x39 x40 x41 x42 x43 x44 x45 x46 x47 x48 x49 x50 x51 x52 x54 x55 x56 x57 x58 x59 x60 x61 x62 x63 x64 x65 x66 x67 x68 x69 x70 x71 x72 x73 x74 x75 x76 x77 x78 x79 x80 x81 x82 x83 x84 x85 x86 x87 x88 x89 x90 x91 x92 x93 x94 x95 x96 x97 x98 x99 x100 x101 x102 x103 x104 x105 x106 x107 x108 x109 x110 x111 x112 x113 x114 x115 x116 x117 x118 x119 x120 x121 x122 x123 x124 x125 x126 x127 x128 x129 x130 x131 x132 x133 x134 x135 x136 x137 x138 x139 x140 x141 x142 x143 x144 x145 x146 x147 x148 x149 x150 x151 x152 x153 x154 x155 x156 x157 x158 x159 x160 x161 x162 x163 x164 x165 x166 x167 x168 x169 x170 x171 x172 x173 x174 x175 x176 x177 x178 x179 x180 x181 x182 x183 x184 x185 x186 x187 x188 x189 x190 x191 x192 x193 x194 x195 x196 x197 x198 x199 x200 x201 x202 x203 x204 x205 x206 x207 x208 x209 x210 x211 x212 x213 x214 x215 x216 x217 x218 x219 vi : Value} {w wo : World} {rs : List Nat} {b bx og kx xc : Nat} {mm : Int} {s : Cs} {F0 : Nat → Prop} {ai ao xa : Option Addr} {ci co : Nat} {h q on : Int} {ob : List UInt8} {ol : Bool} 
    (HP0 : Hid (PV w rs b bx mm s s F0 ai ci ao co h q wo)) (HSX : Hid (Src w kx (.slice xa ob.length xc) ob ∧ (0 < ob.length → kx < w.heap.size))) (HM : Hid (MaxL w)) (ho : wo.heap[og]? = some (.cells #[.int .i64 4, .int .i64 on, .slice xa ob.length xc, .bool ol] 37)) (hnx : og ≠ bx)
    {Q : Exit → Act → World → Prop} (HQ : Hid (∀ (z : Bool) (y13 y14 y15 y16 y17 y18 y19 y54 y55 y56 y57 y58 y59 y60 y61 y62 y63 y64 y65 y66 y67 y68 y69 y70 y71 y72 y73 y74 y75 y76 y77 y78 y79 y80 y81 y82 y83 y84 y85 y86 y87 y88 y89 y90 y91 y92 y93 y94 y95 y96 y97 y98 y99 y100 y101 y102 y103 y104 y105 y106 y107 y108 y109 y110 y111 y112 y113 y114 y115 y116 y117 y118 y119 y120 y121 y122 y123 y124 y125 y126 y127 y128 y129 y130 y131 y132 y133 y134 y135 y136 y137 y138 y139 y140 y141 y142 y143 y144 y145 y146 y147 y148 y149 y150 y151 y152 y153 y154 y155 y156 y157 y158 y159 y160 y161 : Value) (wx : World), Hid (∃ F s ai ci ao co h q, PV w rs b bx mm s s F ai ci ao co h q wx) → Q .normal ⟨#[x0, x1, x2, x3, x4, x5, .pointer (some ⟨b, 0, none⟩), .pointer (some ⟨bx, 0, none⟩), x8, x9, .pointer (some ⟨og, 0, none⟩), .bool z, .bool z, y13, y14, y15, y16, y17, y18, y19, x20, x21, x22, x23, x24, x25, x26, x27, x28, x29, x30, x31, x32, x33, x34, vi, x36, x37, x38, x39, x40, x41, x42, x43, x44, x45, x46, x47, x48, x49, x50, x51, x52, .int .i64 4, y54, y55, y56, y57, y58, y59, y60, y61, y62, y63, y64, y65, y66, y67, y68, y69, y70, y71, y72, y73, y74, y75, y76, y77, y78, y79, y80, y81, y82, y83, y84, y85, y86, y87, y88, y89, y90, y91, y92, y93, y94, y95, y96, y97, y98, y99, y100, y101, y102, y103, y104, y105, y106, y107, y108, y109, y110, y111, y112, y113, y114, y115, y116, y117, y118, y119, y120, y121, y122, y123, y124, y125, y126, y127, y128, y129, y130, y131, y132, y133, y134, y135, y136, y137, y138, y139, y140, y141, y142, y143, y144, y145, y146, y147, y148, y149, y150, y151, y152, y153, y154, y155, y156, y157, y158, y159, y160, y161, x162, x163, x164, x165, x166, x167, x168, x169, x170, x171, x172, x173, x174, x175, x176, x177, x178, x179, x180, x181, x182, x183, x184, x185, x186, x187, x188, x189, x190, x191, x192, x193, x194, x195, x196, x197, x198, x199, x200, x201, x202, x203, x204, x205, x206, x207, x208, x209, x210, x211, x212, x213, x214, x215, x216, x217, x218, x219], []⟩ wx)) :
    Code.wp Tryz.prog sw2 Q ⟨#[x0, x1, x2, x3, x4, x5, .pointer (some ⟨b, 0, none⟩), .pointer (some ⟨bx, 0, none⟩), x8, x9, .pointer (some ⟨og, 0, none⟩), .bool true, .bool true, x13, x14, x15, x16, x17, x18, x19, x20, x21, x22, x23, x24, x25, x26, x27, x28, x29, x30, x31, x32, x33, x34, vi, x36, x37, x38, x39, x40, x41, x42, x43, x44, x45, x46, x47, x48, x49, x50, x51, x52, .int .i64 4, x54, x55, x56, x57, x58, x59, x60, x61, x62, x63, x64, x65, x66, x67, x68, x69, x70, x71, x72, x73, x74, x75, x76, x77, x78, x79, x80, x81, x82, x83, x84, x85, x86, x87, x88, x89, x90, x91, x92, x93, x94, x95, x96, x97, x98, x99, x100, x101, x102, x103, x104, x105, x106, x107, x108, x109, x110, x111, x112, x113, x114, x115, x116, x117, x118, x119, x120, x121, x122, x123, x124, x125, x126, x127, x128, x129, x130, x131, x132, x133, x134, x135, x136, x137, x138, x139, x140, x141, x142, x143, x144, x145, x146, x147, x148, x149, x150, x151, x152, x153, x154, x155, x156, x157, x158, x159, x160, x161, x162, x163, x164, x165, x166, x167, x168, x169, x170, x171, x172, x173, x174, x175, x176, x177, x178, x179, x180, x181, x182, x183, x184, x185, x186, x187, x188, x189, x190, x191, x192, x193, x194, x195, x196, x197, x198, x199, x200, x201, x202, x203, x204, x205, x206, x207, x208, x209, x210, x211, x212, x213, x214, x215, x216, x217, x218, x219], []⟩ wo := by
  conv => arg 2; whnf
  obtain ⟨s1, z1, hf⟩ : ∃ s1 z1, sayS s (s.li.length + s.lo.length) mm ob ol = (s1, z1) := ⟨_, _, rfl⟩
  have HA := hidZ (pvd_say HP0.out HSX.out.1 HSX.out.2 hf)
  have hx := HP0.out.cells
  obtain ⟨x0, x1, x2, x3, x4, x5, x6, x7, x8⟩ := t9_cells hx
  have o0 : wo.cell? ⟨og, 0, none⟩ = some (.int .i64 4) := tblk_cell ho rfl
  have o2 : wo.cell? ⟨og, 2, none⟩ = some (.slice xa ob.length xc) := tblk_cell ho rfl
  have o3 : wo.cell? ⟨og, 3, none⟩ = some (.bool ol) := tblk_cell ho rfl
  go_wp2_with fail
  refine HA.out.mono ?_
  rintro e w1 ⟨a1, d1, a2, d2, h1, q1, F1, rfl, B1, hp1⟩
  have hx1 := tblk_below hx B1
  have ho1 := tblk_below ho B1
  have ho2 := hidZ ((nine_away (v0 := (.slice a1 s1.li.length d1)) (v1 := (.slice a2 s1.lo.length d2)) (v2 := (.int .i64 s1.win)) (v3 := (.bool s1.bz)) (v4 := (.bool s1.cl)) (v5 := (.bool s1.wt)) (v6 := (.int .i64 h1)) (v7 := (.int .i64 q1)) (v8 := (.int .i64 mm)) hnx).trans ho1)
  have HP1 := hidZ hp1
  unfold nine at ho2 HP1
  clear hp1 B1 HA HP0 hx ho ho1 x0 x1 x2 x3 x4 x5 x6 x7 x8 o0 o2 o3
  obtain ⟨x0, x1, x2, x3, x4, x5, x6, x7, x8⟩ := t9_cells hx1
  obtain ⟨y0, y1, y2, y3, y4, y5, y6, y7, y8⟩ := t9_z hx1
  go_upto_region 29 with fail
  generalize (((((((((w1.setCell ⟨bx, 0, none⟩ (.slice a1 s1.li.length d1)).setCell ⟨bx, 1, none⟩ (.slice a2 s1.lo.length d2)).setCell ⟨bx, 2, none⟩ (.int .i64 s1.win)).setCell ⟨bx, 3, none⟩ (.bool s1.bz)).setCell ⟨bx, 4, none⟩ (.bool s1.cl)).setCell ⟨bx, 5, none⟩ (.bool s1.wt)).setCell ⟨bx, 6, none⟩ (.int .i64 h1)).setCell ⟨bx, 7, none⟩ (.int .i64 q1)).setCell ⟨bx, 8, none⟩ (.int .i64 mm)) = w2 at *
  clear hx1 x0 x1 x2 x3 x4 x5 x6 x7 x8 y0 y1 y2 y3 y4 y5 y6 y7 y8
  have o2 : w2.cell? ⟨og, 2, none⟩ = some (.slice xa ob.length xc) := tblk_cell ho2.out rfl
  have o3 : w2.cell? ⟨og, 3, none⟩ = some (.bool ol) := tblk_cell ho2.out rfl
  go_wp2_with fail
  refine (pvc_say HP1.out HSX.out.1 HSX.out.2 hf).mono ?_
  rintro e w3 ⟨rfl, hp3⟩
  have HP3 : Hid (∃ F s ai ci ao co h q, PV w rs b bx mm s s F ai ci ao co h q w3) := ⟨_, _, _, _, _, _, _, _, hp3⟩
  clear hp3 HP1 ho2 o2 o3
  go_wp2_with fail
  apply HQ.out
  exact HP3
end Go.Proofs.YtemmmdhmkegaaaaGreatDoor

/- ConnPlays: Note, Window, Drop (written by plb.py). -/
namespace Go.Proofs.YtemmmdhmkegaaaaGreatDoor
open Go.RowKit
set_option linter.unusedVariables false

set_option maxRecDepth 1000000 in
set_option maxHeartbeats 16000000 in
theorem plays18_arm5 {x0 x1 x2 x3 x4 x5 x8 x9 x13 x14 x15 x16 x17 x18 x19 x20 x21 x22 x23 x24 x25 x26 x27 x28 x29 x30 x31 x32 x33 x34 x36 x37 x38 x39 x40 x41 x42 x43 x44 x45 x46 x47 x48 x49 x50 x51 x52 x54 x55 x56 x57 x58 x59 x60 x61 x62 x63 x64 x65 x66 x67 x68 x69 x70 x71 x72 x73 x74 x75 x76 x77 x78 x79 x80 x81 x82 x83 x84 x85 x86 x87 x88 x89 x90 x91 x92 x93 x94 x95 x96 x97 x98 x99 x100 x101 x102 x103 x104 x105 x106 x107 x108 x109 x110 x111 x112 x113 x114 x115 x116 x117 x118 x119 x120 x121 x122 x123 x124 x125 x126 x127 x128 x129 x130 x131 x132 x133 x134 x135 x136 x137 x138 x139 x140 x141 x142 x143 x144 x145 x146 x147 x148 x149 x150 x151 x152 x153 x154 x155 x156 x157 x158 x159 x160 x161 x162 x163 x164 x165 x166 x167 x168 x169 x170 x171 x172 x173 x174 x175 x176 x177 x178 x179 x180 x181 x182 x183 x184 x185 x186 x187 x188 x189 x190 x191 x192 x193 x194 x195 x196 x197 x198 x199 x200 x201 x202 x203 x204 x205 x206 x207 x208 x209 x210 x211 x212 x213 x214 x215 x216 x217 x218 x219 vi : Value} {w wo : World} {rs : List Nat} {b bx og kx xc : Nat} {mm : Int} {s : Cs} {F0 : Nat → Prop} {ai ao xa : Option Addr} {ci co : Nat} {h q on : Int} {ob : List UInt8} {ol : Bool} 
    (HP0 : Hid (PV w rs b bx mm s s F0 ai ci ao co h q wo)) (HSX : Hid (Src w kx (.slice xa ob.length xc) ob ∧ (0 < ob.length → kx < w.heap.size))) (HM : Hid (MaxL w)) (ho : wo.heap[og]? = some (.cells #[.int .i64 5, .int .i64 on, .slice xa ob.length xc, .bool ol] 37)) (hnx : og ≠ bx)
    {Q : Exit → Act → World → Prop} (HQ : Hid (∀ (z : Bool) (y13 y14 y15 y16 y17 y18 y19 y54 y55 y56 y57 y58 y59 y60 y61 y62 y63 y64 y65 y66 y67 y68 y69 y70 y71 y72 y73 y74 y75 y76 y77 y78 y79 y80 y81 y82 y83 y84 y85 y86 y87 y88 y89 y90 y91 y92 y93 y94 y95 y96 y97 y98 y99 y100 y101 y102 y103 y104 y105 y106 y107 y108 y109 y110 y111 y112 y113 y114 y115 y116 y117 y118 y119 y120 y121 y122 y123 y124 y125 y126 y127 y128 y129 y130 y131 y132 y133 y134 y135 y136 y137 y138 y139 y140 y141 y142 y143 y144 y145 y146 y147 y148 y149 y150 y151 y152 y153 y154 y155 y156 y157 y158 y159 y160 y161 : Value) (wx : World), Hid (∃ F s ai ci ao co h q, PV w rs b bx mm s s F ai ci ao co h q wx) → Q .normal ⟨#[x0, x1, x2, x3, x4, x5, .pointer (some ⟨b, 0, none⟩), .pointer (some ⟨bx, 0, none⟩), x8, x9, .pointer (some ⟨og, 0, none⟩), .bool z, .bool z, y13, y14, y15, y16, y17, y18, y19, x20, x21, x22, x23, x24, x25, x26, x27, x28, x29, x30, x31, x32, x33, x34, vi, x36, x37, x38, x39, x40, x41, x42, x43, x44, x45, x46, x47, x48, x49, x50, x51, x52, .int .i64 5, y54, y55, y56, y57, y58, y59, y60, y61, y62, y63, y64, y65, y66, y67, y68, y69, y70, y71, y72, y73, y74, y75, y76, y77, y78, y79, y80, y81, y82, y83, y84, y85, y86, y87, y88, y89, y90, y91, y92, y93, y94, y95, y96, y97, y98, y99, y100, y101, y102, y103, y104, y105, y106, y107, y108, y109, y110, y111, y112, y113, y114, y115, y116, y117, y118, y119, y120, y121, y122, y123, y124, y125, y126, y127, y128, y129, y130, y131, y132, y133, y134, y135, y136, y137, y138, y139, y140, y141, y142, y143, y144, y145, y146, y147, y148, y149, y150, y151, y152, y153, y154, y155, y156, y157, y158, y159, y160, y161, x162, x163, x164, x165, x166, x167, x168, x169, x170, x171, x172, x173, x174, x175, x176, x177, x178, x179, x180, x181, x182, x183, x184, x185, x186, x187, x188, x189, x190, x191, x192, x193, x194, x195, x196, x197, x198, x199, x200, x201, x202, x203, x204, x205, x206, x207, x208, x209, x210, x211, x212, x213, x214, x215, x216, x217, x218, x219], []⟩ wx)) :
    Code.wp Tryz.prog sw2 Q ⟨#[x0, x1, x2, x3, x4, x5, .pointer (some ⟨b, 0, none⟩), .pointer (some ⟨bx, 0, none⟩), x8, x9, .pointer (some ⟨og, 0, none⟩), .bool true, .bool true, x13, x14, x15, x16, x17, x18, x19, x20, x21, x22, x23, x24, x25, x26, x27, x28, x29, x30, x31, x32, x33, x34, vi, x36, x37, x38, x39, x40, x41, x42, x43, x44, x45, x46, x47, x48, x49, x50, x51, x52, .int .i64 5, x54, x55, x56, x57, x58, x59, x60, x61, x62, x63, x64, x65, x66, x67, x68, x69, x70, x71, x72, x73, x74, x75, x76, x77, x78, x79, x80, x81, x82, x83, x84, x85, x86, x87, x88, x89, x90, x91, x92, x93, x94, x95, x96, x97, x98, x99, x100, x101, x102, x103, x104, x105, x106, x107, x108, x109, x110, x111, x112, x113, x114, x115, x116, x117, x118, x119, x120, x121, x122, x123, x124, x125, x126, x127, x128, x129, x130, x131, x132, x133, x134, x135, x136, x137, x138, x139, x140, x141, x142, x143, x144, x145, x146, x147, x148, x149, x150, x151, x152, x153, x154, x155, x156, x157, x158, x159, x160, x161, x162, x163, x164, x165, x166, x167, x168, x169, x170, x171, x172, x173, x174, x175, x176, x177, x178, x179, x180, x181, x182, x183, x184, x185, x186, x187, x188, x189, x190, x191, x192, x193, x194, x195, x196, x197, x198, x199, x200, x201, x202, x203, x204, x205, x206, x207, x208, x209, x210, x211, x212, x213, x214, x215, x216, x217, x218, x219], []⟩ wo := by
  conv => arg 2; whnf
  obtain ⟨s1, z1, hf⟩ : ∃ s1 z1, noteS s (s.li.length + s.lo.length) mm ob = (s1, z1) := ⟨_, _, rfl⟩
  have HA := hidZ (pvd_note HP0.out HSX.out.1 HSX.out.2 hf)
  have hx := HP0.out.cells
  obtain ⟨x0, x1, x2, x3, x4, x5, x6, x7, x8⟩ := t9_cells hx
  have o0 : wo.cell? ⟨og, 0, none⟩ = some (.int .i64 5) := tblk_cell ho rfl
  have o2 : wo.cell? ⟨og, 2, none⟩ = some (.slice xa ob.length xc) := tblk_cell ho rfl
  go_wp2_with fail
  refine HA.out.mono ?_
  rintro e w1 ⟨a1, d1, a2, d2, h1, q1, F1, rfl, B1, hp1⟩
  have hx1 := tblk_below hx B1
  have ho1 := tblk_below ho B1
  have ho2 := hidZ ((nine_away (v0 := (.slice a1 s1.li.length d1)) (v1 := (.slice a2 s1.lo.length d2)) (v2 := (.int .i64 s1.win)) (v3 := (.bool s1.bz)) (v4 := (.bool s1.cl)) (v5 := (.bool s1.wt)) (v6 := (.int .i64 h1)) (v7 := (.int .i64 q1)) (v8 := (.int .i64 mm)) hnx).trans ho1)
  have HP1 := hidZ hp1
  unfold nine at ho2 HP1
  clear hp1 B1 HA HP0 hx ho ho1 x0 x1 x2 x3 x4 x5 x6 x7 x8 o0 o2
  obtain ⟨x0, x1, x2, x3, x4, x5, x6, x7, x8⟩ := t9_cells hx1
  obtain ⟨y0, y1, y2, y3, y4, y5, y6, y7, y8⟩ := t9_z hx1
  go_upto_region 32 with fail
  generalize (((((((((w1.setCell ⟨bx, 0, none⟩ (.slice a1 s1.li.length d1)).setCell ⟨bx, 1, none⟩ (.slice a2 s1.lo.length d2)).setCell ⟨bx, 2, none⟩ (.int .i64 s1.win)).setCell ⟨bx, 3, none⟩ (.bool s1.bz)).setCell ⟨bx, 4, none⟩ (.bool s1.cl)).setCell ⟨bx, 5, none⟩ (.bool s1.wt)).setCell ⟨bx, 6, none⟩ (.int .i64 h1)).setCell ⟨bx, 7, none⟩ (.int .i64 q1)).setCell ⟨bx, 8, none⟩ (.int .i64 mm)) = w2 at *
  clear hx1 x0 x1 x2 x3 x4 x5 x6 x7 x8 y0 y1 y2 y3 y4 y5 y6 y7 y8
  have o2 : w2.cell? ⟨og, 2, none⟩ = some (.slice xa ob.length xc) := tblk_cell ho2.out rfl
  go_wp2_with fail
  refine (pvc_note HP1.out HSX.out.1 HSX.out.2 hf).mono ?_
  rintro e w3 ⟨rfl, hp3⟩
  have HP3 : Hid (∃ F s ai ci ao co h q, PV w rs b bx mm s s F ai ci ao co h q w3) := ⟨_, _, _, _, _, _, _, _, hp3⟩
  clear hp3 HP1 ho2 o2
  go_wp2_with fail
  apply HQ.out
  exact HP3
set_option maxRecDepth 1000000 in
set_option maxHeartbeats 16000000 in
theorem plays18_arm6 {x0 x1 x2 x3 x4 x5 x8 x9 x13 x14 x15 x16 x17 x18 x19 x20 x21 x22 x23 x24 x25 x26 x27 x28 x29 x30 x31 x32 x33 x34 x36 x37 x38 x39 x40 x41 x42 x43 x44 x45 x46 x47 x48 x49 x50 x51 x52 x54 x55 x56 x57 x58 x59 x60 x61 x62 x63 x64 x65 x66 x67 x68 x69 x70 x71 x72 x73 x74 x75 x76 x77 x78 x79 x80 x81 x82 x83 x84 x85 x86 x87 x88 x89 x90 x91 x92 x93 x94 x95 x96 x97 x98 x99 x100 x101 x102 x103 x104 x105 x106 x107 x108 x109 x110 x111 x112 x113 x114 x115 x116 x117 x118 x119 x120 x121 x122 x123 x124 x125 x126 x127 x128 x129 x130 x131 x132 x133 x134 x135 x136 x137 x138 x139 x140 x141 x142 x143 x144 x145 x146 x147 x148 x149 x150 x151 x152 x153 x154 x155 x156 x157 x158 x159 x160 x161 x162 x163 x164 x165 x166 x167 x168 x169 x170 x171 x172 x173 x174 x175 x176 x177 x178 x179 x180 x181 x182 x183 x184 x185 x186 x187 x188 x189 x190 x191 x192 x193 x194 x195 x196 x197 x198 x199 x200 x201 x202 x203 x204 x205 x206 x207 x208 x209 x210 x211 x212 x213 x214 x215 x216 x217 x218 x219 vi : Value} {w wo : World} {rs : List Nat} {b bx og kx xc : Nat} {mm : Int} {s : Cs} {F0 : Nat → Prop} {ai ao xa : Option Addr} {ci co : Nat} {h q on : Int} {ob : List UInt8} {ol : Bool} 
    (HP0 : Hid (PV w rs b bx mm s s F0 ai ci ao co h q wo)) (HSX : Hid (Src w kx (.slice xa ob.length xc) ob ∧ (0 < ob.length → kx < w.heap.size))) (HM : Hid (MaxL w)) (ho : wo.heap[og]? = some (.cells #[.int .i64 6, .int .i64 on, .slice xa ob.length xc, .bool ol] 37)) (hnx : og ≠ bx)
    {Q : Exit → Act → World → Prop} (HQ : Hid (∀ (z : Bool) (y13 y14 y15 y16 y17 y18 y19 y54 y55 y56 y57 y58 y59 y60 y61 y62 y63 y64 y65 y66 y67 y68 y69 y70 y71 y72 y73 y74 y75 y76 y77 y78 y79 y80 y81 y82 y83 y84 y85 y86 y87 y88 y89 y90 y91 y92 y93 y94 y95 y96 y97 y98 y99 y100 y101 y102 y103 y104 y105 y106 y107 y108 y109 y110 y111 y112 y113 y114 y115 y116 y117 y118 y119 y120 y121 y122 y123 y124 y125 y126 y127 y128 y129 y130 y131 y132 y133 y134 y135 y136 y137 y138 y139 y140 y141 y142 y143 y144 y145 y146 y147 y148 y149 y150 y151 y152 y153 y154 y155 y156 y157 y158 y159 y160 y161 : Value) (wx : World), Hid (∃ F s ai ci ao co h q, PV w rs b bx mm s s F ai ci ao co h q wx) → Q .normal ⟨#[x0, x1, x2, x3, x4, x5, .pointer (some ⟨b, 0, none⟩), .pointer (some ⟨bx, 0, none⟩), x8, x9, .pointer (some ⟨og, 0, none⟩), .bool z, .bool z, y13, y14, y15, y16, y17, y18, y19, x20, x21, x22, x23, x24, x25, x26, x27, x28, x29, x30, x31, x32, x33, x34, vi, x36, x37, x38, x39, x40, x41, x42, x43, x44, x45, x46, x47, x48, x49, x50, x51, x52, .int .i64 6, y54, y55, y56, y57, y58, y59, y60, y61, y62, y63, y64, y65, y66, y67, y68, y69, y70, y71, y72, y73, y74, y75, y76, y77, y78, y79, y80, y81, y82, y83, y84, y85, y86, y87, y88, y89, y90, y91, y92, y93, y94, y95, y96, y97, y98, y99, y100, y101, y102, y103, y104, y105, y106, y107, y108, y109, y110, y111, y112, y113, y114, y115, y116, y117, y118, y119, y120, y121, y122, y123, y124, y125, y126, y127, y128, y129, y130, y131, y132, y133, y134, y135, y136, y137, y138, y139, y140, y141, y142, y143, y144, y145, y146, y147, y148, y149, y150, y151, y152, y153, y154, y155, y156, y157, y158, y159, y160, y161, x162, x163, x164, x165, x166, x167, x168, x169, x170, x171, x172, x173, x174, x175, x176, x177, x178, x179, x180, x181, x182, x183, x184, x185, x186, x187, x188, x189, x190, x191, x192, x193, x194, x195, x196, x197, x198, x199, x200, x201, x202, x203, x204, x205, x206, x207, x208, x209, x210, x211, x212, x213, x214, x215, x216, x217, x218, x219], []⟩ wx)) :
    Code.wp Tryz.prog sw2 Q ⟨#[x0, x1, x2, x3, x4, x5, .pointer (some ⟨b, 0, none⟩), .pointer (some ⟨bx, 0, none⟩), x8, x9, .pointer (some ⟨og, 0, none⟩), .bool true, .bool true, x13, x14, x15, x16, x17, x18, x19, x20, x21, x22, x23, x24, x25, x26, x27, x28, x29, x30, x31, x32, x33, x34, vi, x36, x37, x38, x39, x40, x41, x42, x43, x44, x45, x46, x47, x48, x49, x50, x51, x52, .int .i64 6, x54, x55, x56, x57, x58, x59, x60, x61, x62, x63, x64, x65, x66, x67, x68, x69, x70, x71, x72, x73, x74, x75, x76, x77, x78, x79, x80, x81, x82, x83, x84, x85, x86, x87, x88, x89, x90, x91, x92, x93, x94, x95, x96, x97, x98, x99, x100, x101, x102, x103, x104, x105, x106, x107, x108, x109, x110, x111, x112, x113, x114, x115, x116, x117, x118, x119, x120, x121, x122, x123, x124, x125, x126, x127, x128, x129, x130, x131, x132, x133, x134, x135, x136, x137, x138, x139, x140, x141, x142, x143, x144, x145, x146, x147, x148, x149, x150, x151, x152, x153, x154, x155, x156, x157, x158, x159, x160, x161, x162, x163, x164, x165, x166, x167, x168, x169, x170, x171, x172, x173, x174, x175, x176, x177, x178, x179, x180, x181, x182, x183, x184, x185, x186, x187, x188, x189, x190, x191, x192, x193, x194, x195, x196, x197, x198, x199, x200, x201, x202, x203, x204, x205, x206, x207, x208, x209, x210, x211, x212, x213, x214, x215, x216, x217, x218, x219], []⟩ wo := by
  conv => arg 2; whnf
  obtain ⟨s1, hf⟩ : ∃ s1, windowS s on = s1 := ⟨_, rfl⟩
  have HA := hidZ (pvd_window HP0.out hf)
  have hx := HP0.out.cells
  obtain ⟨x0, x1, x2, x3, x4, x5, x6, x7, x8⟩ := t9_cells hx
  have o0 : wo.cell? ⟨og, 0, none⟩ = some (.int .i64 6) := tblk_cell ho rfl
  have o1 : wo.cell? ⟨og, 1, none⟩ = some (.int .i64 on) := tblk_cell ho rfl
  go_wp2_with fail
  refine HA.out.mono ?_
  rintro e w1 ⟨a1, d1, a2, d2, h1, q1, F1, rfl, B1, hp1⟩
  have hx1 := tblk_below hx B1
  have ho1 := tblk_below ho B1
  have ho2 := hidZ ((nine_away (v0 := (.slice a1 s1.li.length d1)) (v1 := (.slice a2 s1.lo.length d2)) (v2 := (.int .i64 s1.win)) (v3 := (.bool s1.bz)) (v4 := (.bool s1.cl)) (v5 := (.bool s1.wt)) (v6 := (.int .i64 h1)) (v7 := (.int .i64 q1)) (v8 := (.int .i64 mm)) hnx).trans ho1)
  have HP1 := hidZ hp1
  unfold nine at ho2 HP1
  clear hp1 B1 HA HP0 hx ho ho1 x0 x1 x2 x3 x4 x5 x6 x7 x8 o0 o1
  obtain ⟨x0, x1, x2, x3, x4, x5, x6, x7, x8⟩ := t9_cells hx1
  obtain ⟨y0, y1, y2, y3, y4, y5, y6, y7, y8⟩ := t9_z hx1
  go_upto_region 35 with fail
  generalize (((((((((w1.setCell ⟨bx, 0, none⟩ (.slice a1 s1.li.length d1)).setCell ⟨bx, 1, none⟩ (.slice a2 s1.lo.length d2)).setCell ⟨bx, 2, none⟩ (.int .i64 s1.win)).setCell ⟨bx, 3, none⟩ (.bool s1.bz)).setCell ⟨bx, 4, none⟩ (.bool s1.cl)).setCell ⟨bx, 5, none⟩ (.bool s1.wt)).setCell ⟨bx, 6, none⟩ (.int .i64 h1)).setCell ⟨bx, 7, none⟩ (.int .i64 q1)).setCell ⟨bx, 8, none⟩ (.int .i64 mm)) = w2 at *
  clear hx1 x0 x1 x2 x3 x4 x5 x6 x7 x8 y0 y1 y2 y3 y4 y5 y6 y7 y8
  have o1 : w2.cell? ⟨og, 1, none⟩ = some (.int .i64 on) := tblk_cell ho2.out rfl
  go_wp2_with fail
  refine (pvc_window HP1.out hf).mono ?_
  rintro e w3 ⟨rfl, hp3⟩
  have HP3 : Hid (∃ F s ai ci ao co h q, PV w rs b bx mm s s F ai ci ao co h q w3) := ⟨_, _, _, _, _, _, _, _, hp3⟩
  clear hp3 HP1 ho2 o1
  go_wp2_with fail
  apply HQ.out
  exact HP3
set_option maxRecDepth 1000000 in
set_option maxHeartbeats 16000000 in
theorem plays18_arm8 {x0 x1 x2 x3 x4 x5 x8 x9 x13 x14 x15 x16 x17 x18 x19 x20 x21 x22 x23 x24 x25 x26 x27 x28 x29 x30 x31 x32 x33 x34 x36 x37 x38 x39 x40 x41 x42 x43 x44 x45 x46 x47 x48 x49 x50 x51 x52 x54 x55 x56 x57 x58 x59 x60 x61 x62 x63 x64 x65 x66 x67 x68 x69 x70 x71 x72 x73 x74 x75 x76 x77 x78 x79 x80 x81 x82 x83 x84 x85 x86 x87 x88 x89 x90 x91 x92 x93 x94 x95 x96 x97 x98 x99 x100 x101 x102 x103 x104 x105 x106 x107 x108 x109 x110 x111 x112 x113 x114 x115 x116 x117 x118 x119 x120 x121 x122 x123 x124 x125 x126 x127 x128 x129 x130 x131 x132 x133 x134 x135 x136 x137 x138 x139 x140 x141 x142 x143 x144 x145 x146 x147 x148 x149 x150 x151 x152 x153 x154 x155 x156 x157 x158 x159 x160 x161 x162 x163 x164 x165 x166 x167 x168 x169 x170 x171 x172 x173 x174 x175 x176 x177 x178 x179 x180 x181 x182 x183 x184 x185 x186 x187 x188 x189 x190 x191 x192 x193 x194 x195 x196 x197 x198 x199 x200 x201 x202 x203 x204 x205 x206 x207 x208 x209 x210 x211 x212 x213 x214 x215 x216 x217 x218 x219 vi : Value} {w wo : World} {rs : List Nat} {b bx og kx xc : Nat} {mm : Int} {s : Cs} {F0 : Nat → Prop} {ai ao xa : Option Addr} {ci co : Nat} {h q on : Int} {ob : List UInt8} {ol : Bool} 
    (HP0 : Hid (PV w rs b bx mm s s F0 ai ci ao co h q wo)) (HSX : Hid (Src w kx (.slice xa ob.length xc) ob ∧ (0 < ob.length → kx < w.heap.size))) (HM : Hid (MaxL w)) (ho : wo.heap[og]? = some (.cells #[.int .i64 8, .int .i64 on, .slice xa ob.length xc, .bool ol] 37)) (hnx : og ≠ bx)
    {Q : Exit → Act → World → Prop} (HQ : Hid (∀ (z : Bool) (y13 y14 y15 y16 y17 y18 y19 y54 y55 y56 y57 y58 y59 y60 y61 y62 y63 y64 y65 y66 y67 y68 y69 y70 y71 y72 y73 y74 y75 y76 y77 y78 y79 y80 y81 y82 y83 y84 y85 y86 y87 y88 y89 y90 y91 y92 y93 y94 y95 y96 y97 y98 y99 y100 y101 y102 y103 y104 y105 y106 y107 y108 y109 y110 y111 y112 y113 y114 y115 y116 y117 y118 y119 y120 y121 y122 y123 y124 y125 y126 y127 y128 y129 y130 y131 y132 y133 y134 y135 y136 y137 y138 y139 y140 y141 y142 y143 y144 y145 y146 y147 y148 y149 y150 y151 y152 y153 y154 y155 y156 y157 y158 y159 y160 y161 : Value) (wx : World), Hid (∃ F s ai ci ao co h q, PV w rs b bx mm s s F ai ci ao co h q wx) → Q .normal ⟨#[x0, x1, x2, x3, x4, x5, .pointer (some ⟨b, 0, none⟩), .pointer (some ⟨bx, 0, none⟩), x8, x9, .pointer (some ⟨og, 0, none⟩), .bool z, .bool z, y13, y14, y15, y16, y17, y18, y19, x20, x21, x22, x23, x24, x25, x26, x27, x28, x29, x30, x31, x32, x33, x34, vi, x36, x37, x38, x39, x40, x41, x42, x43, x44, x45, x46, x47, x48, x49, x50, x51, x52, .int .i64 8, y54, y55, y56, y57, y58, y59, y60, y61, y62, y63, y64, y65, y66, y67, y68, y69, y70, y71, y72, y73, y74, y75, y76, y77, y78, y79, y80, y81, y82, y83, y84, y85, y86, y87, y88, y89, y90, y91, y92, y93, y94, y95, y96, y97, y98, y99, y100, y101, y102, y103, y104, y105, y106, y107, y108, y109, y110, y111, y112, y113, y114, y115, y116, y117, y118, y119, y120, y121, y122, y123, y124, y125, y126, y127, y128, y129, y130, y131, y132, y133, y134, y135, y136, y137, y138, y139, y140, y141, y142, y143, y144, y145, y146, y147, y148, y149, y150, y151, y152, y153, y154, y155, y156, y157, y158, y159, y160, y161, x162, x163, x164, x165, x166, x167, x168, x169, x170, x171, x172, x173, x174, x175, x176, x177, x178, x179, x180, x181, x182, x183, x184, x185, x186, x187, x188, x189, x190, x191, x192, x193, x194, x195, x196, x197, x198, x199, x200, x201, x202, x203, x204, x205, x206, x207, x208, x209, x210, x211, x212, x213, x214, x215, x216, x217, x218, x219], []⟩ wx)) :
    Code.wp Tryz.prog sw2 Q ⟨#[x0, x1, x2, x3, x4, x5, .pointer (some ⟨b, 0, none⟩), .pointer (some ⟨bx, 0, none⟩), x8, x9, .pointer (some ⟨og, 0, none⟩), .bool true, .bool true, x13, x14, x15, x16, x17, x18, x19, x20, x21, x22, x23, x24, x25, x26, x27, x28, x29, x30, x31, x32, x33, x34, vi, x36, x37, x38, x39, x40, x41, x42, x43, x44, x45, x46, x47, x48, x49, x50, x51, x52, .int .i64 8, x54, x55, x56, x57, x58, x59, x60, x61, x62, x63, x64, x65, x66, x67, x68, x69, x70, x71, x72, x73, x74, x75, x76, x77, x78, x79, x80, x81, x82, x83, x84, x85, x86, x87, x88, x89, x90, x91, x92, x93, x94, x95, x96, x97, x98, x99, x100, x101, x102, x103, x104, x105, x106, x107, x108, x109, x110, x111, x112, x113, x114, x115, x116, x117, x118, x119, x120, x121, x122, x123, x124, x125, x126, x127, x128, x129, x130, x131, x132, x133, x134, x135, x136, x137, x138, x139, x140, x141, x142, x143, x144, x145, x146, x147, x148, x149, x150, x151, x152, x153, x154, x155, x156, x157, x158, x159, x160, x161, x162, x163, x164, x165, x166, x167, x168, x169, x170, x171, x172, x173, x174, x175, x176, x177, x178, x179, x180, x181, x182, x183, x184, x185, x186, x187, x188, x189, x190, x191, x192, x193, x194, x195, x196, x197, x198, x199, x200, x201, x202, x203, x204, x205, x206, x207, x208, x209, x210, x211, x212, x213, x214, x215, x216, x217, x218, x219], []⟩ wo := by
  conv => arg 2; whnf
  obtain ⟨s1, hf⟩ : ∃ s1, dropS s = s1 := ⟨_, rfl⟩
  have HA := hidZ (pvd_drop HP0.out hf)
  have hx := HP0.out.cells
  obtain ⟨x0, x1, x2, x3, x4, x5, x6, x7, x8⟩ := t9_cells hx
  have o0 : wo.cell? ⟨og, 0, none⟩ = some (.int .i64 8) := tblk_cell ho rfl
  go_wp2_with fail
  refine HA.out.mono ?_
  rintro e w1 ⟨a1, d1, a2, d2, h1, q1, F1, rfl, B1, hp1⟩
  have hx1 := tblk_below hx B1
  have ho1 := tblk_below ho B1
  have ho2 := hidZ ((nine_away (v0 := (.slice a1 s1.li.length d1)) (v1 := (.slice a2 s1.lo.length d2)) (v2 := (.int .i64 s1.win)) (v3 := (.bool s1.bz)) (v4 := (.bool s1.cl)) (v5 := (.bool s1.wt)) (v6 := (.int .i64 h1)) (v7 := (.int .i64 q1)) (v8 := (.int .i64 mm)) hnx).trans ho1)
  have HP1 := hidZ hp1
  unfold nine at ho2 HP1
  clear hp1 B1 HA HP0 hx ho ho1 x0 x1 x2 x3 x4 x5 x6 x7 x8 o0
  obtain ⟨x0, x1, x2, x3, x4, x5, x6, x7, x8⟩ := t9_cells hx1
  obtain ⟨y0, y1, y2, y3, y4, y5, y6, y7, y8⟩ := t9_z hx1
  go_upto_region 43 with fail
  generalize (((((((((w1.setCell ⟨bx, 0, none⟩ (.slice a1 s1.li.length d1)).setCell ⟨bx, 1, none⟩ (.slice a2 s1.lo.length d2)).setCell ⟨bx, 2, none⟩ (.int .i64 s1.win)).setCell ⟨bx, 3, none⟩ (.bool s1.bz)).setCell ⟨bx, 4, none⟩ (.bool s1.cl)).setCell ⟨bx, 5, none⟩ (.bool s1.wt)).setCell ⟨bx, 6, none⟩ (.int .i64 h1)).setCell ⟨bx, 7, none⟩ (.int .i64 q1)).setCell ⟨bx, 8, none⟩ (.int .i64 mm)) = w2 at *
  clear hx1 x0 x1 x2 x3 x4 x5 x6 x7 x8 y0 y1 y2 y3 y4 y5 y6 y7 y8
  go_wp2_with fail
  refine (pvc_drop HP1.out hf).mono ?_
  rintro e w3 ⟨rfl, hp3⟩
  have HP3 : Hid (∃ F s ai ci ao co h q, PV w rs b bx mm s s F ai ci ao co h q w3) := ⟨_, _, _, _, _, _, _, _, hp3⟩
  clear hp3 HP1 ho2 
  go_wp2_with fail
  apply HQ.out
  exact HP3
end Go.Proofs.YtemmmdhmkegaaaaGreatDoor
