/- Texts that the proof leans on, one behind the other: PlR -/
import Derived.Test.YtemmmdhmkegaaaaGreatDoorCbB
import Derived.Deep.Cut
/- ConnPlays: all that is asked behind each call (written by plr.py). -/
namespace Go.Proofs.YtemmmdhmkegaaaaGreatDoor
open Go.RowKit
set_option linter.unusedVariables false

def regOf (n : Nat) : Code → Option Code
  | .region i o d => if i = n then some (.region i o d) else none
  | .loop c => regOf n c
  | .seq a b => match regOf n a with
    | some c => some c
    | none => regOf n b
  | .block _ c => regOf n c
  | .scope c => regOf n c
  | .cond _ a b => match regOf n a with
    | some c => some c
    | none => regOf n b
  | _ => none
noncomputable def reg44 : Code := ((Tryz.f3.body.bind (regOf 44)).getD .skip)
set_option maxRecDepth 1000000 in
set_option maxHeartbeats 16000000 in
theorem plays18_r44 {x0 x1 x2 x3 x4 x8 x9 x10 x13 x14 x15 x16 x17 x18 x19 x20 x21 x22 x23 x24 x25 x26 x27 x28 x29 x30 x31 x32 x33 x34 x35 x36 x37 x38 x39 x40 x41 x42 x43 x44 x45 x46 x47 x48 x49 x50 x51 x52 x53 x54 x55 x56 x57 x58 x59 x60 x61 x62 x63 x64 x65 x66 x67 x68 x69 x70 x71 x72 x73 x74 x75 x76 x77 x78 x79 x80 x81 x82 x83 x84 x85 x86 x87 x88 x89 x90 x91 x92 x93 x94 x95 x96 x97 x98 x99 x100 x101 x102 x103 x104 x105 x106 x107 x108 x109 x110 x111 x112 x113 x114 x115 x116 x117 x118 x119 x120 x121 x122 x123 x124 x125 x126 x127 x128 x129 x130 x131 x132 x133 x134 x135 x136 x137 x138 x139 x140 x141 x142 x143 x144 x145 x146 x147 x148 x149 x150 x151 x152 x153 x154 x155 x156 x157 x158 x159 x160 x161 x219 u162 u163 u164 u165 u166 u167 u168 u169 u170 u171 u172 u173 u174 u175 u176 u177 u178 u179 u180 u181 u182 u183 u184 u185 u186 u187 u188 u189 u190 u191 u192 u193 u194 u195 u196 u197 u198 u199 u200 u201 u202 u203 u204 u205 u206 u207 u208 u209 u210 u211 u212 u213 u214 u215 u216 u217 u218 : Value} {w wc : World} {rs : List Nat} {b bx : Nat} {mm : Int} {s5 : Cs} {F5 : Nat → Prop} {a1 a2 : Option Addr} {d1 d2 : Nat} {h5 q5 : Int} {z : Bool} (p5 : PV w rs b bx mm s5 s5 F5 a1 d1 a2 d2 h5 q5 wc) :
    Code.wp Tryz.prog reg44 (fun e a' wx => e = .normal ∧ Below wc.heap.size wc wx ∧ ∃ y162 y163 y164 y165 y166 y167 y168 y169 y170 y171 y172 y173 y174 y175 y176 y177 y178 y179 y180 y181 y182 y183 y184 y185 y186 y187 y188 y189 y190 y191 y192 y193 y194 y195 y196 y197 y198 y199 y200 y201 y202 y203 y204 y205 y206 y207 y208 y209 y210 y211 y212 y213 y214 y215 y216 y217 : Value, a' = ⟨#[x0, x1, x2, x3, x4, .pointer (some ⟨w.heap.size, 0, none⟩), .pointer (some ⟨b, 0, none⟩), .pointer (some ⟨bx, 0, none⟩), x8, x9, x10, .bool z, .bool z, x13, x14, x15, x16, x17, x18, x19, x20, x21, x22, x23, x24, x25, x26, x27, x28, x29, x30, x31, x32, x33, x34, x35, x36, x37, x38, x39, x40, x41, x42, x43, x44, x45, x46, x47, x48, x49, x50, x51, x52, x53, x54, x55, x56, x57, x58, x59, x60, x61, x62, x63, x64, x65, x66, x67, x68, x69, x70, x71, x72, x73, x74, x75, x76, x77, x78, x79, x80, x81, x82, x83, x84, x85, x86, x87, x88, x89, x90, x91, x92, x93, x94, x95, x96, x97, x98, x99, x100, x101, x102, x103, x104, x105, x106, x107, x108, x109, x110, x111, x112, x113, x114, x115, x116, x117, x118, x119, x120, x121, x122, x123, x124, x125, x126, x127, x128, x129, x130, x131, x132, x133, x134, x135, x136, x137, x138, x139, x140, x141, x142, x143, x144, x145, x146, x147, x148, x149, x150, x151, x152, x153, x154, x155, x156, x157, x158, x159, x160, x161, y162, y163, y164, y165, y166, y167, y168, y169, y170, y171, y172, y173, y174, y175, y176, y177, y178, y179, y180, y181, y182, y183, y184, y185, y186, y187, y188, y189, y190, y191, y192, y193, y194, y195, y196, y197, y198, y199, y200, y201, y202, y203, y204, y205, y206, y207, y208, y209, y210, y211, y212, y213, y214, y215, y216, y217, .bool false, x219], []⟩) ⟨#[x0, x1, x2, x3, x4, .pointer (some ⟨w.heap.size, 0, none⟩), .pointer (some ⟨b, 0, none⟩), .pointer (some ⟨bx, 0, none⟩), x8, x9, x10, .bool z, .bool z, x13, x14, x15, x16, x17, x18, x19, x20, x21, x22, x23, x24, x25, x26, x27, x28, x29, x30, x31, x32, x33, x34, x35, x36, x37, x38, x39, x40, x41, x42, x43, x44, x45, x46, x47, x48, x49, x50, x51, x52, x53, x54, x55, x56, x57, x58, x59, x60, x61, x62, x63, x64, x65, x66, x67, x68, x69, x70, x71, x72, x73, x74, x75, x76, x77, x78, x79, x80, x81, x82, x83, x84, x85, x86, x87, x88, x89, x90, x91, x92, x93, x94, x95, x96, x97, x98, x99, x100, x101, x102, x103, x104, x105, x106, x107, x108, x109, x110, x111, x112, x113, x114, x115, x116, x117, x118, x119, x120, x121, x122, x123, x124, x125, x126, x127, x128, x129, x130, x131, x132, x133, x134, x135, x136, x137, x138, x139, x140, x141, x142, x143, x144, x145, x146, x147, x148, x149, x150, x151, x152, x153, x154, x155, x156, x157, x158, x159, x160, x161, u162, u163, u164, u165, u166, u167, u168, u169, u170, u171, u172, u173, u174, u175, u176, u177, u178, u179, u180, u181, u182, u183, u184, u185, u186, u187, u188, u189, u190, u191, u192, u193, u194, u195, u196, u197, u198, u199, u200, u201, u202, u203, u204, u205, u206, u207, u208, u209, u210, u211, u212, u213, u214, u215, u216, u217, u218, x219], []⟩ wc := by
  have hlen := p5.fit.len
  have hcells := p5.cells
  have HS : ∀ W, Below wc.heap.size wc W → W.cell? ⟨bx, 0, none⟩ = some (.slice a1 s5.li.length d1) ∧ W.cell? ⟨bx, 1, none⟩ = some (.slice a2 s5.lo.length d2) ∧ W.cell? ⟨bx, 2, none⟩ = some (.int .i64 s5.win) ∧ W.cell? ⟨bx, 3, none⟩ = some (.bool s5.bz) ∧ W.cell? ⟨bx, 4, none⟩ = some (.bool s5.cl) ∧ W.cell? ⟨bx, 5, none⟩ = some (.bool s5.wt) ∧ W.cell? ⟨bx, 6, none⟩ = some (.int .i64 h5) := fun W B => by
    have k := tblk_below hcells B
    exact ⟨tblk_cell k rfl, tblk_cell k rfl, tblk_cell k rfl, tblk_cell k rfl, tblk_cell k rfl, tblk_cell k rfl, tblk_cell k rfl⟩
  have H1 := fam HS (fun W B => pvq_want p5 B)
  have H2 := fam HS (fun W B => pvq_rwant p5 W)
  have H3 := fam HS (fun W B => pvq_busy p5 B)
  have H4 := fam HS (fun W B => pvq_closing p5 B)
  have H5 := fam HS (fun W B => pvq_done p5 B)
  have H6 := fam HS (fun W B => pvq_rdone p5 W)
  have H7 := fam HS (fun W B => pvq_held p5 B)
  have H8 := fam HS (fun W B => pvq_mheld p5 B)
  have hwp : IntKind.i64.wrap ((s5.li.length : Int) + (s5.lo.length : Int)) = (s5.li.length : Int) + (s5.lo.length : Int) := by rw [IntKind.wrap_i64]; omega
  have HD := (Below.refl wc.heap.size wc).drew
  have HSD := HS _ HD
  obtain ⟨g0, g1, g2, g3, g4, g5, g6⟩ := HSD
  clear p5 hcells HS
  generalize wantS s5 = wa at *
  generalize doneS s5 = dn at *
  have hB := HD
  conv => arg 2; whnf
  go_region_held3 (fun W => W.cell? ⟨bx, 0, none⟩ = some (.slice a1 s5.li.length d1) ∧ W.cell? ⟨bx, 1, none⟩ = some (.slice a2 s5.lo.length d2) ∧ W.cell? ⟨bx, 2, none⟩ = some (.int .i64 s5.win) ∧ W.cell? ⟨bx, 3, none⟩ = some (.bool s5.bz) ∧ W.cell? ⟨bx, 4, none⟩ = some (.bool s5.cl) ∧ W.cell? ⟨bx, 5, none⟩ = some (.bool s5.wt) ∧ W.cell? ⟨bx, 6, none⟩ = some (.int .i64 h5)) (go_keep) (first | (go_at_call 31; refine (H1.out _ (by first | assumption | exact HD)).mono ?_; clear hB; rintro e w9 ⟨rfl, hB, hS⟩) | (go_at_call 32; refine (H2.out _ (by first | assumption | exact HD)).mono ?_; clear hB; rintro e w9 ⟨rfl, hB, hS⟩) | (go_at_call 33; refine (H3.out _ (by first | assumption | exact HD)).mono ?_; clear hB; rintro e w9 ⟨rfl, hB, hS⟩) | (go_at_call 34; refine (H4.out _ (by first | assumption | exact HD)).mono ?_; clear hB; rintro e w9 ⟨rfl, hB, hS⟩) | (go_at_call 35; refine (H5.out _ (by first | assumption | exact HD)).mono ?_; clear hB; rintro e w9 ⟨rfl, hB, hS⟩) | (go_at_call 36; refine (H6.out _ (by first | assumption | exact HD)).mono ?_; clear hB; rintro e w9 ⟨rfl, hB, hS⟩) | (go_at_call 37; refine (H7.out _ (by first | assumption | exact HD)).mono ?_; clear hB; rintro e w9 ⟨rfl, hB, hS⟩) | (go_at_call 38; refine (H8.out _ (by first | assumption | exact HD)).mono ?_; clear hB; rintro e w9 ⟨rfl, hB, hS⟩))
  refine ⟨rfl, hB, _, _, _, _, _, _, _, _, _, _, _, _, _, _, _, _, _, _, _, _, _, _, _, _, _, _, _, _, _, _, _, _, _, _, _, _, _, _, _, _, _, _, _, _, _, _, _, _, _, _, _, _, _, _, _, _, rfl⟩
end Go.Proofs.YtemmmdhmkegaaaaGreatDoor
