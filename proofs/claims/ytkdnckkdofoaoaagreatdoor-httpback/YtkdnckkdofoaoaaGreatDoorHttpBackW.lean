/- Whatever the bytes, what stands behind, the size and the way of telling it, HttpBack answers true: a request that is read, without its lengths, with its body told by its length or in chunks, is read again; no condition. -/
import Derived.Test.YtkdnckkdofoaoaaGreatDoorKb
import Derived.Deep.RegionHeld3
import Derived.Deep.AppendLies
import Derived.Test.YtkdnckkdofoaoaaGreatDoorKx
import Derived.Test.YtkdnckkdofoaoaaGreatDoorKh
import Derived.Test.YtkdnckkdofoaoaaGreatDoorKn
import Derived.Test.YtkdnckkdofoaoaaGreatDoorKj
import Derived.Test.YtkdnckkdofoaoaaGreatDoorKg
import Derived.Deep.RegionLaw
import Derived.Test.YtkdnckkdofoaoaaGreatDoorRows
import Derived.Test.YtkdnckkdofoaoaaGreatDoorCards
import Derived.Test.YtkdnckkdofoaoaaGreatDoorTie
import Derived.Test.YtkdnckkdofoaoaaGreatDoorKf
import Derived.WalkKit
import Derived.ProofKit
import Derived.OpenShut
import Derived.ShutString
import Derived.ChangeOld
import Derived.Below
import Derived.LaidMore
import Derived.Lay
import Derived.Stop.Joined
import Derived.SevenTiedAt
import Derived.Shelf.Vars
import Derived.Deep.DeepHandedRow
import Derived.Deep.DeepWitnessRowRef
/- An append in a region that draws its order. -/
namespace Go.Proofs.YtkdnckkdofoaoaaGreatDoor
open Go.RowKit
set_option linter.unusedVariables false

theorem step_own {ops : Array Oper} {o : Oper} {a : Act} {K : Act → World → Prop} {Q : Exit → Act → World → Prop} {E : Prop} {w : World} (hgd : o.guard = none) (s x : Operand)
    (ho : o.op = .call { callee := .builtin .append, args := #[s, x], argTypes := #[22, 22] }) (hty : o.type = 22)
    (B : Nat) (v : Value) (X : List UInt8) (hs : a.eval s = v) (hown : Own B w v X) (k : Nat) (ad : Option Addr) (n c : Nat) (Y : List UInt8) (hx : a.eval x = .slice ad n c) (hsrc : Src w k (.slice ad n c) Y) (hnil : ad = none → c = 0) (hmax : X.length + Y.length ≤ 140737488355328) (hB : B ≤ w.heap.size)
    (h : ∀ v' w', Own B w' v' (X ++ Y) → Below B w w' → K (a.put o.dst v') w') :
    if Region.wanted o (yielded ops a.tmps) = true then Oper.wp Tryz.prog o a w K Q else E := by
  have hw : Region.wanted o (yielded ops a.tmps) = true := by simp [Region.wanted, hgd]
  rw [if_pos hw]
  obtain ⟨v', w', hr, O, Bl⟩ := own_append hown hsrc hnil hmax hB
  unfold Oper.wp execOp
  simp only [ho, hty, resolve, invoke, builtin, Sem.run_bind, Sem.run_pure, Result.andThen_ok, List.map_toArray, List.map_cons, List.map_nil, hs, hx, hr]
  exact h v' w' O Bl
theorem Own.drewN {B : Nat} {w : World} {v : Value} {X : List UInt8} (h : Own B w v X) (n : Nat) : Own B (w.drewN n) v X := by
  obtain ⟨h1, h2⟩ := h
  refine ⟨h1, ?_⟩
  rcases h2 with h2 | ⟨g, cap, cur, hv, hg, hh, r⟩
  · exact .inl h2
  · exact .inr ⟨g, cap, cur, hv, hg, by simpa [World.drewN] using hh, r⟩
end Go.Proofs.YtkdnckkdofoaoaaGreatDoor

/- HttpBack walked. -/
namespace Go.Proofs.YtkdnckkdofoaoaaGreatDoor
open Go.ChangeShapes Go.WideShapes Go.ChangeAt Go.RowKit
set_option linter.unusedVariables false

theorem step_ownF {ops : Array Oper} {o : Oper} {a : Act} {K : Act → World → Prop} {Q : Exit → Act → World → Prop} {E : Prop} {w : World} (hgd : o.guard = none) (s x : Operand)
    (ho : o.op = .call { callee := .builtin .append, args := #[s, x], argTypes := #[24, 24] }) (hty : o.type = 24)
    (B : Nat) (v : Value) (X : Fs) (hs : a.eval s = v) (hown : OwnF B w v X) (C : Nat) (ad : Option Addr) (n c : Nat) (Y : Fs) (hx : a.eval x = .slice ad n c) (hsrc : Fds C w (.slice ad n c) Y) (hmax : X.length + Y.length ≤ 4294967296) (hB : B ≤ w.heap.size)
    (h : ∀ v' w', OwnF B w' v' (X ++ Y) → Below B w w' → K (a.put o.dst v') w') :
    if Region.wanted o (yielded ops a.tmps) = true then Oper.wp Tryz.prog o a w K Q else E := by
  have hw : Region.wanted o (yielded ops a.tmps) = true := by simp [Region.wanted, hgd]
  rw [if_pos hw]
  obtain ⟨v', w', hr, O, Bl⟩ := ownF_append hown hsrc hmax hB
  unfold Oper.wp execOp
  simp only [ho, hty, resolve, invoke, builtin, Sem.run_bind, Sem.run_pure, Result.andThen_ok, List.map_toArray, List.map_cons, List.map_nil, hs, hx, hr]
  exact h v' w' O Bl
theorem two_txs (w : World) (x y : ByteArray) (C : Nat) (h : w.heap.size < C) : Txs C (w.alloc (.cells #[.string x, .string y] 9)) (.slice (some ⟨w.heap.size, 0, none⟩) 2 2) [x, y] :=
  ⟨_, 2, rfl, (fun e => by cases e), Nat.le_refl _, by decide, fun _ => ⟨w.heap.size, 0, rfl, h, fun j hj => by
    match j, hj with
    | 0, _ => exact tblk_cell (tblk_new _ _) rfl
    | 1, _ => exact tblk_cell (tblk_new _ _) rfl⟩⟩
theorem reqQ_fsB (b : List UInt8) : FBd 1000 (reqQ b).fs ∧ (reqQ b).fs.length ≤ 40 := by
  have k := headQ_ok b
  have h0 : ∀ st, FBd 1000 (rdNo st).fs ∧ (rdNo st).fs.length ≤ 40 := fun st => ⟨(fun f hf => by cases hf), Nat.zero_le _⟩
  unfold reqQ
  split
  · exact h0 _
  · unfold rdOf
    split
    · exact h0 _
    · exact ⟨k.bd, k.len⟩
/-- What is needed of a request that was read. -/
structure Bk (r : Rd) : Prop where
  m : r.m.size ≤ 2046
  t : r.t.size ≤ 2046
  mi : r.minor = 0 ∨ r.minor = 1
  x : r.body.length ≤ 4096
  fb : FBd 1000 r.fs
theorem reqQ_bk (b : List UInt8) (h : ¬ (reqQ b).n = 0) : Bk (reqQ b) := by
  obtain ⟨f, H⟩ := reqQ_read b h
  obtain ⟨_, k2, k3, k4⟩ := req_back (s := tx f) H.st
  have e : (tx f).size = f.length := rfl
  have hl := H.le
  refine ⟨?_, ?_, ?_, H.bd, (reqQ_fsB b).1⟩
  · rw [H.m]; omega
  · rw [H.t]; omega
  · rw [H.mi]; exact k2
theorem writeB_len (f : ByteArray) (fs : Fs) (b : List UInt8) : b.length ≤ (writeB f fs b).length := by
  unfold writeB; simp only [List.length_append]; omega
theorem lines_len {N : Nat} : ∀ fs : Fs, FBd N fs → (linesB fs).length ≤ fs.length * (2 * N + 4)
  | [], _ => Nat.zero_le _
  | f :: fs, h => by
    have k := lines_len fs (fun g hg => h g (List.mem_cons_of_mem _ hg))
    have q := h f (List.mem_cons_self ..)
    have e : (linesB (f :: fs)).length = (lineT f.1 f.2).size + (linesB fs).length := by
      unfold linesB
      rw [List.flatMap_cons, List.length_append]; rfl
    rw [e, line_size, List.length_cons, Nat.succ_mul]
    omega
theorem write_len (m t : ByteArray) (mi : Int) (fs : Fs) (b : List UInt8) (hm : m.size ≤ 2046) (ht : t.size ≤ 2046) (hv : (verT mi).size ≤ 28) (hf : FBd 1000 fs) (hl : fs.length ≤ 41) (hb : b.length ≤ 100000) : (writeB (reqT m t (verT mi)) fs b).length ≤ 1000000 := by
  have k := lines_len fs hf
  have e : (reqT m t (verT mi)).data.toList.length = m.size + 1 + t.size + 1 + (verT mi).size + 2 := by
    show (reqT m t (verT mi)).size = _
    unfold reqT
    rw [lcat_size, lcat_size, lcat_size, lcat_size, lcat_size]; rfl
  unfold writeB
  simp only [List.length_append, List.length_cons, List.length_nil]
  rw [e]
  have : fs.length * (2 * 1000 + 4) ≤ 41 * 2004 := Nat.mul_le_mul_right _ hl
  omega
theorem newB_len (coded : Bool) (size : Int) (x : List UInt8) (h : x.length ≤ 4096) : (newB coded size x).length ≤ 100000 := by
  unfold newB
  split
  · have := (encR_len size x).2; omega
  · omega

set_option maxRecDepth 100000 in
set_option maxHeartbeats 64000000 in
theorem back8_walk (kb len cap : Nat) (a : Option Addr) (b : List UInt8) (kc lenc capc : Nat) (ac : Option Addr) (c : List UInt8) (size : Int) (coded : Bool) (w : World) (hb : Src w kb (.slice a len cap) b) (hkb : 0 < b.length → kb < w.heap.size) (hc : Src w kc (.slice ac lenc capc) c) (hkc : 0 < c.length → kc < w.heap.size) (hnc : ac = none → capc = 0) (hsz : size ≤ 9223372036854775807) (hL : Lv w) (hT : TzOk w) :
    Calls Tryz.prog 5 #[.slice a len cap, .slice ac lenc capc, .int .i64 size, .bool coded] w fun e w' => e = .returned (.bool true) ∧ Below w.heap.size w w' := by
  have HA : Hid (Calls Tryz.prog 7 #[] w fun e w' => e = .returned (.bool true) ∧ Below w.heap.size w w') := asking_any w hL
  have hlb := hb.len
  have hlc := hc.len
  by_cases hbig : 4000 < len
  · have h1 : (4000 : Int) < (len : Int) := by omega
    clear hb hkb hc hkc hnc hL hlb hlc hT hsz
    go_enter Tryz.func5, Tryz.ntmps5
    go_wp2_with fail
    refine HA.out.mono ?_
    rintro e w1 ⟨rfl, B1⟩
    go_wp2
    go_ret
    exact ⟨rfl, B1⟩
  by_cases hbig2 : 4000 < lenc
  · have h1 : ¬ (4000 : Int) < (len : Int) := by omega
    have h2 : (4000 : Int) < (lenc : Int) := by omega
    clear hb hkb hc hkc hnc hL hlb hlc hT hsz
    go_enter Tryz.func5, Tryz.ntmps5
    go_wp2_with fail
    refine HA.out.mono ?_
    rintro e w1 ⟨rfl, B1⟩
    go_wp2
    go_ret
    exact ⟨rfl, B1⟩
  have h1 : ¬ (4000 : Int) < (len : Int) := by omega
  have h2 : ¬ (4000 : Int) < (lenc : Int) := by omega
  obtain ⟨hb1, hb2, hb3⟩ := hlb
  obtain ⟨hc1, hc2, hc3⟩ := hlc
  subst hb1 hc1
  have HR1 : Hid (∀ W, Below w.heap.size w W → Calls Tryz.prog 8 #[.slice a b.length cap] W (ReqR W (reqQ b))) := fun W B => hreq_any b kb cap a W (hb.keep hkb B) (fun q => Nat.lt_of_lt_of_le (hkb q) B.size) (hL.below B).max (by omega)
  have HX := fun (hn : ¬ (reqQ b).n = 0) (h40 : (reqQ b).fs.length < 40) (hcc : coded = true → ¬ (reqQ b).minor = 0) => http_back b c size coded hn h40 hcc
  have HBK0 := reqQ_bk b
  have HSC : Hid (∀ W, Below w.heap.size w W → Src W kc (.slice ac c.length capc) c ∧ (0 < c.length → kc < W.heap.size)) := fun W B => ⟨hc.keep hkc B, fun q => Nat.lt_of_lt_of_le (hkc q) B.size⟩
  have HL : Hid (Lv w) := hL
  have HTZ : Hid (∀ W, Below w.heap.size w W → TzOk W) := fun W B => hT.below B
  have HNC : Hid (ac = none → capc = 0) := hnc
  clear hb hkb hc hkc hnc hL hT hb2 hb3 hc2 hc3
  generalize reqQ b = Q at *
  generalize b.length = bl at *
  have hcl : c.length ≤ 4000 := by omega
  by_cases hn0 : Q.n = 0
  · obtain ⟨m, t, mi, fs, x, n, st⟩ := Q
    simp only at hn0
    subst hn0
    unfold ReqR rdV at HR1
    simp only at HR1
    clear HX HBK0 HSC HTZ
    go_enter Tryz.func5, Tryz.ntmps5
    go_wp2_with fail
    refine HA.out.mono ?_
    rintro e w1 ⟨rfl, B1⟩
    clear HA
    go_wp2_with fail
    refine (HR1.out _ B1).mono ?_
    rintro e w2 ⟨fa, ba, fc, bc, rfl, F2, O2, B2⟩
    have C2 := B1.trans (B2.mono B1.size)
    clear HR1 B1 B2
    have C3 := C2.alloc C2.size (.cells #[.string m, .string t, .int .i64 mi, .slice fa fs.length fc, .slice ba x.length bc] 26)
    clear O2 F2 C2
    go_wp2
    go_ret
    exact ⟨rfl, C3⟩
  have HBK : Hid (Bk Q) := HBK0 hn0
  have HX2 := HX hn0
  clear HX HBK0
  obtain ⟨m, t, mi, fs, x, n, st⟩ := Q
  simp only at hn0
  have hn1 : ¬ ((n : Nat) : Int) = 0 := by omega
  have hn2 : (((n : Nat) : Int) == 0) = false := by simpa using hn1
  unfold ReqR rdV at HR1
  simp only at HR1 HX2
  by_cases h40 : 40 ≤ fs.length
  · have h40i : (40 : Int) ≤ (fs.length : Int) := by omega
    clear HX2 HSC HTZ HBK
    go_enter Tryz.func5, Tryz.ntmps5
    go_wp2_with fail
    refine HA.out.mono ?_
    rintro e w1 ⟨rfl, B1⟩
    clear HA
    go_wp2_with fail
    refine (HR1.out _ B1).mono ?_
    rintro e w2 ⟨fa, ba, fc, bc, rfl, F2, O2, B2⟩
    have C2 := B1.trans (B2.mono B1.size)
    clear HR1 B1 B2
    have hr3 := tblk_new w2 (.cells #[.string m, .string t, .int .i64 mi, .slice fa fs.length fc, .slice ba x.length bc] 26)
    have d3 := tblk_cell (i := 3) hr3 rfl
    have C3 := C2.alloc C2.size (.cells #[.string m, .string t, .int .i64 mi, .slice fa fs.length fc, .slice ba x.length bc] 26)
    clear O2 F2 C2 hr3
    go_wp2
    go_ret
    exact ⟨rfl, C3⟩
  have h40i : ¬ (40 : Int) ≤ (fs.length : Int) := by omega
  have HX3 := HX2 (by omega)
  clear HX2
  cases coded
  · have HXX : Hid _ := HX3 (fun k => by cases k)
    clear HX3
    go_enter Tryz.func5, Tryz.ntmps5
    go_wp2_with fail
    refine HA.out.mono ?_
    rintro e w1 ⟨rfl, B1⟩
    clear HA
    go_wp2_with fail
    refine (HR1.out _ B1).mono ?_
    rintro e w2 ⟨fa, ba, fc, bc, rfl, F2, O2, B2⟩
    have C2 := B1.trans (B2.mono B1.size)
    clear HR1 B1 B2
    have U3 : Below w2.heap.size w2 (w2.alloc (.cells #[.string m, .string t, .int .i64 mi, .slice fa fs.length fc, .slice ba x.length bc] 26)) := (Below.refl _ _).alloc (Nat.le_refl _) _
    have hr3 := tblk_new w2 (.cells #[.string m, .string t, .int .i64 mi, .slice fa fs.length fc, .slice ba x.length bc] 26)
    have e3 : (w2.alloc (.cells #[.string m, .string t, .int .i64 mi, .slice fa fs.length fc, .slice ba x.length bc] 26)).heap.size = w2.heap.size + 1 := by simp
    have U4 : Below (w2.alloc (.cells #[.string m, .string t, .int .i64 mi, .slice fa fs.length fc, .slice ba x.length bc] 26)).heap.size (w2.alloc (.cells #[.string m, .string t, .int .i64 mi, .slice fa fs.length fc, .slice ba x.length bc] 26)) ((w2.alloc (.cells #[.string m, .string t, .int .i64 mi, .slice fa fs.length fc, .slice ba x.length bc] 26)).alloc (.cells #[.string m, .string t, .int .i64 mi, .slice fa fs.length fc, .slice ba x.length bc] 26)) := (Below.refl _ _).alloc (Nat.le_refl _) _
    have hr4 := tblk_below hr3 U4
    have hs4 : ((w2.alloc (.cells #[.string m, .string t, .int .i64 mi, .slice fa fs.length fc, .slice ba x.length bc] 26)).alloc (.cells #[.string m, .string t, .int .i64 mi, .slice fa fs.length fc, .slice ba x.length bc] 26)).heap[w2.heap.size + 1]? = some (.cells #[.string m, .string t, .int .i64 mi, .slice fa fs.length fc, .slice ba x.length bc] 26) := by have k := tblk_new (w2.alloc (.cells #[.string m, .string t, .int .i64 mi, .slice fa fs.length fc, .slice ba x.length bc] 26)) (.cells #[.string m, .string t, .int .i64 mi, .slice fa fs.length fc, .slice ba x.length bc] 26); rw [e3] at k; exact k
    have e4 : ((w2.alloc (.cells #[.string m, .string t, .int .i64 mi, .slice fa fs.length fc, .slice ba x.length bc] 26)).alloc (.cells #[.string m, .string t, .int .i64 mi, .slice fa fs.length fc, .slice ba x.length bc] 26)).heap.size = w2.heap.size + 2 := by simp
    have U5 : Below ((w2.alloc (.cells #[.string m, .string t, .int .i64 mi, .slice fa fs.length fc, .slice ba x.length bc] 26)).alloc (.cells #[.string m, .string t, .int .i64 mi, .slice fa fs.length fc, .slice ba x.length bc] 26)).heap.size ((w2.alloc (.cells #[.string m, .string t, .int .i64 mi, .slice fa fs.length fc, .slice ba x.length bc] 26)).alloc (.cells #[.string m, .string t, .int .i64 mi, .slice fa fs.length fc, .slice ba x.length bc] 26)) (((w2.alloc (.cells #[.string m, .string t, .int .i64 mi, .slice fa fs.length fc, .slice ba x.length bc] 26)).alloc (.cells #[.string m, .string t, .int .i64 mi, .slice fa fs.length fc, .slice ba x.length bc] 26)).alloc (.cells #[.string ⟨#[99, 111, 110, 116, 101, 110, 116, 45, 108, 101, 110, 103, 116, 104]⟩, .string ⟨#[116, 114, 97, 110, 115, 102, 101, 114, 45, 101, 110, 99, 111, 100, 105, 110, 103]⟩] 9)) := (Below.refl _ _).alloc (Nat.le_refl _) _
    have e5 : (((w2.alloc (.cells #[.string m, .string t, .int .i64 mi, .slice fa fs.length fc, .slice ba x.length bc] 26)).alloc (.cells #[.string m, .string t, .int .i64 mi, .slice fa fs.length fc, .slice ba x.length bc] 26)).alloc (.cells #[.string ⟨#[99, 111, 110, 116, 101, 110, 116, 45, 108, 101, 110, 103, 116, 104]⟩, .string ⟨#[116, 114, 97, 110, 115, 102, 101, 114, 45, 101, 110, 99, 111, 100, 105, 110, 103]⟩] 9)).heap.size = w2.heap.size + 3 := by simp
    have hr5 := tblk_below hr4 U5
    have hs5 := tblk_below hs4 U5
    have V5 : Below w2.heap.size w2 (((w2.alloc (.cells #[.string m, .string t, .int .i64 mi, .slice fa fs.length fc, .slice ba x.length bc] 26)).alloc (.cells #[.string m, .string t, .int .i64 mi, .slice fa fs.length fc, .slice ba x.length bc] 26)).alloc (.cells #[.string ⟨#[99, 111, 110, 116, 101, 110, 116, 45, 108, 101, 110, 103, 116, 104]⟩, .string ⟨#[116, 114, 97, 110, 115, 102, 101, 114, 45, 101, 110, 99, 111, 100, 105, 110, 103]⟩] 9)) := (U3.trans (U4.mono U3.size)).trans (U5.mono (by rw [e4]; omega))
    have HWO : Hid (Calls Tryz.prog 21 #[.slice fa fs.length fc, .slice (some ⟨w2.heap.size + 2, 0, none⟩) 2 2] (((w2.alloc (.cells #[.string m, .string t, .int .i64 mi, .slice fa fs.length fc, .slice ba x.length bc] 26)).alloc (.cells #[.string m, .string t, .int .i64 mi, .slice fa fs.length fc, .slice ba x.length bc] 26)).alloc (.cells #[.string ⟨#[99, 111, 110, 116, 101, 110, 116, 45, 108, 101, 110, 103, 116, 104]⟩, .string ⟨#[116, 114, 97, 110, 115, 102, 101, 114, 45, 101, 110, 99, 111, 100, 105, 110, 103]⟩] 9)) fun e w' => ∃ ao cv, e = .returned (.slice ao (withoutF fs [lCLn, lTEn]).length cv) ∧ OwnF (w2.heap.size + 3) w' (.slice ao (withoutF fs [lCLn, lTEn]).length cv) (withoutF fs [lCLn, lTEn]) ∧ Below w2.heap.size w2 w' ∧ w'.heap[w2.heap.size]? = some (.cells #[.string m, .string t, .int .i64 mi, .slice fa fs.length fc, .slice ba x.length bc] 26) ∧ w'.heap[w2.heap.size + 1]? = some (.cells #[.string m, .string t, .int .i64 mi, .slice fa fs.length fc, .slice ba x.length bc] 26) ∧ w2.heap.size + 3 ≤ w'.heap.size) := by
      have T5 := two_txs ((w2.alloc (.cells #[.string m, .string t, .int .i64 mi, .slice fa fs.length fc, .slice ba x.length bc] 26)).alloc (.cells #[.string m, .string t, .int .i64 mi, .slice fa fs.length fc, .slice ba x.length bc] 26)) lCLn lTEn (((w2.alloc (.cells #[.string m, .string t, .int .i64 mi, .slice fa fs.length fc, .slice ba x.length bc] 26)).alloc (.cells #[.string m, .string t, .int .i64 mi, .slice fa fs.length fc, .slice ba x.length bc] 26)).alloc (.cells #[.string ⟨#[99, 111, 110, 116, 101, 110, 116, 45, 108, 101, 110, 103, 116, 104]⟩, .string ⟨#[116, 114, 97, 110, 115, 102, 101, 114, 45, 101, 110, 99, 111, 100, 105, 110, 103]⟩] 9)).heap.size (by rw [e4, e5]; omega)
      rw [e4] at T5
      refine (rwithout_any fs fa fc [lCLn, lTEn] (some ⟨w2.heap.size + 2, 0, none⟩) 2 _ ((F2.fds.keep V5).mono V5.size) (bd_big HBK.out.fb) T5 (fun z hz => by
        rcases List.mem_cons.1 hz with rfl | hz
        · decide
        · rw [List.mem_singleton.1 hz]; decide) (by omega)).mono ?_
      rintro e w' ⟨ao, cv, he, hO, hB⟩
      have hsz := hB.size
      rw [e5] at hO hsz
      exact ⟨ao, cv, he, hO, V5.trans (hB.mono (by rw [e5]; omega)), tblk_below hr5 hB, tblk_below hs5 hB, hsz⟩
    have d2 := tblk_cell (i := 2) hr3 rfl
    have d0 := tblk_cell (i := 0) hr3 rfl
    have d1 := tblk_cell (i := 1) hr3 rfl
    have d3 := tblk_cell (i := 3) hr3 rfl
    have d4 := tblk_cell (i := 4) hr3 rfl
    have g3 := tblk_cell (i := 3) hr4 rfl
    clear hr3 e3 U3 U4 U5 V5 hr4 hs4 e4 e5 hr5 hs5 F2
    go_wp2_with fail
    refine HWO.out.mono ?_
    rintro e w6 ⟨ao, cv, rfl, O6, E6, hr6, hs6, hz6⟩
    clear HWO d0 d1 d2 d3 d4 g3
    have C6 := C2.trans (E6.mono C2.size)
    have hpw := C2.size
    generalize hpd : w2.heap.size = p at *
    have HPD : Hid (w2.heap.size = p) := hpd
    clear hpd
    have HKL : Hid ((withoutF fs [lCLn, lTEn]).length ≤ 40) := by rw [Hid]; have := withoutF_len fs [lCLn, lTEn]; omega
    have HFB : Hid (FBd 1000 (newL fs false x.length)) := by
      intro f hf
      rcases List.mem_append.1 hf with k | k
      · exact HBK.out.fb f (List.mem_filter.1 k).1
      · rw [List.mem_singleton.1 k]
        exact ⟨show tCL.size ≤ 1000 by decide, by have := (dgs_decT x.length HBK.out.x).len; show (decT x.length).length ≤ 1000; omega⟩
    have HFL : Hid ((newL fs false x.length).length ≤ 41) := by rw [Hid]; have := HKL.out; unfold newL; rw [List.length_append]; simp only [List.length_cons, List.length_nil]; omega
    have hBd : newB false size x = x := rfl
    have HEX0 : x.length ≤ (writeB (reqT m t (verT mi)) (newL fs false x.length) x).length := writeB_len _ _ _
    have HEL0 : x.length ≤ 100000 := by have := newB_len false size x HBK.out.x; rw [hBd] at this; exact this
    have HIT : Hid ((itoaS mi).size ≤ 21) := by rcases HBK.out.mi with k | k <;> (simp only at k; rw [Hid, k]; decide +kernel)
    have hvt : (verT mi).size ≤ 28 := by unfold verT; rw [lcat_size]; show 7 + _ ≤ _; have := HIT.out; omega
    have HXL0 : (writeB (reqT m t (verT mi)) (newL fs false x.length) x).length ≤ 1000000 := write_len m t mi _ _ HBK.out.m HBK.out.t hvt HFB.out HFL.out HEL0
    have HMI : Hid ((0 : Int) ≤ mi ∧ (mi : Int) ≤ 1) := by rw [Hid]; rcases HBK.out.mi with k | k <;> (simp only at k; omega)
    have HXX : Hid (reqQ (writeB (reqT m t (verT mi)) (newL fs false x.length) x ++ c) = if (writeB (reqT m t (verT mi)) (newL fs false x.length) x).length - x.length ≤ 2048 then ⟨m, t, mi, newL fs false x.length, x, (writeB (reqT m t (verT mi)) (newL fs false x.length) x).length, 0⟩ else rdNo 431) := HXX.out
    obtain ⟨X, hX⟩ : ∃ X, X = writeB (reqT m t (verT mi)) (newL fs false x.length) x := ⟨_, rfl⟩
    rw [← hX] at HXX HEX0 HXL0
    obtain ⟨XL, hXL⟩ : ∃ XL, XL = X.length := ⟨_, rfl⟩
    rw [← hXL] at HXX HEX0 HXL0
    have HXD : Hid (X = writeB (reqT m t (verT mi)) (newL fs false x.length) x) := hX
    have HXL2 : Hid (XL = X.length) := hXL
    have hFS : newL fs false x.length = withoutF fs [lCLn, lTEn] ++ [(⟨#[67, 111, 110, 116, 101, 110, 116, 45, 76, 101, 110, 103, 116, 104]⟩, (⟨(decT x.length).toArray⟩ : ByteArray))] := rfl
    obtain ⟨FS2, hFS2⟩ : ∃ FS2, FS2 = newL fs false x.length := ⟨_, rfl⟩
    rw [← hFS2] at HXX HXD HFB HFL hFS
    obtain ⟨L, hL⟩ : ∃ L, L = FS2.length := ⟨_, rfl⟩
    have HLF : Hid (L = FS2.length) := hL
    have HFS : Hid (FS2 = withoutF fs [lCLn, lTEn] ++ [(⟨#[67, 111, 110, 116, 101, 110, 116, 45, 76, 101, 110, 103, 116, 104]⟩, (⟨(decT x.length).toArray⟩ : ByteArray))]) := hFS
    clear hFS
    obtain ⟨EL, hEL⟩ : ∃ EL, EL = x.length := ⟨_, rfl⟩
    rw [← hEL] at HXX HEX0 HEL0
    have HEL2 : Hid (EL = x.length) := hEL
    clear hBd hX hXL hEL hFS2 hL hvt
    generalize withoutF fs [lCLn, lTEn] = K at *
    obtain rfl := HEL2.out
    have hbn : ba = none → bc = 0 := by
      obtain ⟨a0, c0, e0, hn0⟩ := O2.form
      obtain ⟨rfl, _, rfl⟩ := slice_inj e0
      exact hn0
    have HBN : Hid (ba = none → bc = 0) := hbn
    clear hbn
    have O7 : OwnF (p + 3) (w6.setCell ⟨p + 1, 3, none⟩ (.slice ao K.length cv)) (.slice ao K.length cv) K := O6.kept (fun k h1 h2 => set_away (by omega))
    have hs7 := field3 (v := .slice ao K.length cv) hs6
    have hr7 : (w6.setCell ⟨p + 1, 3, none⟩ (.slice ao K.length cv)).heap[p]? = some (.cells #[.string m, .string t, .int .i64 mi, .slice fa fs.length fc, .slice ba x.length bc] 26) := (set_away (by omega)).trans hr6
    have C7 : Below w.heap.size w (w6.setCell ⟨p + 1, 3, none⟩ (.slice ao K.length cv)) := C6.setCell (p := ⟨p + 1, 3, none⟩) (show w.heap.size ≤ p + 1 by omega) _
    have E7 : Below p w2 (w6.setCell ⟨p + 1, 3, none⟩ (.slice ao K.length cv)) := E6.setCell (p := ⟨p + 1, 3, none⟩) (show p ≤ p + 1 by omega) _
    have hz7 : p + 3 ≤ (w6.setCell ⟨p + 1, 3, none⟩ (.slice ao K.length cv)).heap.size := by rw [set_size]; omega
    have y3 := tblk_cell (i := 3) hs6 rfl
    have x3 := lblk_z (i := 3) hs6
    have s3 := tblk_cell (i := 3) hs7 rfl
    have r74 := tblk_cell (i := 4) hr7 rfl
    have HO7 : Hid (OwnF (p + 3) (w6.setCell ⟨p + 1, 3, none⟩ (.slice ao K.length cv)) (.slice ao K.length cv) K) := O7
    clear O6 hs6 hr6 C6 E6 O7
    go_wp2_with fail
    clear y3 x3
    generalize (w6.setCell ⟨p + 1, 3, none⟩ (.slice ao K.length cv)) = w7 at *
    have hxx : x.length ≤ 4096 := HBK.out.x
    have HOW : Hid (∀ W, Below w7.heap.size w7 W → OwnF (p + 3) W (.slice ao K.length cv) K) := fun W B => HO7.out.keep B
    have HDC : Hid (∀ W, Below w7.heap.size w7 W → Calls Tryz.prog 23 #[.int .i64 (x.length : Nat)] W fun e w' => e = .returned (.string ⟨(decT x.length).toArray⟩) ∧ Below w7.heap.size w7 w' ∧ w'.cell? ⟨p + 1, 3, none⟩ = some (.slice ao K.length cv) ∧ w'.cell? ⟨p, 4, none⟩ = some (.slice ba x.length bc) ∧ w'.heap[p + 1]? = some (.cells #[.string m, .string t, .int .i64 mi, .slice ao K.length cv, .slice ba x.length bc] 26) ∧ w'.heap[p]? = some (.cells #[.string m, .string t, .int .i64 mi, .slice fa fs.length fc, .slice ba x.length bc] 26)) := fun W B => by
      refine (rdec_nat x.length (by omega) W).mono ?_
      rintro e w' ⟨he, B'⟩
      have D := B.trans (B'.mono B.size)
      exact ⟨he, D, tblk_cell (tblk_below hs7 D) rfl, tblk_cell (tblk_below hr7 D) rfl, tblk_below hs7 D, tblk_below hr7 D⟩
    have I0 : Below w7.heap.size w7 w7 := Below.refl _ _
    clear HO7
    go_region_law (first | (go_simp; go_at_call 23; refine (HDC.out _ (by first | assumption | exact Below.drew I0 | exact Below.drew (by assumption))).mono ?_; rintro e w8 ⟨rfl, hI, hS0, hS1, hsb, hrb⟩; have hS2 : (w8.alloc (.cells #[.string ⟨#[67, 111, 110, 116, 101, 110, 116, 45, 76, 101, 110, 103, 116, 104]⟩, .string ⟨(decT x.length).toArray⟩] 41)).cell? ⟨p + 1, 3, none⟩ = some (.slice ao K.length cv) := tblk_cell (tblk_below hsb ((Below.refl _ _).alloc (Nat.le_refl _) (.cells #[.string ⟨#[67, 111, 110, 116, 101, 110, 116, 45, 76, 101, 110, 103, 116, 104]⟩, .string ⟨(decT x.length).toArray⟩] 41))) rfl) | (refine step_ownF rfl _ _ rfl rfl (p + 3) _ K rfl ((HOW.out _ hI).keep ((Below.refl _ _).alloc (Nat.le_refl _) _)) _ _ _ _ [(⟨#[67, 111, 110, 116, 101, 110, 116, 45, 76, 101, 110, 103, 116, 104]⟩, ⟨(decT x.length).toArray⟩)] rfl (fds_new w8 ⟨#[67, 111, 110, 116, 101, 110, 116, 45, 76, 101, 110, 103, 116, 104]⟩ ⟨(decT x.length).toArray⟩) (by have := HKL.out; simp; omega) (by have := hI.size; simp; omega) ?_; intro v9 w9 O9 B9; have hs9 := (B9.block (p + 1) (by omega)).trans (tblk_below hsb ((Below.refl _ _).alloc (Nat.le_refl _) _)); have y9 := tblk_cell (i := 3) hs9 rfl; have x9 := lblk_z (i := 3) hs9; have k9 := (B9.cell (p := ⟨p, 4, none⟩) (show p < p + 3 by omega)).trans (tblk_cell (tblk_below hrb ((Below.refl _ _).alloc (Nat.le_refl _) _)) rfl); obtain ⟨a9, c9, hv9, hq9⟩ := O9.form; rw [← HFS.out] at O9 hv9; rw [← HLF.out] at hv9; subst hv9))
    all_goals
      have U8 : Below w8.heap.size w8 (w8.alloc (.cells #[.string ⟨#[67, 111, 110, 116, 101, 110, 116, 45, 76, 101, 110, 103, 116, 104]⟩, .string ⟨(decT x.length).toArray⟩] 41)) := (Below.refl _ _).alloc (Nat.le_refl _) _
      have D8 : Below w7.heap.size w7 (w8.alloc (.cells #[.string ⟨#[67, 111, 110, 116, 101, 110, 116, 45, 76, 101, 110, 103, 116, 104]⟩, .string ⟨(decT x.length).toArray⟩] 41)) := hI.alloc hI.size _
      have C9 : Below w.heap.size w w9 := (C7.trans (D8.mono C7.size)).trans (B9.mono (by omega))
      have E9 : Below p w2 w9 := (E7.trans (D8.mono (by omega))).trans (B9.mono (by omega))
      have hr9 : w9.heap[p]? = some (.cells #[.string m, .string t, .int .i64 mi, .slice fa fs.length fc, .slice ba x.length bc] 26) := (B9.block p (by omega)).trans (tblk_below hrb U8)
      have hst := field3 (v := .slice a9 L c9) hs9
      have hrt : (w9.setCell ⟨p + 1, 3, none⟩ (.slice a9 L c9)).heap[p]? = some (.cells #[.string m, .string t, .int .i64 mi, .slice fa fs.length fc, .slice ba x.length bc] 26) := (set_away (by omega)).trans hr9
      have Ot : OwnF (p + 3) (w9.setCell ⟨p + 1, 3, none⟩ (.slice a9 L c9)) (.slice a9 L c9) FS2 := O9.kept (fun k h1 h2 => set_away (by omega))
      have Ct : Below w.heap.size w (w9.setCell ⟨p + 1, 3, none⟩ (.slice a9 L c9)) := C9.setCell (p := ⟨p + 1, 3, none⟩) (show w.heap.size ≤ p + 1 by omega) _
      have Et : Below p w2 (w9.setCell ⟨p + 1, 3, none⟩ (.slice a9 L c9)) := E9.setCell (p := ⟨p + 1, 3, none⟩) (show p ≤ p + 1 by omega) _
      have OBt : Own w1.heap.size (w9.setCell ⟨p + 1, 3, none⟩ (.slice a9 L c9)) (.slice ba x.length bc) x := O2.keep (by rw [HPD.out]; exact Et)
      have HSE : Hid (∃ ke, Src (w9.setCell ⟨p + 1, 3, none⟩ (.slice a9 L c9)) ke (.slice ba x.length bc) x ∧ (0 < x.length → ke < (w9.setCell ⟨p + 1, 3, none⟩ (.slice a9 L c9)).heap.size) ∧ (ba = none → bc = 0)) := by
        obtain ⟨ke, SE, hke⟩ := OBt.src
        exact ⟨ke, SE, fun q => (hke q).2, HBN.out⟩
      clear U8 D8 C9 E9 hr9 Et hI hS0 hS1 hsb hrb O9 B9 hs9 y9 x9 k9 hS2 C7 E7 hs7 hr7 s3 r74 I0 HDC HOW
      have HWQ : Hid (Calls Tryz.prog 24 #[.agg #[.string m, .string t, .int .i64 mi, .slice a9 L c9, .slice ba x.length bc]] (w9.setCell ⟨p + 1, 3, none⟩ (.slice a9 L c9)) fun e w' => ∃ v, e = .returned v ∧ OwnG (w9.setCell ⟨p + 1, 3, none⟩ (.slice a9 L c9)).heap.size w' v X ∧ Below (w9.setCell ⟨p + 1, 3, none⟩ (.slice a9 L c9)).heap.size (w9.setCell ⟨p + 1, 3, none⟩ (.slice a9 L c9)) w') := by
        have kk : ∀ W : World, OwnF (p + 3) W (.slice a9 L c9) FS2 → Fds W.heap.size W (.slice a9 FS2.length c9) FS2 := fun W O => by have k := O.fds; rw [HLF.out] at k; exact k
        obtain ⟨ke, SE, hke, hne⟩ := HSE.out
        have k := wreq_any m t mi FS2 x a9 ba ke c9 bc (by have := HMI.out; omega) (by have := HMI.out; omega) HIT.out (w9.setCell ⟨p + 1, 3, none⟩ (.slice a9 L c9)) (HL.out.below Ct).pow (by have := HBK.out.m; simp only at this; omega) (by have := HBK.out.t; simp only at this; omega) (kk _ Ot) (bd_big HFB.out) (by have := HFL.out; omega) SE hke hne (by omega)
        rw [← HXD.out, ← HLF.out] at k
        exact k
      have s0 := tblk_cell (i := 0) hst rfl
      have s1 := tblk_cell (i := 1) hst rfl
      have s2 := tblk_cell (i := 2) hst rfl
      have s3 := tblk_cell (i := 3) hst rfl
      have s4 := tblk_cell (i := 4) hst rfl
      go_wp2_with fail
      clear s0 s1 s2 s3 s4
      generalize (w9.setCell ⟨p + 1, 3, none⟩ (.slice a9 L c9)) = wt at *
      refine HWQ.out.mono ?_
      rintro e w13 ⟨v13, rfl, G13, B13⟩
      obtain ⟨g13, c13, hv13, hg13, hl13⟩ := G13.form
      rw [← HXL2.out] at hv13
      subst hv13
      have C13 := Ct.trans (B13.mono Ct.size)
      have hs13 := tblk_below hst B13
      have hr13 := tblk_below hrt B13
      have O13 := Ot.keep B13
      have OB13 := OBt.keep B13
      obtain ⟨k13, S13, hk13a, hk13⟩ := G13.src
      obtain ⟨v14, w14, g15, n15, c15, w15, ra, rb, S15, hg15, hl15, B15⟩ := two_src S13 (fun _ => hk13) (HSC.out w13 C13).1 (HSC.out w13 C13).2 (fun e => by cases e) HNC.out (by rw [← HXL2.out]; omega)
      have C15 := C13.trans (B15.mono C13.size)
      have hs15 := tblk_below hs13 B15
      have hr15 := tblk_below hr13 B15
      have HPX : Hid _ := ra
      have HPY : Hid _ := rb
      have HRX : Hid (Calls Tryz.prog 8 #[.slice (some ⟨g15, 0, none⟩) n15 c15] w15 (ReqR w15 (reqQ (X ++ c)))) := by
        have e := S15.len.1
        subst e
        exact hreq_any (X ++ c) g15 c15 _ w15 S15 (fun _ => hl15) (HL.out.below C15).max (by rw [List.length_append, ← HXL2.out]; omega)
      rw [HXX.out] at HRX
      have HO15 : Hid (OwnF (p + 3) w15 (.slice a9 L c9) FS2) := O13.keep B15
      have HOB : Hid (Own w1.heap.size w15 (.slice ba x.length bc) x) := OB13.keep B15
      clear S15 ra rb B15 S13 B13 G13 hs13 hr13 O13 OB13 C13 hst hrt Ot OBt Ct HWQ hg13 hl13 hk13a hk13 hg15 hl15
      by_cases hle : XL - x.length ≤ 2048
      · rw [if_pos hle] at HRX
        have hle2 : ¬ (2048 : Int) < (XL : Int) - (x.length : Int) := by omega
        have hle3 : decide ((2048 : Int) < (XL : Int) - (x.length : Int)) = false := decide_eq_false hle2
        unfold ReqR rdV at HRX
        simp only at HRX
        go_wp2_with (at_builtin; first | refine wpList_append_run2 rfl _ _ 22 22 rfl _ _ _ w14 rfl rfl HPX.out ?_ | refine wpList_append_run2 rfl _ _ 22 22 rfl _ _ _ w15 rfl rfl HPY.out ?_)
        refine HRX.out.mono ?_
        rintro e w16 ⟨ga, da, gc, dc, rfl, F16, O16, B16⟩
        clear HRX HPX HPY
        have U17 : Below w16.heap.size w16 (w16.alloc (.cells #[.string m, .string t, .int .i64 mi, .slice ga FS2.length gc, .slice da x.length dc] 26)) := (Below.refl _ _).alloc (Nat.le_refl _) _
        have V17 : Below w15.heap.size w15 (w16.alloc (.cells #[.string m, .string t, .int .i64 mi, .slice ga FS2.length gc, .slice da x.length dc] 26)) := B16.alloc B16.size _
        have C17 := C15.trans (V17.mono C15.size)
        have hr17 := tblk_below hr15 V17
        have hs17 := tblk_below hs15 V17
        have ht17 := tblk_new w16 (.cells #[.string m, .string t, .int .i64 mi, .slice ga FS2.length gc, .slice da x.length dc] 26)
        have F17 : Hid (OwnF w15.heap.size (w16.alloc (.cells #[.string m, .string t, .int .i64 mi, .slice ga FS2.length gc, .slice da x.length dc] 26)) (.slice ga FS2.length gc) FS2) := F16.keep U17
        have O17 : Hid (Own w15.heap.size (w16.alloc (.cells #[.string m, .string t, .int .i64 mi, .slice ga FS2.length gc, .slice da x.length dc] 26)) (.slice da x.length dc) x) := O16.keep U17
        have FP : Hid (OwnF (p + 3) (w16.alloc (.cells #[.string m, .string t, .int .i64 mi, .slice ga FS2.length gc, .slice da x.length dc] 26)) (.slice a9 L c9) FS2) := HO15.out.keep V17
        have OP : Hid (Own w1.heap.size (w16.alloc (.cells #[.string m, .string t, .int .i64 mi, .slice ga FS2.length gc, .slice da x.length dc] 26)) (.slice ba x.length bc) x) := HOB.out.keep V17
        have x0 := tblk_cell (i := 0) hr17 rfl
        have x1 := tblk_cell (i := 1) hr17 rfl
        have x2 := tblk_cell (i := 2) hr17 rfl
        have y0 := tblk_cell (i := 0) ht17 rfl
        have y1 := tblk_cell (i := 1) ht17 rfl
        have y2 := tblk_cell (i := 2) ht17 rfl
        have y4 := tblk_cell (i := 4) ht17 rfl
        have z4 := tblk_cell (i := 4) hs17 rfl
        clear F16 O16 B16 U17 V17 C15 hr15 hs15 HO15 HOB hr17
        go_wp2_with fail
        generalize w16.alloc (.cells #[.string m, .string t, .int .i64 mi, .slice ga FS2.length gc, .slice da x.length dc] 26) = w17 at *
        generalize w16.heap.size = q3 at *
        have HSB : Hid (Calls Tryz.prog 25 #[.slice da x.length dc, .slice ba x.length bc] w17 fun e w' => e = .returned (.bool true) ∧ Below w17.heap.size w17 w') := by
          obtain ⟨j1, S1, _⟩ := O17.out.src
          obtain ⟨j2, S2, _⟩ := OP.out.src
          exact sameBytes_eq x j1 j2 _ _ w17 S1 S2
        refine HSB.out.mono ?_
        rintro e w18 ⟨rfl, B18⟩
        have C18 := C17.trans (B18.mono C17.size)
        have t3 := tblk_cell (i := 3) (tblk_below ht17 B18) rfl
        have u3 := tblk_cell (i := 3) (tblk_below hs17 B18) rfl
        have HSF : Hid (Calls Tryz.prog 26 #[.slice ga FS2.length gc, .slice a9 L c9] w18 fun e w' => e = .returned (.bool true) ∧ Below w18.heap.size w18 w') := by
          have k1 := (F17.out.keep B18).fds
          have k2 := (FP.out.keep B18).fds
          rw [HLF.out] at k2 ⊢
          exact rsame_eq FS2 ga a9 gc c9 w18 k1 k2
        clear x0 x1 x2 y0 y1 y2 y4 z4 HSB B18 F17 O17 FP OP hs17 ht17 C17
        go_wp2_with fail
        refine HSF.out.mono ?_
        rintro e w19 ⟨rfl, B19⟩
        have C19 := C18.trans (B19.mono C18.size)
        clear t3 u3 HSF B19 C18
        go_wp2
        go_ret
        exact ⟨rfl, C19⟩
      · rw [if_neg hle] at HRX
        have hle2 : (2048 : Int) < (XL : Int) - (x.length : Int) := by omega
        unfold ReqR rdV rdNo at HRX
        simp only at HRX
        go_wp2_with (at_builtin; first | refine wpList_append_run2 rfl _ _ 22 22 rfl _ _ _ w14 rfl rfl HPX.out ?_ | refine wpList_append_run2 rfl _ _ 22 22 rfl _ _ _ w15 rfl rfl HPY.out ?_)
        refine HRX.out.mono ?_
        rintro e w16 ⟨ga, da, gc, dc, rfl, F16, O16, B16⟩
        clear HRX HPX HPY
        have V17 : Below w15.heap.size w15 (w16.alloc (.cells #[.string ⟨#[]⟩, .string ⟨#[]⟩, .int .i64 0, .slice ga 0 gc, .slice da 0 dc] 26)) := B16.alloc B16.size _
        have C17 := C15.trans (V17.mono C15.size)
        have hs17 := tblk_below hs15 V17
        have z4 := tblk_cell (i := 4) hs17 rfl
        clear F16 O16 B16 V17 C15 hr15 hs15 HO15 HOB hs17
        go_wp2
        go_ret
        exact ⟨rfl, C17⟩
  · by_cases hmi : mi = 0
    · subst hmi
      clear HX3 HSC HTZ HBK
      go_enter Tryz.func5, Tryz.ntmps5
      go_wp2_with fail
      refine HA.out.mono ?_
      rintro e w1 ⟨rfl, B1⟩
      clear HA
      go_wp2_with fail
      refine (HR1.out _ B1).mono ?_
      rintro e w2 ⟨fa, ba, fc, bc, rfl, F2, O2, B2⟩
      have C2 := B1.trans (B2.mono B1.size)
      clear HR1 B1 B2
      have hr3 := tblk_new w2 (.cells #[.string m, .string t, .int .i64 0, .slice fa fs.length fc, .slice ba x.length bc] 26)
      have d3 := tblk_cell (i := 3) hr3 rfl
      have d2 := tblk_cell (i := 2) hr3 rfl
      have C3 := C2.alloc C2.size (.cells #[.string m, .string t, .int .i64 0, .slice fa fs.length fc, .slice ba x.length bc] 26)
      clear O2 F2 C2 hr3
      go_wp2
      go_ret
      exact ⟨rfl, C3⟩
    · have HXX : Hid _ := HX3 (fun _ => hmi)
      have hm1 : mi = 1 := by rcases HBK.out.mi with k | k; exact absurd k hmi; exact k
      subst hm1
      clear HX3 hmi
      go_enter Tryz.func5, Tryz.ntmps5
      go_wp2_with fail
      refine HA.out.mono ?_
      rintro e w1 ⟨rfl, B1⟩
      clear HA
      go_wp2_with fail
      refine (HR1.out _ B1).mono ?_
      rintro e w2 ⟨fa, ba, fc, bc, rfl, F2, O2, B2⟩
      have C2 := B1.trans (B2.mono B1.size)
      clear HR1 B1 B2
      have U3 : Below w2.heap.size w2 (w2.alloc (.cells #[.string m, .string t, .int .i64 1, .slice fa fs.length fc, .slice ba x.length bc] 26)) := (Below.refl _ _).alloc (Nat.le_refl _) _
      have hr3 := tblk_new w2 (.cells #[.string m, .string t, .int .i64 1, .slice fa fs.length fc, .slice ba x.length bc] 26)
      have e3 : (w2.alloc (.cells #[.string m, .string t, .int .i64 1, .slice fa fs.length fc, .slice ba x.length bc] 26)).heap.size = w2.heap.size + 1 := by simp
      have U4 : Below (w2.alloc (.cells #[.string m, .string t, .int .i64 1, .slice fa fs.length fc, .slice ba x.length bc] 26)).heap.size (w2.alloc (.cells #[.string m, .string t, .int .i64 1, .slice fa fs.length fc, .slice ba x.length bc] 26)) ((w2.alloc (.cells #[.string m, .string t, .int .i64 1, .slice fa fs.length fc, .slice ba x.length bc] 26)).alloc (.cells #[.string m, .string t, .int .i64 1, .slice fa fs.length fc, .slice ba x.length bc] 26)) := (Below.refl _ _).alloc (Nat.le_refl _) _
      have hr4 := tblk_below hr3 U4
      have hs4 : ((w2.alloc (.cells #[.string m, .string t, .int .i64 1, .slice fa fs.length fc, .slice ba x.length bc] 26)).alloc (.cells #[.string m, .string t, .int .i64 1, .slice fa fs.length fc, .slice ba x.length bc] 26)).heap[w2.heap.size + 1]? = some (.cells #[.string m, .string t, .int .i64 1, .slice fa fs.length fc, .slice ba x.length bc] 26) := by have k := tblk_new (w2.alloc (.cells #[.string m, .string t, .int .i64 1, .slice fa fs.length fc, .slice ba x.length bc] 26)) (.cells #[.string m, .string t, .int .i64 1, .slice fa fs.length fc, .slice ba x.length bc] 26); rw [e3] at k; exact k
      have e4 : ((w2.alloc (.cells #[.string m, .string t, .int .i64 1, .slice fa fs.length fc, .slice ba x.length bc] 26)).alloc (.cells #[.string m, .string t, .int .i64 1, .slice fa fs.length fc, .slice ba x.length bc] 26)).heap.size = w2.heap.size + 2 := by simp
      have U5 : Below ((w2.alloc (.cells #[.string m, .string t, .int .i64 1, .slice fa fs.length fc, .slice ba x.length bc] 26)).alloc (.cells #[.string m, .string t, .int .i64 1, .slice fa fs.length fc, .slice ba x.length bc] 26)).heap.size ((w2.alloc (.cells #[.string m, .string t, .int .i64 1, .slice fa fs.length fc, .slice ba x.length bc] 26)).alloc (.cells #[.string m, .string t, .int .i64 1, .slice fa fs.length fc, .slice ba x.length bc] 26)) (((w2.alloc (.cells #[.string m, .string t, .int .i64 1, .slice fa fs.length fc, .slice ba x.length bc] 26)).alloc (.cells #[.string m, .string t, .int .i64 1, .slice fa fs.length fc, .slice ba x.length bc] 26)).alloc (.cells #[.string ⟨#[99, 111, 110, 116, 101, 110, 116, 45, 108, 101, 110, 103, 116, 104]⟩, .string ⟨#[116, 114, 97, 110, 115, 102, 101, 114, 45, 101, 110, 99, 111, 100, 105, 110, 103]⟩] 9)) := (Below.refl _ _).alloc (Nat.le_refl _) _
      have e5 : (((w2.alloc (.cells #[.string m, .string t, .int .i64 1, .slice fa fs.length fc, .slice ba x.length bc] 26)).alloc (.cells #[.string m, .string t, .int .i64 1, .slice fa fs.length fc, .slice ba x.length bc] 26)).alloc (.cells #[.string ⟨#[99, 111, 110, 116, 101, 110, 116, 45, 108, 101, 110, 103, 116, 104]⟩, .string ⟨#[116, 114, 97, 110, 115, 102, 101, 114, 45, 101, 110, 99, 111, 100, 105, 110, 103]⟩] 9)).heap.size = w2.heap.size + 3 := by simp
      have hr5 := tblk_below hr4 U5
      have hs5 := tblk_below hs4 U5
      have V5 : Below w2.heap.size w2 (((w2.alloc (.cells #[.string m, .string t, .int .i64 1, .slice fa fs.length fc, .slice ba x.length bc] 26)).alloc (.cells #[.string m, .string t, .int .i64 1, .slice fa fs.length fc, .slice ba x.length bc] 26)).alloc (.cells #[.string ⟨#[99, 111, 110, 116, 101, 110, 116, 45, 108, 101, 110, 103, 116, 104]⟩, .string ⟨#[116, 114, 97, 110, 115, 102, 101, 114, 45, 101, 110, 99, 111, 100, 105, 110, 103]⟩] 9)) := (U3.trans (U4.mono U3.size)).trans (U5.mono (by rw [e4]; omega))
      have HWO : Hid (Calls Tryz.prog 21 #[.slice fa fs.length fc, .slice (some ⟨w2.heap.size + 2, 0, none⟩) 2 2] (((w2.alloc (.cells #[.string m, .string t, .int .i64 1, .slice fa fs.length fc, .slice ba x.length bc] 26)).alloc (.cells #[.string m, .string t, .int .i64 1, .slice fa fs.length fc, .slice ba x.length bc] 26)).alloc (.cells #[.string ⟨#[99, 111, 110, 116, 101, 110, 116, 45, 108, 101, 110, 103, 116, 104]⟩, .string ⟨#[116, 114, 97, 110, 115, 102, 101, 114, 45, 101, 110, 99, 111, 100, 105, 110, 103]⟩] 9)) fun e w' => ∃ ao cv, e = .returned (.slice ao (withoutF fs [lCLn, lTEn]).length cv) ∧ OwnF (w2.heap.size + 3) w' (.slice ao (withoutF fs [lCLn, lTEn]).length cv) (withoutF fs [lCLn, lTEn]) ∧ Below w2.heap.size w2 w' ∧ w'.heap[w2.heap.size]? = some (.cells #[.string m, .string t, .int .i64 1, .slice fa fs.length fc, .slice ba x.length bc] 26) ∧ w'.heap[w2.heap.size + 1]? = some (.cells #[.string m, .string t, .int .i64 1, .slice fa fs.length fc, .slice ba x.length bc] 26) ∧ w2.heap.size + 3 ≤ w'.heap.size) := by
        have T5 := two_txs ((w2.alloc (.cells #[.string m, .string t, .int .i64 1, .slice fa fs.length fc, .slice ba x.length bc] 26)).alloc (.cells #[.string m, .string t, .int .i64 1, .slice fa fs.length fc, .slice ba x.length bc] 26)) lCLn lTEn (((w2.alloc (.cells #[.string m, .string t, .int .i64 1, .slice fa fs.length fc, .slice ba x.length bc] 26)).alloc (.cells #[.string m, .string t, .int .i64 1, .slice fa fs.length fc, .slice ba x.length bc] 26)).alloc (.cells #[.string ⟨#[99, 111, 110, 116, 101, 110, 116, 45, 108, 101, 110, 103, 116, 104]⟩, .string ⟨#[116, 114, 97, 110, 115, 102, 101, 114, 45, 101, 110, 99, 111, 100, 105, 110, 103]⟩] 9)).heap.size (by rw [e4, e5]; omega)
        rw [e4] at T5
        refine (rwithout_any fs fa fc [lCLn, lTEn] (some ⟨w2.heap.size + 2, 0, none⟩) 2 _ ((F2.fds.keep V5).mono V5.size) (bd_big HBK.out.fb) T5 (fun z hz => by
          rcases List.mem_cons.1 hz with rfl | hz
          · decide
          · rw [List.mem_singleton.1 hz]; decide) (by omega)).mono ?_
        rintro e w' ⟨ao, cv, he, hO, hB⟩
        have hsz := hB.size
        rw [e5] at hO hsz
        exact ⟨ao, cv, he, hO, V5.trans (hB.mono (by rw [e5]; omega)), tblk_below hr5 hB, tblk_below hs5 hB, hsz⟩
      have d2 := tblk_cell (i := 2) hr3 rfl
      have d0 := tblk_cell (i := 0) hr3 rfl
      have d1 := tblk_cell (i := 1) hr3 rfl
      have d3 := tblk_cell (i := 3) hr3 rfl
      have d4 := tblk_cell (i := 4) hr3 rfl
      have g3 := tblk_cell (i := 3) hr4 rfl
      clear hr3 e3 U3 U4 U5 V5 hr4 hs4 e4 e5 hr5 hs5 F2
      go_wp2_with fail
      refine HWO.out.mono ?_
      rintro e w6 ⟨ao, cv, rfl, O6, E6, hr6, hs6, hz6⟩
      clear HWO d0 d1 d2 d3 d4 g3
      have C6 := C2.trans (E6.mono C2.size)
      have hpw := C2.size
      generalize hpd : w2.heap.size = p at *
      have HPD : Hid (w2.heap.size = p) := hpd
      clear hpd
      have HKL : Hid ((withoutF fs [lCLn, lTEn]).length ≤ 40) := by rw [Hid]; have := withoutF_len fs [lCLn, lTEn]; omega
      have HFB : Hid (FBd 1000 (newL fs true x.length)) := by
        intro f hf
        rcases List.mem_append.1 hf with k | k
        · exact HBK.out.fb f (List.mem_filter.1 k).1
        · rw [List.mem_singleton.1 k]
          exact ⟨show tTE.size ≤ 1000 by decide, show tCh.size ≤ 1000 by decide⟩
      have HFL : Hid ((newL fs true x.length).length ≤ 41) := by rw [Hid]; have := HKL.out; unfold newL; rw [List.length_append]; simp only [List.length_cons, List.length_nil]; omega
      have hBd : newB true size x = (encR size x) := rfl
      have HEX0 : (encR size x).length ≤ (writeB (reqT m t (verT 1)) (newL fs true x.length) (encR size x)).length := writeB_len _ _ _
      have HEL0 : (encR size x).length ≤ 100000 := by have := newB_len true size x HBK.out.x; rw [hBd] at this; exact this
      have HIT : Hid ((itoaS 1).size ≤ 21) := by rw [Hid]; decide +kernel
      have hvt : (verT 1).size ≤ 28 := by unfold verT; rw [lcat_size]; show 7 + _ ≤ _; have := HIT.out; omega
      have HXL0 : (writeB (reqT m t (verT 1)) (newL fs true x.length) (encR size x)).length ≤ 1000000 := write_len m t 1 _ _ HBK.out.m HBK.out.t hvt HFB.out HFL.out HEL0
      have HMI : Hid ((0 : Int) ≤ 1 ∧ (1 : Int) ≤ 1) := by rw [Hid]; omega
      have HXX : Hid (reqQ (writeB (reqT m t (verT 1)) (newL fs true x.length) (encR size x) ++ c) = if (writeB (reqT m t (verT 1)) (newL fs true x.length) (encR size x)).length - (encR size x).length ≤ 2048 then ⟨m, t, 1, newL fs true x.length, x, (writeB (reqT m t (verT 1)) (newL fs true x.length) (encR size x)).length, 0⟩ else rdNo 431) := HXX.out
      obtain ⟨X, hX⟩ : ∃ X, X = writeB (reqT m t (verT 1)) (newL fs true x.length) (encR size x) := ⟨_, rfl⟩
      rw [← hX] at HXX HEX0 HXL0
      obtain ⟨XL, hXL⟩ : ∃ XL, XL = X.length := ⟨_, rfl⟩
      rw [← hXL] at HXX HEX0 HXL0
      have HXD : Hid (X = writeB (reqT m t (verT 1)) (newL fs true x.length) (encR size x)) := hX
      have HXL2 : Hid (XL = X.length) := hXL
      have hFS : newL fs true x.length = withoutF fs [lCLn, lTEn] ++ [(⟨#[84, 114, 97, 110, 115, 102, 101, 114, 45, 69, 110, 99, 111, 100, 105, 110, 103]⟩, ⟨#[99, 104, 117, 110, 107, 101, 100]⟩)] := rfl
      obtain ⟨FS2, hFS2⟩ : ∃ FS2, FS2 = newL fs true x.length := ⟨_, rfl⟩
      rw [← hFS2] at HXX HXD HFB HFL hFS
      obtain ⟨L, hL⟩ : ∃ L, L = FS2.length := ⟨_, rfl⟩
      have HLF : Hid (L = FS2.length) := hL
      have HFS : Hid (FS2 = withoutF fs [lCLn, lTEn] ++ [(⟨#[84, 114, 97, 110, 115, 102, 101, 114, 45, 69, 110, 99, 111, 100, 105, 110, 103]⟩, ⟨#[99, 104, 117, 110, 107, 101, 100]⟩)]) := hFS
      clear hFS
      obtain ⟨EL, hEL⟩ : ∃ EL, EL = (encR size x).length := ⟨_, rfl⟩
      rw [← hEL] at HXX HEX0 HEL0
      have HEL2 : Hid (EL = (encR size x).length) := hEL
      clear hBd hX hXL hEL hFS2 hL hvt
      generalize withoutF fs [lCLn, lTEn] = K at *
      have O7 : OwnF (p + 3) (w6.setCell ⟨p + 1, 3, none⟩ (.slice ao K.length cv)) (.slice ao K.length cv) K := O6.kept (fun k h1 h2 => set_away (by omega))
      have hs7 := field3 (v := .slice ao K.length cv) hs6
      have hr7 : (w6.setCell ⟨p + 1, 3, none⟩ (.slice ao K.length cv)).heap[p]? = some (.cells #[.string m, .string t, .int .i64 1, .slice fa fs.length fc, .slice ba x.length bc] 26) := (set_away (by omega)).trans hr6
      have C7 : Below w.heap.size w (w6.setCell ⟨p + 1, 3, none⟩ (.slice ao K.length cv)) := C6.setCell (p := ⟨p + 1, 3, none⟩) (show w.heap.size ≤ p + 1 by omega) _
      have E7 : Below p w2 (w6.setCell ⟨p + 1, 3, none⟩ (.slice ao K.length cv)) := E6.setCell (p := ⟨p + 1, 3, none⟩) (show p ≤ p + 1 by omega) _
      have e7 : (w6.setCell ⟨p + 1, 3, none⟩ (.slice ao K.length cv)).heap.size = w6.heap.size := set_size _ _ _
      have U8 : Below (w6.setCell ⟨p + 1, 3, none⟩ (.slice ao K.length cv)).heap.size (w6.setCell ⟨p + 1, 3, none⟩ (.slice ao K.length cv)) ((w6.setCell ⟨p + 1, 3, none⟩ (.slice ao K.length cv)).alloc (.cells #[.string ⟨#[84, 114, 97, 110, 115, 102, 101, 114, 45, 69, 110, 99, 111, 100, 105, 110, 103]⟩, .string ⟨#[99, 104, 117, 110, 107, 101, 100]⟩] 41)) := (Below.refl _ _).alloc (Nat.le_refl _) _
      obtain ⟨v9, w9, r9, own9, B9⟩ := ownF_append (O7.keep U8) (fds_new (w6.setCell ⟨p + 1, 3, none⟩ (.slice ao K.length cv)) ⟨#[84, 114, 97, 110, 115, 102, 101, 114, 45, 69, 110, 99, 111, 100, 105, 110, 103]⟩ ⟨#[99, 104, 117, 110, 107, 101, 100]⟩) (by have := HKL.out; simp; omega) (by have := U8.size; omega)
      obtain ⟨a9, c9, hv9, _⟩ := own9.form
      rw [← HFS.out] at own9 hv9
      rw [← HLF.out] at hv9
      subst hv9
      have C9 : Below w.heap.size w w9 := (C7.trans (U8.mono C7.size)).trans (B9.mono (by omega))
      have E9 : Below p w2 w9 := (E7.trans (U8.mono (by omega))).trans (B9.mono (by omega))
      have hr9 : w9.heap[p]? = some (.cells #[.string m, .string t, .int .i64 1, .slice fa fs.length fc, .slice ba x.length bc] 26) := (B9.block p (by omega)).trans (tblk_below hr7 U8)
      have hs9 := (B9.block (p + 1) (by omega)).trans (tblk_below hs7 U8)
      have HR9 : Hid ((Builtin.append_ #[24, 24] 24 #[.slice ao K.length cv, .slice (some ⟨w6.heap.size, 0, none⟩) 1 1]).run Tryz.prog ((w6.setCell ⟨p + 1, 3, none⟩ (.slice ao K.length cv)).alloc (.cells #[.string ⟨#[84, 114, 97, 110, 115, 102, 101, 114, 45, 69, 110, 99, 111, 100, 105, 110, 103]⟩, .string ⟨#[99, 104, 117, 110, 107, 101, 100]⟩] 41)) = .ok (.slice a9 L c9) w9) := by rw [Hid, ← e7]; exact r9
      have hz9 : w6.heap.size ≤ w9.heap.size := by have k1 := U8.size; have k2 := B9.size; rw [e7] at k1; omega
      have hs10 := field3 (v := .slice a9 L c9) hs9
      have hr10 : (w9.setCell ⟨p + 1, 3, none⟩ (.slice a9 L c9)).heap[p]? = some (.cells #[.string m, .string t, .int .i64 1, .slice fa fs.length fc, .slice ba x.length bc] 26) := (set_away (by omega)).trans hr9
      have O10 : OwnF (p + 3) (w9.setCell ⟨p + 1, 3, none⟩ (.slice a9 L c9)) (.slice a9 L c9) FS2 := own9.kept (fun k h1 h2 => set_away (by omega))
      have C10 : Below w.heap.size w (w9.setCell ⟨p + 1, 3, none⟩ (.slice a9 L c9)) := C9.setCell (p := ⟨p + 1, 3, none⟩) (show w.heap.size ≤ p + 1 by omega) _
      have E10 : Below p w2 (w9.setCell ⟨p + 1, 3, none⟩ (.slice a9 L c9)) := E9.setCell (p := ⟨p + 1, 3, none⟩) (show p ≤ p + 1 by omega) _
      have hz10 : p + 3 ≤ (w9.setCell ⟨p + 1, 3, none⟩ (.slice a9 L c9)).heap.size := by rw [set_size]; omega
      have OB10 : Own w1.heap.size (w9.setCell ⟨p + 1, 3, none⟩ (.slice a9 L c9)) (.slice ba x.length bc) x := O2.keep (by rw [HPD.out]; exact E10)
      have HEN : Hid (Calls Tryz.prog 22 #[.slice ba x.length bc, .int .i64 size] (w9.setCell ⟨p + 1, 3, none⟩ (.slice a9 L c9)) fun e w' => ∃ v', e = .returned v' ∧ Own (w9.setCell ⟨p + 1, 3, none⟩ (.slice a9 L c9)).heap.size w' v' (encR size x) ∧ Below (w9.setCell ⟨p + 1, 3, none⟩ (.slice a9 L c9)).heap.size (w9.setCell ⟨p + 1, 3, none⟩ (.slice a9 L c9)) w') := by
        obtain ⟨kx, Sx, hkx⟩ := OB10.src
        exact encode_any x kx _ size _ Sx (fun q => (hkx q).2) (HTZ.out _ C10) (by have := HBK.out.x; simp only at this; omega) hsz
      have y3 := tblk_cell (i := 3) hs6 rfl
      have x3 := lblk_z (i := 3) hs6
      have s3 := tblk_cell (i := 3) hs7 rfl
      have r74 := tblk_cell (i := 4) hr7 rfl
      have y9 := tblk_cell (i := 3) hs9 rfl
      have x9 := lblk_z (i := 3) hs9
      have r104 := tblk_cell (i := 4) hr10 rfl
      clear O7 hs7 hr7 C7 E7 e7 U8 own9 B9 C9 E9 hr9 hs9 r9 O6 hs6 hr6 C6 E6
      go_wp2_with (at_builtin; refine wpList_append_run2 rfl _ _ 24 24 rfl _ _ _ w9 rfl rfl HR9.out ?_)
      clear y3 x3 s3 r74 y9 x9 r104 HR9
      generalize (w9.setCell ⟨p + 1, 3, none⟩ (.slice a9 L c9)) = w10 at *
      refine HEN.out.mono ?_
      rintro e w11 ⟨v11, rfl, P11, B11⟩
      obtain ⟨ea, ec, hv11, hen⟩ := P11.form
      rw [← HEL2.out] at hv11
      subst hv11
      have C11 := C10.trans (B11.mono C10.size)
      have E11 : Below p w2 w11 := E10.trans (B11.mono (by omega))
      have hs11 := tblk_below hs10 B11
      have hr11 := tblk_below hr10 B11
      have O11 := O10.keep B11
      have hst := field4 (v := .slice ea EL ec) hs11
      have hrt : (w11.setCell ⟨p + 1, 4, none⟩ (.slice ea EL ec)).heap[p]? = some (.cells #[.string m, .string t, .int .i64 1, .slice fa fs.length fc, .slice ba x.length bc] 26) := (set_away (by omega)).trans hr11
      have Ot : OwnF (p + 3) (w11.setCell ⟨p + 1, 4, none⟩ (.slice ea EL ec)) (.slice a9 L c9) FS2 := O11.kept (fun k h1 h2 => set_away (by omega))
      have Ct : Below w.heap.size w (w11.setCell ⟨p + 1, 4, none⟩ (.slice ea EL ec)) := C11.setCell (p := ⟨p + 1, 4, none⟩) (show w.heap.size ≤ p + 1 by omega) _
      have Et : Below p w2 (w11.setCell ⟨p + 1, 4, none⟩ (.slice ea EL ec)) := E11.setCell (p := ⟨p + 1, 4, none⟩) (show p ≤ p + 1 by omega) _
      have OBt : Own w1.heap.size (w11.setCell ⟨p + 1, 4, none⟩ (.slice ea EL ec)) (.slice ba x.length bc) x := O2.keep (by rw [HPD.out]; exact Et)
      have HSE : Hid (∃ ke, Src (w11.setCell ⟨p + 1, 4, none⟩ (.slice ea EL ec)) ke (.slice ea (encR size x).length ec) (encR size x) ∧ (0 < (encR size x).length → ke < (w11.setCell ⟨p + 1, 4, none⟩ (.slice ea EL ec)).heap.size) ∧ (ea = none → ec = 0)) := by
        have P12 : Own w10.heap.size (w11.setCell ⟨p + 1, 4, none⟩ (.slice ea EL ec)) (.slice ea EL ec) (encR size x) := P11.kept (fun k h1 h2 => set_away (by omega))
        obtain ⟨ke, SE, hke⟩ := P12.src
        rw [HEL2.out] at SE
        rw [HEL2.out] at hke ⊢
        exact ⟨ke, SE, fun q => (hke q).2, hen⟩
      have y4 := tblk_cell (i := 4) hs11 rfl
      have x4 := lblk_z (i := 4) hs11
      clear C10 E10 hs10 hr10 O10 OB10 HEN P11 B11 C11 E11 hs11 hr11 O11 Et
      have HWQ : Hid (Calls Tryz.prog 24 #[.agg #[.string m, .string t, .int .i64 1, .slice a9 L c9, .slice ea EL ec]] (w11.setCell ⟨p + 1, 4, none⟩ (.slice ea EL ec)) fun e w' => ∃ v, e = .returned v ∧ OwnG (w11.setCell ⟨p + 1, 4, none⟩ (.slice ea EL ec)).heap.size w' v X ∧ Below (w11.setCell ⟨p + 1, 4, none⟩ (.slice ea EL ec)).heap.size (w11.setCell ⟨p + 1, 4, none⟩ (.slice ea EL ec)) w') := by
        have kk : ∀ W : World, OwnF (p + 3) W (.slice a9 L c9) FS2 → Fds W.heap.size W (.slice a9 FS2.length c9) FS2 := fun W O => by have k := O.fds; rw [HLF.out] at k; exact k
        obtain ⟨ke, SE, hke, hne⟩ := HSE.out
        have k := wreq_any m t 1 FS2 (encR size x) a9 ea ke c9 ec (by have := HMI.out; omega) (by have := HMI.out; omega) HIT.out (w11.setCell ⟨p + 1, 4, none⟩ (.slice ea EL ec)) (HL.out.below Ct).pow (by have := HBK.out.m; simp only at this; omega) (by have := HBK.out.t; simp only at this; omega) (kk _ Ot) (bd_big HFB.out) (by have := HFL.out; omega) SE hke hne (by rw [← HEL2.out]; omega)
        rw [← HXD.out, ← HLF.out, ← HEL2.out] at k
        exact k
      have s0 := tblk_cell (i := 0) hst rfl
      have s1 := tblk_cell (i := 1) hst rfl
      have s2 := tblk_cell (i := 2) hst rfl
      have s3 := tblk_cell (i := 3) hst rfl
      have s4 := tblk_cell (i := 4) hst rfl
      go_wp2_with fail
      clear s0 s1 s2 s3 s4
      generalize (w11.setCell ⟨p + 1, 4, none⟩ (.slice ea EL ec)) = wt at *
      refine HWQ.out.mono ?_
      rintro e w13 ⟨v13, rfl, G13, B13⟩
      obtain ⟨g13, c13, hv13, hg13, hl13⟩ := G13.form
      rw [← HXL2.out] at hv13
      subst hv13
      have C13 := Ct.trans (B13.mono Ct.size)
      have hs13 := tblk_below hst B13
      have hr13 := tblk_below hrt B13
      have O13 := Ot.keep B13
      have OB13 := OBt.keep B13
      obtain ⟨k13, S13, hk13a, hk13⟩ := G13.src
      obtain ⟨v14, w14, g15, n15, c15, w15, ra, rb, S15, hg15, hl15, B15⟩ := two_src S13 (fun _ => hk13) (HSC.out w13 C13).1 (HSC.out w13 C13).2 (fun e => by cases e) HNC.out (by rw [← HXL2.out]; omega)
      have C15 := C13.trans (B15.mono C13.size)
      have hs15 := tblk_below hs13 B15
      have hr15 := tblk_below hr13 B15
      have HPX : Hid _ := ra
      have HPY : Hid _ := rb
      have HRX : Hid (Calls Tryz.prog 8 #[.slice (some ⟨g15, 0, none⟩) n15 c15] w15 (ReqR w15 (reqQ (X ++ c)))) := by
        have e := S15.len.1
        subst e
        exact hreq_any (X ++ c) g15 c15 _ w15 S15 (fun _ => hl15) (HL.out.below C15).max (by rw [List.length_append, ← HXL2.out]; omega)
      rw [HXX.out] at HRX
      have HO15 : Hid (OwnF (p + 3) w15 (.slice a9 L c9) FS2) := O13.keep B15
      have HOB : Hid (Own w1.heap.size w15 (.slice ba x.length bc) x) := OB13.keep B15
      clear S15 ra rb B15 S13 B13 G13 hs13 hr13 O13 OB13 C13 hst hrt Ot OBt Ct HWQ hg13 hl13 hk13a hk13 hg15 hl15
      by_cases hle : XL - EL ≤ 2048
      · rw [if_pos hle] at HRX
        have hle2 : ¬ (2048 : Int) < (XL : Int) - (EL : Int) := by omega
        have hle3 : decide ((2048 : Int) < (XL : Int) - (EL : Int)) = false := decide_eq_false hle2
        unfold ReqR rdV at HRX
        simp only at HRX
        go_wp2_with (at_builtin; first | refine wpList_append_run2 rfl _ _ 22 22 rfl _ _ _ w14 rfl rfl HPX.out ?_ | refine wpList_append_run2 rfl _ _ 22 22 rfl _ _ _ w15 rfl rfl HPY.out ?_)
        refine HRX.out.mono ?_
        rintro e w16 ⟨ga, da, gc, dc, rfl, F16, O16, B16⟩
        clear HRX HPX HPY
        have U17 : Below w16.heap.size w16 (w16.alloc (.cells #[.string m, .string t, .int .i64 1, .slice ga FS2.length gc, .slice da x.length dc] 26)) := (Below.refl _ _).alloc (Nat.le_refl _) _
        have V17 : Below w15.heap.size w15 (w16.alloc (.cells #[.string m, .string t, .int .i64 1, .slice ga FS2.length gc, .slice da x.length dc] 26)) := B16.alloc B16.size _
        have C17 := C15.trans (V17.mono C15.size)
        have hr17 := tblk_below hr15 V17
        have hs17 := tblk_below hs15 V17
        have ht17 := tblk_new w16 (.cells #[.string m, .string t, .int .i64 1, .slice ga FS2.length gc, .slice da x.length dc] 26)
        have F17 : Hid (OwnF w15.heap.size (w16.alloc (.cells #[.string m, .string t, .int .i64 1, .slice ga FS2.length gc, .slice da x.length dc] 26)) (.slice ga FS2.length gc) FS2) := F16.keep U17
        have O17 : Hid (Own w15.heap.size (w16.alloc (.cells #[.string m, .string t, .int .i64 1, .slice ga FS2.length gc, .slice da x.length dc] 26)) (.slice da x.length dc) x) := O16.keep U17
        have FP : Hid (OwnF (p + 3) (w16.alloc (.cells #[.string m, .string t, .int .i64 1, .slice ga FS2.length gc, .slice da x.length dc] 26)) (.slice a9 L c9) FS2) := HO15.out.keep V17
        have OP : Hid (Own w1.heap.size (w16.alloc (.cells #[.string m, .string t, .int .i64 1, .slice ga FS2.length gc, .slice da x.length dc] 26)) (.slice ba x.length bc) x) := HOB.out.keep V17
        have x0 := tblk_cell (i := 0) hr17 rfl
        have x1 := tblk_cell (i := 1) hr17 rfl
        have x2 := tblk_cell (i := 2) hr17 rfl
        have y0 := tblk_cell (i := 0) ht17 rfl
        have y1 := tblk_cell (i := 1) ht17 rfl
        have y2 := tblk_cell (i := 2) ht17 rfl
        have y4 := tblk_cell (i := 4) ht17 rfl
        have z4 := tblk_cell (i := 4) hs17 rfl
        clear F16 O16 B16 U17 V17 C15 hr15 hs15 HO15 HOB hr17
        go_wp2_with fail
        generalize w16.alloc (.cells #[.string m, .string t, .int .i64 1, .slice ga FS2.length gc, .slice da x.length dc] 26) = w17 at *
        generalize w16.heap.size = q3 at *
        have HSB : Hid (Calls Tryz.prog 25 #[.slice da x.length dc, .slice ba x.length bc] w17 fun e w' => e = .returned (.bool true) ∧ Below w17.heap.size w17 w') := by
          obtain ⟨j1, S1, _⟩ := O17.out.src
          obtain ⟨j2, S2, _⟩ := OP.out.src
          exact sameBytes_eq x j1 j2 _ _ w17 S1 S2
        refine HSB.out.mono ?_
        rintro e w18 ⟨rfl, B18⟩
        have C18 := C17.trans (B18.mono C17.size)
        have t3 := tblk_cell (i := 3) (tblk_below ht17 B18) rfl
        have u3 := tblk_cell (i := 3) (tblk_below hs17 B18) rfl
        have HSF : Hid (Calls Tryz.prog 26 #[.slice ga FS2.length gc, .slice a9 L c9] w18 fun e w' => e = .returned (.bool true) ∧ Below w18.heap.size w18 w') := by
          have k1 := (F17.out.keep B18).fds
          have k2 := (FP.out.keep B18).fds
          rw [HLF.out] at k2 ⊢
          exact rsame_eq FS2 ga a9 gc c9 w18 k1 k2
        clear x0 x1 x2 y0 y1 y2 y4 z4 HSB B18 F17 O17 FP OP hs17 ht17 C17
        go_wp2_with fail
        refine HSF.out.mono ?_
        rintro e w19 ⟨rfl, B19⟩
        have C19 := C18.trans (B19.mono C18.size)
        clear t3 u3 HSF B19 C18
        go_wp2
        go_ret
        exact ⟨rfl, C19⟩
      · rw [if_neg hle] at HRX
        have hle2 : (2048 : Int) < (XL : Int) - (EL : Int) := by omega
        unfold ReqR rdV rdNo at HRX
        simp only at HRX
        go_wp2_with (at_builtin; first | refine wpList_append_run2 rfl _ _ 22 22 rfl _ _ _ w14 rfl rfl HPX.out ?_ | refine wpList_append_run2 rfl _ _ 22 22 rfl _ _ _ w15 rfl rfl HPY.out ?_)
        refine HRX.out.mono ?_
        rintro e w16 ⟨ga, da, gc, dc, rfl, F16, O16, B16⟩
        clear HRX HPX HPY
        have V17 : Below w15.heap.size w15 (w16.alloc (.cells #[.string ⟨#[]⟩, .string ⟨#[]⟩, .int .i64 0, .slice ga 0 gc, .slice da 0 dc] 26)) := B16.alloc B16.size _
        have C17 := C15.trans (V17.mono C15.size)
        have hs17 := tblk_below hs15 V17
        have z4 := tblk_cell (i := 4) hs17 rfl
        clear F16 O16 B16 V17 C15 hr15 hs15 HO15 HOB hs17
        go_wp2
        go_ret
        exact ⟨rfl, C17⟩
end Go.Proofs.YtkdnckkdofoaoaaGreatDoor

/- Whatever the bytes, what stands behind, the size and the way of telling it, HttpBack answers true: a request that is read, without its lengths, with its body told by its length or in chunks, is read again; no condition. -/
namespace Go.Proofs.YtkdnckkdofoaoaaGreatDoor.httpBack
open Go.ChangeShapes Go.WideShapes Go.ChangeAt Go.RowKit
open Go.ChangeMaps (open_string shut_string)
set_option linter.unusedVariables false

theorem own : ownKnob Tryz.prog.godebug = none := by kernel_rfl
theorem laidOut : laidOutB Tryz.prog = true := by kernel_rfl
theorem maxL_of {W : World} (hsh : W.ShapedOpen Tryz.prog) : MaxL W :=
  cell_of_shapedOpen_int (P := Tryz.prog) (g := 1) (t := 3) (zero := #[.int .i64 0]) hsh (of_decide_eq_true (by kernel_rfl)) (by kernel_rfl) rfl (by kernel_rfl) (by kernel_rfl) Tryz.underlying3
theorem tz_of {W : World} (h : laidMetH Tryz.prog Rows.httpBackRow.laid W) : TzOk W := by
  have h2 := laidMetH.filter (fun x => x.1 == "math/bits.deBruijn64tab") h
  have e2 : Rows.httpBackRow.laid.filter (fun x => x.1 == "math/bits.deBruijn64tab") = [("math/bits.deBruijn64tab", Lib.tabData .u8 tzTab)] := by kernel_rfl
  rw [e2] at h2
  exact tz_of_head h2
noncomputable def laidWorld (os : Os) : World := World.laidAll Tryz.prog os Rows.httpBackRow.laid
theorem laid_met (os : Os) : laidMetH Tryz.prog Rows.httpBackRow.laid ((laidWorld os).forCall (fun _ _ => 0) ⟨#[], #[.slice none 0 0, .slice none 0 0, .int .i64 0, .bool false], []⟩).memory := by
  rw [MakeChecks.laidMetH_plain _ _ _ (by kernel_rfl)]
  exact laidMet_laidAll _ (by kernel_rfl) (by kernel_rfl)
set_option maxRecDepth 100000 in
theorem lifted (os : Os) (started : os.Started) (H : Type) (enc : TypeId × Value → H) (F : Stop.Interp) :
    ReturnsInHanded {} Tryz.checked os 5 .any ((OpenSpec.ofChange Rows.httpBackSpec).preRow enc Tryz.prog Tryz.f5 Rows.httpBackRow.domain false Rows.httpBackRow.laid) (((OpenSpec.ofChange Rows.httpBackSpec).at F).post enc Tryz.prog Tryz.f5 false true false false) := by
  obtain ⟨places, hx⟩ := (⟨[], by kernel_rfl⟩ : ∃ places, DataW.whole enc Tryz.prog ((laidWorld os).forCall (fun _ _ => 0) ⟨#[], #[.slice none 0 0, .slice none 0 0, .int .i64 0, .bool false], []⟩).memory Tryz.f5.params.toList Rows.httpBackSpec.vars false (#[.slice none 0 0, .slice none 0 0, .int .i64 0, .bool false] : Array Value).toList 8 = some ([.nil, .nil, .lit (.int .i64 0), .lit (.bool false)], [], places))
  refine returnsInHanded_of_row (C := Tryz.checked) (s := OpenSpec.ofChange Rows.httpBackSpec) own started (by kernel_rfl) Tryz.func5
    (witness_row_atRef (enc := enc) (C := Tryz.checked) false (laidWorld os) #[.slice none 0 0, .slice none 0 0, .int .i64 0, .bool false] rfl (by kernel_rfl) (by kernel_rfl) (by kernel_rfl)
      (OpenSpec.preRow_of_cond 8 hx (by kernel_rfl) (fun k hk => by cases hk) (by kernel_rfl) (laid_met os))) ?_
  intro W base args ds gs before hval0 hW _ hcond hsz hlaid hsh _
  have hM := maxL_of hsh
  have hT := tz_of hlaid
  clear hsh
  have hval : ∀ (j : Nat) t v, Tryz.f5.params[j]? = some t → args[j]? = some v → Value.okWide Tryz.prog W .any base t v := hval0
  have hW' := hW
  obtain ⟨p, q, hA0, hV, rfl, hfz, hnd⟩ := hW
  have hA : DataW.TrodAll enc Tryz.prog W 0 (fun _ => true) true Tryz.f5.params.toList args.toList ds p := hA0
  rw [Tryz.params5] at hA hval
  obtain ⟨v0, vs0, d0, ds0, p0, q0, hargs, rfl, rfl, h0, r0⟩ := trodAll_cons hA
  obtain ⟨v1, vs1, d1, ds1, p1, q1, rfl, rfl, rfl, h1, r1⟩ := trodAll_cons r0
  obtain ⟨v2, vs2, d2, ds2, p2, q2, rfl, rfl, rfl, h2, r2⟩ := trodAll_cons r1
  obtain ⟨v3, vs3, d3, ds3, p3, q3, rfl, rfl, rfl, h3, r3⟩ := trodAll_cons r2
  obtain ⟨rfl, rfl, rfl⟩ := trodAll_nil r3
  obtain rfl : args = #[v0, v1, v2, v3] := by cases args; simp_all
  obtain ⟨rfl, rfl⟩ := trodVars_none hV
  obtain ⟨a0, len0, cap0, rfl⟩ := okWide_slice Tryz.underlying22 (hval 0 22 v0 rfl rfl)
  have k0 := h0
  have lt0 : ∀ x ∈ p0, x.block < W.heap.size := by obtain ⟨m, hm⟩ := k0; exact DataW.trod_lt m _ _ _ hm
  obtain ⟨kb0, b0, w0, hk0, hn0⟩ := open_bytes h0
  obtain ⟨a1, len1, cap1, rfl⟩ := okWide_slice Tryz.underlying22 (hval 1 22 v1 rfl rfl)
  have k1 := h1
  have lt1 : ∀ x ∈ p1, x.block < W.heap.size := by obtain ⟨m, hm⟩ := k1; exact DataW.trod_lt m _ _ _ hm
  obtain ⟨kb1, b1, w1, hk1, hn1⟩ := open_bytes h1
  obtain ⟨a2, rfl, rfl, rfl, w2⟩ := open_int Tryz.underlying3 (hval 2 3 v2 rfl rfl) h2
  obtain ⟨a3, rfl, rfl, rfl⟩ := open_bool Tryz.underlying4 (hval 3 4 v3 rfl rfl) h3
  clear hA0 hval0
  have hP := pow_of (l := Rows.httpBackRow.laid) (by kernel_rfl) hlaid
  refine (back8_walk kb0 len0 cap0 a0 b0 kb1 len1 cap1 a1 b1 a2 a3 W w0 hk0 w1 hk1 hn1 (bounds_i64 w2).2 ⟨hM, hP⟩ hT).mono fun e W' ⟨he, bel⟩ => ?_
  subst he
  exact ⟨_, rfl, _, _, _, [], _, [], hW', trodAll_mk1 (shut_bool Tryz.underlying4 _), (trodAll_cons_mk (Below.trod laidOut (by kernel_rfl) (of_decide_eq_true (by kernel_rfl)) k0 bel lt0) (trodAll_cons_mk (Below.trod laidOut (by kernel_rfl) (of_decide_eq_true (by kernel_rfl)) k1 bel lt1) (trodAll_cons_mk (shut_int Tryz.underlying3 w2) (trodAll_cons_mk (shut_bool Tryz.underlying4 a3) trodAll_mk0)))), rfl, bel.frame _, fun h => by cases h⟩

theorem over : Rows.HttpBackSaid :=
  OpenClaim.holds_of_cond 5 Tryz.f5 rfl rfl rfl rfl rfl rfl rfl ⟨rfl, rfl, rfl, rfl, rfl⟩ rfl rfl rfl rfl rfl (by kernel_rfl) Tryz.func5 (by kernel_rfl)
    (of_decide_eq_true (by kernel_rfl)) (by unfold Func.isWrapper; first | (rw [if_pos (by decide +kernel)]; kernel_rfl) | (rw [if_neg (by decide +kernel)]; exact ⟨rfl, rfl⟩))
    (fun os started H enc _ F => by rw [OpenClaim.pre_eq_preRow]; exact lifted os started H enc F)

end Go.Proofs.YtkdnckkdofoaoaaGreatDoor.httpBack
namespace Go.Proofs.YtkdnckkdofoaoaaGreatDoor
/-- The statement: the tied card. -/
theorem httpBack_holds : Rows.HttpBackCardSaid :=
  Claim7.holds_tied_plain_at .later [] _ _ _ _
    httpBack.over (fun _ h => by cases h) (by kernel_rfl) (fun _ h => by cases h) httpBack_row_tie rfl ⟨rfl, rfl⟩ (by kernel_rfl) rfl
    (fun f fn hf hfn => by
      obtain rfl : f = 5 := Option.some.inj ((show Tryz.prog.funcNamed "tollbar/tollbarlaw08.HttpBack" = some 5 by kernel_rfl).symm.trans hf) |>.symm
      obtain rfl : fn = Tryz.f5 := (Option.some.inj (Tryz.func5.symm.trans hfn)).symm
      exact ⟨by kernel_rfl, fun j t ht => by
        rw [Tryz.params5] at ht
        have hm : t ∈ [22, 22, 3, 4] := by simpa using Array.mem_of_getElem? ht
        have hall : ([22, 22, 3, 4].all fun u => !Tryz.prog.wantsStandIn u) = true := by kernel_rfl
        exact (show Tryz.prog.wantsStandIn t = false by simpa using List.all_eq_true.1 hall t hm)⟩)
    (by kernel_rfl)
#print axioms httpBack_holds
end Go.Proofs.YtkdnckkdofoaoaaGreatDoor
