/- The document's clock: Drop, Set, Pass. -/
import Derived.Test.YtofnnphpogpcdaaClU
namespace Go.Proofs.Ytofnnphpogpcdaa
open Go.ChangeShapes Go.WideShapes Go.ChangeAt Go.RowKit
set_option linter.unusedVariables false

/-- In block b lies the document's clock. -/
def DB (w : World) (b : Nat) (now : Int) (v : Value) : Prop := w.heap[b]? = some (.cells #[.int .i64 now, v] 28)
theorem DB.c0 {w : World} {b : Nat} {now : Int} {v : Value} (h : DB w b now v) : w.cell? ⟨b, 0, none⟩ = some (.int .i64 now) := tblk_cell h rfl
theorem DB.c1 {w : World} {b : Nat} {now : Int} {v : Value} (h : DB w b now v) : w.cell? ⟨b, 1, none⟩ = some v := tblk_cell h rfl
theorem DB.z {w : World} {b : Nat} {now : Int} {v : Value} (h : DB w b now v) (o : Nat) : w.frozen? ⟨b, o, none⟩ = false := by unfold DB at h; simp [World.frozen?, h]
theorem DB.lt {w : World} {b : Nat} {now : Int} {v : Value} (h : DB w b now v) : b < w.heap.size := (Array.getElem?_eq_some_iff.1 h).1
theorem DB.keep {w w' : World} {b : Nat} {now : Int} {v : Value} (h : DB w b now v) {B : Nat} (k : Below B w w') (hb : b < B) : DB w' b now v := (k.block b hb).trans h
theorem two_new (w : World) (o1 o2 : Obj) : ((w.alloc o1).alloc o2).heap[w.heap.size]? = some o1 ∧ ((w.alloc o1).alloc o2).heap[w.heap.size + 1]? = some o2 := by
  refine ⟨(Below.heap_alloc _ _ _ (by simp)).trans (tblk_new _ _), ?_⟩
  have := tblk_new (w.alloc o1) o2
  rwa [show (w.alloc o1).heap.size = w.heap.size + 1 by simp] at this
theorem owd_set {B : Nat} {w : World} {v : Value} {l : List Pr} {b o : Nat} {x : Value} (h : OwR 45 2 encD B w v l) (hb : b < B) : OwR 45 2 encD B (w.setCell ⟨b, o, none⟩ x) v l := h.move fun g _ hB _ _ => blk_oth (by omega)
set_option maxRecDepth 100000 in
set_option maxHeartbeats 1000000 in
theorem drop15_any (now : Int) (L : List Pr) (a : Option Addr) (c : Nat) (id : Int) (w : World) (hL : RdR 2 encD w a c L) (hl : L.length ≤ 1000000) :
    Calls Try.prog 14 #[.agg #[.int .i64 now, .slice a L.length c], .int .i64 id] w fun e w' => ∃ a' c', e = .returned (.tuple #[.agg #[.int .i64 now, .slice a' (offL id L).length c'], .bool (hasL id L)]) ∧ OwR 45 2 encD w.heap.size w' (.slice a' (offL id L).length c') (offL id L) ∧ Below w.heap.size w w' := by
  have B0 : Below w.heap.size w ((w.alloc (.cells #[.int .i64 now, .slice a L.length c] 28)).alloc (.cells #[.int .i64 0, .slice none 0 0] 28)) := ((Below.refl _ _).alloc (Nat.le_refl _) _).alloc (by simp) _
  obtain ⟨n1, n2⟩ := two_new w (.cells #[.int .i64 now, .slice a L.length c] 28) (.cells #[.int .i64 0, .slice none 0 0] 28)
  have HW := hidE (without15_any L a c id _ (hL.keep B0) hl)
  have S0 : ((w.alloc (.cells #[.int .i64 now, .slice a L.length c] 28)).alloc (.cells #[.int .i64 0, .slice none 0 0] 28)).heap.size = w.heap.size + 2 := by simp
  rw [S0] at HW
  have HB0 := hidE B0
  have N1 : Hid (DB ((w.alloc (.cells #[.int .i64 now, .slice a L.length c] 28)).alloc (.cells #[.int .i64 0, .slice none 0 0] 28)) w.heap.size now (.slice a L.length c)) := n1
  have N2 : Hid (DB ((w.alloc (.cells #[.int .i64 now, .slice a L.length c] 28)).alloc (.cells #[.int .i64 0, .slice none 0 0] 28)) (w.heap.size + 1) 0 (.slice none 0 0)) := n2
  clear B0 n1 n2 hL hl S0
  obtain ⟨r, hr⟩ : ∃ r, r = (offL id L).length := ⟨_, rfl⟩
  obtain ⟨hb, hhb⟩ : ∃ hb, hb = hasL id L := ⟨_, rfl⟩
  rw [← hr, ← hhb] at HW ⊢
  clear hr hhb
  generalize L.length = m at *
  go_enter Try.func14, Try.ntmps14
  go_wp2_with fail
  refine HW.out.mono ?_
  rintro e w3 ⟨a', c', rfl, O, B⟩
  have k1 := N1.out.keep B (by omega)
  have k2 := N2.out.keep B (by omega)
  have c0 := k1.c0
  have c1 := k1.c1
  have z1 := k1.z 1
  have d0 := k2.c0
  have d1 := k2.c1
  have y0 := k2.z 0
  have y1 := k2.z 1
  have HO : Hid (OwR 45 2 encD w.heap.size (((w3.setCell ⟨w.heap.size, 1, none⟩ (.slice a' r c')).setCell ⟨w.heap.size + 1, 0, none⟩ (.int .i64 now)).setCell ⟨w.heap.size + 1, 1, none⟩ (.slice a' r c')) (.slice a' r c') (offL id L)) := (owd_set (owd_set (owd_set O (by omega)) (by omega)) (by omega)).mono (by omega)
  have HB : Hid (Below w.heap.size w (((w3.setCell ⟨w.heap.size, 1, none⟩ (.slice a' r c')).setCell ⟨w.heap.size + 1, 0, none⟩ (.int .i64 now)).setCell ⟨w.heap.size + 1, 1, none⟩ (.slice a' r c'))) := (((HB0.out.trans (B.mono (by omega))).setCell (p := ⟨w.heap.size, 1, none⟩) (Nat.le_refl _) _).setCell (p := ⟨w.heap.size + 1, 0, none⟩) (Nat.le_succ _) _).setCell (p := ⟨w.heap.size + 1, 1, none⟩) (Nat.le_succ _) _
  clear HW O B N1 N2 HB0 k1 k2
  go_wp2
  refine bodyPost_ret (v := .tuple #[.agg #[.int .i64 now, .slice a' r c'], .bool hb]) (by simp [results, Try.results14, go_sem, d0, d1]) rfl ?_
  exact ⟨a', c', rfl, HO.out, HB.out⟩
end Go.Proofs.Ytofnnphpogpcdaa
