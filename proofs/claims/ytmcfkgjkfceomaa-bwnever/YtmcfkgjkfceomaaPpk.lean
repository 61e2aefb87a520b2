/- What poly's Through does: the polynomial through points, in memory of its own, or that there is none. -/
import Derived.Test.YtmcfkgjkfceomaaPpj
namespace Go.Proofs.Ytmcfkgjkfceomaa
open Go.RowKit Go.Shelf Gw Pol Go.BigFrame Go.Sort
attribute [local go_sem] Oper.semAt_some

/-- Three boxes. -/
structure Three (w : World) (v0 v1 v2 : Value) (W : World) : Prop where
  c0 : W.cell? ⟨w.heap.size, 0, none⟩ = some v0
  c1 : W.cell? ⟨w.heap.size + 1, 0, none⟩ = some v1
  c2 : W.cell? ⟨w.heap.size + 2, 0, none⟩ = some v2
  sz : W.heap.size = w.heap.size + 3
  bl : Below w.heap.size w W
theorem three (w : World) (v0 v1 v2 : Value) (t0 t1 t2 : TypeId) : Three w v0 v1 v2 (((w.alloc (.cells #[v0] t0)).alloc (.cells #[v1] t1)).alloc (.cells #[v2] t2)) := by
  refine ⟨?_, ?_, ?_, by simp, ?_⟩
  · exact old_cell (old_cell (new_cell w v0 t0 _ rfl) _) _
  · exact old_cell (new_cell _ v1 t1 _ (by simp)) _
  · exact new_cell _ v2 t2 _ (by simp)
  · exact (((Below.refl _ w).alloc (Nat.le_refl _) _).alloc (by simp) _).alloc (by simp; omega) _

set_option maxRecDepth 100000 in
set_option maxHeartbeats 500000 in
theorem pthr_lens (bf : Nat) (A A' : Option Addr) (c c' : Nat) (xs ys : List Nat) (w : World) (hne : xs.length ≠ ys.length) :
    Calls Try.prog 27 #[.pointer (some ⟨bf, 0, none⟩), .slice A xs.length c, .slice A' ys.length c'] w fun e w' => e = .returned (.tuple #[.slice none 0 0, .bool false]) ∧ Below w.heap.size w w' := by
  have hb : (((xs.length : Int)) != ((ys.length : Int))) = true := by rw [bne_iff_ne]; omega
  have HB := Lib.hid (three w (.pointer (some ⟨bf, 0, none⟩)) (.slice A xs.length c) (.slice A' ys.length c') 27 22 22).bl
  go_enter Try.func27, Try.ntmps27
  go_wp2
  go_ret2
  exact ⟨rfl, HB.out⟩
set_option maxRecDepth 100000 in
set_option maxHeartbeats 500000 in
theorem pthr_twice (bf : Nat) (A A' : Option Addr) (c c' : Nat) (xs ys : List Nat) (w : World) (hI : In w w.heap.size A c xs) (hcm : xs.length ≤ 140737488355328) (he : xs.length = ys.length) (hun : unB xs = false) :
    Calls Try.prog 27 #[.pointer (some ⟨bf, 0, none⟩), .slice A xs.length c, .slice A' ys.length c'] w fun e w' => e = .returned (.tuple #[.slice none 0 0, .bool false]) ∧ Below w.heap.size w w' := by
  have h3 := three w (.pointer (some ⟨bf, 0, none⟩)) (.slice A xs.length c) (.slice A' ys.length c') 27 22 22
  have HB := Lib.hid h3.bl
  have hd := distinct_any A c xs _ ((hI.below h3.bl).more h3.bl.size) hcm
  rw [hun] at hd
  have HD := Lib.hid hd
  clear hd h3 hun
  rw [← he] at *
  go_enter Try.func27, Try.ntmps27
  go_wp2_with fail
  refine HD.out.mono ?_
  rintro e w1 ⟨rfl, hb1⟩
  go_wp2
  go_ret2
  exact ⟨rfl, HB.out.trans (hb1.mono HB.out.size)⟩
end Go.Proofs.Ytmcfkgjkfceomaa
