/- What the sixth laws' own first look ('answers') does: it is true. -/
import Derived.Test.YtebaojnckailnaaDoorShg
import Derived.Lib.SlBytesConst
namespace Gw
open Go Go.RowKit Go.Shelf
theorem Sl.litM (w : World) (e : TypeId) (fr : Nat × Nat) (l : List Nat) (h : Pol.BB l) : Sl (w.alloc (.cells (bys l).toArray e fr)) (w.heap.size + 1) (some ⟨w.heap.size, 0, none⟩) l := fun i x hx =>
  ⟨h x (List.mem_of_getElem? hx), w.heap.size, 0, rfl, by omega, by
    rw [cell_of_row _ w.heap.size (0 + i) (bys l).toArray e fr (heap_alloc_new w _), Nat.zero_add, List.getElem?_toArray]; exact bys_at hx⟩
end Gw
namespace Go.Proofs.YtebaojnckailnaaDoor
open Go.RowKit Go.Shelf Gw Pol Sh
set_option maxRecDepth 100000 in
set_option maxHeartbeats 1000000 in
theorem answers_any (w : World) (hK : KT w) : Calls Tryd.prog 6 #[] w fun e w' => e = .returned (.bool true) ∧ Below w.heap.size w w' := by
  have HA := Lib.hid sum_none
  have HB := Lib.hid sum_abc
  go_enter Tryd.func6, Tryd.ntmps6
  go_wp2_with fail
  refine (sum_any none 0 0 [] _ rfl ⟨Sl.nil, Nat.le_refl _, fun _ => rfl⟩ (Nat.zero_le _) hK).mono ?_
  rintro e w1 ⟨A1, c1, rfl, hown1, hB1⟩
  obtain ⟨g1, rfl, hg1, _⟩ := Own.store hown1 (k := 0) (by rw [sum_len]; omega)
  have hI2 : In (w1.alloc (.cells #[.int .u8 97, .int .u8 98, .int .u8 99] 5 (3, 4))) (w1.heap.size + 1) (some ⟨w1.heap.size, 0, none⟩) 3 [97, 98, 99] :=
    ⟨Sl.litM w1 5 (3, 4) [97, 98, 99] (fun y hy => by simp at hy; rcases hy with rfl | rfl | rfl <;> omega), by simp, fun h => by cases h⟩
  have hcv : (convert 22 22 (.slice (some ⟨w1.heap.size, 0, none⟩) 3 3)).run Tryd.prog (w1.alloc (.cells #[.int .u8 97, .int .u8 98, .int .u8 99] 5)) = .ok (.slice (some ⟨w1.heap.size, 0, none⟩) 3 3) (w1.alloc (.cells #[.int .u8 97, .int .u8 98, .int .u8 99] 5 (3, 4))) :=
    Lib.run_convert_bytes_const (P := Tryd.prog) w1 22 5 #[.int .u8 97, .int .u8 98, .int .u8 99] 3 3 Tryd.underlying22 Tryd.underlying5
  have hb2 : Below w1.heap.size w1 (w1.alloc (.cells #[.int .u8 97, .int .u8 98, .int .u8 99] 5 (3, 4))) := (Below.refl _ _).alloc (Nat.le_refl _) _
  have HT := Lib.hid (sum_any (some ⟨w1.heap.size, 0, none⟩) 3 3 [97, 98, 99] _ rfl (by rw [World.size_alloc]; exact hI2) (by simp) ((hK.to hB1).to hb2))
  clear hI2
  go_wp2_with fail
  refine HT.out.mono ?_
  rintro e w2 ⟨A2, c2, rfl, hown2, hB2⟩
  rw [World.size_alloc] at hown2 hB2
  obtain ⟨g2, rfl, hg2, _⟩ := Own.store hown2 (k := 0) (by rw [sum_len]; omega)
  have hb12 : Below w1.heap.size w1 w2 := hb2.trans (hB2.mono (by omega))
  have hown1' := hown1.kept hb12
  have x0 := hown1'.cell (k := 0) (by rw [sum_len]; omega)
  have x1 := hown1'.cell (k := 1) (by rw [sum_len]; omega)
  have y0 := hown2.cell (k := 0) (by rw [sum_len]; omega)
  have y1 := hown2.cell (k := 1) (by rw [sum_len]; omega)
  rw [HA.out.1] at x0
  rw [HA.out.2] at x1
  rw [HB.out.1] at y0
  rw [HB.out.2] at y1
  clear hown1 hown2 hown1' HT
  go_wp2
  go_ret
  exact ⟨rfl, hB1.trans (hb12.mono hB1.size)⟩
end Go.Proofs.YtebaojnckailnaaDoor
