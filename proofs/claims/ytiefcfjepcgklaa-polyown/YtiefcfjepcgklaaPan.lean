/- What the second laws' own first look ('answers') does: it is true. -/
import Derived.Test.YtiefcfjepcgklaaPpl
namespace Go.Proofs.Ytiefcfjepcgklaa
open Go.RowKit Go.Shelf Gw Pol

theorem a2_thr : thr [1, 2] [5, 5] = [5] := by decide +kernel
theorem a2_un : unB [1, 2] = true := by decide +kernel
theorem a2_rt : rt [3] = [3, 1] := by decide +kernel
theorem a2_ev : ev 7 [1, 1] = 6 := by decide +kernel
theorem a2_s5 : str [5] = { data := #[5] } := by decide +kernel
theorem a2_s31 : str [3, 1] = { data := #[3, 1] } := by decide +kernel

set_option maxRecDepth 100000 in
set_option maxHeartbeats 1000000 in
theorem answers_any (w : World) : Calls Try.prog 9 #[] w fun e w' => e = .returned (.bool true) ∧ Below w.heap.size w w' := by
  have A1 := Lib.hid a2_thr
  have A2 := Lib.hid a2_un
  have A3 := Lib.hid a2_rt
  have A4 := Lib.hid a2_ev
  have A5 := Lib.hid a2_s5
  have A6 := Lib.hid a2_s31
  go_enter Try.func9, Try.ntmps9
  go_wp2_with fail
  refine (new_any _).mono ?_
  rintro e w1 ⟨rfl, hF, hB⟩
  have hlf := hF.lt
  have hI1 : In ((w1.alloc (.cells #[.int .u8 1, .int .u8 2] 5)).alloc (.cells #[.int .u8 5, .int .u8 5] 5)) (w1.heap.size + 1 + 1) (some ⟨w1.heap.size, 0, none⟩) 2 [1, 2] := ⟨((Sl.two w1 5 1 2 (by omega) (by omega)).alloc (by simp) _).more (by omega), by simp, fun h => by cases h⟩
  have hI2 : In ((w1.alloc (.cells #[.int .u8 1, .int .u8 2] 5)).alloc (.cells #[.int .u8 5, .int .u8 5] 5)) (w1.heap.size + 1 + 1) (some ⟨w1.heap.size + 1, 0, none⟩) 2 [5, 5] := by
    have := Sl.two (w1.alloc (.cells #[.int .u8 1, .int .u8 2] 5)) 5 5 5 (by omega) (by omega)
    rw [World.size_alloc] at this
    exact ⟨this, by simp, fun h => by cases h⟩
  have hbA : Below w1.heap.size w1 ((w1.alloc (.cells #[.int .u8 1, .int .u8 2] 5)).alloc (.cells #[.int .u8 5, .int .u8 5] 5)) := ((Below.refl _ _).alloc (Nat.le_refl _) _).alloc (by simp) _
  have HT := Lib.hid (pthr_any w.heap.size _ _ 2 2 [1, 2] [5, 5] _ (hF.below hbA hlf) (by rw [World.size_alloc, World.size_alloc]; exact hI1) (by rw [World.size_alloc, World.size_alloc]; exact hI2) (by simp) rfl A2.out)
  rw [A1.out] at HT
  clear hI1 hI2
  go_wp2_with fail
  refine HT.out.mono ?_
  rintro e w2 ⟨Ap, cp, rfl, hop, hb2⟩
  have hbB := hbA.trans (hb2.mono hbA.size)
  have hF2 := hF.below hbB hlf
  have hcv := conv_sl (P := Try.prog) hop.sl Try.underlying22 Try.underlying5 Try.underlying9 cp
  rw [A5.out] at hcv
  have hcv' : (convert 22 9 (.slice Ap 1 cp)).run Try.prog w2 = .ok (.string { data := #[5] }) w2 := hcv
  clear hcv HT hb2 hbA
  have HR := Lib.hid (proots_any w.heap.size (some ⟨w2.heap.size, 0, none⟩) 1 [3] (w2.alloc (.cells #[.int .u8 3] 5)) (hF2.below ((Below.refl _ _).alloc (Nat.le_refl _) _) hF2.lt) ⟨(Sl.one w2 5 3 (by omega)).more (by simp), by simp, fun h => by cases h⟩ (by simp))
  rw [A3.out] at HR
  go_wp2_with fail
  refine HR.out.mono ?_
  rintro e w3 ⟨Ar, cr, rfl, hor, hb3⟩
  have hbC : Below w1.heap.size w1 w3 := (hbB.alloc hbB.size _).trans (hb3.mono (by have := hbB.size; simp; omega))
  have hF3 := hF.below hbC hlf
  have hcr := conv_sl (P := Try.prog) hor.sl Try.underlying22 Try.underlying5 Try.underlying9 cr
  rw [A6.out] at hcr
  have hcr' : (convert 22 9 (.slice Ar 2 cr)).run Try.prog w3 = .ok (.string { data := #[3, 1] }) w3 := hcr
  clear hcr HR hb3 hbB hcv' hop
  have HV := Lib.hid (peval_any w.heap.size (some ⟨w3.heap.size, 0, none⟩) 2 [1, 1] 7 (by omega) (w3.alloc (.cells #[.int .u8 1, .int .u8 1] 5)) (hF3.below ((Below.refl _ _).alloc (Nat.le_refl _) _) hF3.lt) ⟨(Sl.two w3 5 1 1 (by omega) (by omega)).more (by simp), by simp, fun h => by cases h⟩ (by simp))
  rw [A4.out] at HV
  go_wp2_with fail
  refine HV.out.mono ?_
  rintro e w4 ⟨rfl, hb4⟩
  have hbD : Below w1.heap.size w1 w4 := (hbC.alloc hbC.size _).trans (hb4.mono (by have := hbC.size; simp; omega))
  have HD := Lib.hid (degree_any none 0 [] w4 0 ⟨Sl.nil, Nat.le_refl _, fun _ => rfl⟩ (by simp))
  clear HV hb4 hbC hcr' hor
  go_wp2_with fail
  refine HD.out.mono ?_
  rintro e w5 ⟨rfl, rfl⟩
  rw [show ((tr []).length : Int) - 1 = -1 from rfl]
  go_wp2
  go_ret
  exact ⟨rfl, hB.trans (hbD.mono hB.size)⟩
end Go.Proofs.Ytiefcfjepcgklaa
