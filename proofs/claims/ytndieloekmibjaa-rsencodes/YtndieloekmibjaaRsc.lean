/- What the fourth laws' own first look ('answers') does: it is true. -/
import Derived.Test.YtndieloekmibjaaRsa
import Derived.Test.YtndieloekmibjaaRsb
namespace Go.Proofs.Ytndieloekmibjaa
open Go.RowKit Go.Shelf Gw Pol

/-- A new block of three bytes, as a slice. -/
theorem sl_three (w : World) (e : TypeId) (x y z : Nat) (hx : x < 256) (hy : y < 256) (hz : z < 256) : Sl (w.alloc (.cells #[.int .u8 (x : Int), .int .u8 (y : Int), .int .u8 (z : Int)] e)) (w.heap.size + 1) (some ⟨w.heap.size, 0, none⟩) [x, y, z] := fun i v hv => by
  match i, hv with
  | 0, hv => simp at hv; subst hv; exact ⟨hx, _, 0, rfl, by omega, World.cell?_alloc_new w _ e 0⟩
  | 1, hv => simp at hv; subst hv; exact ⟨hy, _, 0, rfl, by omega, World.cell?_alloc_new w _ e 1⟩
  | 2, hv => simp at hv; subst hv; exact ⟨hz, _, 0, rfl, by omega, World.cell?_alloc_new w _ e 2⟩
theorem a4_thr : thr [1, 2, 3] [5, 5, 5] = [5] := by decide +kernel
theorem a4_dec : decB [1, 2, 3] [5, 5, 5] 0 = true := by decide +kernel
theorem a4_not : decB [1, 2, 3] [5, 5, 6] 0 = false := by decide +kernel
theorem a4_enc : enc [1, 1] [7, 8] = [6, 9] := by decide +kernel
theorem a4_s5 : str [5] = { data := #[5] } := by decide +kernel
theorem a4_s69 : str [6, 9] = { data := #[6, 9] } := by decide +kernel

set_option maxRecDepth 100000 in
set_option maxHeartbeats 1000000 in
theorem answers_any (w : World) : Calls Try.prog 8 #[] w fun e w' => e = .returned (.bool true) ∧ Below w.heap.size w w' := by
  have A1 := Lib.hid a4_thr
  have A2 := Lib.hid a4_dec
  have A3 := Lib.hid a4_not
  have A4 := Lib.hid a4_enc
  have A5 := Lib.hid a4_s5
  have A6 := Lib.hid a4_s69
  go_enter Try.func8, Try.ntmps8
  go_wp2_with fail
  refine (new_any _).mono ?_
  rintro e w1 ⟨rfl, hF, hB⟩
  have hlf := hF.lt
  have hbA : Below w1.heap.size w1 ((w1.alloc (.cells #[.int .u8 1, .int .u8 2, .int .u8 3] 5)).alloc (.cells #[.int .u8 5, .int .u8 5, .int .u8 5] 5)) := ((Below.refl _ _).alloc (Nat.le_refl _) _).alloc (by simp) _
  have hI1 : In ((w1.alloc (.cells #[.int .u8 1, .int .u8 2, .int .u8 3] 5)).alloc (.cells #[.int .u8 5, .int .u8 5, .int .u8 5] 5)) (w1.heap.size + 1 + 1) (some ⟨w1.heap.size, 0, none⟩) 3 [1, 2, 3] := ⟨((sl_three w1 5 1 2 3 (by omega) (by omega) (by omega)).alloc (by simp) _).more (by omega), by simp, fun h => by cases h⟩
  have hI2 : In ((w1.alloc (.cells #[.int .u8 1, .int .u8 2, .int .u8 3] 5)).alloc (.cells #[.int .u8 5, .int .u8 5, .int .u8 5] 5)) (w1.heap.size + 1 + 1) (some ⟨w1.heap.size + 1, 0, none⟩) 3 [5, 5, 5] := by
    have := sl_three (w1.alloc (.cells #[.int .u8 1, .int .u8 2, .int .u8 3] 5)) 5 5 5 5 (by omega) (by omega) (by omega)
    rw [World.size_alloc] at this
    exact ⟨this, by simp, fun h => by cases h⟩
  have HT := Lib.hid (decode_any w.heap.size _ _ 3 3 [1, 2, 3] [5, 5, 5] 0 _ (hF.below hbA hlf) (by rw [World.size_alloc, World.size_alloc]; exact hI1) (by rw [World.size_alloc, World.size_alloc]; exact hI2) (by simp))
  clear hI1 hI2
  go_wp2_with fail
  refine HT.out.mono ?_
  rintro e w2 ⟨hb2, h2⟩
  rw [A2.out, A1.out] at h2
  rcases h2 with ⟨h2, _⟩ | ⟨_, Ap, cp, rfl, hop⟩
  · cases h2
  have hbB := hbA.trans (hb2.mono hbA.size)
  have hF2 := hF.below hbB hlf
  clear HT hb2 hbA
  have hI1 : In ((w2.alloc (.cells #[.int .u8 1, .int .u8 2, .int .u8 3] 5)).alloc (.cells #[.int .u8 5, .int .u8 5, .int .u8 6] 5)) (w2.heap.size + 1 + 1) (some ⟨w2.heap.size, 0, none⟩) 3 [1, 2, 3] := ⟨((sl_three w2 5 1 2 3 (by omega) (by omega) (by omega)).alloc (by simp) _).more (by omega), by simp, fun h => by cases h⟩
  have hI2 : In ((w2.alloc (.cells #[.int .u8 1, .int .u8 2, .int .u8 3] 5)).alloc (.cells #[.int .u8 5, .int .u8 5, .int .u8 6] 5)) (w2.heap.size + 1 + 1) (some ⟨w2.heap.size + 1, 0, none⟩) 3 [5, 5, 6] := by
    have := sl_three (w2.alloc (.cells #[.int .u8 1, .int .u8 2, .int .u8 3] 5)) 5 5 5 6 (by omega) (by omega) (by omega)
    rw [World.size_alloc] at this
    exact ⟨this, by simp, fun h => by cases h⟩
  have hbC : Below w2.heap.size w2 ((w2.alloc (.cells #[.int .u8 1, .int .u8 2, .int .u8 3] 5)).alloc (.cells #[.int .u8 5, .int .u8 5, .int .u8 6] 5)) := ((Below.refl _ _).alloc (Nat.le_refl _) _).alloc (by simp) _
  have HT := Lib.hid (decode_any w.heap.size _ _ 3 3 [1, 2, 3] [5, 5, 6] 0 _ (hF2.below hbC hF2.lt) (by rw [World.size_alloc, World.size_alloc]; exact hI1) (by rw [World.size_alloc, World.size_alloc]; exact hI2) (by simp))
  clear hI1 hI2
  go_wp2_with fail
  refine HT.out.mono ?_
  rintro e w3 ⟨hb3, h3⟩
  rw [A3.out] at h3
  rcases h3 with ⟨_, rfl⟩ | ⟨h3, _⟩
  case inr => cases h3
  have hbD := hbC.trans (hb3.mono hbC.size)
  have hF3 := hF2.below hbD hF2.lt
  have hop3 := hop.kept hbD
  have hcv := conv_sl (P := Try.prog) hop3.sl Try.underlying22 Try.underlying5 Try.underlying9 cp
  rw [A5.out] at hcv
  have hcv' : (convert 22 9 (.slice Ap 1 cp)).run Try.prog w3 = .ok (.string { data := #[5] }) w3 := hcv
  have hbE := hB.trans ((hbB.trans (hbD.mono hbB.size)).mono hB.size)
  clear HT hb3 hbC hcv hop hop3 hF2
  have hJ1 : In ((w3.alloc (.cells #[.int .u8 1, .int .u8 1] 5)).alloc (.cells #[.int .u8 7, .int .u8 8] 5)) (w3.heap.size + 1 + 1) (some ⟨w3.heap.size, 0, none⟩) 2 [1, 1] := ⟨((Sl.two w3 5 1 1 (by omega) (by omega)).alloc (by simp) _).more (by omega), by simp, fun h => by cases h⟩
  have hJ2 : In ((w3.alloc (.cells #[.int .u8 1, .int .u8 1] 5)).alloc (.cells #[.int .u8 7, .int .u8 8] 5)) (w3.heap.size + 1 + 1) (some ⟨w3.heap.size + 1, 0, none⟩) 2 [7, 8] := by
    have := Sl.two (w3.alloc (.cells #[.int .u8 1, .int .u8 1] 5)) 5 7 8 (by omega) (by omega)
    rw [World.size_alloc] at this
    exact ⟨this, by simp, fun h => by cases h⟩
  have hbF : Below w3.heap.size w3 ((w3.alloc (.cells #[.int .u8 1, .int .u8 1] 5)).alloc (.cells #[.int .u8 7, .int .u8 8] 5)) := ((Below.refl _ _).alloc (Nat.le_refl _) _).alloc (by simp) _
  have HE := Lib.hid (encode_any w.heap.size _ _ 2 2 [1, 1] [7, 8] _ (hF3.below hbF hF3.lt) (by rw [World.size_alloc, World.size_alloc]; exact hJ1) (by rw [World.size_alloc, World.size_alloc]; exact hJ2) (by simp) (by simp))
  rw [A4.out] at HE
  clear hJ1 hJ2
  go_wp2_with fail
  refine HE.out.mono ?_
  rintro e w4 ⟨Ae, ce, rfl, hoe, hb4⟩
  have hce := conv_sl (P := Try.prog) hoe.sl Try.underlying22 Try.underlying5 Try.underlying9 ce
  rw [A6.out] at hce
  have hce' : (convert 22 9 (.slice Ae 2 ce)).run Try.prog w4 = .ok (.string { data := #[6, 9] }) w4 := hce
  have hbG := hbF.trans (hb4.mono hbF.size)
  clear hcv' HE hce hoe hb4 hbF
  go_wp2
  go_ret
  exact ⟨rfl, hbE.trans (hbG.mono hbE.size)⟩
end Go.Proofs.Ytndieloekmibjaa
