/- What the statements' own answers (package shamrocklaw09) does: it returns true. -/
import Derived.Test.YtnpjncbdmgdjnaaStx
namespace Go.Proofs.Ytnpjncbdmgdjnaa
open Go.RowKit Go.Shelf Gw Pol
theorem sbb123 : BB [1, 2, 3] := by
  intro x hx; simp at hx; omega
theorem sin_three (w : World) (t : TypeId) : In (w.alloc (.cells #[.int .u8 1, .int .u8 2, .int .u8 3] t)) (w.alloc (.cells #[.int .u8 1, .int .u8 2, .int .u8 3] t)).heap.size (some ⟨w.heap.size, 0, none⟩) 3 [1, 2, 3] := by
  refine ⟨fun i x hx => ⟨sbb123 x (List.mem_of_getElem? hx), w.heap.size, 0, rfl, by simp, ?_⟩, by simp, fun e => by cases e⟩
  rw [Nat.zero_add, World.cell?_alloc_new]
  match i, hx with
  | 0, hx => simp at hx; subst hx; rfl
  | 1, hx => simp at hx; subst hx; rfl
  | 2, hx => simp at hx; subst hx; rfl
  | i + 3, hx => simp at hx
set_option maxRecDepth 100000 in
set_option maxHeartbeats 1000000 in
theorem answers_any (w : World) : Calls Try.prog 8 #[] w fun e w' => e = .returned (.bool true) ∧ Below w.heap.size w w' := by
  have hsp : ∀ w : World, Calls Try.prog 9 #[.slice (some ⟨w.heap.size, 0, none⟩) 3 3, .int .i64 2] (w.alloc (.cells #[.int .u8 1, .int .u8 2, .int .u8 3] 5)) fun e w' => ∃ A2 c2 pa cp, e = .returned (.slice A2 2 c2) ∧ MIn w' w'.heap.size A2 c2 2 pa cp (Sp.col [1, 2, 3] 2) ∧ Below w.heap.size w w' := fun w => by
    refine (ssplit_any (some ⟨w.heap.size, 0, none⟩) 3 3 2 [1, 2, 3] _ rfl (sin_three w 5) (by omega) (by omega)).mono ?_
    rintro e w' ⟨A2, c2, pa, cp, rfl, hC⟩
    exact ⟨A2, c2, pa, cp, rfl, hC.min, ((Below.refl w.heap.size w).alloc (Nat.le_refl _) _).trans (hC.bel.mono (by simp))⟩
  have hjn : ∀ (A : Option Addr) (c : Nat) (pa : Nat → Option Addr) (cp : Nat → Nat) (w : World), MIn w w.heap.size A c 2 pa cp (Sp.col [1, 2, 3] 2) → Calls Try.prog 11 #[.slice A 2 c, .int .i64 3, .int .i64 2] w fun e w' => ∃ A2 c2, e = .returned (.tuple #[.slice A2 3 c2, .bool true]) ∧ In w' w'.heap.size A2 c2 [1, 2, 3] ∧ Below w.heap.size w w' := fun A c pa cp w h => by
    refine (sjoin_yes A c 2 2 3 pa cp (Sp.col [1, 2, 3] 2) w h rfl (by omega) (by omega) (fun i _ => Sp.col_len _ _ _) (by omega)).mono ?_
    rintro e w' ⟨A2, c2, rfl, hI, hb⟩
    exact ⟨A2, c2, rfl, hI, hb⟩
  have hco : ∀ w : World, Calls Try.prog 10 #[.int .i64 3, .int .i64 2] w fun e w' => e = .returned (.int .i64 2) ∧ Below w.heap.size w w' := fun w => scols_any 3 2 (by decide) (by decide) w
  have hs1 : str [1, 2, 3] = { data := #[1, 2, 3] } := by decide +kernel
  have hs2 : str (Sp.col [1, 2, 3] 2 1) = { data := #[3, 0] } := by decide +kernel
  have HS1 := Lib.hid hs1
  have HS2 := Lib.hid hs2
  have HSP := Lib.hid hsp
  have HJN := Lib.hid hjn
  have HCO := Lib.hid hco
  clear hs1 hs2 hsp hjn hco
  go_enter Try.func8, Try.ntmps8
  go_wp2_with fail
  refine (HSP.out w).mono ?_
  rintro e w1 ⟨A1, c1, pa, cp, rfl, hM1, hB1⟩
  go_wp2_with fail
  refine (HJN.out A1 c1 pa cp w1 hM1).mono ?_
  rintro e w2 ⟨A2, c2, rfl, hI2, hb2⟩
  have hB2 := hB1.trans (hb2.mono hB1.size)
  have hM2 := (hM1.below hb2).more hb2.size
  obtain ⟨b, off, hA1, hbl, hcs, hrow⟩ := hM2.rd 1 (by omega)
  have hcap := hM2.cap
  subst hA1
  have hcv := conv_sl (P := Try.prog) hI2.sl Try.underlying22 Try.underlying5 Try.underlying9 c2
  have hcv2 : (convert 22 9 (.slice A2 3 c2)).run Try.prog w2 = .ok (.string (str [1, 2, 3])) w2 := hcv
  rw [HS1.out] at hcv2
  have hcr := conv_sl (P := Try.prog) hrow.sl Try.underlying22 Try.underlying5 Try.underlying9 (cp 1)
  rw [HS2.out, Sp.col_len] at hcr
  rw [Sp.col_len] at hcs
  clear hcv hI2 hM1 hM2 hB1 hb2 hrow
  go_wp2_with fail
  refine (HCO.out w2).mono ?_
  rintro e w3 ⟨rfl, hb3⟩
  go_wp2
  go_ret
  exact ⟨rfl, hB2.trans (hb3.mono hB2.size)⟩
end Go.Proofs.Ytnpjncbdmgdjnaa
