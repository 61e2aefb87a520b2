/- What the statements' own answers does: it returns true. -/
import Derived.Test.YtcgpkfppphgkkaaTpb
namespace Go.Proofs.Ytcgpkfppphgkkaa
open Go.RowKit Go.Shelf Gw Pol
theorem bb123 : BB [1, 2, 3] := by
  intro x hx; simp at hx; omega
theorem in_three (w : World) (t : TypeId) : In (w.alloc (.cells #[.int .u8 1, .int .u8 2, .int .u8 3] t)) (w.alloc (.cells #[.int .u8 1, .int .u8 2, .int .u8 3] t)).heap.size (some ⟨w.heap.size, 0, none⟩) 3 [1, 2, 3] := by
  refine ⟨fun i x hx => ⟨bb123 x (List.mem_of_getElem? hx), w.heap.size, 0, rfl, by simp, ?_⟩, by simp, fun e => by cases e⟩
  rw [Nat.zero_add, World.cell?_alloc_new]
  match i, hx with
  | 0, hx => simp at hx; subst hx; rfl
  | 1, hx => simp at hx; subst hx; rfl
  | 2, hx => simp at hx; subst hx; rfl
  | i + 3, hx => simp at hx

theorem ans_take (p g : Nat) (w : World) (h : Tp w p g [1, 2, 3] 0) : Calls Try.prog 9 #[.pointer (some ⟨p, 0, none⟩), .int .i64 2] w fun e w' =>
    ∃ A2 c2, e = .returned (.tuple #[.slice A2 2 c2, .bool true]) ∧ (convert 25 9 (.slice A2 2 c2)).run Try.prog w' = .ok (.string { data := #[1, 2] }) w' ∧ Tp w' p g [3] 2 ∧ K2 w w' p g := by
  refine (ttake_any p g 0 2 [1, 2, 3] w h (by decide) (by omega)).mono ?_
  rintro e w' ⟨A2, c2, rfl, ho, ht, hk⟩
  have hs : str [1, 2] = { data := #[1, 2] } := by decide +kernel
  have hcv := conv_sl (P := Try.prog) ho.sl Try.underlying25 Try.underlying5 Try.underlying9 c2
  have hcv2 : (convert 25 9 (.slice A2 2 c2)).run Try.prog w' = .ok (.string (str [1, 2])) w' := hcv
  rw [hs] at hcv2
  exact ⟨A2, c2, rfl, hcv2, ht, hk⟩
def L3 : List Nat := [3]
theorem L3_len : L3.length = 1 := rfl

set_option maxRecDepth 100000 in
set_option maxHeartbeats 1000000 in
theorem answers_any (w : World) : Calls Try.prog 12 #[] w fun e w' => e = .returned (.bool true) ∧ Below w.heap.size w w' := by
  have hall : ∀ w : World, Calls Try.prog 7 #[] w fun e w1 => e = .returned (.pointer (some ⟨w.heap.size, 0, none⟩)) ∧ Tp w1 w.heap.size w.heap.size [] 0 ∧ Below w.heap.size w w1 := fun w => by
    refine (tnew_any w).mono ?_
    rintro e w1 ⟨rfl, rfl⟩
    exact ⟨rfl, Tp.new w _, (Below.refl _ _).alloc (Nat.le_refl _) _⟩
  have hadd : ∀ (p g B : Nat) (w1 : World), Tp w1 p g [] 0 → B ≤ w1.heap.size → B ≤ p → B ≤ g → Calls Try.prog 8 #[.pointer (some ⟨p, 0, none⟩), .slice (some ⟨w1.heap.size, 0, none⟩) 3 3] (w1.alloc (.cells #[.int .u8 1, .int .u8 2, .int .u8 3] 5)) fun e w3 => e = .returned (.int .i64 0) ∧ ∃ g', Tp w3 p g' [1, 2, 3] 0 ∧ B ≤ g' ∧ Below B w1 w3 := fun p g B w1 ht1 hB hp hg => by
    have ht2 := ht1.below ((Below.refl w1.heap.size w1).alloc (Nat.le_refl _) (.cells #[.int .u8 1, .int .u8 2, .int .u8 3] 5)) (Nat.le_refl _)
    refine (tadd_any p g 0 [] (some ⟨w1.heap.size, 0, none⟩) 3 3 [1, 2, 3] _ ht2 rfl (in_three w1 5) (by decide)).mono ?_
    rintro e w3 ⟨rfl, g3, ht3, hg3, hk3⟩
    refine ⟨rfl, g3, ht3, ?_, ?_⟩
    · rcases hg3 with h | h
      · omega
      · rw [World.size_alloc] at h; omega
    · exact ((Below.refl B w1).alloc hB _).trans (hk3.below (by rw [World.size_alloc]; omega) hp hg)
  have HALL := Lib.hid hall
  have HADD := Lib.hid hadd
  clear hall hadd
  go_enter Try.func12, Try.ntmps12
  go_wp2_with fail
  refine (HALL.out w).mono ?_
  rintro e w1 ⟨rfl, ht1, hb1⟩
  have hs1 := hb1.size
  go_wp2_with fail
  refine (HADD.out w.heap.size w.heap.size w.heap.size w1 ht1 hs1 (Nat.le_refl _) (Nat.le_refl _)).mono ?_
  rintro e w3 ⟨rfl, g3, ht3, hg3, hb3⟩
  have hB3 := hb1.trans hb3
  have hs3 := hB3.size
  clear ht1 hb1 hs1 hb3
  go_wp2_with fail
  refine (ans_take w.heap.size g3 w3 ht3).mono ?_
  rintro e w4 ⟨A4, c4, rfl, hcv, ht4, hk4⟩
  have hb4 : Below w.heap.size w w4 := hB3.trans (hk4.below hs3 (Nat.le_refl _) hg3)
  have ht4' : Tp w4 w.heap.size g3 L3 2 := ht4
  clear ht4 hk4 ht3 hB3
  go_wp2_with fail
  refine (ttake_far w.heap.size g3 2 L3 2 w4 ht4' (by omega) (by rw [L3_len]; omega)).mono ?_
  rintro e w5 ⟨rfl, rfl⟩
  go_wp2_with fail
  refine (tleft_any w.heap.size g3 2 L3 w5 ht4').mono ?_
  rintro e w6 ⟨rfl, rfl⟩
  have hL := L3_len
  go_wp2_with fail
  refine (tused_any w.heap.size g3 2 L3 w6 ht4').mono ?_
  rintro e w7 ⟨rfl, rfl⟩
  go_wp2
  go_ret
  exact ⟨rfl, hb4⟩
end Go.Proofs.Ytcgpkfppphgkkaa
