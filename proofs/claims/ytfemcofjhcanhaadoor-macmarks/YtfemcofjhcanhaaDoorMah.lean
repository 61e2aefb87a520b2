/- What the seventh laws' own first look ('answers') does: it is true. -/
import Derived.Test.YtfemcofjhcanhaaDoorMar
import Derived.Test.YtfemcofjhcanhaaDoorMas
namespace Go.Proofs.YtfemcofjhcanhaaDoor
open Go.RowKit Go.Shelf Gw Pol Sh
theorem msame' (A : Option Addr) (c n : Nat) (l : List Nat) (A' : Option Addr) (c' n' : Nat) (m : List Nat) (r : Bool) (w : World) (B : Nat) (hn : n = l.length) (hn' : n' = m.length) (hr : decide (l = m) = r) (hL : In w B A c l) (hM : In w B A' c' m) (hcm : l.length ≤ 140737488355328) :
    Calls Tryd.prog 11 #[.slice A n c, .slice A' n' c'] w fun e w' => e = .returned (.bool r) ∧ ∃ n, w' = w.drewN n := by
  subst hn hn' hr; exact msame_any A c l A' c' m w B hL hM hcm
set_option maxRecDepth 100000 in
set_option maxHeartbeats 1000000 in
theorem answers_any (w : World) (hK : KT w) : Calls Tryd.prog 7 #[] w fun e w' => e = .returned (.bool true) ∧ Below w.heap.size w w' := by
  have HA := Lib.hid hm_none
  go_enter Tryd.func7, Tryd.ntmps7
  go_wp2_with fail
  refine (mac_any none 0 0 [] none 0 0 [] _ rfl rfl ⟨Sl.nil, Nat.le_refl _, fun _ => rfl⟩ ⟨Sl.nil, Nat.le_refl _, fun _ => rfl⟩ (Nat.zero_le _) (Nat.zero_le _) hK).mono ?_
  rintro e w1 ⟨A1, c1, rfl, hown1, hB1⟩
  obtain ⟨g1, rfl, hg1, _⟩ := Own.store hown1 (k := 0) (by rw [hm_len]; omega)
  have hc1 : 32 ≤ c1 := by have := hown1.cap; rwa [hm_len] at this
  have x0 := hown1.cell (k := 0) (by rw [hm_len]; omega)
  have x1 := hown1.cell (k := 1) (by rw [hm_len]; omega)
  rw [HA.out.1] at x0
  rw [HA.out.2] at x1
  obtain ⟨l, hl⟩ : ∃ l, l = hm [] [] := ⟨_, rfl⟩
  have HLL := Lib.hid (show 32 = l.length by rw [hl]; exact (hm_len _ _).symm)
  rw [← hl] at hown1
  have hI1 := hown1.inn
  have HI1 := Lib.hid hI1
  have HI2 := Lib.hid (show In w1 w1.heap.size (some ⟨g1, 1, none⟩) (c1 - 1) (l.drop 1) from ⟨by have := hI1.sl.drop 1; rwa [Option.map_some, Nat.zero_add] at this, by rw [List.length_drop, ← HLL.out]; omega, fun h => by cases h⟩)
  have hc1' : (1 : Int) ≤ (c1 : Int) := by omega
  have hc1n : ¬ c1 = 1 := by omega
  clear hown1 hI1 hl HA
  go_wp2_with fail
  refine (msame' (some ⟨g1, 0, none⟩) c1 32 l (some ⟨g1, 0, none⟩) c1 32 l true _ w1.heap.size HLL.out HLL.out (decide_eq_true rfl) HI1.out HI1.out (by rw [← HLL.out]; omega)).mono ?_
  rintro e w2 ⟨rfl, q2, rfl⟩
  go_wp2_with fail
  refine (msame' (some ⟨g1, 0, none⟩) c1 32 l (some ⟨g1, 1, none⟩) (c1 - 1) 31 (l.drop 1) false _ w1.heap.size HLL.out (by rw [List.length_drop, ← HLL.out]) (decide_eq_false (fun e => by have := congrArg List.length e; rw [List.length_drop, ← HLL.out] at this; omega)) (HI1.out.drewN q2) (HI2.out.drewN q2) (by rw [← HLL.out]; omega)).mono ?_
  rintro e w3 ⟨rfl, q3, rfl⟩
  go_wp2
  go_ret
  exact ⟨rfl, Gw.Below.drewN hB1 (q2 + q3)⟩
end Go.Proofs.YtfemcofjhcanhaaDoor
