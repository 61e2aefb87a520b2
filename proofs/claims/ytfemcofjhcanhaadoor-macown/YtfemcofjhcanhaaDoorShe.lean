/- What sha's ending does: what comes behind the last byte. -/
import Derived.Test.YtfemcofjhcanhaaDoorShd
namespace Sh
open Pol
/-- While the length is laid, from its last byte on. -/
def ef (r : List Nat) (n z i : Nat) : List Nat := (r ++ [128] ++ List.replicate z 0) ++ (List.replicate (8 - i) 0 ++ (lb n 8).drop (8 - i))
theorem ef_len (r : List Nat) (n z i : Nat) : (ef r n z i).length = r.length + 1 + z + 8 := by simp [ef, lb_len]; omega
theorem ef_zero (r : List Nat) (n z m : Nat) (hm : m = r.length + 9 + z) : (r ++ List.replicate (m - r.length) 0).set r.length 128 = ef r n z 0 := by
  have e1 : (lb n 8).drop 8 = [] := List.drop_eq_nil_of_le (by rw [lb_len]; omega)
  rw [ef, Nat.sub_zero, e1, List.append_nil, List.set_append_right _ _ (Nat.le_refl _), Nat.sub_self, show m - r.length = (z + 8) + 1 by omega, List.replicate_succ, List.set_cons_zero, ← List.replicate_append_replicate]
  simp
theorem ef_step (r : List Nat) (n z i : Nat) (hi : i < 8) : (ef r n z i).set (r.length + 1 + z + 8 - 1 - i) (n * 8 / 2 ^ (8 * i) % 256) = ef r n z (i + 1) := by
  have hl : (r ++ [128] ++ List.replicate z 0).length = r.length + 1 + z := by simp; omega
  rw [ef, List.set_append_right _ _ (by rw [hl]; omega), hl, show r.length + 1 + z + 8 - 1 - i - (r.length + 1 + z) = 7 - i by omega, show 8 - i = (7 - i) + 1 by omega,
    List.set_append_left _ _ (by simp), ef, show 8 - (i + 1) = 7 - i by omega, List.replicate_succ', List.set_append_right _ _ (by simp), List.length_replicate, Nat.sub_self, List.set_cons_zero, List.append_assoc (List.replicate (7 - i) 0)]
  congr 2
  have hd : (lb n 8).drop (7 - i) = (lb n 8)[7 - i]'(by rw [lb_len]; omega) :: (lb n 8).drop (7 - i + 1) := List.drop_eq_getElem_cons (by rw [lb_len]; omega)
  rw [hd]
  have hv := lb_co n 8 (7 - i) (by omega)
  rw [co_get (by rw [lb_len]; omega), show 7 - (7 - i) = i by omega] at hv
  rw [hv]; rfl
theorem ef_end (r : List Nat) (n : Nat) : ef r n (zn r.length) 8 = en r n := by simp [ef, en]
end Sh
namespace Go.Proofs.YtfemcofjhcanhaaDoor
open Go.RowKit Go.Shelf Gw Pol Sh
def EnRel (w : World) (r : List Nat) (n z M : Nat) (i : Value) (wr : World) : Prop := ∃ k : Nat, k ≤ 8 ∧ i = .int .i64 (k : Int) ∧ Gw.Own wr w.heap.size 5 (some ⟨w.heap.size, 0, none⟩) M (ef r n z k) ∧ Below w.heap.size w wr
set_option maxRecDepth 100000 in
set_option maxHeartbeats 2000000 in
theorem ending_any (A : Option Addr) (c : Nat) (r : List Nat) (n : Nat) (w : World) (hI : In w w.heap.size A c r) (hr : r.length < 64) (hn : n ≤ 140737488355328) :
    Calls Tryd.prog 18 #[.slice A r.length c, .int .u64 (n : Int)] w fun e w' => ∃ A2 c2, e = .returned (.slice A2 (en r n).length c2) ∧ Gw.Own w' w.heap.size 5 A2 c2 (en r n) ∧ Below w.heap.size w w' := by
  obtain ⟨z, hz⟩ : ∃ z, z = zn r.length := ⟨_, rfl⟩
  have HF := Lib.hid (ef_end r n)
  have HEL := Lib.hid (en_len r n)
  rw [← hz] at HF HEL
  unfold zn at hz
  obtain ⟨R, hR⟩ : ∃ R, R = r.length := ⟨_, rfl⟩
  have HR := Lib.hid hR
  have HEF := Lib.hid (ef_len r n z)
  have HE0 := Lib.hid (ef_zero r n z)
  have HES := Lib.hid (ef_step r n z)
  rw [← hR] at HEF HE0 HES HEL hz hr ⊢
  obtain ⟨N8, hN8⟩ : ∃ N8, N8 = n * 8 := ⟨_, rfl⟩
  have e8 : (n : Int) * 8 = (N8 : Int) := by omega
  have HN8 := Lib.hid hN8
  have hN8b : N8 ≤ 1125899906842624 := by omega
  have hM : (R + 9 ≤ 64 ∧ R + 9 + z = 64) ∨ (¬ R + 9 ≤ 64 ∧ R + 9 + z = 128) := by omega
  rcases hM with ⟨h1, h2⟩ | ⟨h1, h2⟩
  · have hmk : ∀ w : World, (Instr.makeSlice 22 (.int .i64 64) (.int .i64 64)).run Tryd.prog w = .ok (.slice (some ⟨w.heap.size, 0, none⟩) 64 64) (w.alloc (.cells (madeCells #[.int .u8 0] 64) 5)) :=
      fun w => run_make_row' (P := Tryd.prog) 22 5 (.int .u8 0) 1 Tryd.underlying22 byte_info rfl .i64 .i64 64 (by omega) (by omega) w
    obtain ⟨w2, hcp, hown0, hB2⟩ := run_copied (P := Tryd.prog) (w := w) 22 3 5 Tryd.underlying22 byte_size 64 R c hI.sl (Nat.le_refl _) hR (by omega) (by omega)
    have hc0 := hown0.cell (k := R) (by rw [List.length_append, ← hR]; simp; omega)
    have hf0 := hown0.frozen R
    have HO1 := Lib.hid (hown0.put (k := R) (y := 128) (by rw [List.length_append, ← hR]; simp; omega) (by omega))
    rw [← hR, HE0.out 64 (by omega)] at HO1
    have HB1 := Lib.hid (hB2.setCell (p := ⟨w.heap.size, R, none⟩) (Nat.le_refl _) (.int .u8 ((128 : Nat) : Int)))
    obtain ⟨v0, hv0⟩ : ∃ v, v = co (r ++ List.replicate (64 - r.length) 0) R := ⟨_, rfl⟩
    rw [← hv0] at hc0
    have hRM : R < 64 := by omega
    clear hR hN8 hown0 hB2 hz hv0
    go_enter Tryd.func18, Tryd.ntmps18
    go_wp2
    clear hmk hcp hc0 hf0
    go_loopw [22] (EnRel w r n z 64) (fun i _ => 8 - (intOf i).toNat)
    case atStart => exact ⟨0, by omega, rfl, HO1.out, HB1.out⟩
    case round =>
      clear HO1 HB1
      obtain ⟨k, hk, rfl, hown, hbel⟩ := hrel
      by_cases hk8 : k < 8
      · obtain ⟨p, hp⟩ : ∃ p, p = 63 - k := ⟨_, rfl⟩
        have ep : (63 : Int) - (k : Int) = (p : Int) := by omega
        have hpM : p < 64 := by omega
        obtain ⟨j, hj⟩ : ∃ j, j = 8 * k := ⟨_, rfl⟩
        have ej : (8 : Int) * (k : Int) = (j : Int) := by omega
        have hj56 : j ≤ 56 := by omega
        obtain ⟨y, hy⟩ : ∃ y, y = N8 / 2 ^ j % 256 := ⟨_, rfl⟩
        have ey : (N8 : Int) / 2 ^ j % 256 = (y : Int) := by rw [hy]; simp
        have hyb : y < 256 := by rw [hy]; exact Nat.mod_lt _ (by omega)
        have hpl : p < (ef r n z k).length := by rw [HEF.out]; omega
        have hcp := hown.cell hpl
        have hfp := hown.frozen p
        have HP := Lib.hid (hown.put hpl hyb)
        have HB := Lib.hid (hbel.setCell (p := ⟨w.heap.size, p, none⟩) (Nat.le_refl _) (.int .u8 (y : Int)))
        have hst := HES.out k hk8
        rw [← HN8.out, ← hj, ← hy, show R + 1 + z + 8 - 1 - k = p by omega] at hst
        rw [hst] at HP
        obtain ⟨v, hv⟩ : ∃ v, v = co (ef r n z k) p := ⟨_, rfl⟩
        rw [← hv] at hcp
        clear hv hst hy hj hp hown hbel hpl
        go_wp2
        go_roundw
        case rel => exact ⟨k + 1, by omega, by go_num, HP.out, HB.out⟩
        case measure => simp [intOf]; omega
      · obtain rfl : k = 8 := by omega
        rw [HF.out] at hown
        go_wp2
        go_ret
        exact ⟨some ⟨w.heap.size, 0, none⟩, 64, by rw [HEL.out, show R + 1 + z + 8 = 64 by omega]; rfl, hown, hbel⟩
  · have hmk : ∀ w : World, (Instr.makeSlice 22 (.int .i64 128) (.int .i64 128)).run Tryd.prog w = .ok (.slice (some ⟨w.heap.size, 0, none⟩) 128 128) (w.alloc (.cells (madeCells #[.int .u8 0] 128) 5)) :=
      fun w => run_make_row' (P := Tryd.prog) 22 5 (.int .u8 0) 1 Tryd.underlying22 byte_info rfl .i64 .i64 128 (by omega) (by omega) w
    obtain ⟨w2, hcp, hown0, hB2⟩ := run_copied (P := Tryd.prog) (w := w) 22 3 5 Tryd.underlying22 byte_size 128 R c hI.sl (Nat.le_refl _) hR (by omega) (by omega)
    have hc0 := hown0.cell (k := R) (by rw [List.length_append, ← hR]; simp; omega)
    have hf0 := hown0.frozen R
    have HO1 := Lib.hid (hown0.put (k := R) (y := 128) (by rw [List.length_append, ← hR]; simp; omega) (by omega))
    rw [← hR, HE0.out 128 (by omega)] at HO1
    have HB1 := Lib.hid (hB2.setCell (p := ⟨w.heap.size, R, none⟩) (Nat.le_refl _) (.int .u8 ((128 : Nat) : Int)))
    obtain ⟨v0, hv0⟩ : ∃ v, v = co (r ++ List.replicate (128 - r.length) 0) R := ⟨_, rfl⟩
    rw [← hv0] at hc0
    have hRM : R < 128 := by omega
    clear hR hN8 hown0 hB2 hz hv0
    go_enter Tryd.func18, Tryd.ntmps18
    go_wp2
    clear hmk hcp hc0 hf0
    go_loopw [22] (EnRel w r n z 128) (fun i _ => 8 - (intOf i).toNat)
    case atStart => exact ⟨0, by omega, rfl, HO1.out, HB1.out⟩
    case round =>
      clear HO1 HB1
      obtain ⟨k, hk, rfl, hown, hbel⟩ := hrel
      by_cases hk8 : k < 8
      · obtain ⟨p, hp⟩ : ∃ p, p = 127 - k := ⟨_, rfl⟩
        have ep : (127 : Int) - (k : Int) = (p : Int) := by omega
        have hpM : p < 128 := by omega
        obtain ⟨j, hj⟩ : ∃ j, j = 8 * k := ⟨_, rfl⟩
        have ej : (8 : Int) * (k : Int) = (j : Int) := by omega
        have hj56 : j ≤ 56 := by omega
        obtain ⟨y, hy⟩ : ∃ y, y = N8 / 2 ^ j % 256 := ⟨_, rfl⟩
        have ey : (N8 : Int) / 2 ^ j % 256 = (y : Int) := by rw [hy]; simp
        have hyb : y < 256 := by rw [hy]; exact Nat.mod_lt _ (by omega)
        have hpl : p < (ef r n z k).length := by rw [HEF.out]; omega
        have hcp := hown.cell hpl
        have hfp := hown.frozen p
        have HP := Lib.hid (hown.put hpl hyb)
        have HB := Lib.hid (hbel.setCell (p := ⟨w.heap.size, p, none⟩) (Nat.le_refl _) (.int .u8 (y : Int)))
        have hst := HES.out k hk8
        rw [← HN8.out, ← hj, ← hy, show R + 1 + z + 8 - 1 - k = p by omega] at hst
        rw [hst] at HP
        obtain ⟨v, hv⟩ : ∃ v, v = co (ef r n z k) p := ⟨_, rfl⟩
        rw [← hv] at hcp
        clear hv hst hy hj hp hown hbel hpl
        go_wp2
        go_roundw
        case rel => exact ⟨k + 1, by omega, by go_num, HP.out, HB.out⟩
        case measure => simp [intOf]; omega
      · obtain rfl : k = 8 := by omega
        rw [HF.out] at hown
        go_wp2
        go_ret
        exact ⟨some ⟨w.heap.size, 0, none⟩, 128, by rw [HEL.out, show R + 1 + z + 8 = 128 by omega]; rfl, hown, hbel⟩
end Go.Proofs.YtfemcofjhcanhaaDoor
