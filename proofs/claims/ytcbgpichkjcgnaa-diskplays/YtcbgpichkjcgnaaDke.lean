/- What the statements' own answers does: it returns true. -/
import Derived.Test.YtcbgpichkjcgnaaDkd
namespace Go.Proofs.Ytcbgpichkjcgnaa
open Go.RowKit Go.Shelf Gw Pol
/-- New, where so many may be. -/
theorem dnew_m (a : Int) (m : Nat) (h : a = (m : Int)) (hm : m ≤ 2048) (w : World) : Calls Try.prog 7 #[.int .i64 a] w fun e w' => ∃ p g L, e = .returned (.pointer (some ⟨p, 0, none⟩)) ∧ Dk w' p g m L false false 0 0 ∧ L = List.replicate (32 * m) 0 ∧ w.heap.size ≤ p ∧ w.heap.size ≤ g ∧ Below w.heap.size w w' := by
  refine (dnew_any a w).mono ?_
  rintro e w' ⟨p, g, h1, h2, h3, h4, h5⟩
  have hn : nb a = m := by unfold nb; omega
  rw [hn] at h2
  exact ⟨p, g, _, h1, h2, rfl, h3, h4, h5⟩
theorem made_z (w : World) : (Instr.makeSlice 28 (.int .i64 32) (.int .i64 32)).run Try.prog w = .ok (.slice (some ⟨w.heap.size, 0, none⟩) 32 32) (w.alloc (.cells (bys z32).toArray 5)) := made_b w 32 (by omega)
theorem z32_len : z32.length = 32 := rfl
theorem z32_bb : BB z32 := fun x hx => by rw [List.eq_of_mem_replicate hx]; omega
theorem sl_z32 (w : World) : Sl (w.alloc (.cells (bys z32).toArray 5)) (w.heap.size + 1) (some ⟨w.heap.size, 0, none⟩) z32 := by
  have := (Bk.new w 5 z32 rfl).sl z32_bb 0 32
  rw [World.size_alloc] at this
  exact this
theorem bel_alloc {w : World} {B : Nat} (h : B ≤ w.heap.size) (o : Obj) : Below B w (w.alloc o) := (Below.refl B w).alloc h o
/-- A Write of noughts just made, that the fuse lets through. -/
theorem ans_w1 (p g n : Nat) (L : List Nat) (lf wr k B : Nat) (kk : Int) (hkk : kk = (k : Int)) (w : World) (h : Dk w p g n L false true (lf + 1) wr) (hk : k < n) (hw : wr < 4611686018427387904) (hlf : lf < 9223372036854775807) (hBp : B ≤ p) (hBg : B ≤ g) :
    Calls Try.prog 12 #[.pointer (some ⟨p, 0, none⟩), .int .i64 kk, .slice (some ⟨w.heap.size, 0, none⟩) 32 32] (w.alloc (.cells (bys z32).toArray 5)) fun e w' => e = .returned (.int .i64 0) ∧ (∃ L', Dk w' p g n L' false true lf (wr + 1)) ∧ Below B w w' := by
  subst hkk
  have hp := h.plt
  have hg := h.glt
  have h1 : Dk (w.alloc (.cells (bys z32).toArray 5)) p g n L false true (lf + 1) wr := Bxs.below h (bel_alloc (Nat.le_refl _) _) (Nat.le_refl _)
  refine (dwrite_fuse p g n L lf wr k (some ⟨w.heap.size, 0, none⟩) 32 _ z32 _ h1 hk (sl_z32 w) (by intro o e; injection e with e; injection e with e; omega) z32_len hw hlf).mono ?_
  rintro e w' ⟨h2, h3, h4⟩
  exact ⟨h2, ⟨_, h3⟩, (bel_alloc (by omega) _).trans (h4.below (by rw [World.size_alloc]; omega) hBp hBg)⟩
/-- A Write of noughts just made, at which the power goes. -/
theorem ans_w2 (p g n : Nat) (L : List Nat) (dn : Bool) (wr k B : Nat) (kk : Int) (hkk : kk = (k : Int)) (w : World) (h : Dk w p g n L dn true 0 wr) (hk : k < n) (hBp : B ≤ p) (hBg : B ≤ g) :
    Calls Try.prog 12 #[.pointer (some ⟨p, 0, none⟩), .int .i64 kk, .slice (some ⟨w.heap.size, 0, none⟩) 32 32] (w.alloc (.cells (bys z32).toArray 5)) fun e w' => e = .returned (.int .i64 3) ∧ Dk w' p g n L true true 0 wr ∧ Below B w w' := by
  subst hkk
  have hp := h.plt
  have hg := h.glt
  have h1 : Dk (w.alloc (.cells (bys z32).toArray 5)) p g n L dn true 0 wr := Bxs.below h (bel_alloc (Nat.le_refl _) _) (Nat.le_refl _)
  refine (dwrite_goes p g n L dn wr k (some ⟨w.heap.size, 0, none⟩) 32 _ h1 hk).mono ?_
  rintro e w' ⟨h2, h3, h4⟩
  exact ⟨h2, h3, (bel_alloc (by omega) _).trans (h4.below (by rw [World.size_alloc]; omega) hBp hBg)⟩
set_option maxRecDepth 100000 in
set_option maxHeartbeats 1000000 in
theorem answers_any (w : World) : Calls Try.prog 10 #[] w fun e w' => e = .returned (.bool true) ∧ Below w.heap.size w w' := by
  have hmz := made_z
  go_enter Try.func10, Try.ntmps10
  go_wp2_with fail
  refine (dnew_m 2 2 rfl (by omega) w).mono ?_
  rintro e w1 ⟨p, g, L, rfl, hd1, -, hp, hg, hb1⟩
  have HP := Lib.hid hp
  have HG := Lib.hid hg
  have HB1 := Lib.hid hb1
  have HF := Lib.hid (dfuse_any p g 2 L false false 0 0 1 w1 hd1)
  clear hd1 hp hg hb1
  go_wp2_with fail
  refine HF.out.mono ?_
  rintro e w2 ⟨rfl, hd2, hk2⟩
  have HB2 := Lib.hid (HB1.out.trans (hk2.below HB1.out.size HP.out HG.out))
  have HW := Lib.hid (ans_w1 p g 2 L 0 0 1 w.heap.size 1 rfl w2 hd2 (by omega) (by omega) (by omega) HP.out HG.out)
  clear hd2 hk2 HF HB1
  go_wp2_with fail
  refine HW.out.mono ?_
  rintro e w3 ⟨rfl, ⟨L3, hd3⟩, hb3⟩
  have HB3 := Lib.hid (HB2.out.trans hb3)
  have HW2 := Lib.hid (ans_w2 p g 2 L3 false 1 1 w.heap.size 1 rfl w3 hd3 (by omega) HP.out HG.out)
  clear hd3 hb3 HW HB2
  go_wp2_with fail
  refine HW2.out.mono ?_
  rintro e w4 ⟨rfl, hd4, hb4⟩
  have HB4 := Lib.hid (HB3.out.trans hb4)
  have HR := Lib.hid (dread_yes p g 2 L3 true true 0 1 1 w4 hd4 (by omega))
  have HD4 := Lib.hid hd4
  clear hd4 hb4 HW2 HB3
  go_wp2_with fail
  refine HR.out.mono ?_
  rintro e w5 ⟨r, rfl, -, -, hb5⟩
  have hd5 := Bxs.below HD4.out hb5 (Nat.le_refl _)
  have HB5 := Lib.hid (HB4.out.trans (hb5.mono HB4.out.size))
  have HL := Lib.hid (dlen_any p g 2 L3 true true 0 1 w5 hd5)
  have HDN := Lib.hid (ddown_any p g 2 L3 true true 0 1 w5 hd5)
  have HWR := Lib.hid (dwrites_any p g 2 L3 true true 0 1 w5 hd5)
  clear hd5 hb5 HR HB4 HD4
  go_wp2_with fail
  refine HL.out.mono ?_
  rintro e w6 ⟨rfl, rfl⟩
  go_wp2_with fail
  refine HDN.out.mono ?_
  rintro e w7 ⟨rfl, rfl⟩
  go_wp2_with fail
  refine HWR.out.mono ?_
  rintro e w8 ⟨rfl, rfl⟩
  go_wp2
  go_ret
  exact ⟨rfl, HB5.out⟩
end Go.Proofs.Ytcbgpichkjcgnaa
