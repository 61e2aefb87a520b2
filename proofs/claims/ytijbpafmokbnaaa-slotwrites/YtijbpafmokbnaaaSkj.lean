/- What the statements' own answers does: it returns true. -/
import Derived.Test.YtijbpafmokbnaaaSki
namespace Go.Proofs.Ytijbpafmokbnaaa
open Go.RowKit Go.Shelf Gw Pol
def L12 : List Nat := [1, 2]
def L3' : List Nat := [3]
theorem in_12 (w : World) : In (w.alloc (.cells #[.int .u8 1, .int .u8 2] 5)) (w.heap.size + 1) (some ⟨w.heap.size, 0, none⟩) 2 L12 := ⟨Sl.two w _ 1 2 (by omega) (by omega), Nat.le_refl _, fun e => by cases e⟩
theorem in_3 (w : World) : In (w.alloc (.cells #[.int .u8 3] 5)) (w.heap.size + 1) (some ⟨w.heap.size, 0, none⟩) 1 L3' := ⟨Sl.one w _ 3 (by omega), Nat.le_refl _, fun e => by cases e⟩
theorem fresh_blk {w : World} {a p g : Nat} (h : a < w.heap.size ∧ p < w.heap.size ∧ g < w.heap.size) (o : Nat) : (some (⟨w.heap.size, 0, none⟩ : Addr)) ≠ some ⟨a, o, none⟩ ∧ (some (⟨w.heap.size, 0, none⟩ : Addr)) ≠ some ⟨p, o, none⟩ ∧ (some (⟨w.heap.size, 0, none⟩ : Addr)) ≠ some ⟨g, o, none⟩ := by
  refine ⟨fun e => ?_, fun e => ?_, fun e => ?_⟩ <;> (injection e with e; injection e with e; omega)
theorem bel_al {w : World} {B : Nat} (h : B ≤ w.heap.size) (o : Obj) : Below B w (w.alloc o) := (Below.refl B w).alloc h o
theorem ans_1 (a p g B : Nat) (w : World) (h : Sq w a p g 2 ⟨-1, false, 0⟩ []) (h1 : B ≤ a) (h2 : B ≤ p) (h3 : B ≤ g) :
    Calls Try.prog 12 #[.pointer (some ⟨a, 0, none⟩), .slice (some ⟨w.heap.size, 0, none⟩) 2 2] (w.alloc (.cells #[.int .u8 1, .int .u8 2] 5)) fun e w' => e = .returned (.int .i64 0) ∧ Sq w' a p g 2 ⟨-1, false, 2⟩ L12 ∧ Below B w w' := by
  have hlt := h.lt
  have ha : Sq (w.alloc (.cells #[.int .u8 1, .int .u8 2] 5)) a p g 2 ⟨-1, false, 0⟩ [] := h.below (bel_al (Nat.le_refl _) _) (Nat.le_refl _)
  refine (sq_save a p g 2 _ [] L12 ⟨-1, false, 0⟩ (some ⟨w.heap.size, 0, none⟩) 2 2 _ ha (in_12 w) (fun o _ => fresh_blk ⟨hlt.1, hlt.2.1, hlt.2.2.1⟩ o) rfl (by decide) (by show (0 : Nat) < _; omega)).mono ?_
  rintro e w' ⟨hk, hh⟩
  have hb : Below B w w' := (bel_al (by omega) _).trans (hk.below (by rw [World.size_alloc]; omega) h1 h2 h3)
  rcases hh with ⟨h0, _⟩ | ⟨_, he, hq⟩
  · exact absurd h0 (by decide)
  · exact ⟨he, hq, hb⟩
theorem ans_2 (a p g B : Nat) (w : World) (h : Sq w a p g 2 ⟨1, false, 2⟩ L12) (h1 : B ≤ a) (h2 : B ≤ p) (h3 : B ≤ g) :
    Calls Try.prog 12 #[.pointer (some ⟨a, 0, none⟩), .slice (some ⟨w.heap.size, 0, none⟩) 1 1] (w.alloc (.cells #[.int .u8 3] 5)) fun e w' => e = .returned (.int .i64 3) ∧ Sq w' a p g 2 ⟨0, true, 3⟩ L12 ∧ Below B w w' := by
  have hlt := h.lt
  have ha : Sq (w.alloc (.cells #[.int .u8 3] 5)) a p g 2 ⟨1, false, 2⟩ L12 := h.below (bel_al (Nat.le_refl _) _) (Nat.le_refl _)
  refine (sq_save a p g 2 _ L12 L3' ⟨1, false, 2⟩ (some ⟨w.heap.size, 0, none⟩) 1 1 _ ha (in_3 w) (fun o _ => fresh_blk ⟨hlt.1, hlt.2.1, hlt.2.2.1⟩ o) rfl (by decide) (by show (2 : Nat) < _; omega)).mono ?_
  rintro e w' ⟨hk, hh⟩
  have hb : Below B w w' := (bel_al (by omega) _).trans (hk.below (by rw [World.size_alloc]; omega) h1 h2 h3)
  rcases hh with ⟨_, he, hq⟩ | ⟨h0, _⟩
  · exact ⟨he, hq, hb⟩
  · exact absurd h0 (by decide)
theorem str12 : str L12 = { data := #[1, 2] } := by decide +kernel
/-- What is loaded, as a string. -/
theorem conv_load {w : World} {A : Option Addr} {c n : Nat} {K : List Nat} (h : In w w.heap.size A c K) (hn : n = K.length) : (convert 28 9 (.slice A n c)).run Try.prog w = .ok (.string (str K)) w := by
  subst hn
  exact conv_sl (P := Try.prog) h.sl Try.underlying28 Try.underlying5 Try.underlying9 c
set_option maxRecDepth 100000 in
set_option maxHeartbeats 1000000 in
theorem answers_any (w : World) : Calls Try.prog 10 #[] w fun e w' => e = .returned (.bool true) ∧ Below w.heap.size w w' := by
  go_enter Try.func10, Try.ntmps10
  go_wp2_with fail
  refine (sq_new 2 2 rfl w).mono ?_
  rintro e w1 ⟨a, p, g, rfl, hq, ha, hp, hg, hb1⟩
  have HA := Lib.hid ha
  have HP := Lib.hid hp
  have HG := Lib.hid hg
  have HB1 := Lib.hid hb1
  have HS := Lib.hid (ans_1 a p g w.heap.size w1 hq ha hp hg)
  clear hq ha hp hg hb1
  go_wp2_with fail
  refine HS.out.mono ?_
  rintro e w2 ⟨rfl, hq, hb2⟩
  have HB2 := Lib.hid (HB1.out.trans hb2)
  have HF := Lib.hid (sq_fuse a p g 2 L12 ⟨-1, false, 2⟩ 1 w2 hq (by omega))
  clear hq hb2 HS HB1
  go_wp2_with fail
  refine HF.out.mono ?_
  rintro e w3 ⟨rfl, hq, hk3⟩
  have HB3 := Lib.hid (HB2.out.trans (hk3.below HB2.out.size HA.out HP.out HG.out))
  have HS := Lib.hid (ans_2 a p g w.heap.size w3 hq HA.out HP.out HG.out)
  clear hq hk3 HF HB2
  go_wp2_with fail
  refine HS.out.mono ?_
  rintro e w4 ⟨rfl, hq, hb4⟩
  have HB4 := Lib.hid (HB3.out.trans hb4)
  have HQ4 := Lib.hid hq
  have HL := Lib.hid (sq_load a p g 2 L12 ⟨0, true, 3⟩ w4 hq)
  clear hq hb4 HS HB3
  go_wp2_with fail
  refine HL.out.mono ?_
  rintro e w5 ⟨A5, c5, rfl, hi5, hb5⟩
  obtain ⟨n5, hn5⟩ : ∃ n5, n5 = L12.length := ⟨_, rfl⟩
  rw [← hn5]
  have hcv := conv_load hi5 hn5
  rw [str12] at hcv
  have hq5 : Sq w5 a p g 2 ⟨0, true, 3⟩ L12 := HQ4.out.below hb5 (Nat.le_refl _)
  have HB5 := Lib.hid (HB4.out.trans (hb5.mono HB4.out.size))
  have HST := Lib.hid (sq_start a p g 2 L12 ⟨0, true, 3⟩ w5 hq5 (by show (3 : Nat) < _; omega))
  clear hi5 hb5 hn5 hq5 HL HB4 HQ4
  go_wp2_with fail
  refine HST.out.mono ?_
  rintro e w6 ⟨u6, rfl, hq, -, hk6⟩
  have HB6 := Lib.hid (HB5.out.trans (hk6.below HB5.out.size HA.out HP.out HG.out))
  have HQ6 := Lib.hid hq
  have HDN := Lib.hid (sq_down a p g 2 L12 ⟨-1, false, u6⟩ w6 hq)
  have HCL := Lib.hid (sq_clean a p g 2 L12 ⟨-1, false, u6⟩ w6 hq rfl)
  clear hq hk6 HST HB5 hcv
  go_wp2_with fail
  refine HDN.out.mono ?_
  rintro e w7 ⟨rfl, rfl⟩
  go_wp2_with fail
  refine HCL.out.mono ?_
  rintro e w8 ⟨rfl, hb8⟩
  have hq8 : Sq w8 a p g 2 ⟨-1, false, u6⟩ L12 := HQ6.out.below hb8 (Nat.le_refl _)
  have HB8 := Lib.hid (HB6.out.trans (hb8.mono HB6.out.size))
  have HL := Lib.hid (sq_load a p g 2 L12 ⟨-1, false, u6⟩ w8 hq8)
  clear hb8 hq8 HDN HCL HQ6 HB6
  go_wp2_with fail
  refine HL.out.mono ?_
  rintro e w9 ⟨A9, c9, rfl, hi9, hb9⟩
  obtain ⟨n9, hn9⟩ : ∃ n9, n9 = L12.length := ⟨_, rfl⟩
  rw [← hn9]
  have hcv := conv_load hi9 hn9
  rw [str12] at hcv
  have HB9 := Lib.hid (HB8.out.trans (hb9.mono HB8.out.size))
  clear hi9 hb9 hn9 HL HB8
  go_wp2
  go_ret
  exact ⟨rfl, HB9.out⟩
end Go.Proofs.Ytijbpafmokbnaaa
