/- The program's slot: its box over its disk; takes, room, first, New, Fuse, Down, Disk; nil ones. -/
import Derived.Test.YtijbpafmokbnaaaSkh
import Derived.Test.YtijbpafmokbnaaaSkn
namespace Go.Proofs.Ytijbpafmokbnaaa
open Go.RowKit Go.Shelf Gw Pol
/-- The program's slot at a: its disk is p, g. -/
def Sz (w : World) (a p g r : Nat) (L : List Nat) (s : Pw) : Prop := w.heap[a]? = some (.cells #[.pointer (some ⟨p, 0, none⟩)] 51 (0, 0)) ∧ Dz w p g (1 + 2 * r) L s ∧ a ≠ p ∧ a ≠ g
section
variable {w w' : World} {a p g r : Nat} {L : List Nat} {s : Pw}
theorem Sz.alt (h : Sz w a p g r L s) : a < w.heap.size := (Array.getElem?_eq_some_iff.1 h.1).1
theorem Sz.below {B : Nat} (h : Sz w a p g r L s) (hb : Below B w w') (hB : w.heap.size ≤ B) : Sz w' a p g r L s :=
  ⟨(hb.block a (by have := h.alt; omega)).trans h.1, h.2.1.below hb hB, h.2.2⟩
theorem Sz.k2 {q k : Nat} (h : Sz w a p g r L s) (hk : K2 w w' q k) (h1 : a ≠ q ∧ p ≠ q ∧ g ≠ q) (h2 : a ≠ k ∧ p ≠ k ∧ g ≠ k) : Sz w' a p g r L s :=
  ⟨(hk.block a h.alt h1.1 h2.1).trans h.1, h.2.1.k2 hk h1.2.1 h2.2.1 h1.2.2 h2.2.2, h.2.2⟩
theorem Sz.drewN (h : Sz w a p g r L s) (n : Nat) : Sz (w.drewN n) a p g r L s := ⟨h.1, h.2.1.drewN n, h.2.2⟩
theorem Sz.lt (h : Sz w a p g r L s) : a < w.heap.size ∧ p < w.heap.size ∧ g < w.heap.size ∧ s.fit := ⟨h.alt, h.2.1.plt, h.2.1.glt, h.2.1.fit⟩
theorem Sz.dz (h : Sz w a p g r L s) : Dz w p g (1 + 2 * r) L s := h.2.1
theorem Sz.cell (h : Sz w a p g r L s) : w.cell? ⟨a, 0, none⟩ = some (.pointer (some ⟨p, 0, none⟩)) := by
  rw [cell_of_row w a 0 _ _ (0, 0) h.1]; rfl
/-- Its disk was turned. -/
theorem Sz.turned {L' : List Nat} {s' : Pw} (h : Sz w a p g r L s) (hk : K2 w w' p g) (hd : Dz w' p g (1 + 2 * r) L' s') : Sz w' a p g r L' s' :=
  ⟨(hk.block a h.alt h.2.2.1 h.2.2.2).trans h.1, hd, h.2.2⟩
theorem Sz.few (h : Sz w a p g r L s) : r ≤ 1023 := by have := h.2.1.few; omega
theorem Sz.grown (h : Sz w a p g r L s) {row : Option Nat} (hg : w.grownBy w' row) (hr : ∀ k, row = some k → k ≠ a ∧ k ≠ p ∧ k ≠ g) : Sz w' a p g r L s := by
  have hne : ∀ b, b < w.heap.size → (∀ k, row = some k → k ≠ b) → w'.heap[b]? = w.heap[b]? := fun b hb h => hg.block b hb (fun e => h b e.symm rfl)
  obtain ⟨fu, lf, hd, hz, hl⟩ := h.2.1
  exact ⟨(hne a h.alt (fun k e => (hr k e).1)).trans h.1, ⟨fu, lf, Bxs.keep hd (hne p (Bxs.plt hd) (fun k e => (hr k e).2.1)) (hne g (Bxs.glt hd) (fun k e => (hr k e).2.2)), hz, hl⟩, h.2.2⟩
theorem bys_inj {l l' : List Nat} (h : bys l = bys l') : l = l' := by
  apply List.ext_getElem?
  intro i
  have h1 : (bys l)[i]? = (bys l')[i]? := by rw [h]
  unfold bys at h1
  rw [List.getElem?_map, List.getElem?_map] at h1
  cases e1 : l[i]? with
  | none => cases e2 : l'[i]? with
    | none => rfl
    | some y => rw [e1, e2] at h1; cases h1
  | some x => cases e2 : l'[i]? with
    | none => rw [e1, e2] at h1; cases h1
    | some y =>
      rw [e1, e2] at h1
      simp only [Option.map_some] at h1
      injection h1 with h1
      injection h1 with _ h1
      have : x = y := by omega
      rw [this]
/-- What a disk holds is one thing. -/
theorem Sz.one {L' : List Nat} {s' : Pw} (h : Sz w a p g r L s) (h' : Sz w a p g r L' s') : L = L' := by
  obtain ⟨_, _, hd, _⟩ := h.2.1
  obtain ⟨_, _, hd', _⟩ := h'.2.1
  have h1 : w.heap[g]? = some (.cells (bys L).toArray _ (0, 0)) := hd.row
  have h2 : w.heap[g]? = some (.cells (bys L').toArray _ (0, 0)) := hd'.row
  rw [h1] at h2
  injection h2 with h2
  injection h2 with h2
  exact bys_inj (by simpa using h2)
end
theorem ztakes_any (n : Nat) (hn : n ≤ 4611686018427387904) (w : World) : Calls Try.prog 37 #[.int .i64 (n : Int)] w fun e w' => e = .returned (.int .i64 (tk n : Int)) ∧ w' = w := by
  have HT := Lib.hid (show ((n : Int) + 32 - 1) / 32 = (tk n : Int) by unfold tk; omega)
  have hp : (0 : Int) ≤ (n : Int) + 32 - 1 := by omega
  go_enter Try.func37, Try.ntmps37
  go_wp2
  go_ret
  refine ⟨?_, rfl⟩
  rw [← HT.out]
  rfl
theorem zroom_any (a p g r : Nat) (L : List Nat) (s : Pw) (w : World) (h : Sz w a p g r L s) : Calls Try.prog 27 #[.pointer (some ⟨a, 0, none⟩)] w fun e w' => e = .returned (.int .i64 (r : Int)) ∧ w' = w := by
  have c0 := h.cell
  have HL := Lib.hid (dz_len p g (1 + 2 * r) L s w h.dz)
  obtain ⟨n, hn⟩ : ∃ n, n = 1 + 2 * r := ⟨_, rfl⟩
  rw [← hn] at HL
  have hr := h.few
  have HT := Lib.hid (show ((n : Int) - 1) / 2 = (r : Int) by omega)
  have hp : (0 : Int) ≤ (n : Int) - 1 := by omega
  have hp2 : (n : Int) - 1 ≤ 4096 := by omega
  clear h hn hr
  go_enter Try.func27, Try.ntmps27
  go_wp2_with fail
  refine HL.out.mono ?_
  rintro e w' ⟨rfl, rfl⟩
  go_wp2
  go_ret
  refine ⟨?_, rfl⟩
  rw [← HT.out]
  rfl
theorem zfirst_any (a p g r side : Nat) (L : List Nat) (s : Pw) (w : World) (h : Sz w a p g r L s) (h2 : side ≤ 1) : Calls Try.prog 34 #[.pointer (some ⟨a, 0, none⟩), .int .i64 (side : Int)] w fun e w' => e = .returned (.int .i64 ((1 + side * r : Nat) : Int)) ∧ w' = w := by
  have HL := Lib.hid (zroom_any a p g r L s w h)
  have hr := h.few
  clear h
  obtain ⟨z, hz⟩ : ∃ z, z = side * r := ⟨_, rfl⟩
  have hzr : z ≤ r := by rw [hz]; rcases (by omega : side = 0 ∨ side = 1) with e | e <;> rw [e] <;> omega
  have hw : IntKind.i64.wrap ((side : Int) * (r : Int)) = (z : Int) := by
    rw [IntKind.wrap_i64]
    have : (side : Int) * (r : Int) = (z : Int) := by rw [hz]; push_cast; rfl
    rw [this]; omega
  rw [← hz]
  clear hz h2
  go_enter Try.func34, Try.ntmps34
  go_wp2_with fail
  refine HL.out.mono ?_
  rintro e w' ⟨rfl, rfl⟩
  go_wp2
  go_ret
  exact ⟨by go_num, rfl⟩
theorem znew_end (x : Int) (r : Nat) (hr : r = min x.toNat 512) (p g : Nat) (L : List Nat) (w w' : World) (hd : Dz w' p g (1 + 2 * r) L ⟨-1, false, 0⟩) (hL : L = List.replicate (32 * (1 + 2 * r)) 0) (hp : w.heap.size ≤ p) (hg : w.heap.size ≤ g) (hb : Below w.heap.size w w') :
    ∃ a p' g' L' r', Value.pointer (some ⟨w'.heap.size, 0, none⟩) = .pointer (some ⟨a, 0, none⟩) ∧ Sz (w'.alloc (.cells #[.pointer (some ⟨p, 0, none⟩)] 51)) a p' g' r' L' ⟨-1, false, 0⟩ ∧ r' = min x.toNat 512 ∧ Sd r' L' 0 [] ∧ Cl r' L' 0 ∧ w.heap.size ≤ a ∧ w.heap.size ≤ p' ∧ w.heap.size ≤ g' ∧ Below w.heap.size w (w'.alloc (.cells #[.pointer (some ⟨p, 0, none⟩)] 51)) := by
  obtain ⟨n1, n2⟩ := Sd.new r (by omega)
  rw [← hL] at n1 n2
  have hbl : Below w'.heap.size w' (w'.alloc (.cells #[.pointer (some ⟨p, 0, none⟩)] 51)) := (Below.refl _ w').alloc (Nat.le_refl _) _
  refine ⟨w'.heap.size, p, g, L, r, rfl, ⟨World.alloc_heap_new w' _, hd.below hbl (Nat.le_refl _), ?_, ?_⟩, hr, n1, n2, hb.size, hp, hg, hb.trans (hbl.mono hb.size)⟩
  · have := hd.plt; omega
  · have := hd.glt; omega
theorem znew_any (x : Int) (w : World) : Calls Try.prog 8 #[.int .i64 x] w fun e w' => ∃ a p g L r, e = .returned (.pointer (some ⟨a, 0, none⟩)) ∧ Sz w' a p g r L ⟨-1, false, 0⟩ ∧ r = min x.toNat 512 ∧ Sd r L 0 [] ∧ Cl r L 0 ∧ w.heap.size ≤ a ∧ w.heap.size ≤ p ∧ w.heap.size ≤ g ∧ Below w.heap.size w w' := by
  obtain ⟨r, hr⟩ : ∃ r, r = min x.toNat 512 := ⟨_, rfl⟩
  have HN := Lib.hid (fun (V : Int) (hV : V = ((1 + 2 * r : Nat) : Int)) => dz_new V (1 + 2 * r) hV (by omega) w)
  have HR := Lib.hid hr
  by_cases h0 : x < 0
  · have hx : x ≤ 0 := by omega
    obtain rfl : r = 0 := by omega
    clear hr
    go_enter Try.func8, Try.ntmps8
    go_wp2_with fail
    refine (HN.out _ (by omega)).mono ?_
    rintro e w' ⟨p, g, L, rfl, hd, hL, hp, hg, hb⟩
    go_wp2
    go_ret
    obtain ⟨a, p', g', L', r', h1, h2⟩ := znew_end x _ HR.out p g L w w' hd hL hp hg hb
    exact ⟨a, p', g', L', r', congrArg Ending.returned h1, h2⟩
  · by_cases h1 : x ≤ 512
    · have hx : (0 : Int) ≤ x := by omega
      have h5 : ¬ 512 < x := by omega
      have hx1 : x = (r : Int) := by omega
      subst hx1
      clear hr
      go_enter Try.func8, Try.ntmps8
      go_wp2_with fail
      refine (HN.out _ (by omega)).mono ?_
      rintro e w' ⟨p, g, L, rfl, hd, hL, hp, hg, hb⟩
      go_wp2
      go_ret
      obtain ⟨a, p', g', L', r', h1, h2⟩ := znew_end _ _ HR.out p g L w w' hd hL hp hg hb
      exact ⟨a, p', g', L', r', congrArg Ending.returned h1, h2⟩
    · have hx : (0 : Int) ≤ x := by omega
      have h5 : 512 ≤ x := by omega
      obtain rfl : r = 512 := by omega
      clear hr
      go_enter Try.func8, Try.ntmps8
      go_wp2_with fail
      refine (HN.out _ (by omega)).mono ?_
      rintro e w' ⟨p, g, L, rfl, hd, hL, hp, hg, hb⟩
      go_wp2
      go_ret
      obtain ⟨a, p', g', L', r', h1, h2⟩ := znew_end x _ HR.out p g L w w' hd hL hp hg hb
      exact ⟨a, p', g', L', r', congrArg Ending.returned h1, h2⟩
theorem zfuse_any (a p g r : Nat) (L : List Nat) (s : Pw) (x : Int) (w : World) (h : Sz w a p g r L s) (hx : x < 9223372036854775808) :
    Calls Try.prog 14 #[.pointer (some ⟨a, 0, none⟩), .int .i64 x] w fun e w' => e = .returned (.tuple #[]) ∧ Sz w' a p g r L ⟨(x.toNat : Int), s.gone, s.u⟩ ∧ K3 w w' a p g := by
  have c0 := h.cell
  have HF := Lib.hid (dz_fuse p g (1 + 2 * r) L s x w h.dz hx)
  have HH := Lib.hid h
  clear h hx
  go_enter Try.func14, Try.ntmps14
  go_wp2_with fail
  refine HF.out.mono ?_
  rintro e w' ⟨rfl, hd, hk⟩
  go_wp2
  go_end0
  exact ⟨rfl, HH.out.turned hk hd, K3.of2 hk⟩
theorem zdown_any (a p g r : Nat) (L : List Nat) (s : Pw) (w : World) (h : Sz w a p g r L s) :
    Calls Try.prog 17 #[.pointer (some ⟨a, 0, none⟩)] w fun e w' => e = .returned (.bool s.gone) ∧ w' = w := by
  have c0 := h.cell
  have HF := Lib.hid (dz_down p g (1 + 2 * r) L s w h.dz)
  clear h
  go_enter Try.func17, Try.ntmps17
  go_wp2_with fail
  refine HF.out.mono ?_
  rintro e w' ⟨rfl, rfl⟩
  go_wp2
  go_ret
  exact ⟨rfl, rfl⟩
theorem zdisk_any (a p g r : Nat) (L : List Nat) (s : Pw) (w : World) (h : Sz w a p g r L s) :
    Calls Try.prog 18 #[.pointer (some ⟨a, 0, none⟩)] w fun e w' => e = .returned (.pointer (some ⟨p, 0, none⟩)) ∧ w' = w := by
  have c0 := h.cell
  clear h
  go_enter Try.func18, Try.ntmps18
  go_wp2
  go_ret
  exact ⟨rfl, rfl⟩
set_option maxRecDepth 100000
theorem zsave_none (A : Option Addr) (m c : Nat) (w : World) : Calls Try.prog 12 #[.pointer none, .slice A m c] w fun e w' => e = .returned (.int .i64 1) ∧ w' = w := by
  go_enter Try.func12, Try.ntmps12
  go_wp2
  go_ret
  exact ⟨rfl, rfl⟩
theorem zfuse_none (x : Int) (w : World) : Calls Try.prog 14 #[.pointer none, .int .i64 x] w fun e w' => e = .returned (.tuple #[]) ∧ w' = w := by
  go_enter Try.func14, Try.ntmps14
  go_wp2
  refine bodyPost_ret (results_none rfl _ _ _) rfl ?_
  exact ⟨rfl, rfl⟩
theorem zdown_none (w : World) : Calls Try.prog 17 #[.pointer none] w fun e w' => e = .returned (.bool false) ∧ w' = w := by
  go_enter Try.func17, Try.ntmps17
  go_wp2
  go_ret
  exact ⟨rfl, rfl⟩
theorem zclean_none (w : World) : Calls Try.prog 20 #[.pointer none] w fun e w' => e = .returned (.bool false) ∧ w' = w := by
  go_enter Try.func20, Try.ntmps20
  go_wp2
  go_ret
  exact ⟨rfl, rfl⟩
theorem zturn_none (x : Int) (y : Nat) (w : World) : Calls Try.prog 15 #[.pointer none, .int .i64 x, .int .u8 (y : Int)] w fun e w' => e = .returned (.bool false) ∧ w' = w := by
  go_enter Try.func15, Try.ntmps15
  go_wp2
  go_ret
  exact ⟨rfl, rfl⟩
theorem zdisk_none (w : World) : Calls Try.prog 18 #[.pointer none] w fun e w' => e = .returned (.pointer none) ∧ w' = w := by
  go_enter Try.func18, Try.ntmps18
  go_wp2
  go_ret
  exact ⟨rfl, rfl⟩
theorem zload_none (w : World) : Calls Try.prog 16 #[.pointer none] w fun e w' => ∃ A c, e = .returned (.slice A 0 c) ∧ Below w.heap.size w w' := by
  go_enter Try.func16, Try.ntmps16
  go_wp2
  go_ret
  exact ⟨none, 0, rfl, Below.refl _ _⟩
theorem zstart_none (w : World) : Calls Try.prog 13 #[.pointer none] w fun e w' => e = .returned (.tuple #[]) ∧ Below w.heap.size w w' := by
  go_enter Try.func13, Try.ntmps13
  go_wp2
  refine bodyPost_ret (results_none rfl _ _ _) rfl ?_
  exact ⟨rfl, (Below.refl _ _).alloc (Nat.le_refl _) _⟩
end Go.Proofs.Ytijbpafmokbnaaa
