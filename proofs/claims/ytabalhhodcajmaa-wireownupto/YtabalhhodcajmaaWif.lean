/- What the definition's Msg does: a message's bytes, part by part. -/
import Derived.BigQuiet
import Derived.Test.YtabalhhodcajmaaWie
namespace Gw
open Go Go.RowKit Go.Shelf Pol
/-- The eight parts that the definition puts. -/
def bp (m : Mg) : Nat → List Tk
  | 0 => tkZ [m.kd, m.fr, m.to, m.se, m.de, m.cm, m.ep]
  | 1 => tkHs m.hs
  | 2 => [.l m.id]
  | 3 => tkZ [m.sz, m.so, m.ta]
  | 4 => tkL m.ds
  | 5 => tkL m.ps
  | 6 => tkZ [m.co]
  | 7 => [.l m.da]
  | _ => []
theorem bp_all (m : Mg) : accP (bp m) 8 = m.tk := by
  simp [accP, bp, Mg.tk, tkZ]
/-- The book behind k parts. -/
def bs (m : Mg) (k : Nat) : List Nat × Bool := bkT [] false (accP (bp m) k)
theorem bs_step (m : Mg) (k : Nat) : bkT (bs m k).1 (bs m k).2 (bp m k) = bs m (k + 1) := by
  unfold bs; rw [accP, bkT_app]
theorem bs_room (m : Mg) {k : Nat} (hk : k < 8) : (bs m k).1.length + szT (bp m k) ≤ m.sz' := by
  have h1 := bkT_len (accP (bp m) k) [] false
  have h2 := accP_step (bp m) k
  have h3 := accP_le (bp m) (show k + 1 ≤ 8 by omega)
  rw [bp_all] at h3
  have h4 : (bs m k).1.length ≤ 0 + szT (accP (bp m) k) := h1
  show _ ≤ szT m.tk
  omega
theorem bs_flag (m : Mg) : (bs m 8).2 = !m.ok := by
  unfold bs
  rw [bp_all, bkT_flag]
  simp [Mg.ok]
theorem bs_row (m : Mg) (h : m.ok = true) : (bs m 8).1 = m.en := by
  unfold bs
  rw [bp_all, bkT_eq _ _ _ h]
  rfl
/-- Behind k parts: the message's box q, the book p, its row's block g. -/
structure Bst (w0 w : World) (p g q : Nat) (m : Mg) (a : Ma) (k : Nat) : Prop where
  bx : Bx w p g (bs m k).1 (bs m k).2
  box : MBox w q m a
  mg : MgIn w w0.heap.size m a
  ord : w0.heap.size ≤ q ∧ q < p ∧ p < w.heap.size ∧ p ≤ g
  bel : Below w0.heap.size w0 w
theorem Bst.step {w0 w w' : World} {p g g' q k : Nat} {m : Mg} {a : Ma} (h : Bst w0 w p g q m a k) (hb : Bx w' p g' (bs m (k + 1)).1 (bs m (k + 1)).2) (hg : g' = g ∨ w.heap.size ≤ g') (hk : K2 w w' p g) : Bst w0 w' p g' q m a (k + 1) := by
  obtain ⟨h1, h2, h3, h4⟩ := h.ord
  have hs := hk.size
  have hB : Below w0.heap.size w w' := hk.below (by omega) (by omega) (by omega)
  exact ⟨hb, h.box.keep (hk.block q (by omega) (by omega) (by omega)), h.mg.below hB, by omega, h.bel.trans hB⟩
theorem Bst.below {w0 w w' : World} {p g q k : Nat} {m : Mg} {a : Ma} (h : Bst w0 w p g q m a k) (hb : Below w.heap.size w w') : Bst w0 w' p g q m a k := by
  obtain ⟨h1, h2, h3, h4⟩ := h.ord
  have hs := hb.size
  exact ⟨h.bx.below hb (Nat.le_refl _), h.box.keep (hb.block q (by omega)), h.mg.below (hb.mono (by omega)), by omega, h.bel.trans (hb.mono (by omega))⟩
end Gw
namespace Go.Proofs.Ytabalhhodcajmaa
open Go.RowKit Go.Shelf Gw Pol
section
variable {w0 w : World} {p g q : Nat} {m : Mg} {a : Ma}
theorem Bst.lit0 (h : Bst w0 w p g q m a 0) (hl : m.sz' ≤ 140737488355326) : Calls Try.prog 21 #[.pointer (some ⟨p, 0, none⟩), .slice (some ⟨w.heap.size, 0, none⟩) 7 7] (w.alloc (.cells #[.int .i64 m.kd, .int .i64 m.fr, .int .i64 m.to, .int .i64 m.se, .int .i64 m.de, .int .i64 m.cm, .int .i64 m.ep] 3)) fun e w' => e = .returned (.tuple #[]) ∧ ∃ g', Bst w0 w' p g' q m a 1 := by
  have hr : (bs m 0).1.length + szT (tkZ [m.kd, m.fr, m.to, m.se, m.de, m.cm, m.ep]) ≤ m.sz' := bs_room m (k := 0) (by omega)
  rw [szZ] at hr
  refine (bput_lit p g (bs m 0).1 (bs m 0).2 7 [m.kd, m.fr, m.to, m.se, m.de, m.cm, m.ep] 3 w h.bx rfl (fun x hx => h.mg.wf x (show x ∈ [m.kd, m.fr, m.to, m.se, m.de, m.cm, m.ep] ++ [m.sz, m.so, m.ta, m.co] from List.mem_append_left _ hx)) (by omega)).mono ?_
  rintro e w' ⟨rfl, g', h1, h2, h3⟩
  exact ⟨rfl, g', h.step (by rw [← bs_step]; exact h1) h2 h3⟩
theorem Bst.heads (h : Bst w0 w p g q m a 1) (hl : m.sz' ≤ 140737488355326) : Calls Try.prog 22 #[.pointer (some ⟨p, 0, none⟩), .slice a.HA a.HN a.HC] w fun e w' => e = .returned (.tuple #[]) ∧ ∃ g', Bst w0 w' p g' q m a 2 := by
  have hr := bs_room m (k := 1) (by omega)
  obtain ⟨o1, o2, o3, o4⟩ := h.ord
  refine (bheads_any p g (bs m 1).1 (bs m 1).2 a.HA a.HN a.HC w0.heap.size m.hs w h.bx h.mg.hn h.mg.hs (h.mg.hs.far (by omega) (by omega)) (by show (bs m 1).1.length + szT (bp m 1) ≤ _; omega)).mono ?_
  rintro e w' ⟨rfl, g', h1, h2, h3⟩
  exact ⟨rfl, g', h.step (by rw [← bs_step]; exact h1) h2 h3⟩
theorem Bst.text (h : Bst w0 w p g q m a 2) (hl : m.sz' ≤ 140737488355326) : ∃ c w1 A, (convert 9 25 (.string (str m.id))).run Try.prog w = .ok (.slice A m.id.length c) w1 ∧ Bst w0 w1 p g q m a 2 ∧
    Calls Try.prog 23 #[.pointer (some ⟨p, 0, none⟩), .slice A m.id.length c] w1 fun e w' => e = .returned (.tuple #[]) ∧ ∃ g', Bst w0 w' p g' q m a 3 := by
  have hr : (bs m 2).1.length + (m.id.length + 2 + 0) ≤ m.sz' := bs_room m (k := 2) (by omega)
  obtain ⟨c, w1, hrun, hb1, hz1, hI1⟩ := conv_str (P := Try.prog) Try.underlying9 Try.underlying25 Try.underlying5 w h.mg.id _ rfl
  have h' := h.below hb1
  refine ⟨c, w1, _, hrun, h', ?_⟩
  refine (blay_any p g (bs m 2).1 (bs m 2).2 _ m.id.length c m.id w1 h'.bx rfl hI1 (by omega)).mono ?_
  rintro e w' ⟨rfl, g', h1, h2, h3⟩
  exact ⟨rfl, g', h'.step (by rw [← bs_step]; exact h1) h2 h3⟩
theorem Bst.lit3 (h : Bst w0 w p g q m a 3) (hl : m.sz' ≤ 140737488355326) : Calls Try.prog 21 #[.pointer (some ⟨p, 0, none⟩), .slice (some ⟨w.heap.size, 0, none⟩) 3 3] (w.alloc (.cells #[.int .i64 m.sz, .int .i64 m.so, .int .i64 m.ta] 3)) fun e w' => e = .returned (.tuple #[]) ∧ ∃ g', Bst w0 w' p g' q m a 4 := by
  have hr : (bs m 3).1.length + szT (tkZ [m.sz, m.so, m.ta]) ≤ m.sz' := bs_room m (k := 3) (by omega)
  rw [szZ] at hr
  refine (bput_lit p g (bs m 3).1 (bs m 3).2 3 [m.sz, m.so, m.ta] 3 w h.bx rfl (fun x hx => h.mg.wf x (show x ∈ [m.kd, m.fr, m.to, m.se, m.de, m.cm, m.ep] ++ ([m.sz, m.so, m.ta] ++ [m.co]) from List.mem_append_right _ (List.mem_append_left _ hx))) (by omega)).mono ?_
  rintro e w' ⟨rfl, g', h1, h2, h3⟩
  exact ⟨rfl, g', h.step (by rw [← bs_step]; exact h1) h2 h3⟩
theorem Bst.list4 (h : Bst w0 w p g q m a 4) (hl : m.sz' ≤ 140737488355326) : Calls Try.prog 24 #[.pointer (some ⟨p, 0, none⟩), .slice a.DA a.DN a.DC] w fun e w' => e = .returned (.tuple #[]) ∧ ∃ g', Bst w0 w' p g' q m a 5 := by
  have hr : (bs m 4).1.length + (4 + szT (tkZ m.ds)) ≤ m.sz' := bs_room m (k := 4) (by omega)
  rw [szZ] at hr
  obtain ⟨o1, o2, o3, o4⟩ := h.ord
  refine (bints_any p g (bs m 4).1 (bs m 4).2 a.DA a.DN a.DC w0.heap.size m.ds w h.bx h.mg.dn h.mg.ds (h.mg.ds.far (by omega) (by omega)) (by omega)).mono ?_
  rintro e w' ⟨rfl, g', h1, h2, h3⟩
  exact ⟨rfl, g', h.step (by rw [← bs_step]; exact h1) h2 h3⟩
theorem Bst.list5 (h : Bst w0 w p g q m a 5) (hl : m.sz' ≤ 140737488355326) : Calls Try.prog 24 #[.pointer (some ⟨p, 0, none⟩), .slice a.PA a.PN a.PC] w fun e w' => e = .returned (.tuple #[]) ∧ ∃ g', Bst w0 w' p g' q m a 6 := by
  have hr : (bs m 5).1.length + (4 + szT (tkZ m.ps)) ≤ m.sz' := bs_room m (k := 5) (by omega)
  rw [szZ] at hr
  obtain ⟨o1, o2, o3, o4⟩ := h.ord
  refine (bints_any p g (bs m 5).1 (bs m 5).2 a.PA a.PN a.PC w0.heap.size m.ps w h.bx h.mg.pn h.mg.ps (h.mg.ps.far (by omega) (by omega)) (by omega)).mono ?_
  rintro e w' ⟨rfl, g', h1, h2, h3⟩
  exact ⟨rfl, g', h.step (by rw [← bs_step]; exact h1) h2 h3⟩
theorem Bst.lit6 (h : Bst w0 w p g q m a 6) (hl : m.sz' ≤ 140737488355326) : Calls Try.prog 21 #[.pointer (some ⟨p, 0, none⟩), .slice (some ⟨w.heap.size, 0, none⟩) 1 1] (w.alloc (.cells #[.int .i64 m.co] 3)) fun e w' => e = .returned (.tuple #[]) ∧ ∃ g', Bst w0 w' p g' q m a 7 := by
  have hr : (bs m 6).1.length + szT (tkZ [m.co]) ≤ m.sz' := bs_room m (k := 6) (by omega)
  rw [szZ] at hr
  refine (bput_lit p g (bs m 6).1 (bs m 6).2 1 [m.co] 3 w h.bx rfl (fun x hx => h.mg.wf x (show x ∈ [m.kd, m.fr, m.to, m.se, m.de, m.cm, m.ep, m.sz, m.so, m.ta] ++ [m.co] from List.mem_append_right _ hx)) (by omega)).mono ?_
  rintro e w' ⟨rfl, g', h1, h2, h3⟩
  exact ⟨rfl, g', h.step (by rw [← bs_step]; exact h1) h2 h3⟩
theorem Bst.bytes7 (h : Bst w0 w p g q m a 7) (hl : m.sz' ≤ 140737488355326) : Calls Try.prog 23 #[.pointer (some ⟨p, 0, none⟩), .slice a.QA a.QN a.QC] w fun e w' => e = .returned (.tuple #[]) ∧ ∃ g', Bst w0 w' p g' q m a 8 := by
  have hr : (bs m 7).1.length + (m.da.length + 2 + 0) ≤ m.sz' := bs_room m (k := 7) (by omega)
  obtain ⟨o1, o2, o3, o4⟩ := h.ord
  refine (blay_any p g (bs m 7).1 (bs m 7).2 a.QA a.QN a.QC m.da w h.bx h.mg.qn (h.mg.da.more (by omega)) (by omega)).mono ?_
  rintro e w' ⟨rfl, g', h1, h2, h3⟩
  exact ⟨rfl, g', h.step (by rw [← bs_step]; exact h1) h2 h3⟩
/-- The start. -/
theorem Bst.start (w0 : World) (m : Mg) (a : Ma) (hm : MgIn w0 w0.heap.size m a) (W : World) (hW : W = (w0.alloc (.cells (mcs m a).toArray 27)).alloc (.cells #[.slice none 0 0, .bool false] 53)) :
    Bst w0 W (w0.heap.size + 1) (w0.heap.size + 1) w0.heap.size m a 0 := by
  obtain ⟨W0, hW0⟩ : ∃ W0, W0 = w0.alloc (.cells (mcs m a).toArray 27) := ⟨_, rfl⟩
  rw [← hW0] at hW
  have z0 : W0.heap.size = w0.heap.size + 1 := by rw [hW0]; simp
  have z1 : W.heap.size = w0.heap.size + 2 := by rw [hW]; simp [z0]
  have b0 : Below w0.heap.size w0 W0 := by rw [hW0]; exact (Below.refl _ _).alloc (Nat.le_refl _) _
  have b1 : Below W0.heap.size W0 W := by rw [hW]; exact (Below.refl _ _).alloc (Nat.le_refl _) _
  have hB : Below w0.heap.size w0 W := b0.trans (b1.mono (by omega))
  have hbx : Bx W W0.heap.size W0.heap.size [] false := by rw [hW]; exact Bx.new W0 _
  have hbo : MBox W0 w0.heap.size m a := by rw [hW0]; exact MBox.new w0 m a _
  rw [z0] at hbx
  exact ⟨hbx, hbo.keep (b1.block _ (by omega)), hm.below hB, by omega, hB⟩
/-- What Msg answers. -/
def RefAns (m : Mg) (w : World) (e : Ending) (w' : World) : Prop :=
  Below w.heap.size w w' ∧ ∃ A N c r, e = .returned (.tuple #[.slice A N c, .bool m.ok]) ∧ In w' w'.heap.size A c r ∧ N = r.length ∧ (m.ok = true → r = m.en)
end
set_option maxRecDepth 100000 in
set_option maxHeartbeats 4000000 in
theorem rmsg_any (m : Mg) (a : Ma) (w : World) (hm : MgIn w w.heap.size m a) (hl : m.sz' ≤ 140737488355326) : Calls Try.prog 9 #[mval m a] w fun e w' => RefAns m w e w' := by
  have HM := Lib.hid hm
  have HL := Lib.hid hl
  clear hm hl
  go_enter Try.func9, Try.ntmps9
  go_wp2_with fail
  obtain ⟨W, hW⟩ : ∃ W, W = (w.alloc (.cells #[.int .i64 m.kd, .int .i64 m.fr, .int .i64 m.to, .int .i64 m.se, .int .i64 m.de, .int .i64 m.cm, .int .i64 m.ep, .slice a.HA a.HN a.HC, .string (str m.id), .int .i64 m.sz, .int .i64 m.so, .int .i64 m.ta, .slice a.DA a.DN a.DC, .slice a.PA a.PN a.PC, .int .i64 m.co, .slice a.QA a.QN a.QC] 27)).alloc (.cells #[.slice none 0 0, .bool false] 53) := ⟨_, rfl⟩
  have h0 := Bst.start w m a HM.out W hW
  rw [← hW]
  have hs0 : W.heap.size = w.heap.size + 1 + 1 := by rw [hW]; simp
  obtain ⟨p, hp⟩ : ∃ p, p = w.heap.size + 1 := ⟨_, rfl⟩
  obtain ⟨z, hz⟩ : ∃ z, z = p + 1 := ⟨_, rfl⟩
  rw [← hp] at h0
  rw [← hp, ← hz]
  rw [← hp, ← hz] at hs0
  have HC := Lib.hid (Bst.lit0 h0 HL.out)
  rw [hs0] at HC
  clear hs0 hW h0 hp hz
  refine HC.out.mono ?_
  rintro e w1 ⟨rfl, g1, h1⟩
  clear HC
  have c7 := h1.box 7 _ rfl
  have HC1 := Lib.hid (Bst.heads h1 HL.out)
  clear h1
  go_wp2_with fail
  refine HC1.out.mono ?_
  clear HC1 c7
  rintro e w2 ⟨rfl, g2, h2⟩
  have c8 := h2.box 8 _ rfl
  obtain ⟨cv, wv, Av, hrun, hv, hcall⟩ := Bst.text h2 HL.out
  obtain ⟨N, hN⟩ : ∃ N, N = m.id.length := ⟨_, rfl⟩
  rw [← hN] at hrun hcall
  obtain ⟨S, hS⟩ : ∃ S, S = str m.id := ⟨_, rfl⟩
  rw [← hS] at c8 hrun
  have HC2 := Lib.hid hcall
  clear hcall hN hS hv h2
  go_wp2_with fail
  refine HC2.out.mono ?_
  clear HC2 c8 hrun
  rintro e w3 ⟨rfl, g3, h3⟩
  have c9 := h3.box 9 _ rfl
  have c10 := h3.box 10 _ rfl
  have c11 := h3.box 11 _ rfl
  have HC3 := Lib.hid (Bst.lit3 h3 HL.out)
  clear h3
  go_wp2_with fail
  refine HC3.out.mono ?_
  clear HC3 c9 c10 c11
  rintro e w4 ⟨rfl, g4, h4⟩
  have c12 := h4.box 12 _ rfl
  have HC4 := Lib.hid (Bst.list4 h4 HL.out)
  clear h4
  go_wp2_with fail
  refine HC4.out.mono ?_
  clear HC4 c12
  rintro e w5 ⟨rfl, g5, h5⟩
  have c13 := h5.box 13 _ rfl
  have HC5 := Lib.hid (Bst.list5 h5 HL.out)
  clear h5
  go_wp2_with fail
  refine HC5.out.mono ?_
  clear HC5 c13
  rintro e w6 ⟨rfl, g6, h6⟩
  have c14 := h6.box 14 _ rfl
  have HC6 := Lib.hid (Bst.lit6 h6 HL.out)
  clear h6
  go_wp2_with fail
  refine HC6.out.mono ?_
  clear HC6 c14
  rintro e w7 ⟨rfl, g7, h7⟩
  have c15 := h7.box 15 _ rfl
  have HC7 := Lib.hid (Bst.bytes7 h7 HL.out)
  clear h7
  go_wp2_with fail
  refine HC7.out.mono ?_
  clear HC7 c15
  rintro e w8 ⟨rfl, g8, h8⟩
  have hbx := h8.bx
  rw [bs_flag] at hbx
  obtain ⟨A, c, hc0, hR⟩ := hbx.row
  have hc1 := hbx.flag
  have hin := hR.inn
  have hbel := h8.bel
  obtain ⟨N, hN⟩ : ∃ N, N = (bs m 8).1.length := ⟨_, rfl⟩
  rw [← hN] at hc0
  have HN := Lib.hid hN
  have HR := Lib.hid hin
  have HB := Lib.hid hbel
  clear hbx hR hin hbel hN h8
  obtain ⟨ok, hok⟩ : ∃ ok, ok = m.ok := ⟨_, rfl⟩
  rw [← hok] at hc1
  have HO := Lib.hid hok
  clear hok
  go_wp2
  go_quiet (fail)
  go_wp2
  go_ret2
  refine ⟨⟨HB.out.os, HB.out.tape, HB.out.output, HB.out.size, HB.out.block⟩, A, N, c, (bs m 8).1, by rw [← HO.out]; simp, HR.out.drewN _, HN.out, bs_row m⟩
end Go.Proofs.Ytabalhhodcajmaa
