/- What wire's Encode does: a message's bytes, or none. -/
import Derived.Test.YtabalhhodcajmaaWic
import Derived.Test.YtabalhhodcajmaaWde
namespace Gw
open Go Go.RowKit Go.Shelf Pol
/-- The nine parts that Encode writes. -/
def ep (m : Mg) : Nat → List Tk
  | 0 => tkZ [m.kd, m.fr, m.to, m.se]
  | 1 => tkZ [m.de, m.cm, m.ep]
  | 2 => tkHs m.hs
  | 3 => [.l m.id]
  | 4 => tkZ [m.sz, m.so, m.ta]
  | 5 => tkL m.ds
  | 6 => tkL m.ps
  | 7 => [.n m.co]
  | 8 => [.l m.da]
  | _ => []
theorem ep_all (m : Mg) : accP (ep m) 9 = m.tk := by
  simp [accP, ep, Mg.tk, tkZ]
/-- The writer behind k parts. -/
def ws (m : Mg) (k : Nat) : List Nat × Bool := wrT [] false (accP (ep m) k)
theorem ws_step (m : Mg) (k : Nat) : wrT (ws m k).1 (ws m k).2 (ep m k) = ws m (k + 1) := by
  unfold ws; rw [accP, wrT_app]
theorem ws_nil (m : Mg) (k : Nat) : (ws m k).2 = true → (ws m k).1 = [] := wrT_nil _ _ _ (fun e => by cases e)
theorem ws_room (m : Mg) {k : Nat} (hk : k < 9) : (ws m k).1.length + szT (ep m k) ≤ m.sz' := by
  have h1 := wrT_len (accP (ep m) k) [] false
  have h2 := accP_step (ep m) k
  have h3 := accP_le (ep m) (show k + 1 ≤ 9 by omega)
  rw [ep_all] at h3
  have h4 : (ws m k).1.length ≤ 0 + szT (accP (ep m) k) := h1
  show _ ≤ szT m.tk
  omega
theorem ws_end (m : Mg) : ws m 9 = if m.ok then (m.en, false) else ([], true) := by
  unfold ws
  rw [ep_all, wrT_eq]
  rfl
/-- Behind k parts: the message's box q, the writer's x, its book p, its row's block g. -/
structure Est (w0 w : World) (p g q x : Nat) (m : Mg) (a : Ma) (k : Nat) : Prop where
  bx : Bx w p g (ws m k).1 (ws m k).2
  box : MBox w q m a
  wr : w.cell? ⟨x, 0, none⟩ = some (.pointer (some ⟨p, 0, none⟩))
  mg : MgIn w w0.heap.size m a
  ord : w0.heap.size ≤ q ∧ q < p ∧ p < x ∧ x < w.heap.size ∧ p ≤ g ∧ g ≠ x
  bel : Below w0.heap.size w0 w
theorem Est.step {w0 w w' : World} {p g g' q x k : Nat} {m : Mg} {a : Ma} (h : Est w0 w p g q x m a k) (hb : Bx w' p g' (ws m (k + 1)).1 (ws m (k + 1)).2) (hg : g' = g ∨ g' = p ∨ w.heap.size ≤ g') (hk : K2 w w' p g) : Est w0 w' p g' q x m a (k + 1) := by
  obtain ⟨h1, h2, h3, h4, h5, h6⟩ := h.ord
  have hs := hk.size
  have hB : Below w0.heap.size w w' := hk.below (by omega) (by omega) (by omega)
  exact ⟨hb, h.box.keep (hk.block q (by omega) (by omega) (by omega)), (cell_heap (hk.block x (by omega) (by omega) (by omega))).trans h.wr, h.mg.below hB, by omega, h.bel.trans hB⟩
end Gw
namespace Go.Proofs.Ytabalhhodcajmaa
open Go.RowKit Go.Shelf Gw Pol
/-- Numbers that have just been laid. -/
theorem wints_lit (p g : Nat) (l : List Nat) (bad : Bool) (n : Nat) (z : List Int) (e : TypeId) (w : World) (h : Bx w p g l bad) (hbad : bad = true → l = []) (hn : n = z.length) (hw : ∀ x ∈ z, (Lit.int .i64 x).wf = true) (hl : l.length + szT (tkZ z) ≤ 140737488200000) :
    Calls Try.prog 14 #[.agg #[.pointer (some ⟨p, 0, none⟩)], .slice (some ⟨w.heap.size, 0, none⟩) n n] (w.alloc (.cells (z.map (fun x => Value.int .i64 x)).toArray e)) fun e w' => e = .returned (.tuple #[]) ∧ ∃ g', Bx w' p g' (wrT l bad (tkZ z)).1 (wrT l bad (tkZ z)).2 ∧ (g' = g ∨ g' = p ∨ w.heap.size ≤ g') ∧ K2 w w' p g := by
  subst hn
  rw [szZ] at hl
  have hp := h.lt
  have hg := h.glt
  refine (wints_any p g l bad (some ⟨w.heap.size, 0, none⟩) z.length z.length (w.heap.size + 1) z _ (h.alloc _) hbad rfl (InZ.lit w e z hw) (fun b off hA _ => by injection hA with hA; injection hA with hA _; subst hA; omega) hl).mono ?_
  rintro e' w' ⟨rfl, g', h1, h2, h3⟩
  rw [World.size_alloc] at h2
  exact ⟨rfl, g', h1, by omega, (K2.alloc w _ p g).trans h3 (.inl rfl)⟩
section
variable {w0 w : World} {p g q x : Nat} {m : Mg} {a : Ma}
theorem Est.ints0 (h : Est w0 w p g q x m a 0) (hl : m.sz' ≤ 140737488200000) : Calls Try.prog 14 #[.agg #[.pointer (some ⟨p, 0, none⟩)], .slice (some ⟨w.heap.size, 0, none⟩) 4 4] (w.alloc (.cells #[.int .i64 m.kd, .int .i64 m.fr, .int .i64 m.to, .int .i64 m.se] 3)) fun e w' => e = .returned (.tuple #[]) ∧ ∃ g', Est w0 w' p g' q x m a 1 := by
  have hr := ws_room m (k := 0) (by omega)
  refine (wints_lit p g (ws m 0).1 (ws m 0).2 4 [m.kd, m.fr, m.to, m.se] 3 w h.bx (ws_nil m 0) rfl (fun x hx => h.mg.wf x (by simp [Mg.ints] at hx ⊢; omega)) (by show (ws m 0).1.length + szT (ep m 0) ≤ _; omega)).mono ?_
  rintro e w' ⟨rfl, g', h1, h2, h3⟩
  exact ⟨rfl, g', h.step (by rw [← ws_step]; exact h1) h2 h3⟩
theorem Est.ints1 (h : Est w0 w p g q x m a 1) (hl : m.sz' ≤ 140737488200000) : Calls Try.prog 14 #[.agg #[.pointer (some ⟨p, 0, none⟩)], .slice (some ⟨w.heap.size, 0, none⟩) 3 3] (w.alloc (.cells #[.int .i64 m.de, .int .i64 m.cm, .int .i64 m.ep] 3)) fun e w' => e = .returned (.tuple #[]) ∧ ∃ g', Est w0 w' p g' q x m a 2 := by
  have hr := ws_room m (k := 1) (by omega)
  refine (wints_lit p g (ws m 1).1 (ws m 1).2 3 [m.de, m.cm, m.ep] 3 w h.bx (ws_nil m 1) rfl (fun x hx => h.mg.wf x (by simp [Mg.ints] at hx ⊢; omega)) (by show (ws m 1).1.length + szT (ep m 1) ≤ _; omega)).mono ?_
  rintro e w' ⟨rfl, g', h1, h2, h3⟩
  exact ⟨rfl, g', h.step (by rw [← ws_step]; exact h1) h2 h3⟩
theorem Est.heads (h : Est w0 w p g q x m a 2) (hl : m.sz' ≤ 140737488200000) : Calls Try.prog 15 #[.agg #[.pointer (some ⟨p, 0, none⟩)], .slice a.HA a.HN a.HC] w fun e w' => e = .returned (.tuple #[]) ∧ ∃ g', Est w0 w' p g' q x m a 3 := by
  have hr := ws_room m (k := 2) (by omega)
  obtain ⟨o1, o2, o3, o4, o5, o6⟩ := h.ord
  refine (wheads_any p g (ws m 2).1 (ws m 2).2 a.HA a.HN a.HC w0.heap.size m.hs w h.bx (ws_nil m 2) h.mg.hn h.mg.hs (h.mg.hs.far (by omega) (by omega)) (by show (ws m 2).1.length + szT (ep m 2) ≤ _; omega)).mono ?_
  rintro e w' ⟨rfl, g', h1, h2, h3⟩
  exact ⟨rfl, g', h.step (by rw [← ws_step]; exact h1) h2 h3⟩
theorem Est.text (h : Est w0 w p g q x m a 3) (hl : m.sz' ≤ 140737488200000) : Calls Try.prog 16 #[.agg #[.pointer (some ⟨p, 0, none⟩)], .string (str m.id)] w fun e w' => e = .returned (.tuple #[]) ∧ ∃ g', Est w0 w' p g' q x m a 4 := by
  have hr := ws_room m (k := 3) (by omega)
  refine (wtext_any p g (ws m 3).1 (ws m 3).2 m.id w h.bx (ws_nil m 3) h.mg.id (by omega)).mono ?_
  rintro e w' ⟨rfl, g', h1, h2, h3⟩
  exact ⟨rfl, g', h.step (by rw [← ws_step]; exact h1) h2 h3⟩
theorem Est.ints4 (h : Est w0 w p g q x m a 4) (hl : m.sz' ≤ 140737488200000) : Calls Try.prog 14 #[.agg #[.pointer (some ⟨p, 0, none⟩)], .slice (some ⟨w.heap.size, 0, none⟩) 3 3] (w.alloc (.cells #[.int .i64 m.sz, .int .i64 m.so, .int .i64 m.ta] 3)) fun e w' => e = .returned (.tuple #[]) ∧ ∃ g', Est w0 w' p g' q x m a 5 := by
  have hr := ws_room m (k := 4) (by omega)
  refine (wints_lit p g (ws m 4).1 (ws m 4).2 3 [m.sz, m.so, m.ta] 3 w h.bx (ws_nil m 4) rfl (fun x hx => h.mg.wf x (by simp [Mg.ints] at hx ⊢; omega)) (by show (ws m 4).1.length + szT (ep m 4) ≤ _; omega)).mono ?_
  rintro e w' ⟨rfl, g', h1, h2, h3⟩
  exact ⟨rfl, g', h.step (by rw [← ws_step]; exact h1) h2 h3⟩
theorem Est.list5 (h : Est w0 w p g q x m a 5) (hl : m.sz' ≤ 140737488200000) : Calls Try.prog 17 #[.agg #[.pointer (some ⟨p, 0, none⟩)], .slice a.DA a.DN a.DC] w fun e w' => e = .returned (.tuple #[]) ∧ ∃ g', Est w0 w' p g' q x m a 6 := by
  have hr : (ws m 5).1.length + (4 + szT (tkZ m.ds)) ≤ m.sz' := ws_room m (k := 5) (by omega)
  rw [szZ] at hr
  obtain ⟨o1, o2, o3, o4, o5, o6⟩ := h.ord
  refine (wlist_any p g (ws m 5).1 (ws m 5).2 a.DA a.DN a.DC w0.heap.size m.ds w h.bx (ws_nil m 5) h.mg.dn h.mg.ds (h.mg.ds.far (by omega) (by omega)) (by omega)).mono ?_
  rintro e w' ⟨rfl, g', h1, h2, h3⟩
  exact ⟨rfl, g', h.step (by rw [← ws_step]; exact h1) h2 h3⟩
theorem Est.list6 (h : Est w0 w p g q x m a 6) (hl : m.sz' ≤ 140737488200000) : Calls Try.prog 17 #[.agg #[.pointer (some ⟨p, 0, none⟩)], .slice a.PA a.PN a.PC] w fun e w' => e = .returned (.tuple #[]) ∧ ∃ g', Est w0 w' p g' q x m a 7 := by
  have hr : (ws m 6).1.length + (4 + szT (tkZ m.ps)) ≤ m.sz' := ws_room m (k := 6) (by omega)
  rw [szZ] at hr
  obtain ⟨o1, o2, o3, o4, o5, o6⟩ := h.ord
  refine (wlist_any p g (ws m 6).1 (ws m 6).2 a.PA a.PN a.PC w0.heap.size m.ps w h.bx (ws_nil m 6) h.mg.pn h.mg.ps (h.mg.ps.far (by omega) (by omega)) (by omega)).mono ?_
  rintro e w' ⟨rfl, g', h1, h2, h3⟩
  exact ⟨rfl, g', h.step (by rw [← ws_step]; exact h1) h2 h3⟩
theorem Est.int7 (h : Est w0 w p g q x m a 7) (hl : m.sz' ≤ 140737488200000) : Calls Try.prog 18 #[.pointer (some ⟨p, 0, none⟩), .int .i64 m.co] w fun e w' => e = .returned (.tuple #[]) ∧ ∃ g', Est w0 w' p g' q x m a 8 := by
  have hr := ws_room m (k := 7) (by omega)
  refine (wint_any p g (ws m 7).1 (ws m 7).2 m.co w h.bx (ws_nil m 7) (by omega)).mono ?_
  rintro e w' ⟨rfl, g', h1, h2, h3⟩
  exact ⟨rfl, g', h.step (by rw [← ws_step]; exact h1) h2 h3⟩
theorem Est.bytes8 (h : Est w0 w p g q x m a 8) (hl : m.sz' ≤ 140737488200000) : Calls Try.prog 19 #[.pointer (some ⟨p, 0, none⟩), .slice a.QA a.QN a.QC] w fun e w' => e = .returned (.tuple #[]) ∧ ∃ g', Est w0 w' p g' q x m a 9 := by
  have hr := ws_room m (k := 8) (by omega)
  obtain ⟨o1, o2, o3, o4, o5, o6⟩ := h.ord
  refine (wbytes_any p g (ws m 8).1 (ws m 8).2 a.QA a.QN a.QC m.da w h.bx (ws_nil m 8) h.mg.qn (h.mg.da.sl.aw (by omega) (by omega)) (by omega)).mono ?_
  rintro e w' ⟨rfl, g', h1, h2, h3⟩
  exact ⟨rfl, g', h.step (by rw [← ws_step]; exact h1) h2 h3⟩
/-- What Encode answers. -/
def EncAns (m : Mg) (w : World) (e : Ending) (w' : World) : Prop :=
  Below w.heap.size w w' ∧ ((m.ok = true ∧ ∃ A2 N c2, e = .returned (.tuple #[.slice A2 N c2, .bool true]) ∧ N = m.en.length ∧ Gw.Own w' w.heap.size 5 A2 c2 m.en) ∨ (m.ok = false ∧ e = .returned (.tuple #[.slice none 0 0, .bool false])))
theorem Est.out (h : Est w0 w p g q x m a 9) (hl : m.sz' ≤ 140737488200000) : Calls Try.prog 20 #[.pointer (some ⟨p, 0, none⟩)] w fun e w' => EncAns m w0 e w' := by
  obtain ⟨o1, o2, o3, o4, o5, o6⟩ := h.ord
  have hbx := h.bx
  rw [ws_end] at hbx
  cases ho : m.ok with
  | true =>
    rw [ho, if_pos rfl] at hbx
    refine (wout_any p g m.en w hbx (by rw [m.en_len]; omega)).mono ?_
    rintro e w' ⟨A2, c2, rfl, hown, hb⟩
    exact ⟨h.bel.trans (hb.mono (by omega)), .inl ⟨ho, A2, _, c2, rfl, rfl, hown.base (by omega)⟩⟩
  | false =>
    rw [ho, if_neg (by simp)] at hbx
    refine (wout_bad p g [] w hbx).mono ?_
    rintro e w' ⟨rfl, rfl⟩
    exact ⟨h.bel, .inr ⟨ho, rfl⟩⟩
/-- The start. -/
theorem Est.start (w0 : World) (m : Mg) (a : Ma) (hm : MgIn w0 w0.heap.size m a) (W : World) (hW : W = ((w0.alloc (.cells (mcs m a).toArray 27)).alloc (.cells #[.slice none 0 0, .bool false] 64)).alloc (.cells #[.pointer (some ⟨w0.heap.size + 1, 0, none⟩)] 43)) :
    Est w0 W (w0.heap.size + 1) (w0.heap.size + 1) w0.heap.size (w0.heap.size + 1 + 1) m a 0 := by
  obtain ⟨W0, hW0⟩ : ∃ W0, W0 = w0.alloc (.cells (mcs m a).toArray 27) := ⟨_, rfl⟩
  obtain ⟨W1, hW1⟩ : ∃ W1, W1 = W0.alloc (.cells #[.slice none 0 0, .bool false] 64) := ⟨_, rfl⟩
  rw [← hW0, ← hW1] at hW
  have z0 : W0.heap.size = w0.heap.size + 1 := by rw [hW0]; simp
  have z1 : W1.heap.size = w0.heap.size + 2 := by rw [hW1]; simp [z0]
  have z2 : W.heap.size = w0.heap.size + 3 := by rw [hW]; simp [z1]
  have b0 : Below w0.heap.size w0 W0 := by rw [hW0]; exact (Below.refl _ _).alloc (Nat.le_refl _) _
  have b1 : Below W0.heap.size W0 W1 := by rw [hW1]; exact (Below.refl _ _).alloc (Nat.le_refl _) _
  have b2 : Below W1.heap.size W1 W := by rw [hW]; exact (Below.refl _ _).alloc (Nat.le_refl _) _
  have hB : Below w0.heap.size w0 W := (b0.trans (b1.mono (by omega))).trans (b2.mono (by omega))
  have hbx : Bx W1 W0.heap.size W0.heap.size [] false := by rw [hW1]; exact Bx.new W0 _
  have hbo : MBox W0 w0.heap.size m a := by rw [hW0]; exact MBox.new w0 m a _
  rw [z0] at hbx
  refine ⟨hbx.below b2 (Nat.le_refl _), hbo.keep ((b2.block _ (by omega)).trans (b1.block _ (by omega))), ?_, hm.below hB, by omega, hB⟩
  rw [hW, ← z1]
  exact World.cell?_alloc_new W1 #[.pointer (some ⟨w0.heap.size + 1, 0, none⟩)] _ 0
end
set_option maxRecDepth 100000 in
set_option maxHeartbeats 4000000 in
theorem encode_any (m : Mg) (a : Ma) (w : World) (hm : MgIn w w.heap.size m a) (hl : m.sz' ≤ 140737488200000) : Calls Try.prog 8 #[mval m a] w fun e w' => EncAns m w e w' := by
  have HM := Lib.hid hm
  have HL := Lib.hid hl
  clear hm hl
  have HNEW := Lib.hid (wnew_any (w.alloc (.cells #[.int .i64 m.kd, .int .i64 m.fr, .int .i64 m.to, .int .i64 m.se, .int .i64 m.de, .int .i64 m.cm, .int .i64 m.ep, .slice a.HA a.HN a.HC, .string (str m.id), .int .i64 m.sz, .int .i64 m.so, .int .i64 m.ta, .slice a.DA a.DN a.DC, .slice a.PA a.PN a.PC, .int .i64 m.co, .slice a.QA a.QN a.QC] 27)))
  go_enter Try.func8, Try.ntmps8
  go_wp2_with fail
  refine HNEW.out.mono ?_
  rintro e w1 ⟨rfl, rfl⟩
  clear HNEW
  go_wp2_with fail
  obtain ⟨W, hW⟩ : ∃ W, W = ((w.alloc (.cells #[.int .i64 m.kd, .int .i64 m.fr, .int .i64 m.to, .int .i64 m.se, .int .i64 m.de, .int .i64 m.cm, .int .i64 m.ep, .slice a.HA a.HN a.HC, .string (str m.id), .int .i64 m.sz, .int .i64 m.so, .int .i64 m.ta, .slice a.DA a.DN a.DC, .slice a.PA a.PN a.PC, .int .i64 m.co, .slice a.QA a.QN a.QC] 27)).alloc (.cells #[.slice none 0 0, .bool false] 64)).alloc (.cells #[.pointer (some ⟨w.heap.size + 1, 0, none⟩)] 43) := ⟨_, rfl⟩
  have h0 := Est.start w m a HM.out W hW
  rw [← hW]
  have hs0 : W.heap.size = w.heap.size + 1 + 1 + 1 := by rw [hW]; simp
  obtain ⟨p, hp⟩ : ∃ p, p = w.heap.size + 1 := ⟨_, rfl⟩
  obtain ⟨x, hx⟩ : ∃ x, x = p + 1 := ⟨_, rfl⟩
  obtain ⟨z, hz⟩ : ∃ z, z = x + 1 := ⟨_, rfl⟩
  rw [← hp, ← hx] at h0
  rw [← hp, ← hx, ← hz]
  rw [← hp, ← hx, ← hz] at hs0
  have HC := Lib.hid (Est.ints0 h0 HL.out)
  rw [hs0] at HC
  clear hs0 hW h0 hp hx hz
  refine HC.out.mono ?_
  rintro e w1 ⟨rfl, g1, h1⟩
  clear HC
  have c4 := h1.box 4 _ rfl
  have c5 := h1.box 5 _ rfl
  have c6 := h1.box 6 _ rfl
  have cw := h1.wr
  have HC1 := Lib.hid (Est.ints1 h1 HL.out)
  clear h1
  go_wp2_with fail
  refine HC1.out.mono ?_
  clear HC1 cw c4 c5 c6
  rintro e w2 ⟨rfl, g2, h2⟩
  have c7 := h2.box 7 _ rfl
  have cw := h2.wr
  have HC2 := Lib.hid (Est.heads h2 HL.out)
  clear h2
  go_wp2_with fail
  refine HC2.out.mono ?_
  clear HC2 cw c7
  rintro e w3 ⟨rfl, g3, h3⟩
  have c8 := h3.box 8 _ rfl
  have cw := h3.wr
  have HC3 := Lib.hid (Est.text h3 HL.out)
  clear h3
  go_wp2_with fail
  refine HC3.out.mono ?_
  clear HC3 cw c8
  rintro e w4 ⟨rfl, g4, h4⟩
  have c9 := h4.box 9 _ rfl
  have c10 := h4.box 10 _ rfl
  have c11 := h4.box 11 _ rfl
  have cw := h4.wr
  have HC4 := Lib.hid (Est.ints4 h4 HL.out)
  clear h4
  go_wp2_with fail
  refine HC4.out.mono ?_
  clear HC4 cw c9 c10 c11
  rintro e w5 ⟨rfl, g5, h5⟩
  have c12 := h5.box 12 _ rfl
  have cw := h5.wr
  have HC5 := Lib.hid (Est.list5 h5 HL.out)
  clear h5
  go_wp2_with fail
  refine HC5.out.mono ?_
  clear HC5 cw c12
  rintro e w6 ⟨rfl, g6, h6⟩
  have c13 := h6.box 13 _ rfl
  have cw := h6.wr
  have HC6 := Lib.hid (Est.list6 h6 HL.out)
  clear h6
  go_wp2_with fail
  refine HC6.out.mono ?_
  clear HC6 cw c13
  rintro e w7 ⟨rfl, g7, h7⟩
  have c14 := h7.box 14 _ rfl
  have cw := h7.wr
  have HC7 := Lib.hid (Est.int7 h7 HL.out)
  clear h7
  go_wp2_with fail
  refine HC7.out.mono ?_
  clear HC7 cw c14
  rintro e w8 ⟨rfl, g8, h8⟩
  have c15 := h8.box 15 _ rfl
  have cw := h8.wr
  have HC8 := Lib.hid (Est.bytes8 h8 HL.out)
  clear h8
  go_wp2_with fail
  refine HC8.out.mono ?_
  clear HC8 cw c15
  rintro e w9 ⟨rfl, g9, h9⟩
  have cw := h9.wr
  have HC9 := Lib.hid (Est.out h9 HL.out)
  clear h9
  go_wp2_with fail
  refine HC9.out.mono ?_
  rintro e w10 ⟨hb, ⟨ho, A2, N, c2, rfl, hN, hown⟩ | ⟨ho, rfl⟩⟩
  · have HN := Lib.hid hN
    clear hN
    go_wp2
    go_ret2
    exact ⟨hb, .inl ⟨ho, A2, N, c2, rfl, HN.out, hown⟩⟩
  · go_wp2
    go_ret2
    exact ⟨hb, .inr ⟨ho, rfl⟩⟩
end Go.Proofs.Ytabalhhodcajmaa
