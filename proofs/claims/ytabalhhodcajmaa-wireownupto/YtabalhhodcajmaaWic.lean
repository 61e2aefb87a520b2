/- What wire's writer does: texts, numbers, lists and heads. -/
import Derived.Test.YtabalhhodcajmaaWib
import Derived.Test.YtabalhhodcajmaaWdb
namespace Go.Proofs.Ytabalhhodcajmaa
open Go.RowKit Go.Shelf Gw Pol
/-- What ints has put behind some numbers. -/
def ItRel (w : World) (p g : Nat) (l : List Nat) (bad : Bool) (z : List Int) (i : Value) (wr : World) : Prop :=
  ∃ (k g' : Nat) (lc : List Nat) (bc : Bool), k ≤ z.length ∧ i = .int .i64 (k : Int) ∧ Bx wr p g' lc bc ∧ (bc = true → lc = []) ∧ wrT lc bc (tkZ (z.drop k)) = wrT l bad (tkZ z) ∧ lc.length ≤ l.length + 4 * k ∧ (g' = g ∨ g' = p ∨ w.heap.size < g') ∧ K2 w wr p g ∧
    wr.cell? ⟨w.heap.size, 0, none⟩ = some (.pointer (some ⟨p, 0, none⟩))
set_option maxRecDepth 100000 in
set_option maxHeartbeats 1000000 in
theorem wints_any (p g : Nat) (l : List Nat) (bad : Bool) (A : Option Addr) (m c B : Nat) (z : List Int) (w : World) (h : Bx w p g l bad) (hbad : bad = true → l = []) (hm : m = z.length) (hI : InZ w B A c z) (hB : ∀ b off, A = some ⟨b, off, none⟩ → z ≠ [] → b ≠ p ∧ b ≠ g) (hl : l.length + 4 * z.length ≤ 140737488200000) :
    Calls Try.prog 14 #[.agg #[.pointer (some ⟨p, 0, none⟩)], .slice A m c] w fun e w' => e = .returned (.tuple #[]) ∧ ∃ g', Bx w' p g' (wrT l bad (tkZ z)).1 (wrT l bad (tkZ z)).2 ∧ (g' = g ∨ g' = p ∨ w.heap.size ≤ g') ∧ K2 w w' p g := by
  have HM := Lib.hid hm
  have hmb : m ≤ 35184372088832 := by omega
  have hplt := h.lt
  have hglt := h.glt
  clear hm
  go_enter Try.func14, Try.ntmps14
  go_wp2
  go_loopw [8] (ItRel w p g l bad z) (fun i _ => m - (intOf i).toNat)
  case atStart => exact ⟨0, g, l, bad, Nat.zero_le _, rfl, h.alloc _, hbad, rfl, Nat.le_refl _, .inl rfl, K2.alloc _ _ _ _, World.cell?_alloc_new w #[.pointer (some ⟨p, 0, none⟩)] _ 0⟩
  case round =>
    obtain ⟨k, g', lc, bc, hk, rfl, hbx, hbn, hrest, hlc, hg', hkw, hbox⟩ := hrel
    by_cases hkm : k < m
    · have hkz : k < z.length := by rw [← HM.out]; exact hkm
      obtain ⟨x, hx⟩ : ∃ x, z[k]? = some x := ⟨_, List.getElem?_eq_getElem hkz⟩
      obtain ⟨hwf, b0, off, rfl, hbB, hc⟩ := hI.sl k x hx
      have hne := hB b0 off rfl (fun e => by rw [e] at hkz; simp at hkz)
      have hcr : wr.cell? ⟨b0, off + k, none⟩ = some (.int .i64 x) := (cell_heap (hkw.block b0 (cell_lt hc) hne.1 hne.2)).trans hc
      have HC := Lib.hid (wint_any p g' lc bc x wr hbx hbn (by omega))
      have hrest2 : wrT (wrN lc bc x).1 (wrN lc bc x).2 (tkZ (z.drop (k + 1))) = wrT l bad (tkZ z) := by
        rw [← hrest, List.drop_eq_getElem_cons hkz]
        have : z[k] = x := by rw [List.getElem?_eq_getElem hkz] at hx; injection hx
        rw [this]; rfl
      have hln := wrN_len lc bc x
      have hnl := wrN_nil lc bc x
      obtain ⟨r, hr⟩ : ∃ r, r = wrN lc bc x := ⟨_, rfl⟩
      rw [← hr] at HC hrest2 hln hnl
      have HRE := Lib.hid hrest2
      have HLN := Lib.hid (show r.1.length ≤ l.length + 4 * (k + 1) by omega)
      have HKW := Lib.hid hkw
      have HGG := Lib.hid hg'
      have HQ := Lib.hid (show w.heap.size ≠ p ∧ w.heap.size ≠ g' by omega)
      have hqlt := cell_lt hbox
      clear hrest hrest2 hln hr hx hwf hc hI hB hbx hbn hlc hg' hkw
      go_wp2_with fail
      refine HC.out.mono ?_
      rintro e w2 ⟨rfl, g2, h2, hg2, hk2⟩
      have hbox2 := (cell_heap (hk2.block w.heap.size hqlt HQ.out.1 HQ.out.2)).trans hbox
      go_wp2
      go_roundw
      case rel => exact ⟨k + 1, g2, r.1, r.2, by rw [← HM.out]; omega, by go_num, h2, hnl, HRE.out, HLN.out, by have := HGG.out; have := HKW.out.size; omega, HKW.out.then hk2 (by have := HGG.out; omega), hbox2⟩
      case measure => simp [intOf]; omega
    · have hkz : k = z.length := by rw [← HM.out] at hk ⊢; omega
      go_wp2
      go_end0
      rw [hkz, List.drop_length] at hrest
      refine ⟨rfl, g', ?_, by omega, hkw⟩
      rw [← hrest]; exact hbx
set_option maxRecDepth 100000 in
theorem wtext_any (p g : Nat) (l : List Nat) (bad : Bool) (s : List Nat) (w : World) (h : Bx w p g l bad) (hbad : bad = true → l = []) (hs : BB s) (hl : l.length ≤ 140737488200000) :
    Calls Try.prog 16 #[.agg #[.pointer (some ⟨p, 0, none⟩)], .string (str s)] w fun e w' => e = .returned (.tuple #[]) ∧ ∃ g', Bx w' p g' (wrT l bad [.l s]).1 (wrT l bad [.l s]).2 ∧ (g' = g ∨ g' = p ∨ w.heap.size ≤ g') ∧ K2 w w' p g := by
  have hplt := h.lt
  have hglt := h.glt
  obtain ⟨W0, hW0⟩ : ∃ W0, W0 = w.alloc (.cells #[.pointer (some ⟨p, 0, none⟩)] 43) := ⟨_, rfl⟩
  have hz0 : W0.heap.size = w.heap.size + 1 := by rw [hW0]; simp
  have hb0 : Below w.heap.size w W0 := by rw [hW0]; exact (Below.refl _ _).alloc (Nat.le_refl _) _
  have hbox : W0.cell? ⟨w.heap.size, 0, none⟩ = some (.pointer (some ⟨p, 0, none⟩)) := by rw [hW0]; exact World.cell?_alloc_new w #[.pointer (some ⟨p, 0, none⟩)] _ 0
  obtain ⟨N, hN⟩ : ∃ N, N = s.length := ⟨_, rfl⟩
  obtain ⟨c, w1, hrun, hb1, hz1, hI1⟩ := conv_str (P := Try.prog) Try.underlying9 Try.underlying25 Try.underlying5 W0 hs N hN
  have hS : SlA w1 p g (some ⟨W0.heap.size, 0, none⟩) s := fun i x hx => by
    obtain ⟨h1, b, off, h2, h3, h4⟩ := hI1.sl i x hx
    injection h2 with h2
    injection h2 with h2 h5
    subst h2 h5
    exact ⟨h1, _, _, rfl, by omega, h3, h4⟩
  have hB1 : Below w.heap.size w w1 := hb0.trans (hb1.mono (by omega))
  have HC := Lib.hid (wbytes_any p g l bad (some ⟨W0.heap.size, 0, none⟩) N c s w1 (h.below hB1 (Nat.le_refl _)) hbad hN hS hl)
  obtain ⟨ad, had⟩ : ∃ ad, ad = (some ⟨W0.heap.size, 0, none⟩ : Option Addr) := ⟨_, rfl⟩
  rw [← had] at HC hrun
  have HB := Lib.hid hB1
  have HZ := Lib.hid hz1
  have HZ0 := Lib.hid hz0
  have HR := Lib.hid hrun
  have HW0 := Lib.hid hW0
  clear hrun hb1 hz1 hI1 hS hB1 had hz0 hb0 hW0 hs
  obtain ⟨S, hSS⟩ : ∃ S, S = str s := ⟨_, rfl⟩
  rw [← hSS] at HR ⊢
  clear hSS h hN
  go_enter Try.func16, Try.ntmps16
  have hrun := HR.out
  rw [HW0.out] at hrun
  have HRU := Lib.hid hrun
  clear hrun
  have hrun := HRU.out
  go_wp2_with fail
  refine HC.out.mono ?_
  rintro e w2 ⟨rfl, g2, h2, hg2, hk2⟩
  go_wp2
  go_end0
  refine ⟨rfl, g2, h2, ?_, (K2.ofBelow (p := p) (g := g) HB.out (Nat.le_refl _)).then hk2 (.inl rfl)⟩
  have := HZ.out
  have := HZ0.out
  omega
set_option maxRecDepth 100000 in
theorem wlist_any (p g : Nat) (l : List Nat) (bad : Bool) (A : Option Addr) (m c B : Nat) (z : List Int) (w : World) (h : Bx w p g l bad) (hbad : bad = true → l = []) (hm : m = z.length) (hI : InZ w B A c z) (hB : ∀ b off, A = some ⟨b, off, none⟩ → z ≠ [] → b ≠ p ∧ b ≠ g) (hl : l.length + 4 + 4 * z.length ≤ 140737488200000) :
    Calls Try.prog 17 #[.agg #[.pointer (some ⟨p, 0, none⟩)], .slice A m c] w fun e w' => e = .returned (.tuple #[]) ∧ ∃ g', Bx w' p g' (wrT l bad (tkL z)).1 (wrT l bad (tkL z)).2 ∧ (g' = g ∨ g' = p ∨ w.heap.size ≤ g') ∧ K2 w w' p g := by
  have hplt := h.lt
  have hglt := h.glt
  obtain ⟨W0, hW0⟩ : ∃ W0, W0 = w.alloc (.cells #[.pointer (some ⟨p, 0, none⟩)] 43) := ⟨_, rfl⟩
  have hbox : W0.cell? ⟨w.heap.size, 0, none⟩ = some (.pointer (some ⟨p, 0, none⟩)) := by rw [hW0]; exact World.cell?_alloc_new w #[.pointer (some ⟨p, 0, none⟩)] _ 0
  have hz0 : W0.heap.size = w.heap.size + 1 := by rw [hW0]; simp
  have hk0 : K2 w W0 p g := by rw [hW0]; exact K2.alloc _ _ _ _
  have HC := Lib.hid (wint_any p g l bad (m : Int) W0 (by rw [hW0]; exact h.alloc _) hbad (by omega))
  have e1 : wrT l bad (tkL z) = wrT (wrN l bad (m : Int)).1 (wrN l bad (m : Int)).2 (tkZ z) := by rw [hm]; rfl
  rw [e1]
  have hln := wrN_len l bad (m : Int)
  have hnl := wrN_nil l bad (m : Int)
  obtain ⟨r, hr⟩ : ∃ r, r = wrN l bad (m : Int) := ⟨_, rfl⟩
  rw [← hr] at HC hln hnl ⊢
  have HM := Lib.hid hm
  have HW0 := Lib.hid hW0
  rw [hW0] at HC
  clear hm e1 hr hW0
  go_enter Try.func17, Try.ntmps17
  go_wp2_with fail
  refine HC.out.mono ?_
  rintro e w1 ⟨rfl, g1, h1, hg1, hk1⟩
  rw [← HW0.out] at hg1 hk1
  have hbox1 := (cell_heap (hk1.block w.heap.size (by omega) (by omega) (by omega))).trans hbox
  have hI1 : InZ w1 B A c z := hI.keep fun b off hA hz => by
    have h2 := hB b off hA hz
    obtain ⟨x, hx⟩ : ∃ x, z[0]? = some x := by
      cases z with
      | nil => exact absurd rfl hz
      | cons x t => exact ⟨x, rfl⟩
    obtain ⟨_, b', off', e, _, hc⟩ := hI.sl 0 x hx
    rw [hA] at e
    injection e with e; injection e with e _; subst e
    have hlt := cell_lt hc
    exact ((hk0.trans hk1 (.inl rfl)).block b hlt h2.1 h2.2)
  have hB1 : ∀ b off, A = some ⟨b, off, none⟩ → z ≠ [] → b ≠ p ∧ b ≠ g1 := fun b off hA hz => by
    have h2 := hB b off hA hz
    obtain ⟨x, hx⟩ : ∃ x, z[0]? = some x := by
      cases z with
      | nil => exact absurd rfl hz
      | cons x t => exact ⟨x, rfl⟩
    obtain ⟨_, b', off', e, _, hc⟩ := hI.sl 0 x hx
    rw [hA] at e
    injection e with e; injection e with e _; subst e
    have hlt := cell_lt hc
    omega
  have HC2 := Lib.hid (wints_any p g1 r.1 r.2 A m c B z w1 h1 hnl HM.out hI1 hB1 (by omega))
  have HK := Lib.hid (hk0.trans hk1 (.inl rfl))
  have HG := Lib.hid hg1
  have hzz := hk1.size
  clear hI hB hI1 hB1 h1 hk1 hg1 h hln hnl hbad hl
  go_wp2_with fail
  refine HC2.out.mono ?_
  rintro e w2 ⟨rfl, g2, h2, hg2, hk2⟩
  go_wp2
  go_end0
  have := HG.out
  exact ⟨rfl, g2, h2, by omega, HK.out.then hk2 (by omega)⟩
/-- What heads has put behind some heads. -/
def HtRel (w : World) (p g : Nat) (l : List Nat) (bad : Bool) (z : List (List Nat × Int)) (i : Value) (wr : World) : Prop :=
  ∃ (k g' : Nat) (lc : List Nat) (bc : Bool), k ≤ z.length ∧ i = .int .i64 (k : Int) ∧ Bx wr p g' lc bc ∧ (bc = true → lc = []) ∧ wrT lc bc (tkH (z.drop k)) = wrT l bad (tkHs z) ∧ lc.length + szT (tkH (z.drop k)) ≤ l.length + szT (tkHs z) ∧ (g' = g ∨ g' = p ∨ w.heap.size < g') ∧ K2 w wr p g ∧
    wr.cell? ⟨w.heap.size, 0, none⟩ = some (.pointer (some ⟨p, 0, none⟩))
set_option maxRecDepth 100000 in
set_option maxHeartbeats 1000000 in
theorem wheads_any (p g : Nat) (l : List Nat) (bad : Bool) (A : Option Addr) (m c B : Nat) (z : List (List Nat × Int)) (w : World) (h : Bx w p g l bad) (hbad : bad = true → l = []) (hm : m = z.length) (hI : HIn w B A c z) (hB : ∀ b off, A = some ⟨b, off, none⟩ → z ≠ [] → b ≠ p ∧ b ≠ g) (hl : l.length + szT (tkHs z) ≤ 140737488200000) :
    Calls Try.prog 15 #[.agg #[.pointer (some ⟨p, 0, none⟩)], .slice A m c] w fun e w' => e = .returned (.tuple #[]) ∧ ∃ g', Bx w' p g' (wrT l bad (tkHs z)).1 (wrT l bad (tkHs z)).2 ∧ (g' = g ∨ g' = p ∨ w.heap.size ≤ g') ∧ K2 w w' p g := by
  have hplt := h.lt
  have hglt := h.glt
  have hsl := szH_lb z
  have hs4 : szT (tkHs z) = 4 + szT (tkH z) := rfl
  have hmb : m ≤ 35184372088832 := by omega
  obtain ⟨W0, hW0⟩ : ∃ W0, W0 = w.alloc (.cells #[.pointer (some ⟨p, 0, none⟩)] 43) := ⟨_, rfl⟩
  have hbox : W0.cell? ⟨w.heap.size, 0, none⟩ = some (.pointer (some ⟨p, 0, none⟩)) := by rw [hW0]; exact World.cell?_alloc_new w #[.pointer (some ⟨p, 0, none⟩)] _ 0
  have hz0 : W0.heap.size = w.heap.size + 1 := by rw [hW0]; simp
  have hk0 : K2 w W0 p g := by rw [hW0]; exact K2.alloc _ _ _ _
  have HC := Lib.hid (wint_any p g l bad (m : Int) W0 (by rw [hW0]; exact h.alloc _) hbad (by omega))
  have e1 : wrT (wrN l bad (m : Int)).1 (wrN l bad (m : Int)).2 (tkH z) = wrT l bad (tkHs z) := by rw [hm]; rfl
  have hln := wrN_len l bad (m : Int)
  have hnl := wrN_nil l bad (m : Int)
  obtain ⟨r, hr⟩ : ∃ r, r = wrN l bad (m : Int) := ⟨_, rfl⟩
  rw [← hr] at HC hln hnl e1
  have HM := Lib.hid hm
  have HW0 := Lib.hid hW0
  have E1 := Lib.hid e1
  rw [hW0] at HC
  clear hm e1 hr hW0
  go_enter Try.func15, Try.ntmps15
  go_wp2_with fail
  refine HC.out.mono ?_
  rintro e w1 ⟨rfl, g1, h1, hg1, hk1⟩
  rw [← HW0.out] at hg1 hk1
  have hbox1 := (cell_heap (hk1.block w.heap.size (by omega) (by omega) (by omega))).trans hbox
  have hkk := hk0.trans hk1 (.inl rfl)
  have hzz := hk1.size
  go_wp2
  go_loopw [13] (HtRel w p g l bad z) (fun i _ => m - (intOf i).toNat)
  case atStart => exact ⟨0, g1, r.1, r.2, Nat.zero_le _, rfl, h1, hnl, E1.out, by rw [List.drop_zero]; omega, by omega, hkk, hbox1⟩
  case round =>
    clear h1 hk1 hg1 hbox1 hkk hnl hln hzz hbox hz0 hk0
    obtain ⟨k, g', lc, bc, hk, rfl, hbx, hbn, hrest, hlc, hg', hkw, hbox⟩ := hrel
    by_cases hkm : k < m
    · have hkz : k < z.length := by rw [← HM.out]; exact hkm
      obtain ⟨x, hx⟩ : ∃ x, z[k]? = some x := ⟨_, List.getElem?_eq_getElem hkz⟩
      obtain ⟨hsb, hwf, b0, off, rfl, hbB, hc0, hc1⟩ := hI.sl k x hx
      have hne := hB b0 off rfl (fun e => by rw [e] at hkz; simp at hkz)
      have hblk := hkw.block b0 (cell_lt hc0) hne.1 hne.2
      have hcr0 : wr.cell? ⟨b0, off + k * 2, none⟩ = some (.string (str x.1)) := (cell_heap hblk).trans hc0
      have hcr1 : wr.cell? ⟨b0, off + k * 2 + 1, none⟩ = some (.int .i64 x.2) := (cell_heap hblk).trans hc1
      have hdr : z.drop k = x :: z.drop (k + 1) := by
        rw [List.drop_eq_getElem_cons hkz]
        congr 1
        rw [List.getElem?_eq_getElem hkz] at hx; injection hx
      rw [hdr] at hrest hlc
      have hlc' : lc.length + (x.1.length + 2 + (4 + szT (tkH (z.drop (k + 1))))) ≤ l.length + szT (tkHs z) := hlc
      obtain ⟨wb, hwb⟩ : ∃ wb, wb = wr.alloc (.cells #[.string (str x.1), .int .i64 x.2] 38) := ⟨_, rfl⟩
      have hzb : wb.heap.size = wr.heap.size + 1 := by rw [hwb]; simp
      have hkb : K2 wr wb p g' := by rw [hwb]; exact K2.alloc _ _ _ _
      have hb0 : wb.cell? ⟨wr.heap.size, 0, none⟩ = some (.string (str x.1)) := by rw [hwb]; exact World.cell?_alloc_new wr #[.string (str x.1), .int .i64 x.2] _ 0
      have hb1 : wb.cell? ⟨wr.heap.size, 1, none⟩ = some (.int .i64 x.2) := by rw [hwb]; exact World.cell?_alloc_new wr #[.string (str x.1), .int .i64 x.2] _ 1
      have HC := Lib.hid (wtext_any p g' lc bc x.1 wb (by rw [hwb]; exact hbx.alloc _) hbn hsb (by omega))
      have e2 : wrT (wrN (wrT lc bc [.l x.1]).1 (wrT lc bc [.l x.1]).2 x.2).1 (wrN (wrT lc bc [.l x.1]).1 (wrT lc bc [.l x.1]).2 x.2).2 (tkH (z.drop (k + 1))) = wrT l bad (tkHs z) := by rw [← hrest]; rfl
      have hln := wrT_len [.l x.1] lc bc
      have hs1 : szT [.l x.1] = x.1.length + 2 := rfl
      have hnl := wrT_nil [.l x.1] lc bc hbn
      obtain ⟨r1, hr1⟩ : ∃ r1, r1 = wrT lc bc [.l x.1] := ⟨_, rfl⟩
      rw [← hr1] at HC e2 hln hnl
      obtain ⟨r2, hr2⟩ : ∃ r2, r2 = wrN r1.1 r1.2 x.2 := ⟨_, rfl⟩
      rw [← hr2] at e2
      have hln2 := wrN_len r1.1 r1.2 x.2
      have hnl2 := wrN_nil r1.1 r1.2 x.2
      rw [← hr2] at hln2 hnl2
      have hqlt := cell_lt hbox
      have hplt' := hbx.lt
      have hglt' := hbx.glt
      have HRE := Lib.hid e2
      have HLN := Lib.hid (show r2.1.length + szT (tkH (z.drop (k + 1))) ≤ l.length + szT (tkHs z) by omega)
      have HLM := Lib.hid (show r1.1.length ≤ 140737488355324 by omega)
      have HKW := Lib.hid (hkw.then hkb (by omega))
      have HGG := Lib.hid hg'
      have HQ := Lib.hid (show w.heap.size ≠ p ∧ w.heap.size ≠ g' by omega)
      have HNL := Lib.hid hnl
      have HNL2 := Lib.hid hnl2
      have hboxb := (cell_heap (hkb.block w.heap.size hqlt HQ.out.1 HQ.out.2)).trans hbox
      obtain ⟨S, hSS⟩ : ∃ S, S = str x.1 := ⟨_, rfl⟩
      rw [← hSS] at hcr0 hwb hb0 HC
      have HWB := Lib.hid hwb
      rw [hwb] at HC
      clear hrest e2 hln hr1 hx hwf hc0 hc1 hI hB hbx hbn hlc hlc' hg' hkw hSS hwb hln2 hnl hnl2 hsb hdr
      go_wp2_with fail
      refine HC.out.mono ?_
      rintro e w2 ⟨rfl, g2, h2, hg2, hk2⟩
      rw [← HWB.out] at hg2 hk2
      have hbox2 := (cell_heap (hk2.block w.heap.size (by omega) HQ.out.1 HQ.out.2)).trans hboxb
      have hb12 := (cell_heap (hk2.block wr.heap.size (by omega) (by omega) (by omega))).trans hb1
      have hz2 := hk2.size
      have HC2 := Lib.hid (wint_any p g2 r1.1 r1.2 x.2 w2 h2 HNL.out HLM.out)
      rw [← hr2] at HC2
      have HK2 := Lib.hid hk2
      have HG2 := Lib.hid hg2
      clear hr2 h2 hk2 hg2
      go_wp2_with fail
      refine HC2.out.mono ?_
      rintro e w3 ⟨rfl, g3, h3, hg3, hk3⟩
      have hgq : w.heap.size ≠ g2 := by have := HG2.out; have := HQ.out; omega
      have hbox3 := (cell_heap (hk3.block w.heap.size (by omega) HQ.out.1 hgq)).trans hbox2
      have hgx : g3 = g ∨ g3 = p ∨ w.heap.size < g3 := by have := HG2.out; have := HGG.out; omega
      have hK3 : K2 w w3 p g := (HKW.out.then HK2.out (by have := HGG.out; omega)).then hk3 (by have := HG2.out; have := HGG.out; omega)
      go_wp2
      go_roundw
      case rel => exact ⟨k + 1, g3, r2.1, r2.2, by rw [← HM.out]; omega, by go_num, h3, HNL2.out, HRE.out, HLN.out, hgx, hK3, hbox3⟩
      case measure => simp [intOf]; omega
    · have hkz : k = z.length := by rw [← HM.out] at hk ⊢; omega
      go_wp2
      go_end0
      rw [hkz, List.drop_length] at hrest
      refine ⟨rfl, g', ?_, by omega, hkw⟩
      rw [← hrest]; exact hbx
end Go.Proofs.Ytabalhhodcajmaa
