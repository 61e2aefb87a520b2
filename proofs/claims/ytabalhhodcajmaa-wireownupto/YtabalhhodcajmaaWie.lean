/- What the definition's Ints, Heads and Msg do. -/
import Derived.BigQuiet
import Derived.Test.YtabalhhodcajmaaWib
import Derived.Test.YtabalhhodcajmaaWdd
namespace Gw
open Go Go.RowKit Go.Shelf Pol
theorem bkL_len (l : List Nat) (bad : Bool) (b : List Nat) : (bkL l bad b).1.length ≤ l.length + (b.length + 2) := by
  have h2 := orN_lay b
  have h4 : (bkL l bad b).1.length = l.length + (orN (okL b) (lay b)).length := by rw [bkL_eq]; exact List.length_append
  omega
theorem bkN_len (l : List Nat) (bad : Bool) (n : Int) : (bkN l bad n).1.length ≤ l.length + 4 := by
  have h2 := orN_num n
  have h4 : (bkN l bad n).1.length = l.length + (orN (okN n) (num n)).length := by rw [bkN_eq]; exact List.length_append
  omega
end Gw
namespace Go.Proofs.Ytabalhhodcajmaa
open Go.RowKit Go.Shelf Gw Pol
/-- Put of numbers that have just been laid. -/
theorem bput_lit (p g : Nat) (l : List Nat) (bad : Bool) (n : Nat) (z : List Int) (e : TypeId) (w : World) (h : Bx w p g l bad) (hn : n = z.length) (hw : ∀ x ∈ z, (Lit.int .i64 x).wf = true) (hl : l.length + 4 * z.length ≤ 140737488355328) :
    Calls Try.prog 21 #[.pointer (some ⟨p, 0, none⟩), .slice (some ⟨w.heap.size, 0, none⟩) n n] (w.alloc (.cells (z.map (fun x => Value.int .i64 x)).toArray e)) fun e w' => e = .returned (.tuple #[]) ∧ ∃ g', Bx w' p g' (bkT l bad (tkZ z)).1 (bkT l bad (tkZ z)).2 ∧ (g' = g ∨ w.heap.size ≤ g') ∧ K2 w w' p g := by
  subst hn
  have hp := h.lt
  have hg := h.glt
  rw [← bkNs_tk]
  refine (bput_any p g l bad (some ⟨w.heap.size, 0, none⟩) z.length z.length (w.heap.size + 1) z _ (h.alloc _) rfl (InZ.lit w e z hw) (fun b off hA _ => by injection hA with hA; injection hA with hA _; subst hA; omega) hl).mono ?_
  rintro e' w' ⟨rfl, g', h1, h2, h3⟩
  rw [World.size_alloc] at h2
  exact ⟨rfl, g', h1, by omega, (K2.alloc w _ p g).trans h3 (.inl rfl)⟩
theorem wf_small {n : Nat} (h : n ≤ 9223372036854775807) : (Lit.int .i64 (n : Int)).wf = true := wf_int (by omega) (by omega)
set_option maxRecDepth 100000 in
theorem bints_any (p g : Nat) (l : List Nat) (bad : Bool) (A : Option Addr) (m c B : Nat) (z : List Int) (w : World) (h : Bx w p g l bad) (hm : m = z.length) (hI : InZ w B A c z) (hB : ∀ b off, A = some ⟨b, off, none⟩ → z ≠ [] → b ≠ p ∧ b ≠ g) (hl : l.length + 4 + 4 * z.length ≤ 140737488355328) :
    Calls Try.prog 24 #[.pointer (some ⟨p, 0, none⟩), .slice A m c] w fun e w' => e = .returned (.tuple #[]) ∧ ∃ g', Bx w' p g' (bkT l bad (tkL z)).1 (bkT l bad (tkL z)).2 ∧ (g' = g ∨ w.heap.size ≤ g') ∧ K2 w w' p g := by
  have hplt := h.lt
  have hglt := h.glt
  have HC := Lib.hid (bput_lit p g l bad 1 [(m : Int)] 3 w h rfl (fun x hx => by rw [List.mem_singleton.1 hx]; exact wf_small (by omega)) (by simp; omega))
  have e1 : bkT l bad (tkL z) = bkNs (bkT l bad (tkZ [(m : Int)])).1 (bkT l bad (tkZ [(m : Int)])).2 z := by rw [hm, bkNs_tk]; rfl
  rw [e1]
  have hln : (bkT l bad (tkZ [(m : Int)])).1.length ≤ l.length + 4 := bkN_len l bad (m : Int)
  obtain ⟨r, hr⟩ : ∃ r, r = bkT l bad (tkZ [(m : Int)]) := ⟨_, rfl⟩
  rw [← hr] at HC hln ⊢
  have HM := Lib.hid hm
  clear hm e1 hr
  go_enter Try.func24, Try.ntmps24
  go_wp2_with fail
  refine HC.out.mono ?_
  rintro e w1 ⟨rfl, g1, h1, hg1, hk1⟩
  have hI1 : InZ w1 B A c z ∧ ∀ b off, A = some ⟨b, off, none⟩ → z ≠ [] → b ≠ p ∧ b ≠ g1 := by
    have key : ∀ b off, A = some ⟨b, off, none⟩ → z ≠ [] → b < w.heap.size := fun b off hA hz => by
      obtain ⟨x, hx⟩ : ∃ x, z[0]? = some x := by
        cases z with
        | nil => exact absurd rfl hz
        | cons x t => exact ⟨x, rfl⟩
      obtain ⟨_, b', off', e, _, hc⟩ := hI.sl 0 x hx
      rw [hA] at e
      injection e with e; injection e with e _; subst e
      exact cell_lt hc
    refine ⟨hI.keep fun b off hA hz => hk1.block b (key b off hA hz) (hB b off hA hz).1 (hB b off hA hz).2, fun b off hA hz => ?_⟩
    have := key b off hA hz
    have := hB b off hA hz
    omega
  have HC2 := Lib.hid (bput_any p g1 r.1 r.2 A m c B z w1 h1 HM.out hI1.1 hI1.2 (by omega))
  have HK := Lib.hid hk1
  have HG := Lib.hid hg1
  have hzz := hk1.size
  clear hI hB hI1 h1 hk1 hg1 h hln hl
  go_wp2_with fail
  refine HC2.out.mono ?_
  rintro e w2 ⟨rfl, g2, h2, hg2, hk2⟩
  go_wp2
  go_end0
  have := HG.out
  exact ⟨rfl, g2, h2, by omega, HK.out.then hk2 (by omega)⟩
/-- What Heads has put behind some heads. -/
def BhRel (w : World) (p g : Nat) (l : List Nat) (bad : Bool) (z : List (List Nat × Int)) (i : Value) (wr : World) : Prop :=
  ∃ (k g' : Nat) (lc : List Nat) (bc : Bool), k ≤ z.length ∧ i = .int .i64 (k : Int) ∧ Bx wr p g' lc bc ∧ bkT lc bc (tkH (z.drop k)) = bkT l bad (tkHs z) ∧ lc.length + szT (tkH (z.drop k)) ≤ l.length + szT (tkHs z) ∧ (g' = g ∨ w.heap.size ≤ g') ∧ K2 w wr p g
set_option maxRecDepth 100000 in
set_option maxHeartbeats 1000000 in
theorem bheads_any (p g : Nat) (l : List Nat) (bad : Bool) (A : Option Addr) (m c B : Nat) (z : List (List Nat × Int)) (w : World) (h : Bx w p g l bad) (hm : m = z.length) (hI : HIn w B A c z) (hB : ∀ b off, A = some ⟨b, off, none⟩ → z ≠ [] → b ≠ p ∧ b ≠ g) (hl : l.length + szT (tkHs z) ≤ 140737488355326) :
    Calls Try.prog 22 #[.pointer (some ⟨p, 0, none⟩), .slice A m c] w fun e w' => e = .returned (.tuple #[]) ∧ ∃ g', Bx w' p g' (bkT l bad (tkHs z)).1 (bkT l bad (tkHs z)).2 ∧ (g' = g ∨ w.heap.size ≤ g') ∧ K2 w w' p g := by
  have hplt := h.lt
  have hglt := h.glt
  have hsl := szH_lb z
  have hs4 : szT (tkHs z) = 4 + szT (tkH z) := rfl
  have hmb : m ≤ 35184372088832 := by omega
  have HC := Lib.hid (bput_lit p g l bad 1 [(m : Int)] 3 w h rfl (fun x hx => by rw [List.mem_singleton.1 hx]; exact wf_small (by omega)) (by simp; omega))
  have e1 : bkT (bkT l bad (tkZ [(m : Int)])).1 (bkT l bad (tkZ [(m : Int)])).2 (tkH z) = bkT l bad (tkHs z) := by rw [hm]; rfl
  have hln : (bkT l bad (tkZ [(m : Int)])).1.length ≤ l.length + 4 := bkN_len l bad (m : Int)
  obtain ⟨r, hr⟩ : ∃ r, r = bkT l bad (tkZ [(m : Int)]) := ⟨_, rfl⟩
  rw [← hr] at HC hln e1
  have HM := Lib.hid hm
  have E1 := Lib.hid e1
  clear hm e1 hr
  go_enter Try.func22, Try.ntmps22
  go_wp2_with fail
  refine HC.out.mono ?_
  rintro e w1 ⟨rfl, g1, h1, hg1, hk1⟩
  have hzz := hk1.size
  go_wp2
  go_loopw [4] (BhRel w p g l bad z) (fun i _ => m - (intOf i).toNat)
  case atStart => exact ⟨0, g1, r.1, r.2, Nat.zero_le _, rfl, h1, E1.out, by rw [List.drop_zero]; omega, hg1, hk1⟩
  case round =>
    clear h1 hk1 hg1 hln hzz
    obtain ⟨k, g', lc, bc, hk, rfl, hbx, hrest, hlc, hg', hkw⟩ := hrel
    by_cases hkm : k < m
    · have hkz : k < z.length := by rw [← HM.out]; exact hkm
      obtain ⟨x, hx⟩ : ∃ x, z[k]? = some x := ⟨_, List.getElem?_eq_getElem hkz⟩
      obtain ⟨hsb, hwf, b0, off, rfl, hbB, hc0, hc1⟩ := hI.sl k x hx
      have hne := hB b0 off rfl (fun e => by rw [e] at hkz; simp at hkz)
      have hblk := hkw.block b0 (cell_lt hc0) hne.1 hne.2
      have hcr0 : wr.cell? ⟨b0, off + k * 2, none⟩ = some (.string (str x.1)) := (cell_heap hblk).trans hc0
      have hcr1 : wr.cell? ⟨b0, off + k * 2 + 1, none⟩ = some (.int .i64 x.2) := (cell_heap hblk).trans hc1
      have hb0r := cell_lt hcr1
      have hneg : b0 ≠ g' := by
        have := cell_lt hc0
        omega
      have hdr : z.drop k = x :: z.drop (k + 1) := by
        rw [List.drop_eq_getElem_cons hkz]
        congr 1
        rw [List.getElem?_eq_getElem hkz] at hx; injection hx
      rw [hdr] at hrest hlc
      have hlc' : lc.length + (x.1.length + 2 + (4 + szT (tkH (z.drop (k + 1))))) ≤ l.length + szT (tkHs z) := hlc
      obtain ⟨N, hN⟩ : ∃ N, N = x.1.length := ⟨_, rfl⟩
      obtain ⟨cv, wv, hrun, hbv, hzv, hIv⟩ := conv_str (P := Try.prog) Try.underlying9 Try.underlying25 Try.underlying5 wr hsb N hN
      have hplt' := hbx.lt
      have hglt' := hbx.glt
      have HC := Lib.hid (blay_any p g' lc bc (some ⟨wr.heap.size, 0, none⟩) N cv x.1 wv (hbx.below hbv (Nat.le_refl _)) hN hIv (by omega))
      have e2 : bkT (bkT (bkL lc bc x.1).1 (bkL lc bc x.1).2 (tkZ [x.2])).1 (bkT (bkL lc bc x.1).1 (bkL lc bc x.1).2 (tkZ [x.2])).2 (tkH (z.drop (k + 1))) = bkT l bad (tkHs z) := by rw [← hrest]; rfl
      have hln := bkL_len lc bc x.1
      obtain ⟨r1, hr1⟩ : ∃ r1, r1 = bkL lc bc x.1 := ⟨_, rfl⟩
      rw [← hr1] at HC e2 hln
      have hln2 : (bkT r1.1 r1.2 (tkZ [x.2])).1.length ≤ r1.1.length + 4 := bkN_len r1.1 r1.2 x.2
      obtain ⟨r2, hr2⟩ : ∃ r2, r2 = bkT r1.1 r1.2 (tkZ [x.2]) := ⟨_, rfl⟩
      rw [← hr2] at e2 hln2
      have HRE := Lib.hid e2
      have HLN := Lib.hid (show r2.1.length + szT (tkH (z.drop (k + 1))) ≤ l.length + szT (tkHs z) by omega)
      have HLM := Lib.hid (show r1.1.length + 4 ≤ 140737488355326 by omega)
      have HKW := Lib.hid (hkw.then (K2.ofBelow (p := p) (g := g') hbv (Nat.le_refl _)) (by omega))
      have HGG := Lib.hid hg'
      have hcv1 : wv.cell? ⟨b0, off + k * 2 + 1, none⟩ = some (.int .i64 x.2) := (cell_heap (hbv.block b0 hb0r)).trans hcr1
      have HNE := Lib.hid hneg
      have HWF := Lib.hid hwf
      have hsv : wr.heap.size ≤ wv.heap.size := by omega
      obtain ⟨S, hSS⟩ : ∃ S, S = str x.1 := ⟨_, rfl⟩
      rw [← hSS] at hcr0 hrun
      obtain ⟨ad, had⟩ : ∃ ad, ad = (some ⟨wr.heap.size, 0, none⟩ : Option Addr) := ⟨_, rfl⟩
      rw [← had] at HC hrun
      clear hrest e2 hln hr1 hx hc0 hc1 hI hB hbx hlc hlc' hg' hkw hSS hln2 hsb hdr hbv hIv hN hzv had hcr1 hblk hwf
      go_wp2_with fail
      refine HC.out.mono ?_
      rintro e w2 ⟨rfl, g2, h2, hg2, hk2⟩
      have hc2 := (cell_heap (hk2.block b0 (by omega) hne.1 HNE.out)).trans hcv1
      have hz2 := hk2.size
      have HC2 := Lib.hid (bput_lit p g2 r1.1 r1.2 1 [x.2] 3 w2 h2 rfl (fun y hy => by rw [List.mem_singleton.1 hy]; exact HWF.out) (by have := HLM.out; simp; omega))
      rw [← hr2] at HC2
      have HK2 := Lib.hid hk2
      have HG2 := Lib.hid hg2
      clear hr2 h2 hk2 hg2 hcv1 hrun hcr0
      go_wp2_with fail
      refine HC2.out.mono ?_
      rintro e w3 ⟨rfl, g3, h3, hg3, hk3⟩
      have hszw := HKW.out.size
      have hgx : g3 = g ∨ w.heap.size ≤ g3 := by have := HG2.out; have := HGG.out; omega
      have hK3 : K2 w w3 p g := (HKW.out.then HK2.out (by have := HGG.out; omega)).then hk3 (by have := HG2.out; have := HGG.out; omega)
      go_wp2
      go_roundw
      case rel => exact ⟨k + 1, g3, r2.1, r2.2, by rw [← HM.out]; omega, by go_num, h3, HRE.out, HLN.out, hgx, hK3⟩
      case measure => simp [intOf]; omega
    · have hkz : k = z.length := by rw [← HM.out] at hk ⊢; omega
      go_wp2
      go_end0
      rw [hkz, List.drop_length] at hrest
      refine ⟨rfl, g', ?_, hg', hkw⟩
      rw [← hrest]; exact hbx
end Go.Proofs.Ytabalhhodcajmaa
