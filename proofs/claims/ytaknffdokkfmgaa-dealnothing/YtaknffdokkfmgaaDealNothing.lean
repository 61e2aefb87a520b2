/- For every input DealNothing returns true, and every argument reads behind the call as it did before: no condition. -/
import Derived.ProofKit
import Derived.OpenShut
import Derived.SizedLaws
import Derived.ChangeOld
import Derived.Carry
import Derived.Test.YtaknffdokkfmgaaRows
import Derived.Test.YtaknffdokkfmgaaJ2
import Derived.Test.YtaknffdokkfmgaaJ5
import Derived.Test.YtaknffdokkfmgaaJ9
import Derived.Test.YtaknffdokkfmgaaJ10
import Derived.Test.YtaknffdokkfmgaaJ14
import Derived.Test.YtaknffdokkfmgaaJ15
namespace Go.Proofs.Ytaknffdokkfmgaa.dealNothing
open Go.ChangeShapes Go.WideShapes Go.ChangeAt Go.RowKit Go.Shelf Gw Pol

theorem own : ownKnob Try.prog.godebug = none := by kernel_rfl
theorem laidOut : laidOutB Try.prog = true := by kernel_rfl
def vlen : Value → Nat
  | .slice _ n _ => n
  | _ => 0
def SnRel (wo : World) (f m n k : Nat) (p pl : List Nat) (v21 v22 i : Value) (wr : World) : Prop :=
  ∃ (j : Nat) (Aa Ab : Option Addr) (ca cb : Nat), j ≤ m ∧ v21 = .slice Aa j ca ∧ v22 = .slice Ab j cb ∧ i = .int .i64 ((f + j : Nat) : Int) ∧ AB wo.heap.size 5 wr Aa ca (ptL f j) Ab cb (nuL n k p pl f j) ∧ Below wo.heap.size wo wr
def NoRel (wL : World) (C t : Nat) (nq : Nat → List Nat) (v17 i : Value) (wr : World) : Prop :=
  ∃ (c : Nat) (A : Option Addr) (cc : Nat), c ≤ C ∧ v17 = .slice A (c * t) cc ∧ i = .int .i64 (c : Int) ∧ Gw.Own wr wL.heap.size 5 A cc (Sp.cat nq c) ∧ Below wL.heap.size wL wr
def PdRel (wq : World) (bq t : Nat) (Q0 : List Nat) (v : Value) (wr : World) : Prop :=
  ∃ (z : Nat) (A : Option Addr) (c : Nat), Q0.length + z ≤ t ∧ v = .slice A (Q0.length + z) c ∧ Gw.Own wr bq 5 A c (Q0 ++ List.replicate z 0) ∧ Below bq wq wr
def FrRel (wT : World) (f t : Nat) (i : Value) (wr : World) : Prop := ∃ h : Nat, f ≤ h ∧ h ≤ f + t ∧ i = .int .i64 (h : Int) ∧ Below wT.heap.size wT wr
set_option maxRecDepth 100000 in
set_option maxHeartbeats 8000000 in
theorem side_yes (n t k e r : Nat) (h1 : 1 ≤ t) (h2 : 1 ≤ k) (h5 : t + k + 2 * e ≤ n) (hnk : n + k ≤ 255) (hg0 : goodB n t k e r = true) (hn30 : n ≤ 30) (A1 : Option Addr) (c1 N : Nat) (l1 : List Nat) (A2 : Option Addr) (c2 : Nat) (l2 : List Nat) (A3 : Option Addr) (c3 M : Nat) (l3 : List Nat) (q4 : Nat) (hq4 : q4 < 256) (w : World) (hN : N = l1.length) (hN2 : N = l2.length) (hN30 : N ≤ 30) (hM : M = l3.length) (_hMb : M ≤ 140737488351232) (wi1 : In w w.heap.size A1 c1 l1) (wi2 : In w w.heap.size A2 c2 l2) (wi3 : In w w.heap.size A3 c3 l3) (C : Nat) (hC : C = Sp.cnt N k) (hlen : M = t * C) :
    Calls Try.prog 8 #[pv n t k e r, .slice A1 N c1, .slice A2 N c2, .slice A3 M c3, .int .u8 (q4 : Int)] w fun e w' => e = .returned (.bool true) ∧ Below w.heap.size w w' := by
  have hCN : C ≤ N := by rw [hC]; exact Sp.cnt_le N k
  have HLEN := Lib.hid (show l3.length = t * C by rw [← hM]; exact hlen)
  have HN := Lib.hid hN
  have HN2 := Lib.hid hN2
  have HM := Lib.hid hM
  have HC0 := Lib.hid hC
  obtain ⟨i0, hi0, hz0, hz1, hz2⟩ := info_parts byte_info
  have HRL := Lib.hid (show (rt (secL n k)).length = k + 1 by rw [(rt_top _).1, secL_len])
  have HSL := Lib.hid (secL_len n k)
  obtain ⟨u, hu⟩ : ∃ u, u = n - t + 1 := ⟨_, rfl⟩
  obtain ⟨v1, hv1⟩ : ∃ v, v = n - t := ⟨_, rfl⟩
  have f1 : (n : Int) - (t : Int) = (v1 : Int) := by omega
  have f3 : (v1 : Int) + 1 = (u : Int) := by omega
  have hu0 : 0 < u := by omega
  have hub : u ≤ 255 := by omega
  obtain ⟨f, hf⟩ : ∃ f, f = q4 % u := ⟨_, rfl⟩
  have hfu : f < u := by rw [hf]; exact Nat.mod_lt _ hu0
  have f4 : (q4 : Int) % (u : Int) = (f : Int) := by rw [hf]; rfl
  have hfn : f + t ≤ n := by omega
  obtain ⟨g1, hg1⟩ : ∃ g, g = f + t := ⟨_, rfl⟩
  have f5 : (f : Int) + (t : Int) = (g1 : Int) := by omega
  have hg1a : g1 ≤ f + t := by omega
  have hg1c : f + t ≤ g1 := by omega
  have hv1b : v1 ≤ 255 := by omega
  obtain ⟨nq, hnqd⟩ : ∃ q, q = nqL n k t l2 (polL n k t l1 l3) f := ⟨_, rfl⟩
  clear hu hv1 hf hg1
  have hpb1 := Pbx.new w 23 n t k e r
  have hb1 : Below w.heap.size w (w.alloc (.cells #[.int .i64 (n : Int), .int .i64 (t : Int), .int .i64 (k : Int), .int .i64 (e : Int), .int .i64 (r : Int)] 23)) := (Below.refl _ w).alloc (Nat.le_refl _) _
  have HG := Lib.hid (rgood_any n t k e r (w.alloc (.cells #[.int .i64 (n : Int), .int .i64 (t : Int), .int .i64 (k : Int), .int .i64 (e : Int), .int .i64 (r : Int)] 23)))
  rw [hg0] at HG
  clear hN hN2 hM hC hlen
  go_enter Try.func8, Try.ntmps8
  go_wp2_with fail
  refine HG.out.mono ?_
  rintro _ u2 ⟨rfl, hb2⟩
  have HP2 := Lib.hid (hpb1.below hb2 hpb1.lt)
  have HB2 := Lib.hid (hb1.trans (hb2.mono hb1.size))
  clear hpb1 hb1 hb2 HG
  obtain ⟨y0, y1, y2, y3, y4⟩ := HP2.out
  go_wp2_with fail
  refine (new_any u2).mono ?_
  rintro _ u3 ⟨rfl, hF3, hb3⟩
  have HP3 := Lib.hid (HP2.out.below hb3 HP2.out.lt)
  have HB3 := Lib.hid (HB2.out.trans (hb3.mono HB2.out.size))
  have HF3 := Lib.hid hF3
  have HI1 := Lib.hid ((wi1.below HB3.out).more HB3.out.size)
  have HI3 := Lib.hid ((wi3.below HB3.out).more HB3.out.size)
  clear y0 y1 y2 y3 y4 hb3 hF3
  obtain ⟨y0, y1, y2, y3, y4⟩ := HP3.out
  go_wp2_with fail
  refine (dshare_yes n t k e r hg0 u2.heap.size A1 A3 c1 c3 N M C l1 l3 HN.out HM.out u3 HF3.out HI1.out HI3.out HC0.out HLEN.out (by omega)).mono ?_
  rintro _ u4 ⟨As, cs, ps, qs, rfl, hS, hb4⟩
  have HPB := Lib.hid (HP3.out.below hb4 HP3.out.lt)
  have HPL := Lib.hid HPB.out.lt
  have HB4 := Lib.hid (HB3.out.trans (hb4.mono HB3.out.size))
  have HF4 := Lib.hid (HF3.out.below hb4 HF3.out.lt)
  have HS4 := Lib.hid hS
  have HI2 := Lib.hid ((wi2.below HB4.out).more HB4.out.size)
  clear y0 y1 y2 y3 y4 hb4 hS
  have z0 := HPB.out.c0
  have z1 := HPB.out.c1
  go_wp2
  rw [f4]
  clear z0 z1
  rename_i K0 hK0
  refine Gt.regionA [Gt.Is (pv (n : Int) (t : Int) (k : Int) (e : Int) (r : Int)), OIs u4.heap.size k (secL n k), Gt.Is (pv (n : Int) (t : Int) (k : Int) (e : Int) (r : Int)), OIs u4.heap.size k (secL n k), OIs u4.heap.size (k + 1) (rt (secL n k)), OIs u4.heap.size k (secL n k), OIs u4.heap.size (k + 1) (rt (secL n k))] 172
    [⟨[], [5], none⟩, ⟨[(0, 71)], [], none⟩, ⟨[], [5], none⟩, ⟨[(2, 73)], [], none⟩, ⟨[(3, 74)], [], none⟩, ⟨[(1, 72)], [], none⟩, ⟨[(4, 75)], [], none⟩]
    [(0, 71), (1, 72), (2, 73), (3, 74), (4, 75), (5, 15), (6, 16)] (by kernel_rfl) (by kernel_rfl) (by kernel_rfl) (by kernel_rfl) ?_ ?_ ?_
  · simp only [Gt.Monos]
    repeat' apply And.intro
    all_goals (first | exact trivial | exact Gt.Is.mono _ | exact OIs.mono _ _ _ | exact NIs.mono _ _ | exact FIs.mono | exact MIs.mono _ _ | exact TIs.mono _ _ | exact ZIs.mono | exact EIs.mono | exact LIs.mono _ | exact SIs.mono _ _ | exact GIs.mono _ _ _)
  · simp only [Gt.Obs]
    repeat' apply And.intro
    all_goals try exact trivial
    all_goals (
      intro a w5 hg
      have hg' : Below u4.heap.size u4 w5 := hg
      simp only [Gt.Pre, Gt.Kept, Gt.Guarded, Gt.tys, List.getD_cons_zero, List.getD_cons_succ, Gt.Is, Nat.zero_add, Nat.reduceAdd]
      intros
      try (refine ⟨fun _ => ?_, fun hne => absurd (by assumption) hne⟩))
    all_goals (first
      | exact Gt.ok_move rfl (by assumption)
      | exact Gt.ok_assign rfl (by assumption)
      | exact Gt.ok_pick rfl (by assumption) (by rw [if_pos rfl]; assumption)
      | (exact Gt.ok_load rfl (by assumption) (HPB.out.below hg' HPL.out).load rfl)
      | (refine Gt.ok_call (f := 17) rfl #[pv (n : Int) (t : Int) (k : Int) (e : Int) (r : Int)] (by kernel_rfl) (by simp [*]) ((rsec_any n k t e r hnk _).mono ?_)
         rintro e w6 ⟨A6, c6, rfl, ho6, hb6⟩
         exact ⟨_, rfl, hb6, A6, c6, rfl, ho6.base hg'.size⟩)
      | (obtain ⟨A6, c6, hv6, ho6⟩ : OIs u4.heap.size k (secL n k) (a.eval (.tmp 74)) w5 := by assumption
         refine Gt.ok_call (f := 32) rfl #[.slice A6 k c6] (by kernel_rfl) (by simp [hv6]) ((rroots' A6 c6 k (secL n k) w5 HSL.out.symm ho6.inn (by rw [HSL.out]; omega)).mono ?_)
         rintro e w6 ⟨A7, c7, rfl, ho7, hb7⟩
         exact ⟨_, rfl, hb7, A7, c7, by rw [HRL.out], ho7.base hg'.size⟩))
  · intro a w5 hg
    have hg' : Below u4.heap.size u4 w5 := hg
    simp only [Gt.Pre, Gt.tys, List.getD_cons_zero, List.getD_cons_succ, Gt.Is]
    intro h0 h1 h2 h3 h4 h5 h6
    show K0 _ _
    refine hK0 _ _ ?_
    obtain ⟨Axs, cxs, h5, hoX⟩ := h5
    obtain ⟨Azs, czs, h6, hoZ⟩ := h6
    obtain ⟨_, _, h1, _⟩ := h1
    obtain ⟨_, _, h3, _⟩ := h3
    obtain ⟨_, _, h4, _⟩ := h4
    simp only [Gt.puts, List.foldl_cons, List.foldl_nil, h0, h1, h2, h3, h4, h5, h6]
    simp only [Act.put, List.setIfInBounds_toArray, List.set_cons_zero, List.set_cons_succ]
    have HB5 := Lib.hid (HB4.out.trans (hg'.mono HB4.out.size))
    have HP5 := Lib.hid (HPB.out.below hg' HPL.out)
    have HF5 := Lib.hid (HF4.out.below hg' HF4.out.lt)
    have HS5 := Lib.hid ((HS4.out.below hg').more hg'.size)
    have HX5 := Lib.hid hoX.inn
    have HZ5 := Lib.hid hoZ.inn
    have hs := rsplit_any A2 c2 N k l2 w5 HN2.out ((HI2.out.below hg').more hg'.size) (by omega) (by omega) (by omega)
    rw [← HC0.out] at hs
    have HSP := Lib.hid hs
    have HI25 := Lib.hid ((HI2.out.below hg').more hg'.size)
    clear h0 h1 h2 h3 h4 h5 h6 hoX hoZ hs
    clear hg' hg
    have z2 := HP5.out.c2
    go_wp2_with fail
    refine HSP.out.mono ?_
    rintro _ wL ⟨vc, pc, qc, rfl, hG3⟩
    obtain ⟨Ac, cc, rfl, hMc⟩ := hG3.min (fun i _ => Sp.col_len l2 k i)
    have hbL := hG3.bel
    have HBL := Lib.hid (HB5.out.trans (hbL.mono HB5.out.size))
    have HPL_ := Lib.hid (HP5.out.below hbL HP5.out.lt)
    have HFL_ := Lib.hid (HF5.out.below hbL HF5.out.lt)
    have HSL_ := Lib.hid ((HS5.out.below hbL).more hbL.size)
    have HXL_ := Lib.hid ((HX5.out.below hbL).more hbL.size)
    have HZL_ := Lib.hid ((HZ5.out.below hbL).more hbL.size)
    have HI2L := Lib.hid ((HI25.out.below hbL).more hbL.size)
    have HCL_ := Lib.hid hMc
    clear hG3 hMc hbL z2 HSP HPB HPL
    go_wp2
    go_loopw [17, 19] (NoRel wL C t nq) (fun _ i _ => C - (intOf i).toNat)
    case atStart => exact ⟨0, none, 0, Nat.zero_le _, by rw [Nat.zero_mul], rfl, Own.none_ _ _ _, Below.refl _ _⟩
    case round =>
      obtain ⟨c, Aag, cag, hc0, rfl, rfl, hoa, hbo⟩ := hrel
      by_cases hcC : c < C
      · have hcCi : (c : Int) < (C : Int) := by omega
        obtain ⟨p, hp⟩ : ∃ p, p = polL n k t l1 l3 c := ⟨_, rfl⟩
        obtain ⟨pl, hpl⟩ : ∃ p, p = thr (secL n k) (Sp.col l2 k c) := ⟨_, rfl⟩
        obtain ⟨npl, hnpl⟩ : ∃ x, x = pl.length := ⟨_, rfl⟩
        have hnplb : npl ≤ 255 := by rw [hnpl, hpl]; have := thr_len (secL n k) (Sp.col l2 k c); rw [secL_len] at this; omega
        obtain ⟨Q0, hQ0⟩ : ∃ q, q = thr (ptL f t) (nuL n k p pl f t) := ⟨_, rfl⟩
        obtain ⟨n0, hn0⟩ : ∃ x, x = Q0.length := ⟨_, rfl⟩
        have hn0t : n0 ≤ t := by rw [hn0, hQ0]; have := thr_len (ptL f t) (nuL n k p pl f t); rw [ptL_len] at this; exact this
        have hp' : nqL n k t l2 (polL n k t l1 l3) f c = padL t Q0 := by rw [hQ0, hp, hpl]; rfl
        obtain ⟨bc, oc, hAc, hblc, hkc, hic⟩ := (HCL_.out.below hbo).rd c hcC
        subst hAc
        rw [Sp.col_len] at hkc
        have hcapc := HCL_.out.cap
        have hbos := hbo.size
        have HT0 := Lib.hid (rthrough10 Axs (pc c) cxs (qc c) k k npl (secL n k) (Sp.col l2 k c) wr (secL_len n k).symm (Sp.col_len l2 k c).symm (by rw [hnpl, hpl]) ((HXL_.out.below hbo).more hbos) (hic.more hbos) (by rw [secL_len, Sp.col_len]; exact Nat.le_refl _) (by rw [secL_len]; omega))
        rw [← hpl] at HT0
        have HNPL := Lib.hid hnpl
        have HN1 := Lib.hid (show n0 = (thr (ptL f t) (nuL n k p pl f t)).length by rw [hn0, hQ0])
        have HQ0 := Lib.hid hQ0
        have HN0 := Lib.hid hn0
        have HOA0 := Lib.hid hoa
        have HB0 := Lib.hid hbo
        clear hnpl hn0 hoa hbo hic hQ0
        go_wp2_with fail
        refine HT0.out.mono ?_
        rintro _ wo ⟨Apl, cpl, rfl, hopl, hbp⟩
        have HBRO := Lib.hid (HB0.out.trans (hbp.mono HB0.out.size))
        have HPO := Lib.hid (HPL_.out.below HBRO.out HPL_.out.lt)
        have HSO := Lib.hid ((HSL_.out.below HBRO.out).more HBRO.out.size)
        have HZO := Lib.hid ((HZL_.out.below HBRO.out).more HBRO.out.size)
        have HPLN := Lib.hid hopl.inn
        have HOA := Lib.hid (HOA0.out.kept hbp)
        clear hopl hbp hkc HT0
        go_wp2
        go_loopw [21, 22, 23] (SnRel wo f t n k p pl) (fun _ _ i _ => f + t - (intOf i).toNat)
        case atStart => exact ⟨0, none, none, 0, 0, Nat.zero_le _, rfl, rfl, rfl, AB.start _ _ _, Below.refl _ _⟩
        case round =>
          obtain ⟨j, Aa, Ab, ca, cb, hj, rfl, rfl, rfl, hAB, hbel⟩ := hrel
          have hbs := hbel.size
          have hpbr := HPO.out.below hbel HPO.out.lt
          have z1 := hpbr.c1
          obtain ⟨H, hH⟩ : ∃ H, H = f + j := ⟨_, rfl⟩
          rw [← hH]
          by_cases hjm : j < t
          · have hHn : H < n := by omega
            have hHi : (H : Int) < (n : Int) := by omega
            have hHg : (H : Int) < (g1 : Int) := by omega
            obtain ⟨bs, os, hAs, hbl, hks, his⟩ := (HSO.out.below hbel).rd H hHn
            subst hAs
            rw [shRow_len] at hks
            obtain ⟨vs, b2, o2, hvs1, hvs, hps, hb2, hcy⟩ := his.sl.at_ (k := c) (by rw [shRow_len]; exact hcC)
            rw [hps] at hks
            have hcaps := HSO.out.cap
            have hcapc := his.cap
            rw [shRow_len] at hcapc
            obtain ⟨qs2, hqs2⟩ : ∃ q, q = qs H := ⟨_, rfl⟩
            rw [← hqs2] at hks hcapc
            have hbl0 : bs < wo.heap.size := hbl
            have hb20 : b2 < wo.heap.size := hb2
            have HC : Hid (∀ w', Below wo.heap.size wo w' → w'.cell? ⟨bs, os + H, none⟩ = some (.slice (some ⟨b2, o2, none⟩) C qs2) ∧ w'.cell? ⟨b2, o2 + c, none⟩ = some (.int .u8 (vs : Int))) := Lib.hid (fun w' hb => by
              obtain ⟨bs', os', hAs', _, hks', his'⟩ := (HSO.out.below hb).rd H hHn
              injection hAs' with hAs'
              injection hAs' with e1 e2
              subst e1 e2
              rw [shRow_len, hps, ← hqs2] at hks'
              obtain ⟨vy', b2', o2', hvy1', _, hps', _, hcy'⟩ := his'.sl.at_ (k := c) (by rw [shRow_len]; exact hcC)
              rw [hps] at hps'
              injection hps' with hps'
              injection hps' with e1 e2
              subst e1 e2
              rw [hvs1] at hvy1'
              injection hvy1' with hvy1'
              subst hvy1'
              exact ⟨hks', hcy'⟩)
            obtain ⟨vx, hvxe⟩ : ∃ vx, vx = f + 1 + j := ⟨_, rfl⟩
            have hvx : vx < 256 := by omega
            have eX : (H : Int) + 1 = (vx : Int) := by omega
            have eXw : IntKind.i64.wrap (vx : Int) = (vx : Int) := by rw [IntKind.wrap_i64]; omega
            have eXb : IntKind.u8.wrap (vx : Int) = (vx : Int) := wrap_byte hvx
            have hvsp : vs = ev vx p := by
              rw [← co_of' hvs1, co_shRow _ hcC, hp, hvxe, hH]
              congr 1; omega
            obtain ⟨vp, hvp⟩ : ∃ v, v = ev vx pl := ⟨_, rfl⟩
            obtain ⟨vz, hvz⟩ : ∃ v, v = ev vx (rt (secL n k)) := ⟨_, rfl⟩
            obtain ⟨vi, hvi⟩ : ∃ v, v = Gf.inv vz := ⟨_, rfl⟩
            obtain ⟨vd, hvd⟩ : ∃ v, v = vs ^^^ vp := ⟨_, rfl⟩
            obtain ⟨vy, hvy0⟩ : ∃ v, v = Gf.gm vd vi := ⟨_, rfl⟩
            have hvpb : vp < 256 := by rw [hvp]; exact ev_lt HPLN.out.bb _
            have hvzb : vz < 256 := by rw [hvz]; exact ev_lt (rt_sec_bb n k) _
            have hvib : vi < 256 := by rw [hvi]; exact Gf.inv_lt _
            have hvdb : vd < 256 := by rw [hvd]; exact Nat.xor_lt_two_pow (n := 8) hvs hvpb
            have hvy : vy < 256 := by rw [hvy0]; exact Gf.gm_lt _ _
            have hxor : bits .xor .u8 (vs : Int) (vp : Int) = (vd : Int) := by rw [hvd]; exact u8_xor_nat vs vp hvs hvpb
            have HE1 : Hid (∀ W, Below wo.heap.size wo W → Calls Try.prog 31 #[.slice Apl npl cpl, .int .u8 (vx : Int)] W fun e w' => e = .returned (.int .u8 (vp : Int)) ∧ w' = W) := Lib.hid fun W hW =>
              (reval' Apl cpl npl pl vx hvx W wo.heap.size HNPL.out (HPLN.out.below hW) (by rw [← HNPL.out]; omega)).mono fun e w' h => ⟨by rw [h.1, hvp], h.2.symm⟩
            have HE2 : Hid (∀ W, Below wo.heap.size wo W → Calls Try.prog 31 #[.slice Azs (k + 1) czs, .int .u8 (vx : Int)] W fun e w' => e = .returned (.int .u8 (vz : Int)) ∧ w' = W) := Lib.hid fun W hW =>
              (reval' Azs czs (k + 1) (rt (secL n k)) vx hvx W wo.heap.size HRL.out.symm (HZO.out.below hW) (by rw [HRL.out]; omega)).mono fun e w' h => ⟨by rw [h.1, hvz], h.2.symm⟩
            have HIV : Hid (∀ W, Below wo.heap.size wo W → Calls Try.prog 34 #[.int .u8 (vz : Int)] W fun e w' => e = .returned (.int .u8 (vi : Int)) ∧ w' = W) := Lib.hid fun W _ =>
              (rinv_same vz hvzb W).mono fun e w' h => ⟨by rw [h.1, hvi], h.2⟩
            have HMU : Hid (∀ W, Below wo.heap.size wo W → Calls Try.prog 33 #[.int .u8 (vd : Int), .int .u8 (vi : Int)] W fun e w' => e = .returned (.int .u8 (vy : Int)) ∧ w' = W) := Lib.hid fun W _ =>
              (rmul_any vd vi hvdb hvib W).mono fun e w' h => ⟨by rw [h.1, hvy0], h.2.symm⟩
            obtain ⟨la, hla⟩ : ∃ la, la = ptL f j := ⟨_, rfl⟩
            obtain ⟨lb, hlb⟩ : ∃ lb, lb = nuL n k p pl f j := ⟨_, rfl⟩
            have hlal : la.length = j := by rw [hla, ptL_len]
            have hlbl : lb.length = j := by rw [hlb, nuL_len]
            have HNA := Lib.hid hlal.symm
            have HNB := Lib.hid hlbl.symm
            have HLA := Lib.hid (show (la ++ [vx]).length = j + 1 by rw [List.length_append, hlal]; rfl)
            have HLB := Lib.hid (show (lb ++ [vy]).length = j + 1 by rw [List.length_append, hlbl]; rfl)
            have HPA := Lib.hid (show ptL f (j + 1) = la ++ [vx] by rw [ptL_succ, hla, hvxe])
            have HPB2 := Lib.hid (show nuL n k p pl f (j + 1) = lb ++ [vy] by rw [nuL_succ, hlb, hvy0, hvd, hvi, hvz, hvp, hvsp, hvxe]; rfl)
            rw [← hla, ← hlb] at hAB
            have HAB := Lib.hid hAB
            have HH := Lib.hid (show f + (j + 1) = H + 1 by omega)
            have hHb : H ≤ 255 := by omega
            have hjb : j ≤ 255 := by omega
            clear hAB hla hlb hvs1 hvsp hps hks hcy his hqs2 hvxe hlal hlbl hH hpbr hvp hvz hvi hvd hvy0
            go_wp2
            clear z1
            obtain ⟨ra, hra⟩ : ∃ ra, ra = (Value.slice Aa j ca).ownBlock := ⟨_, rfl⟩
            obtain ⟨rb, hrb⟩ : ∃ rb, rb = (Value.slice Ab j cb).ownBlock := ⟨_, rfl⟩
            have HRA := Lib.hid hra.symm
            have HRB := Lib.hid hrb.symm
            have HXA := Lib.hid (show ∀ r, ra = some r → r < wr.heap.size ∧ ∀ o, Ab ≠ some ⟨r, o, none⟩ from fun r e => HAB.out.rowA (n := j) r (by rw [← e, hra]))
            have HXB := Lib.hid (show ∀ r, rb = some r → r < wr.heap.size ∧ ∀ o, Aa ≠ some ⟨r, o, none⟩ from fun r e => HAB.out.swap.rowA (n := j) r (by rw [← e, hrb]))
            have HYA := Lib.hid (show ∀ r, ra = some r → wo.heap.size ≤ r from fun r e => (ownB (n := j) HAB.out.a (by rw [← e, hra])).1)
            have HYB := Lib.hid (show ∀ r, rb = some r → wo.heap.size ≤ r from fun r e => (ownB (n := j) HAB.out.b (by rw [← e, hrb])).1)
            clear hra hrb
            refine Gt.regionK (fun w5 => wr.heap.size ≤ w5.heap.size ∧ Below wo.heap.size wo w5) [⟨3, fun w5 w6 => w5.grownBy w6 ra, fun w5 => Gw.Own w5 wo.heap.size 5 Aa ca la⟩, ⟨22, fun w5 w6 => w5.grownBy w6 rb, fun w5 => Gw.Own w5 wo.heap.size 5 Ab cb lb⟩] (Gt.Jd 3 22) [Gt.Is (.slice Aa j ca), Gt.Is (.int .u8 (vx : Int)), OneIs wr.heap.size vx, ApIs wo.heap.size wr.heap.size (j + 1) Aa (la ++ [vx]), Gt.Is (.slice Ab j cb), Gt.Is (.slice (some ⟨bs, os, none⟩) n cs), Gt.Is (.int .i64 (H : Int)), Gt.Is (.pointer (some ⟨bs, os + H, none⟩)), Gt.Is (.slice (some ⟨b2, o2, none⟩) C qs2), Gt.Is (.int .i64 (c : Int)), Gt.Is (.pointer (some ⟨b2, o2 + c, none⟩)), Gt.Is (.int .u8 (vs : Int)), Gt.Is (.slice Apl npl cpl), Gt.Is (.int .u8 (vx : Int)), Gt.Is (.int .u8 (vp : Int)), Gt.Is (.int .u8 (vd : Int)), Gt.Is (.slice Azs (k + 1) czs), Gt.Is (.int .u8 (vx : Int)), Gt.Is (.int .u8 (vz : Int)), Gt.Is (.int .u8 (vi : Int)), Gt.Is (.int .u8 (vy : Int)), OneIs wr.heap.size vy, ApIs wo.heap.size wr.heap.size (j + 1) Ab (lb ++ [vy])] 172 23
              [⟨[], [21], none⟩, ⟨[], [24], none⟩, ⟨[(1, 105)], [], none⟩, ⟨[(0, 104), (2, 106)], [], none⟩, ⟨[], [22], none⟩, ⟨[], [12], none⟩, ⟨[], [23], none⟩, ⟨[(5, 109), (6, 110)], [], none⟩, ⟨[(7, 111)], [], none⟩, ⟨[], [19], none⟩, ⟨[(8, 112), (9, 113)], [], none⟩, ⟨[(10, 114)], [], none⟩, ⟨[], [20], none⟩, ⟨[], [24], none⟩, ⟨[(12, 116), (13, 117)], [], none⟩, ⟨[(11, 115), (14, 118)], [], none⟩, ⟨[], [16], none⟩, ⟨[], [24], none⟩, ⟨[(16, 120), (17, 121)], [], none⟩, ⟨[(18, 122)], [], none⟩, ⟨[(15, 119), (19, 123)], [], none⟩, ⟨[(20, 124)], [], none⟩, ⟨[(4, 108), (21, 125)], [], none⟩, ⟨[(3, 107)], [], none⟩, ⟨[(22, 126)], [], none⟩]
              [(0, 104), (1, 105), (2, 106), (3, 107), (4, 108), (5, 109), (6, 110), (7, 111), (8, 112), (9, 113), (10, 114), (11, 115), (12, 116), (13, 117), (14, 118), (15, 119), (16, 120), (17, 121), (18, 122), (19, 123), (20, 124), (21, 125), (22, 126)] (by kernel_rfl) (by kernel_rfl) (by kernel_rfl) (by kernel_rfl) (by kernel_rfl) ?_ ?_ ?_ ?_ ?_ ?_
            · refine Gt.Laws.two (show (3 : Nat) ≠ 22 by decide) (fun w5 => World.grownBy.refl w5 _) (fun w5 => World.grownBy.refl w5 _) (fun w5 w6 h5 h6 => ⟨Nat.le_trans h5.1 (Below.size h6), h5.2.trans (Below.mono h6 h5.2.size)⟩) (fun w5 w6 h5 h6 => ⟨Nat.le_trans h5.1 h6.size, h5.2.grown h6 h5.2.size HYA.out⟩) (fun w5 w6 h5 h6 => ⟨Nat.le_trans h5.1 h6.size, h5.2.grown h6 h5.2.size HYB.out⟩)
                (fun w5 w6 h5 h6 => h5.kept h6) (fun w5 w6 h5 h6 => h5.kept h6) (fun w5 w6 h5 h6 => own_by h5 h6 (fun b o e k => (HXB.out b k).2 o e)) (fun w5 w6 h5 h6 => own_by h5 h6 (fun b o e k => (HXA.out b k).2 o e)) ?_ ?_ ?_
              · simp only [Gt.Monos]
                repeat' apply And.intro
                all_goals (first | exact trivial | exact Gt.Is.mono _ | exact OneIs.mono _ _ | exact ApIs.mono _ _ _ _ _)
              · intro j' hj _ v w5 w6 h5 h6
                match j', hj, h5 with
                | 0, _, h5 | 1, _, h5 | 4, _, h5 | 5, _, h5 | 6, _, h5 | 7, _, h5 | 8, _, h5 | 9, _, h5 | 10, _, h5 | 11, _, h5 | 12, _, h5 | 13, _, h5 | 14, _, h5 | 15, _, h5 | 16, _, h5 | 17, _, h5 | 18, _, h5 | 19, _, h5 | 20, _, h5 => exact h5
                | 2, _, h5 => exact OneIs.by h5 h6 (fun r e => (HXA.out r e).1)
                | 21, _, h5 => exact OneIs.by h5 h6 (fun r e => (HXA.out r e).1)
                | 3, hj, _ => exact absurd rfl hj
                | 22, _, h5 => exact ApIs.by h5 h6 HXA.out
                | j' + 23, _, _ => trivial
              · intro j' hj _ v w5 w6 h5 h6
                match j', hj, h5 with
                | 0, _, h5 | 1, _, h5 | 4, _, h5 | 5, _, h5 | 6, _, h5 | 7, _, h5 | 8, _, h5 | 9, _, h5 | 10, _, h5 | 11, _, h5 | 12, _, h5 | 13, _, h5 | 14, _, h5 | 15, _, h5 | 16, _, h5 | 17, _, h5 | 18, _, h5 | 19, _, h5 | 20, _, h5 => exact h5
                | 2, _, h5 => exact OneIs.by h5 h6 (fun r e => (HXB.out r e).1)
                | 21, _, h5 => exact OneIs.by h5 h6 (fun r e => (HXB.out r e).1)
                | 22, hj, _ => exact absurd rfl hj
                | 3, _, h5 => exact ApIs.by h5 h6 HXB.out
                | j' + 23, _, _ => trivial
            · exact ⟨Nat.le_refl _, hbel.drew⟩
            · intro x5 hx5
              rcases List.mem_cons.1 hx5 with h | h
              · subst h; exact HAB.out.a.drewN 1
              · rw [List.mem_singleton.1 h]; exact HAB.out.b.drewN 1
            · simp only [List.take_succ_cons, List.take_zero, Gt.ObsK]
              repeat' apply And.intro
              all_goals try exact trivial
              all_goals (
                intro a w5 hS hF5
                have hS' : wr.heap.size ≤ w5.heap.size ∧ Below wo.heap.size wo w5 := hS
                obtain ⟨k1, k2⟩ := HC.out w5 hS'.2
                simp only [Gt.Pre, Gt.Kept, Gt.Guarded, Gt.tys, List.getD_cons_zero, List.getD_cons_succ, Gt.Is, Nat.zero_add, Nat.reduceAdd]
                intros)
              all_goals (first
                | (refine Gt.okF rfl (Gt.ok_move rfl ?_); assumption)
                | (obtain ⟨b, hvb, hsl⟩ := OneIs.sl (B := wr.heap.size) (y := vx) (v := a.eval (.tmp 106)) (w := w5) (by assumption) hvx
                   obtain ⟨A2, c2, w6, hrun, hown, hgr, hloc⟩ := run_app_at (P := Try.prog) (w := w5) 28 28 wo.heap.size 5 i0 _ Try.underlying28 hi0 hz0 hz1 hz2 rfl Aa j ca la HNA.out hF5 w5.heap.size ⟨b, 0, none⟩ 1 1 [vx] rfl hsl (by simp; have := HNA.out; omega) (Nat.le_trans hbs hS'.1)
                   rw [HLA.out] at hrun
                   refine Gt.okS (v := .slice A2 (j + 1) c2) (w' := w6) rfl rfl ?_ (HRA.out ▸ hgr) ⟨A2, c2, rfl, hown, fun b' o e => ?_⟩ (fun j' u hu => ?_)
                   · simp only [execOp, resolve, invoke, builtin, Sem.run_bind, Sem.run_pure, Result.andThen_ok, List.map_toArray, List.map_cons, List.map_nil, *]
                   · rcases hloc b' o e with h1 | h1
                     · exact .inl (Nat.le_trans hS'.1 h1)
                     · exact .inr h1
                   · by_cases e : j' = 22
                     · subst e
                       have hd := ap_dis (n2 := j + 1) hloc HAB.out.rowA' hown hu
                       exact ⟨fun _ b' h1 => hd b' h1, fun _ b' h1 h2 => hd b' h2 h1⟩
                     · exact ⟨fun h => absurd h (by omega), fun h => absurd h (by omega)⟩)
                | (obtain ⟨b, hvb, hsl⟩ := OneIs.sl (B := wr.heap.size) (y := vy) (v := a.eval (.tmp 125)) (w := w5) (by assumption) hvy
                   obtain ⟨A2, c2, w6, hrun, hown, hgr, hloc⟩ := run_app_at (P := Try.prog) (w := w5) 28 28 wo.heap.size 5 i0 _ Try.underlying28 hi0 hz0 hz1 hz2 rfl Ab j cb lb HNB.out hF5 w5.heap.size ⟨b, 0, none⟩ 1 1 [vy] rfl hsl (by simp; have := HNB.out; omega) (Nat.le_trans hbs hS'.1)
                   rw [HLB.out] at hrun
                   refine Gt.okS (v := .slice A2 (j + 1) c2) (w' := w6) rfl rfl ?_ (HRB.out ▸ hgr) ⟨A2, c2, rfl, hown, fun b' o e => ?_⟩ (fun j' u hu => ?_)
                   · simp only [execOp, resolve, invoke, builtin, Sem.run_bind, Sem.run_pure, Result.andThen_ok, List.map_toArray, List.map_cons, List.map_nil, *]
                   · rcases hloc b' o e with h1 | h1
                     · exact .inl (Nat.le_trans hS'.1 h1)
                     · exact .inr h1
                   · by_cases e : j' = 3
                     · subst e
                       have hd := ap_dis (n2 := j + 1) hloc HAB.out.swap.rowA' hown hu
                       exact ⟨fun _ b' h1 => hd b' h1, fun _ b' h1 h2 => hd b' h2 h1⟩
                     · exact ⟨fun h => absurd h (by omega), fun h => absurd h (by omega)⟩)
                | (refine Gt.okF rfl (Gt.ok_call (f := 31) rfl #[.slice Apl npl cpl, .int .u8 (vx : Int)] (by kernel_rfl) ?_ ((HE1.out w5 hS'.2).mono ?_))
                   · simp [*]
                     done
                   · rintro e w6 ⟨rfl, rfl⟩
                     exact ⟨_, rfl, Below.refl _ _, rfl⟩)
                | (refine Gt.okF rfl (Gt.ok_call (f := 31) rfl #[.slice Azs (k + 1) czs, .int .u8 (vx : Int)] (by kernel_rfl) ?_ ((HE2.out w5 hS'.2).mono ?_))
                   · simp [*]
                     done
                   · rintro e w6 ⟨rfl, rfl⟩
                     exact ⟨_, rfl, Below.refl _ _, rfl⟩)
                | (refine Gt.okF rfl (Gt.ok_call (f := 34) rfl #[.int .u8 (vz : Int)] (by kernel_rfl) ?_ ((HIV.out w5 hS'.2).mono ?_))
                   · simp [*]
                     done
                   · rintro e w6 ⟨rfl, rfl⟩
                     exact ⟨_, rfl, Below.refl _ _, rfl⟩)
                | (refine Gt.okF rfl (Gt.ok_call (f := 33) rfl #[.int .u8 (vd : Int), .int .u8 (vi : Int)] (by kernel_rfl) ?_ ((HMU.out w5 hS'.2).mono ?_))
                   · simp [*]
                     done
                   · rintro e w6 ⟨rfl, rfl⟩
                     exact ⟨_, rfl, Below.refl _ _, rfl⟩)
                | (refine Gt.okF rfl (Gt.ok_runW (v := .slice (some ⟨w5.heap.size, 0, none⟩) 1 1) (w' := w5.alloc (.cells #[.int .u8 (vx : Int)] 5)) ?_ ((Below.refl _ _).alloc (Nat.le_refl _) _) ⟨_, rfl, hS'.1, cell_new _ _ _⟩)
                   simp only [execOp, List.map_toArray, List.map_cons, List.map_nil, *]
                   go_simp
                   done)
                | (refine Gt.okF rfl (Gt.ok_runW (v := .slice (some ⟨w5.heap.size, 0, none⟩) 1 1) (w' := w5.alloc (.cells #[.int .u8 (vy : Int)] 5)) ?_ ((Below.refl _ _).alloc (Nat.le_refl _) _) ⟨_, rfl, hS'.1, cell_new _ _ _⟩)
                   simp only [execOp, List.map_toArray, List.map_cons, List.map_nil, *]
                   go_simp
                   done)
                | (refine Gt.okF rfl (Gt.ok_run ?_ rfl)
                   simp only [execOp, *]
                   go_simp
                   done))
            · intro i5 hi5 j5 v u
              exact ⟨fun h => (by rcases h with ⟨rfl, _⟩ | ⟨rfl, _⟩ <;> cases hi5), fun h => (by rcases h with ⟨_, rfl⟩ | ⟨_, rfl⟩ <;> cases hi5)⟩
            · intro a w5 hS hJ
              have hS' : wr.heap.size ≤ w5.heap.size ∧ Below wo.heap.size wo w5 := hS
              have hdis := hJ 3 22 _ _ 107 126 rfl rfl rfl rfl (by decide) (by decide) (by decide) (.inl ⟨rfl, rfl⟩)
              simp only [Gt.Pre, Gt.tys, List.getD_cons_zero, List.getD_cons_succ, Gt.Is]
              intro h0 h1 h2 h3 h4 h5 h6 h7 h8 h9 h10 h11 h12 h13 h14 h15 h16 h17 h18 h19 h20 h21 h22
              obtain ⟨_, h2, _, _⟩ := h2
              obtain ⟨A2_, c2_, h3, hown2, _⟩ := h3
              obtain ⟨_, h21, _, _⟩ := h21
              obtain ⟨A4_, c4_, h22, hown4, _⟩ := h22
              rw [h3, h22] at hdis
              have H4 := Lib.hid (show AB wo.heap.size 5 w5 A2_ c2_ (la ++ [vx]) A4_ c4_ (lb ++ [vy]) from ⟨hown2, hown4, fun g m m' q1 q2 => hdis g (own_any q1) (own_any q2)⟩)
              have HB4 := Lib.hid hS'.2
              simp only [Gt.puts, List.foldl_cons, List.foldl_nil, h0, h1, h2, h3, h4, h5, h6, h7, h8, h9, h10, h11, h12, h13, h14, h15, h16, h17, h18, h19, h20, h21, h22]
              simp only [Act.put, List.setIfInBounds_toArray, List.set_cons_zero, List.set_cons_succ, List.drop_succ_cons, List.drop_zero]
              clear h0 h1 h2 h3 h4 h5 h6 h7 h8 h9 h10 h11 h12 h13 h14 h15 h16 h17 h18 h19 h20 h21 h22 hdis hown2 hown4 hS hS' hJ
              go_wp2
              go_roundw
              case rel => exact ⟨j + 1, A2_, A4_, c2_, c4_, by omega, rfl, rfl, by rw [show f + (j + 1) = vx by have := HH.out; omega], by rw [HPA.out, HPB2.out]; exact H4.out, HB4.out⟩
              case measure => simp [intOf]; have := HH.out; omega
          · obtain rfl : j = t := by omega
            have hHg : ¬ (H : Int) < (g1 : Int) := by omega
            have HT := Lib.hid (rthrough10 Aa Ab ca cb j j n0 (ptL f j) (nuL n k p pl f j) wr (ptL_len f j).symm (nuL_len n k p pl f j).symm HN1.out hAB.a.inn hAB.b.inn (by rw [ptL_len, nuL_len]; exact Nat.le_refl _) (by rw [ptL_len]; omega))
            clear hAB hpbr hH
            go_wp2_with fail
            refine HT.out.mono ?_
            rintro _ wq ⟨Aq, cq, rfl, hoq, hbq⟩
            obtain ⟨bq, hbqe⟩ : ∃ b, b = wr.heap.size := ⟨_, rfl⟩
            rw [← hbqe] at hoq hbq
            have hBq := hbel.trans (hbq.mono (by rw [hbqe]; exact hbs))
            have HBQ := Lib.hid hBq
            have HOQ0 := Lib.hid (show Gw.Own wq bq 5 Aq cq (Q0 ++ List.replicate 0 0) by rw [List.replicate_zero, List.append_nil, HQ0.out]; exact hoq)
            have hbqs : bq ≤ wq.heap.size := by rw [hbqe]; exact hbq.size
            have hbqo : wo.heap.size ≤ bq := by rw [hbqe]; exact hbs
            clear hbel hbs hoq hbq hBq z1 HT hbqe
            go_wp2
            go_loopw [25] (PdRel wq bq j Q0) (fun v _ => j - vlen v)
            case atStart => exact ⟨0, Aq, cq, by rw [← HN0.out]; omega, by rw [← HN0.out]; rfl, HOQ0.out, Below.refl _ _⟩
            case round =>
              obtain ⟨z, Ap, cp_, hz, rfl, hop, hbp⟩ := hrel
              rw [← HN0.out] at hz
              rw [← HN0.out]
              have hpbp := HPO.out.below (HBQ.out.trans (hbp.mono hbqo)) HPO.out.lt
              have z1 := hpbp.c1
              have hbps := hbp.size
              obtain ⟨len, hlen'⟩ : ∃ len, len = n0 + z := ⟨_, rfl⟩
              rw [← hlen']
              have HLQ := Lib.hid (show (Q0 ++ List.replicate z 0).length = len by rw [List.length_append, List.length_replicate, ← HN0.out, hlen'])
              by_cases hlt : len < j
              · have hlti : (len : Int) < (j : Int) := by omega
                have HOW := Lib.hid (hop.alloc (.cells #[.int .u8 0] 5))
                have HSL2 := Lib.hid (Sl.one wr 5 0 (by omega))
                have HOWN := Lib.hid hop
                have HLZ := Lib.hid (show n0 + (z + 1) = len + 1 by omega)
                have HBP := Lib.hid hbp
                clear hop hpbp hlen' hbp
                go_wp2_with (first | (at_builtin; refine wpList_app rfl (.tmp 135) (.tmp 136) 28 rfl bq 5 i0 _ Try.underlying28 hi0 hz0 hz1 hz2 rfl Ap len cp_ (Q0 ++ List.replicate z 0) rfl HLQ.out.symm HOW.out (wr.heap.size + 1) (some ⟨wr.heap.size, 0, none⟩) 1 1 [0] rfl rfl (fun h => by cases h) HSL2.out (by rw [HLQ.out]; simp; omega) (by rw [World.size_alloc]; omega) ?_; intro A5 c5 w5 hown5 hgr5; rw [List.length_append, HLQ.out]) | fail)
                have HB5 := Lib.hid (below_app HBP.out (by omega) HOWN.out hgr5)
                have HO5 := Lib.hid (show Gw.Own w5 bq 5 A5 c5 (Q0 ++ List.replicate (z + 1) 0) by rw [List.replicate_succ', ← List.append_assoc]; exact hown5)
                clear hown5 hgr5 z1
                go_roundw
                case rel => exact ⟨z + 1, A5, c5, by rw [← HN0.out]; have := HLZ.out; omega, by rw [← HN0.out, HLZ.out], HO5.out, HB5.out⟩
                case measure => simp [vlen]; omega
              · have hlti : ¬ (len : Int) < (j : Int) := by omega
                obtain rfl : len = j := by omega
                have HNQ := Lib.hid (show nq c = Q0 ++ List.replicate z 0 by
                  rw [hnqd, hp', HQ0.out]
                  show padL _ _ = _
                  unfold padL
                  rw [← HQ0.out, ← HN0.out, show len - n0 = z by omega])
                have hBall := HBQ.out.trans (hbp.mono hbqo)
                have HOA2 := Lib.hid (HOA.out.kept hBall)
                have HSQ := Lib.hid hop.inn
                have HNIL := Lib.hid hop.inn.none_
                have HBA := Lib.hid (HBRO.out.trans (hBall.mono HBRO.out.size))
                have hbas := HBA.out.size
                have HLA2 := Lib.hid (show (Sp.cat nq c).length = c * len by rw [Sp.cat_len (k := len) (fun i _ => by rw [hnqd]; exact nqL_len _ _ _ _ _ _ _)])
                obtain ⟨L, hL⟩ : ∃ L, L = c * len := ⟨_, rfl⟩
                have hLb : L ≤ 30 * 255 := by rw [hL]; exact Nat.mul_le_mul (by omega) (by omega)
                rw [← hL] at HLA2
                rw [← hL]
                have HLL := Lib.hid (show (c + 1) * len = L + len by rw [Nat.succ_mul, hL])
                clear hop hbp hpbp hL hBall hlen'
                go_wp2_with (first | (at_builtin; refine wpList_app rfl (.tmp 138) (.tmp 139) 28 rfl wL.heap.size 5 i0 _ Try.underlying28 hi0 hz0 hz1 hz2 rfl Aag L cag (Sp.cat nq c) rfl HLA2.out.symm HOA2.out wr.heap.size Ap len cp_ (Q0 ++ List.replicate z 0) rfl HLQ.out.symm HNIL.out HSQ.out.sl (by rw [HLA2.out, HLQ.out]; omega) hbas ?_; intro A6 c6 w6 hown6 hgr6; rw [List.length_append, HLA2.out, HLQ.out]) | fail)
                have HB6 := Lib.hid (below_app0 HBA.out hbas HOA2.out hgr6)
                have HO6 := Lib.hid (show Gw.Own w6 wL.heap.size 5 A6 c6 (Sp.cat nq (c + 1)) by rw [Sp.cat, HNQ.out]; exact hown6)
                clear hown6 hgr6 z1
                go_wp2
                go_roundw
                case rel => exact ⟨c + 1, A6, c6, by omega, by rw [HLL.out], by go_num, HO6.out, HB6.out⟩
                case measure => simp [intOf]; omega
      · obtain rfl : C = c := by omega
        have hcCi : ¬ (C : Int) < (C : Int) := by omega
        have HFa := Lib.hid (HFL_.out.below hbo HFL_.out.lt)
        have HI2a := Lib.hid ((HI2L.out.below hbo).more hbo.size)
        have HPa := Lib.hid (HPL_.out.below hbo HPL_.out.lt)
        have HSa := Lib.hid ((HSL_.out.below hbo).more hbo.size)
        have HBa := Lib.hid (HBL.out.trans (hbo.mono HBL.out.size))
        have hcl : (Sp.cat nq C).length = C * t := Sp.cat_len (k := t) (fun i _ => by rw [hnqd]; exact nqL_len _ _ _ _ _ _ _)
        obtain ⟨L, hL⟩ : ∃ L, L = C * t := ⟨_, rfl⟩
        rw [← hL] at hcl
        rw [← hL]
        have HSH := Lib.hid (dshare_yes n t k e r hg0 u2.heap.size A2 Aag c2 cag N L C l2 (Sp.cat nq C) HN2.out hcl.symm wr HFa.out HI2a.out hoa.inn HC0.out (by rw [hcl, hL, Nat.mul_comm]) (by omega))
        obtain ⟨x0, x1, x2, x3, x4⟩ := HPa.out
        clear hbo hcl hL hoa
        go_wp2_with fail
        refine HSH.out.mono ?_
        rintro _ wT ⟨At, ct, pt, qt, rfl, hMt, hbt⟩
        have HPT := Lib.hid (HPa.out.below hbt HPa.out.lt)
        have HST := Lib.hid ((HSa.out.below hbt).more hbt.size)
        have HMT := Lib.hid hMt
        have HBT := Lib.hid (HBa.out.trans (hbt.mono HBa.out.size))
        clear x0 x1 x2 x3 x4 hMt hbt HSH
        go_wp2
        go_loopw [28] (FrRel wT f t) (fun i _ => f + t - (intOf i).toNat)
        case atStart => exact ⟨f, Nat.le_refl _, by omega, rfl, Below.refl _ _⟩
        case round =>
          obtain ⟨h, hh1, hh2, rfl, hbr⟩ := hrel
          have z1 := (HPT.out.below hbr HPT.out.lt).c1
          by_cases hh : h < f + t
          · have hhg : (h : Int) < (g1 : Int) := by omega
            have hhn : h < n := by omega
            have hhi : (h : Int) < (n : Int) := by omega
            have hbs := hbr.size
            obtain ⟨bt, ot, hAt, hlt, hkt, hit⟩ := (HMT.out.below hbr).rd h hhn
            obtain ⟨bs, os, hAs, hls, hks, his⟩ := (HST.out.below hbr).rd h hhn
            subst hAt hAs
            rw [shRow_len] at hkt hks
            have hcapt := HMT.out.cap
            have hcaps := HST.out.cap
            have HROW := Lib.hid (show shRow (polL n k t l2 (Sp.cat nq C)) C h = shRow (polL n k t l1 l3) C h by rw [hnqd]; exact nothing_row hh1 hh hfn hnk)
            obtain ⟨σ, hσ⟩ : ∃ σ, σ = str (shRow (polL n k t l1 l3) C h) := ⟨_, rfl⟩
            have HSG := Lib.hid hσ
            have HKT := Lib.hid hkt
            have HKS := Lib.hid hks
            have HLT := Lib.hid (show bt < wr.heap.size by omega)
            have HLS := Lib.hid (show bs < wr.heap.size by omega)
            have HIT := Lib.hid (hit.more hbs)
            have HIS := Lib.hid (his.more hbs)
            have HBR2 := Lib.hid hbr
            clear hkt hks hit his hbr hσ hlt hls
            go_wp2
            clear z1
            rename_i K2 hK2
            refine Gt.regionA [Gt.Is (.slice (some ⟨bt, ot, none⟩) n ct), Gt.Is (.int .i64 (h : Int)), Gt.Is (.pointer (some ⟨bt, ot + h, none⟩)), Gt.Is (.slice (pt h) C (qt h)), Gt.Is (.string σ), Gt.Is (.slice (some ⟨bs, os, none⟩) n cs), Gt.Is (.int .i64 (h : Int)), Gt.Is (.pointer (some ⟨bs, os + h, none⟩)), Gt.Is (.slice (ps h) C (qs h)), Gt.Is (.string σ), Gt.Is (.bool false)] 172
              [⟨[], [26], none⟩, ⟨[], [28], none⟩, ⟨[(0, 160), (1, 161)], [], none⟩, ⟨[(2, 162)], [], none⟩, ⟨[(3, 163)], [], none⟩, ⟨[], [12], none⟩, ⟨[], [28], none⟩, ⟨[(5, 165), (6, 166)], [], none⟩, ⟨[(7, 167)], [], none⟩, ⟨[(8, 168)], [], none⟩, ⟨[(4, 164), (9, 169)], [], none⟩]
              [(0, 160), (1, 161), (2, 162), (3, 163), (4, 164), (5, 165), (6, 166), (7, 167), (8, 168), (9, 169), (10, 170)] (by kernel_rfl) (by kernel_rfl) (by kernel_rfl) (by kernel_rfl) ?_ ?_ ?_
            · simp only [Gt.Monos]
              repeat' apply And.intro
              all_goals (first | exact trivial | exact Gt.Is.mono _ | exact OIs.mono _ _ _ | exact NIs.mono _ _ | exact FIs.mono | exact MIs.mono _ _ | exact TIs.mono _ _ | exact ZIs.mono | exact EIs.mono | exact LIs.mono _ | exact SIs.mono _ _ | exact GIs.mono _ _ _)
            · simp only [Gt.Obs]
              repeat' apply And.intro
              all_goals try exact trivial
              all_goals (
                intro a w5 hg
                have hg' : Below wr.heap.size wr w5 := hg
                simp only [Gt.Pre, Gt.Kept, Gt.Guarded, Gt.tys, List.getD_cons_zero, List.getD_cons_succ, Gt.Is, Nat.zero_add, Nat.reduceAdd]
                intros
                try (refine ⟨fun _ => ?_, fun hne => absurd (by assumption) hne⟩))
              all_goals (first
                | exact Gt.ok_move rfl (by assumption)
                | exact Gt.ok_assign rfl (by assumption)
                | exact Gt.ok_pick rfl (by assumption) (by rw [if_pos rfl]; assumption)
                | (have k5 := conv_sl (P := Try.prog) (HIT.out.below hg').sl Try.underlying28 Try.underlying5 Try.underlying9 (qt h)
                   rw [shRow_len, HROW.out, ← HSG.out] at k5
                   exact Gt.ok_convert rfl (by assumption) k5 rfl)
                | (have k5 := conv_sl (P := Try.prog) (HIS.out.below hg').sl Try.underlying28 Try.underlying5 Try.underlying9 (qs h)
                   rw [shRow_len, ← HSG.out] at k5
                   exact Gt.ok_convert rfl (by assumption) k5 rfl)
                | (have k5 := (hg'.cell (p := ⟨bt, ot + h, none⟩) HLT.out).trans HKT.out
                   have k6 := (hg'.cell (p := ⟨bs, os + h, none⟩) HLS.out).trans HKS.out
                   refine Gt.ok_run ?_ rfl
                   simp only [execOp, *]
                   go_simp
                   done))
            · intro a w5 hg
              have hg' : Below wr.heap.size wr w5 := hg
              simp only [Gt.Pre, Gt.tys, List.getD_cons_zero, List.getD_cons_succ, Gt.Is]
              intro h0 h1 h2 h3 h4 h5 h6 h7 h8 h9 h10
              show K2 _ _
              refine hK2 _ _ ?_
              simp only [Gt.puts, List.foldl_cons, List.foldl_nil, h0, h1, h2, h3, h4, h5, h6, h7, h8, h9, h10]
              simp only [Act.put, List.setIfInBounds_toArray, List.set_cons_zero, List.set_cons_succ]
              have HBR3 := Lib.hid (HBR2.out.trans (hg'.mono HBR2.out.size))
              clear h0 h1 h2 h3 h4 h5 h6 h7 h8 h9 h10
              clear hg' hg
              go_wp2
              go_roundw
              case rel => exact ⟨h + 1, by omega, by omega, by go_num, HBR3.out⟩
              case measure => simp [intOf]; omega
          · have hhg : ¬ (h : Int) < (g1 : Int) := by omega
            have HBW := Lib.hid (HBT.out.trans (hbr.mono HBT.out.size))
            clear hbr
            go_wp2_with fail
            refine (answers_any _).mono ?_
            rintro _ x5 ⟨rfl, hx5⟩
            go_wp2
            go_ret
            exact ⟨rfl, HBW.out.trans (hx5.mono HBW.out.size)⟩
    
set_option maxRecDepth 100000 in
set_option maxHeartbeats 8000000 in
theorem side_no (n t k e r : Nat) (_h1 : 1 ≤ t) (_h2 : 1 ≤ k) (_h5 : t + k + 2 * e ≤ n) (_hnk : n + k ≤ 255) (hg0 : goodB n t k e r = true) (hn30 : n ≤ 30) (A1 : Option Addr) (c1 N : Nat) (l1 : List Nat) (A2 : Option Addr) (c2 : Nat) (l2 : List Nat) (A3 : Option Addr) (c3 M : Nat) (l3 : List Nat) (q4 : Nat) (_hq4 : q4 < 256) (w : World) (hN : N = l1.length) (hN2 : N = l2.length) (hN30 : N ≤ 30) (hM : M = l3.length) (hMb : M ≤ 140737488351232) (wi1 : In w w.heap.size A1 c1 l1) (_wi2 : In w w.heap.size A2 c2 l2) (wi3 : In w w.heap.size A3 c3 l3) (C : Nat) (hC : C = Sp.cnt N k) (hlen : M ≠ t * C) :
    Calls Try.prog 8 #[pv n t k e r, .slice A1 N c1, .slice A2 N c2, .slice A3 M c3, .int .u8 (q4 : Int)] w fun e w' => e = .returned (.bool true) ∧ Below w.heap.size w w' := by
  have hCN : C ≤ N := by rw [hC]; exact Sp.cnt_le N k
  have HLEN := Lib.hid (show l3.length ≠ t * C by rw [← hM]; exact hlen)
  have HN := Lib.hid hN
  have HN2 := Lib.hid hN2
  have HM := Lib.hid hM
  have HC0 := Lib.hid hC
  have hpb1 := Pbx.new w 23 n t k e r
  have hb1 : Below w.heap.size w (w.alloc (.cells #[.int .i64 (n : Int), .int .i64 (t : Int), .int .i64 (k : Int), .int .i64 (e : Int), .int .i64 (r : Int)] 23)) := (Below.refl _ w).alloc (Nat.le_refl _) _
  have HG := Lib.hid (rgood_any n t k e r (w.alloc (.cells #[.int .i64 (n : Int), .int .i64 (t : Int), .int .i64 (k : Int), .int .i64 (e : Int), .int .i64 (r : Int)] 23)))
  rw [hg0] at HG
  clear hN hN2 hM hC hlen
  go_enter Try.func8, Try.ntmps8
  go_wp2_with fail
  refine HG.out.mono ?_
  rintro _ u2 ⟨rfl, hb2⟩
  have HP2 := Lib.hid (hpb1.below hb2 hpb1.lt)
  have HB2 := Lib.hid (hb1.trans (hb2.mono hb1.size))
  clear hpb1 hb1 hb2 HG
  obtain ⟨y0, y1, y2, y3, y4⟩ := HP2.out
  go_wp2_with fail
  refine (new_any u2).mono ?_
  rintro _ u3 ⟨rfl, hF3, hb3⟩
  have HP3 := Lib.hid (HP2.out.below hb3 HP2.out.lt)
  have HB3 := Lib.hid (HB2.out.trans (hb3.mono HB2.out.size))
  have HF3 := Lib.hid hF3
  have HI1 := Lib.hid ((wi1.below HB3.out).more HB3.out.size)
  have HI3 := Lib.hid ((wi3.below HB3.out).more HB3.out.size)
  clear y0 y1 y2 y3 y4 hb3 hF3
  obtain ⟨y0, y1, y2, y3, y4⟩ := HP3.out
  go_wp2_with fail
  refine (dshare_no n t k e r hg0 u2.heap.size A1 A3 c1 c3 N M C l1 l3 HN.out HM.out u3 HF3.out HI1.out HI3.out HC0.out HLEN.out (by omega) (by omega)).mono ?_
  rintro _ u4 ⟨As, cs, rfl, hb4⟩
  have HB4 := Lib.hid (HB3.out.trans (hb4.mono HB3.out.size))
  clear y0 y1 y2 y3 y4 hb4
  go_wp2_with fail
  refine (answers_any _).mono ?_
  rintro _ w6 ⟨rfl, hb6⟩
  go_wp2
  go_ret
  exact ⟨rfl, HB4.out.trans (hb6.mono HB4.out.size)⟩
set_option maxRecDepth 100000 in
set_option maxHeartbeats 1000000 in
theorem side_bad (a0 T0 K0 E0 R0 : Int) (A1 : Option Addr) (c1 N : Nat) (A2 : Option Addr) (c2 N2 : Nat) (A3 : Option Addr) (c3 M : Nat) (q4 : Int) (w : World) (hbad : goodB a0 T0 K0 E0 R0 = false ∨ N ≠ N2 ∨ 30 < N ∨ 30 < a0) :
    Calls Try.prog 8 #[pv a0 T0 K0 E0 R0, .slice A1 N c1, .slice A2 N2 c2, .slice A3 M c3, .int .u8 q4] w fun e w' => e = .returned (.bool true) ∧ Below w.heap.size w w' := by
  have hpb1 := Pbx.new w 23 a0 T0 K0 E0 R0
  have hb1 : Below w.heap.size w (w.alloc (.cells #[.int .i64 a0, .int .i64 T0, .int .i64 K0, .int .i64 E0, .int .i64 R0] 23)) := (Below.refl _ w).alloc (Nat.le_refl _) _
  have HG := Lib.hid (rgood_any a0 T0 K0 E0 R0 (w.alloc (.cells #[.int .i64 a0, .int .i64 T0, .int .i64 K0, .int .i64 E0, .int .i64 R0] 23)))
  cases hgb : goodB a0 T0 K0 E0 R0 with
  | false =>
    rw [hgb] at HG
    clear hbad hgb
    go_enter Try.func8, Try.ntmps8
    go_wp2_with fail
    refine HG.out.mono ?_
    rintro _ w2 ⟨rfl, hb2⟩
    have z0 := (hpb1.below hb2 hpb1.lt).c0
    have HB2 := Lib.hid (hb1.trans (hb2.mono hb1.size))
    clear hpb1 hb1 hb2 HG
    go_wp2_with fail
    refine (answers_any _).mono ?_
    rintro e w6 ⟨rfl, hb6⟩
    go_wp2
    go_ret
    exact ⟨rfl, HB2.out.trans (hb6.mono HB2.out.size)⟩
  | true =>
    rw [hgb] at HG hbad
    clear hgb
    by_cases hNN : N = N2
    · subst hNN
      by_cases hN : 30 < N
      · clear hbad
        go_enter Try.func8, Try.ntmps8
        go_wp2_with fail
        refine HG.out.mono ?_
        rintro _ w2 ⟨rfl, hb2⟩
        have z0 := (hpb1.below hb2 hpb1.lt).c0
        have HB2 := Lib.hid (hb1.trans (hb2.mono hb1.size))
        clear hpb1 hb1 hb2 HG
        go_wp2_with fail
        refine (answers_any _).mono ?_
        rintro e w6 ⟨rfl, hb6⟩
        go_wp2
        go_ret
        exact ⟨rfl, HB2.out.trans (hb6.mono HB2.out.size)⟩
      · have ha : 30 < a0 := by
          rcases hbad with h | h | h | h
          · cases h
          · exact absurd rfl h
          · exact absurd h hN
          · exact h
        clear hbad
        go_enter Try.func8, Try.ntmps8
        go_wp2_with fail
        refine HG.out.mono ?_
        rintro _ w2 ⟨rfl, hb2⟩
        have z0 := (hpb1.below hb2 hpb1.lt).c0
        have HB2 := Lib.hid (hb1.trans (hb2.mono hb1.size))
        clear hpb1 hb1 hb2 HG
        go_wp2_with fail
        refine (answers_any _).mono ?_
        rintro e w6 ⟨rfl, hb6⟩
        go_wp2
        go_ret
        exact ⟨rfl, HB2.out.trans (hb6.mono HB2.out.size)⟩
    · have hne : ((N : Int) != (N2 : Int)) = true := by simp; omega
      clear hbad hNN
      go_enter Try.func8, Try.ntmps8
      go_wp2_with fail
      refine HG.out.mono ?_
      rintro _ w2 ⟨rfl, hb2⟩
      have z0 := (hpb1.below hb2 hpb1.lt).c0
      have HB2 := Lib.hid (hb1.trans (hb2.mono hb1.size))
      clear hpb1 hb1 hb2 HG
      go_wp2_with fail
      refine (answers_any _).mono ?_
      rintro e w6 ⟨rfl, hb6⟩
      go_wp2
      go_ret
      exact ⟨rfl, HB2.out.trans (hb6.mono HB2.out.size)⟩
theorem walk (a0 T0 K0 E0 R0 : Int) (A1 : Option Addr) (c1 : Nat) (l1 : List Nat) (A2 : Option Addr) (c2 : Nat) (l2 : List Nat) (A3 : Option Addr) (c3 : Nat) (l3 : List Nat) (a4 : Int) (w : World) (_w0 : (Lit.int .i64 a0).wf = true ∧ (Lit.int .i64 T0).wf = true ∧ (Lit.int .i64 K0).wf = true ∧ (Lit.int .i64 E0).wf = true ∧ (Lit.int .i64 R0).wf = true) (w1 : In w w.heap.size A1 c1 l1) (_s1 : c1 ≤ 140737488351232) (w2 : In w w.heap.size A2 c2 l2) (_s2 : c2 ≤ 140737488351232) (w3 : In w w.heap.size A3 c3 l3) (s3 : c3 ≤ 140737488351232) (w4 : (Lit.int .u8 a4).wf = true) :
    Calls Try.prog 8 #[pv a0 T0 K0 E0 R0, .slice A1 l1.length c1, .slice A2 l2.length c2, .slice A3 l3.length c3, .int .u8 a4] w fun e w' => e = .returned (.bool true) ∧ Below w.heap.size w w' := by
  have hc3 := w3.cap
  obtain ⟨g1, g2⟩ := bounds_u8 w4
  obtain ⟨q, rfl⟩ := Int.eq_ofNat_of_zero_le g1
  have hq : q < 256 := by omega
  by_cases hbad : goodB a0 T0 K0 E0 R0 = false ∨ l1.length ≠ l2.length ∨ 30 < l1.length ∨ 30 < a0
  · exact side_bad a0 T0 K0 E0 R0 A1 c1 l1.length A2 c2 l2.length A3 c3 l3.length q w hbad
  · have hg : goodB a0 T0 K0 E0 R0 = true := by
      cases h : goodB a0 T0 K0 E0 R0 with
      | true => rfl
      | false => exact absurd (.inl h) hbad
    obtain ⟨n, t, k, e, r, rfl, rfl, rfl, rfl, rfl, h1, h2, h3, h4, h5, h6⟩ := goodB_nat hg
    have hn : n ≤ 30 := by omega
    have hN : l1.length ≤ 30 := by omega
    have hNN : l2.length = l1.length := by omega
    rw [hNN]
    by_cases hlen : l3.length = t * Sp.cnt l1.length k
    · exact side_yes n t k e r h1 h2 h5 h6 hg hn A1 c1 _ l1 A2 c2 l2 A3 c3 _ l3 q hq w rfl hNN.symm hN rfl (by omega) w1 w2 w3 _ rfl hlen
    · exact side_no n t k e r h1 h2 h5 h6 hg hn A1 c1 _ l1 A2 c2 l2 A3 c3 _ l3 q hq w rfl hNN.symm hN rfl (by omega) w1 w2 w3 _ rfl hlen

set_option maxRecDepth 100000 in
theorem lifted (os : Os) (started : os.Started) (H : Type) (enc : TypeId × Value → H) :
    ReturnsInHanded {} Try.checked os 8 .any (Rows.dealNothingSpec.pre6 enc Try.prog Try.f8 Rows.dealNothingRow.domain false) (Rows.dealNothingSpec.post enc Try.prog Try.f8 false true false false) := by
  refine returnsInHanded_of_change_sized (C := Try.checked) own started (by kernel_rfl) Try.func8
    (ChangeSpec.witness6 (enc := enc) (C := Try.checked) false ⟨#[], #[.agg #[.int .i64 0, .int .i64 0, .int .i64 0, .int .i64 0, .int .i64 0], .slice none 0 0, .slice none 0 0, .slice none 0 0, .int .u8 0], []⟩ 8 (by kernel_rfl) (by kernel_rfl) (by kernel_rfl) (by kernel_rfl)) ?_
  intro W base args ds gs before hval0 hW _hcnd hsz0 _
  have hval : ∀ (j : Nat) t v, Try.f8.params[j]? = some t → args[j]? = some v → Value.okWide Try.prog W .any base t v := hval0
  have hW' := hW
  obtain ⟨p, q, hA0, hV, rfl, _hfz, _hnd⟩ := hW
  have hA : DataW.TrodAll enc Try.prog W 0 (fun _ => true) true Try.f8.params.toList args.toList ds p := hA0
  have hsz : (DataW.weightsEach Try.prog (Try.f8.params.toList ++ Rows.dealNothingSpec.plain.varTypes Try.prog) (ds ++ gs)).all (· ≤ reachBytes) = true := hsz0
  rw [Try.params8] at hA hval hsz
  obtain ⟨v0, vs0, d0, ds0, p0, q0, hargs, rfl, rfl, h0, r0⟩ := trodAll_cons hA
  obtain ⟨v1, vs1, d1, ds1, p1, q1, rfl, rfl, rfl, h1, r1⟩ := trodAll_cons r0
  obtain ⟨v2, vs2, d2, ds2, p2, q2, rfl, rfl, rfl, h2, r2⟩ := trodAll_cons r1
  obtain ⟨v3, vs3, d3, ds3, p3, q3, rfl, rfl, rfl, h3, r3⟩ := trodAll_cons r2
  obtain ⟨v4, vs4, d4, ds4, p4, q4, rfl, rfl, rfl, h4, r4⟩ := trodAll_cons r3
  obtain ⟨rfl, rfl, rfl⟩ := trodAll_nil r4
  obtain rfl : args = #[v0, v1, v2, v3, v4] := by cases args; simp_all
  obtain ⟨rfl, rfl⟩ := trodVars_none hV
  obtain ⟨a0, T0, K0, E0, R0, rfl, rfl, rfl, w0⟩ := open_five Try.underlying23 (by kernel_rfl) (by kernel_rfl) rfl rfl rfl rfl rfl Try.underlying3 (hval 0 23 v0 rfl rfl) h0
  have k1 := h1
  have lt1 : ∀ x ∈ p1, x.block < W.heap.size := by obtain ⟨m, hm⟩ := k1; exact DataW.trod_lt m _ _ _ hm
  obtain ⟨A1, c1, l1, rfl, w1, sz1⟩ := open_bytes Try.underlying28 Try.underlying5 (by kernel_rfl) (hval 1 28 v1 rfl rfl) h1
  have s1 := sized_bytes hsz (j := 1) (t := 28) (e := 5) rfl rfl Try.underlying28 (by kernel_rfl) sz1
  have k2 := h2
  have lt2 : ∀ x ∈ p2, x.block < W.heap.size := by obtain ⟨m, hm⟩ := k2; exact DataW.trod_lt m _ _ _ hm
  obtain ⟨A2, c2, l2, rfl, w2, sz2⟩ := open_bytes Try.underlying28 Try.underlying5 (by kernel_rfl) (hval 2 28 v2 rfl rfl) h2
  have s2 := sized_bytes hsz (j := 2) (t := 28) (e := 5) rfl rfl Try.underlying28 (by kernel_rfl) sz2
  have k3 := h3
  have lt3 : ∀ x ∈ p3, x.block < W.heap.size := by obtain ⟨m, hm⟩ := k3; exact DataW.trod_lt m _ _ _ hm
  obtain ⟨A3, c3, l3, rfl, w3, sz3⟩ := open_bytes Try.underlying28 Try.underlying5 (by kernel_rfl) (hval 3 28 v3 rfl rfl) h3
  have s3 := sized_bytes hsz (j := 3) (t := 28) (e := 5) rfl rfl Try.underlying28 (by kernel_rfl) sz3
  obtain ⟨a4, rfl, rfl, rfl, w4⟩ := open_int Try.underlying5 (hval 4 5 v4 rfl rfl) h4
  clear hA0 hval0 hsz0 hsz
  refine (walk a0 T0 K0 E0 R0 A1 c1 l1 A2 c2 l2 A3 c3 l3 a4 W w0 w1 s1 w2 s2 w3 s3 w4).mono fun e W' ⟨he, bel⟩ => ?_
  subst he
  exact ⟨_, rfl, _, _, _, [], _, [], hW', trodAll_mk1 (shut_bool Try.underlying4 _), (trodAll_cons_mk (shut_five Try.underlying23 (by kernel_rfl) (by kernel_rfl) rfl rfl rfl rfl rfl Try.underlying3 w0) (trodAll_cons_mk (Below.trod laidOut (by kernel_rfl) (of_decide_eq_true (by kernel_rfl)) k1 bel lt1) (trodAll_cons_mk (Below.trod laidOut (by kernel_rfl) (of_decide_eq_true (by kernel_rfl)) k2 bel lt2) (trodAll_cons_mk (Below.trod laidOut (by kernel_rfl) (of_decide_eq_true (by kernel_rfl)) k3 bel lt3) (trodAll_cons_mk (shut_int Try.underlying5 w4) trodAll_mk0))))), rfl, bel.frame _, fun h => by cases h⟩

theorem over : Rows.dealNothingRow.holds Try.pinned (OpenSpec.ofChange Rows.dealNothingSpec) :=
  OpenClaim.holds_of_wide 8 Try.f8 rfl rfl rfl rfl rfl rfl rfl ⟨rfl, rfl, rfl, rfl, rfl⟩ rfl rfl rfl rfl rfl (by kernel_rfl) Try.func8 (by kernel_rfl)
    (of_decide_eq_true (by kernel_rfl)) (by unfold Func.isWrapper; first | (rw [if_pos (by decide +kernel)]; kernel_rfl) | (rw [if_neg (by decide +kernel)]; exact ⟨rfl, rfl⟩))
    (fun os started H enc _ => lifted os started H enc)

end Go.Proofs.Ytaknffdokkfmgaa.dealNothing
namespace Go.Proofs.Ytaknffdokkfmgaa
/-- The statement. -/
theorem dealNothing_holds : Rows.DealNothingSaid := dealNothing.over
#print axioms dealNothing_holds
end Go.Proofs.Ytaknffdokkfmgaa

