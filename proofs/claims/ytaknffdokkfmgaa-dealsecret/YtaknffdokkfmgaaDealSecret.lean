/- For every input DealSecret returns true, and every argument reads behind the call as it did before: no condition. -/
import Derived.ProofKit
import Derived.OpenShut
import Derived.SizedLaws
import Derived.ChangeOld
import Derived.Carry
import Derived.BigQuiet
import Derived.Test.YtaknffdokkfmgaaRows
import Derived.Test.YtaknffdokkfmgaaJ2
import Derived.Test.YtaknffdokkfmgaaJ5
import Derived.Test.YtaknffdokkfmgaaJ9
import Derived.Test.YtaknffdokkfmgaaJ14
import Derived.Test.YtaknffdokkfmgaaJ15
namespace Go.Proofs.Ytaknffdokkfmgaa.dealSecret
open Go.ChangeShapes Go.WideShapes Go.ChangeAt Go.RowKit Go.Shelf Gw Pol Go.BigFrame

theorem own : ownKnob Try.prog.godebug = none := by kernel_rfl
theorem laidOut : laidOutB Try.prog = true := by kernel_rfl
def SeRel (wo : World) (f m : Nat) (p : List Nat) (v14 v15 i : Value) (wr : World) : Prop :=
  ∃ (j : Nat) (Aa Ab : Option Addr) (ca cb : Nat), j ≤ m ∧ v14 = .slice Aa j ca ∧ v15 = .slice Ab j cb ∧ i = .int .i64 ((f + j : Nat) : Int) ∧ AB wo.heap.size 5 wr Aa ca (ptL f j) Ab cb (vlL p f j) ∧ Below wo.heap.size wo wr
set_option maxRecDepth 100000 in
set_option maxHeartbeats 8000000 in
theorem side_yes (n t k e r : Nat) (h1 : 1 ≤ t) (h2 : 1 ≤ k) (h5 : t + k + 2 * e ≤ n) (hnk : n + k ≤ 255) (hg0 : goodB n t k e r = true) (hn30 : n ≤ 30) (A1 : Option Addr) (c1 N : Nat) (l1 : List Nat) (A2 : Option Addr) (c2 M : Nat) (l2 : List Nat) (q3 : Nat) (hq3 : q3 < 256) (w : World) (hN : N = l1.length) (hN40 : N ≤ 40) (hM : M = l2.length) (_hMb : M ≤ 140737488351232) (wi1 : In w w.heap.size A1 c1 l1) (wi2 : In w w.heap.size A2 c2 l2) (C : Nat) (hC : C = Sp.cnt N k) (hlen : M = t * C) :
    Calls Try.prog 7 #[pv n t k e r, .slice A1 N c1, .slice A2 M c2, .int .u8 (q3 : Int)] w fun e w' => e = .returned (.bool true) ∧ Below w.heap.size w w' := by
  have hCN : C ≤ N := by rw [hC]; exact Sp.cnt_le N k
  have HLEN := Lib.hid (show l2.length = t * C by rw [← hM]; exact hlen)
  have HN := Lib.hid hN
  have HM := Lib.hid hM
  have HC0 := Lib.hid hC
  obtain ⟨i0, hi0, hz0, hz1, hz2⟩ := info_parts byte_info
  obtain ⟨m, hm⟩ : ∃ m, m = t + k := ⟨_, rfl⟩
  obtain ⟨u, hu⟩ : ∃ u, u = n - t - k + 1 := ⟨_, rfl⟩
  obtain ⟨v1, hv1⟩ : ∃ v, v = n - t := ⟨_, rfl⟩
  obtain ⟨v2, hv2⟩ : ∃ v, v = n - t - k := ⟨_, rfl⟩
  have f1 : (n : Int) - (t : Int) = (v1 : Int) := by omega
  have f2 : (v1 : Int) - (k : Int) = (v2 : Int) := by omega
  have f3 : (v2 : Int) + 1 = (u : Int) := by omega
  have hu0 : 0 < u := by omega
  have hub : u ≤ 255 := by omega
  obtain ⟨f, hf⟩ : ∃ f, f = q3 % u := ⟨_, rfl⟩
  have hfu : f < u := by rw [hf]; exact Nat.mod_lt _ hu0
  have f4 : (q3 : Int) % (u : Int) = (f : Int) := by rw [hf]; rfl
  have hfm : f + m ≤ n := by omega
  obtain ⟨g1, hg1⟩ : ∃ g, g = f + t := ⟨_, rfl⟩
  obtain ⟨g2, hg2⟩ : ∃ g, g = f + t + k := ⟨_, rfl⟩
  have f5 : (f : Int) + (t : Int) = (g1 : Int) := by omega
  have f6 : (g1 : Int) + (k : Int) = (g2 : Int) := by omega
  have hg2m1 : g2 ≤ f + m := by omega
  have hg2m2 : f + m ≤ g2 := by omega
  have hg1b : g1 ≤ 255 := by omega
  have hg2b : g2 ≤ 255 := by omega
  have hv1b : v1 ≤ 255 := by omega
  have hv2b : v2 ≤ 255 := by omega
  have HMM := Lib.hid hm
  have HLE2 := Lib.hid (show C * t ≤ l2.length by rw [HLEN.out, Nat.mul_comm]; exact Nat.le_refl _)
  clear hm hu hv1 hv2 hf hg1 hg2
  have hpb1 := Pbx.new w 23 n t k e r
  have hb1 : Below w.heap.size w (w.alloc (.cells #[.int .i64 (n : Int), .int .i64 (t : Int), .int .i64 (k : Int), .int .i64 (e : Int), .int .i64 (r : Int)] 23)) := (Below.refl _ w).alloc (Nat.le_refl _) _
  have HG := Lib.hid (rgood_any n t k e r (w.alloc (.cells #[.int .i64 (n : Int), .int .i64 (t : Int), .int .i64 (k : Int), .int .i64 (e : Int), .int .i64 (r : Int)] 23)))
  rw [hg0] at HG
  clear hN hM hC hlen
  go_enter Try.func7, Try.ntmps7
  go_wp2_with fail
  refine HG.out.mono ?_
  rintro _ u2 ⟨rfl, hb2⟩
  have HP2 := Lib.hid (hpb1.below hb2 hpb1.lt)
  have HB2 := Lib.hid (hb1.trans (hb2.mono hb1.size))
  have hs := rsplit_any A1 c1 N k l1 u2 HN.out ((wi1.below HB2.out).more HB2.out.size) (by omega) (by omega) (by omega)
  rw [← HC0.out] at hs
  have HS := Lib.hid hs
  clear hpb1 hb1 hb2 HG hs
  obtain ⟨y0, y1, y2, y3, y4⟩ := HP2.out
  go_wp2_with fail
  refine HS.out.mono ?_
  rintro _ u3 ⟨vc, pc, qc, rfl, hG3⟩
  obtain ⟨Ac, cc, rfl, hMc⟩ := hG3.min (fun i _ => Sp.col_len l1 k i)
  have HB3 := Lib.hid (HB2.out.trans (hG3.bel.mono HB2.out.size))
  have HPB := Lib.hid (HP2.out.below hG3.bel HP2.out.lt)
  have HPL := Lib.hid HPB.out.lt
  have HMC := Lib.hid hMc
  have HI1 := Lib.hid ((wi1.below HB3.out).more HB3.out.size)
  have HI2 := Lib.hid ((wi2.below HB3.out).more HB3.out.size)
  clear y0 y1 y2 y3 y4 hG3 hMc HS
  go_wp2
  rename_i K0 hK0
  refine Gt.regionA [FIs, Gt.Is (pv (n : Int) (t : Int) (k : Int) (e : Int) (r : Int)), Gt.Is (.slice A1 N c1), Gt.Is (.slice A2 M c2), TIs n (shRow (polL n k t l1 l2) C), TIs n (shRow (polL n k t l1 l2) C), MIs n (shRow (polL n k t l1 l2) C), Gt.Is (.bool true), MIs n (shRow (polL n k t l1 l2) C), Gt.Is (.bool true)] 120
    [⟨[], [], none⟩, ⟨[], [4], none⟩, ⟨[], [1], none⟩, ⟨[], [2], none⟩, ⟨[(0, 38), (1, 39), (2, 40), (3, 41)], [], none⟩, ⟨[(4, 42)], [], none⟩, ⟨[(5, 37)], [], none⟩, ⟨[(5, 37)], [], none⟩, ⟨[(6, 43)], [], none⟩, ⟨[(7, 44)], [], none⟩]
    [(0, 38), (1, 39), (2, 40), (3, 41), (4, 42), (5, 37), (6, 43), (7, 44), (8, 10), (9, 11)] (by kernel_rfl) (by kernel_rfl) (by kernel_rfl) (by kernel_rfl) ?_ ?_ ?_
  · simp only [Gt.Monos]
    repeat' apply And.intro
    all_goals (first | exact trivial | exact Gt.Is.mono _ | exact OIs.mono _ _ _ | exact NIs.mono _ _ | exact FIs.mono | exact MIs.mono _ _ | exact TIs.mono _ _ | exact ZIs.mono | exact EIs.mono | exact LIs.mono _ | exact SIs.mono _ _ | exact GIs.mono _ _ _)
  · simp only [Gt.Obs]
    repeat' apply And.intro
    all_goals try exact trivial
    all_goals (
      intro a w5 hg
      have hg' : Below u3.heap.size u3 w5 := hg
      simp only [Gt.Pre, Gt.Kept, Gt.Guarded, Gt.tys, List.getD_cons_zero, List.getD_cons_succ, Gt.Is, Nat.zero_add, Nat.reduceAdd]
      intros
      try (refine ⟨fun _ => ?_, fun hne => absurd (by assumption) hne⟩))
    all_goals (first
      | exact Gt.ok_move rfl (by assumption)
      | exact Gt.ok_assign rfl (by assumption)
      | exact Gt.ok_pick rfl (by assumption) (by rw [if_pos rfl]; assumption)
      | (refine Gt.ok_call (f := 21) rfl #[] (by kernel_rfl) (by simp) ((new_any _).mono ?_)
         rintro e w6 ⟨rfl, hF6, hb6⟩
         exact ⟨_, rfl, hb6, _, rfl, hF6⟩)
      | (exact Gt.ok_load rfl (by assumption) (HPB.out.below hg' HPL.out).load rfl)
      | (obtain ⟨b6, hv6, hF6⟩ : FIs (a.eval (.tmp 38)) w5 := by assumption
         refine Gt.ok_call (f := 20) rfl #[.pointer (some ⟨b6, 0, none⟩), pv (n : Int) (t : Int) (k : Int) (e : Int) (r : Int), .slice A1 N c1, .slice A2 M c2] (by kernel_rfl) (by simp [*]) ((dshare_yes n t k e r hg0 b6 A1 A2 c1 c2 N M C l1 l2 HN.out HM.out w5 hF6 ((HI1.out.below hg').more hg'.size) ((HI2.out.below hg').more hg'.size) HC0.out HLEN.out (by omega)).mono ?_)
         rintro e w6 ⟨A9, c9, pa9, cp9, rfl, hM9, hb9⟩
         exact ⟨_, rfl, hb9, A9, c9, pa9, cp9, rfl, hM9⟩)
      | (obtain ⟨A6, c6, pa6, cp6, hv6, hM6⟩ : TIs n (shRow (polL n k t l1 l2) C) (a.eval (.tmp 37)) w5 := by assumption
         refine Gt.ok_run (v := .slice A6 n c6) ?_ ⟨A6, c6, pa6, cp6, rfl, hM6⟩
         simp only [execOp, hv6]
         go_simp
         done)
      | (obtain ⟨A6, c6, pa6, cp6, hv6, hM6⟩ : TIs n (shRow (polL n k t l1 l2) C) (a.eval (.tmp 37)) w5 := by assumption
         refine Gt.ok_run (v := .bool true) ?_ rfl
         simp only [execOp, hv6]
         go_simp
         done))
  · intro a w5 hg
    have hg' : Below u3.heap.size u3 w5 := hg
    simp only [Gt.Pre, Gt.tys, List.getD_cons_zero, List.getD_cons_succ, Gt.Is]
    intro h0 h1 h2 h3 h4 h5 h6 h7 h8 h9
    show K0 _ _
    refine hK0 _ _ ?_
    obtain ⟨As, cs, ps, qs, h8, hS⟩ := h8
    obtain ⟨_, _, _, _, h6, _⟩ := h6
    obtain ⟨_, h0, _⟩ := h0
    simp only [Gt.puts, List.foldl_cons, List.foldl_nil, h0, h1, h2, h3, h6, h7, h8, h9]
    simp only [Act.put, List.setIfInBounds_toArray, List.set_cons_zero, List.set_cons_succ]
    have HBL := Lib.hid (HB3.out.trans (hg'.mono HB3.out.size))
    clear h0 h1 h2 h3 h4 h5 h6 h7 h8 h9
    generalize a.eval (Operand.tmp 37) = v37
    generalize a.eval (Operand.tmp 42) = v42
    have HPL_ := Lib.hid (HPB.out.below hg' HPL.out)
    have HSL_ := Lib.hid hS
    have HCL_ := Lib.hid ((HMC.out.below hg').more hg'.size)
    have z0 := HPL_.out.c0
    have z1 := HPL_.out.c1
    have z2 := HPL_.out.c2
    clear hS HMC HPB HPL hg' hg
    obtain ⟨wL, rfl⟩ : ∃ wL, wL = w5 := ⟨_, rfl⟩
    go_wp2
    rw [f4]
    clear z0 z1 z2
    go_loopw [13] (LpRel wL C) (fun i _ => C - (intOf i).toNat)
    case atStart => exact ⟨0, Nat.zero_le _, rfl, Below.refl _ _⟩
    case round =>
      obtain ⟨c, hc0, rfl, hbo⟩ := hrel
      by_cases hcC : c < C
      · have hcCi : (c : Int) < (C : Int) := by omega
        obtain ⟨wo, hwo⟩ : ∃ wo, wo = wr := ⟨_, rfl⟩
        subst hwo
        obtain ⟨p, hp⟩ : ∃ p, p = polL n k t l1 l2 c := ⟨_, rfl⟩
        obtain ⟨nq, hnq⟩ : ∃ nq, nq = (thr (ptL f m) (vlL p f m)).length := ⟨_, rfl⟩
        have hnqb : nq ≤ 255 := by rw [hnq]; have := thr_len (ptL f m) (vlL p f m); rw [ptL_len] at this; omega
        have HSEC := Lib.hid (show ∀ i, i < k → ev (n + 1 + i) (thr (ptL f m) (vlL p f m)) = co (Sp.col l1 k c) i from fun i hi => by
          rw [hp, HMM.out]; exact secret HLE2.out hcC hnk (by omega) wi1.bb wi2.bb hi)
        have HNQ := Lib.hid hnq
        have HPO := Lib.hid (HPL_.out.below hbo HPL_.out.lt)
        have HSO := Lib.hid ((HSL_.out.below hbo).more hbo.size)
        have HCO := Lib.hid ((HCL_.out.below hbo).more hbo.size)
        have HBRO := Lib.hid hbo
        clear hbo hnq
        go_wp2
        go_loopw [14, 15, 16] (SeRel wo f m p) (fun _ _ i _ => f + m - (intOf i).toNat)
        case atStart => exact ⟨0, none, none, 0, 0, Nat.zero_le _, rfl, rfl, rfl, AB.start _ _ _, Below.refl _ _⟩
        case round =>
          obtain ⟨j, Aa, Ab, ca, cb, hj, rfl, rfl, rfl, hAB, hbel⟩ := hrel
          have hbs := hbel.size
          have hpbr := HPO.out.below hbel HPO.out.lt
          have z1 := hpbr.c1
          have z2 := hpbr.c2
          obtain ⟨H, hH⟩ : ∃ H, H = f + j := ⟨_, rfl⟩
          rw [← hH]
          by_cases hjm : j < m
          · have hHn : H < n := by omega
            have hHi : (H : Int) < (n : Int) := by omega
            have hHg : (H : Int) < (g2 : Int) := by omega
            obtain ⟨bs, os, hAs, hbl, hks, his⟩ := (HSO.out.below hbel).rd H hHn
            subst hAs
            rw [shRow_len] at hks
            obtain ⟨vy, b2, o2, hvy1, hvy, hps, hb2, hcy⟩ := his.sl.at_ (k := c) (by rw [shRow_len]; exact hcC)
            rw [hps] at hks
            have hcaps := HSO.out.cap
            have hcapc := his.cap
            rw [shRow_len] at hcapc
            obtain ⟨qs2, hqs2⟩ : ∃ q, q = qs H := ⟨_, rfl⟩
            rw [← hqs2] at hks hcapc
            have hbl0 : bs < wo.heap.size := hbl
            have hb20 : b2 < wo.heap.size := hb2
            have HC : Hid (∀ w', Below wo.heap.size wo w' → w'.cell? ⟨bs, os + H, none⟩ = some (.slice (some ⟨b2, o2, none⟩) C qs2) ∧ w'.cell? ⟨b2, o2 + c, none⟩ = some (.int .u8 (vy : Int))) := Lib.hid (fun w' hb => by
              obtain ⟨bs', os', hAs', _, hks', his'⟩ := (HSO.out.below hb).rd H hHn
              injection hAs' with hAs'
              injection hAs' with e1 e2
              subst e1 e2
              rw [shRow_len, hps, ← hqs2] at hks'
              obtain ⟨vy', b2', o2', hvy1', _, hps', _, hcy'⟩ := his'.sl.at_ (k := c) (by rw [shRow_len]; exact hcC)
              rw [hps] at hps'
              injection hps' with hps'
              injection hps' with e1 e2
              subst e1 e2
              rw [hvy1] at hvy1'
              injection hvy1' with hvy1'
              subst hvy1'
              exact ⟨hks', hcy'⟩)
            obtain ⟨vx, hvxe⟩ : ∃ vx, vx = f + 1 + j := ⟨_, rfl⟩
            have hvx : vx < 256 := by omega
            have eX : (H : Int) + 1 = (vx : Int) := by omega
            have eXw : IntKind.i64.wrap (vx : Int) = (vx : Int) := by rw [IntKind.wrap_i64]; omega
            have eXb : IntKind.u8.wrap (vx : Int) = (vx : Int) := wrap_byte hvx
            have hvyp : vy = ev (f + 1 + j) p := by
              rw [← co_of' hvy1, co_shRow _ hcC, hp, hH]
              congr 1; omega
            obtain ⟨la, hla⟩ : ∃ la, la = ptL f j := ⟨_, rfl⟩
            obtain ⟨lb, hlb⟩ : ∃ lb, lb = vlL p f j := ⟨_, rfl⟩
            have hlal : la.length = j := by rw [hla, ptL_len]
            have hlbl : lb.length = j := by rw [hlb, vlL_len]
            have HNA := Lib.hid hlal.symm
            have HNB := Lib.hid hlbl.symm
            have HLA := Lib.hid (show (la ++ [vx]).length = j + 1 by rw [List.length_append, hlal]; rfl)
            have HLB := Lib.hid (show (lb ++ [vy]).length = j + 1 by rw [List.length_append, hlbl]; rfl)
            have HPA := Lib.hid (show ptL f (j + 1) = la ++ [vx] by rw [ptL_succ, hla, hvxe])
            have HPB2 := Lib.hid (show vlL p f (j + 1) = lb ++ [vy] by rw [vlL_succ, hlb, hvyp])
            rw [← hla, ← hlb] at hAB
            have HAB := Lib.hid hAB
            have HH := Lib.hid (show f + (j + 1) = H + 1 by omega)
            have hHb : H ≤ 255 := by omega
            have hjb : j ≤ 255 := by omega
            clear hAB hla hlb hvy1 hvyp hps hks hcy his hqs2 hvxe hlal hlbl hH hpbr
            go_wp2
            clear z1 z2
            go_region_held_law (fun w' => w'.cell? ⟨bs, os + H, none⟩ = some (.slice (some ⟨b2, o2, none⟩) C qs2) ∧ w'.cell? ⟨b2, o2 + c, none⟩ = some (.int .u8 (vy : Int)))
              (first | exact HC.out _ (Gw.Below.drewN hbel 1) | exact HC.out _ (Gw.Below.drewN (hbel.alloc hbs _) 1) | exact HC.out _ (Gw.Below.drewN ((hbel.alloc hbs _).alloc (by rw [World.size_alloc]; omega) _) 1) | exact HC.out _ hB4 | exact HC.out _ hB2 | exact HC.out _ (hB2.alloc hb2s _))
              (first
                | (refine step_apAt rfl (.tmp 78) (.tmp 82) 28 rfl wo.heap.size 5 i0 (.int .u8 0) 1 1 Try.underlying28 hi0 hz0 hz1 hz2 rfl (by decide) (.slice Aa j ca) j (bys la) (by first | rfl | (simp [Act.eval]; done)) ?_ ⟨wr.heap.size, 0, none⟩ 1 1 [.int .u8 (vx : Int)] (by first | rfl | (simp [Act.eval]; done)) rfl ?_ ?_ ?_ ?_ ?_ ?_
                   · first | exact ((HAB.out.a.alloc _).drewN 1).rowN HNA.out | exact (((HAB.out.a.alloc _).alloc _).drewN 1).rowN HNA.out
                   · refine news_one ?_; first | exact cell_new wr _ _ | exact cell_1a wr _ _ _
                   · intro u hu; simp at hu; subst hu; rfl
                   · simp only [maxLen]; omega
                   · omega
                   · exact (by first | (show _ ≤ (wr.alloc _).heap.size; rw [World.size_alloc]; omega) | (show _ ≤ ((wr.alloc _).alloc _).heap.size; rw [World.size_alloc, World.size_alloc]; omega))
                   intro v2 w2 hown2 hgr2 hat2
                   obtain ⟨A2_, c2_, rfl, hAB2⟩ := AB.app (by first | exact (HAB.out.alloc _).drewN 1 | exact ((HAB.out.alloc _).alloc _).drewN 1) hvx hown2 hgr2 hat2
                   have hB2 : Below wo.heap.size wo w2 := AB.below (by first | exact (HAB.out.alloc _).drewN 1 | exact ((HAB.out.alloc _).alloc _).drewN 1) (by first | exact Gw.Below.drewN (hbel.alloc hbs _) 1 | exact Gw.Below.drewN ((hbel.alloc hbs _).alloc (by rw [World.size_alloc]; omega) _) 1) (by first | (show _ ≤ (wr.alloc _).heap.size; rw [World.size_alloc]; omega) | (show _ ≤ ((wr.alloc _).alloc _).heap.size; rw [World.size_alloc, World.size_alloc]; omega)) hgr2
                   have hK2 := hgr2
                   have hb2s := hB2.size
                   rw [HLA.out])
                | (refine step_apAt rfl (.tmp 78) (.tmp 82) 28 rfl wo.heap.size 5 i0 (.int .u8 0) 1 1 Try.underlying28 hi0 hz0 hz1 hz2 rfl (by decide) (.slice Aa j ca) j (bys la) (by first | rfl | (simp [Act.eval]; done)) ?_ ⟨wr.heap.size + 1, 0, none⟩ 1 1 [.int .u8 (vx : Int)] (by first | rfl | (simp [Act.eval]; done)) rfl ?_ ?_ ?_ ?_ ?_ ?_
                   · first | exact ((HAB.out.a.alloc _).drewN 1).rowN HNA.out | exact (((HAB.out.a.alloc _).alloc _).drewN 1).rowN HNA.out
                   · refine news_one ?_; exact cell_2a wr _ _ _
                   · intro u hu; simp at hu; subst hu; rfl
                   · simp only [maxLen]; omega
                   · omega
                   · exact (by first | (show _ ≤ (wr.alloc _).heap.size; rw [World.size_alloc]; omega) | (show _ ≤ ((wr.alloc _).alloc _).heap.size; rw [World.size_alloc, World.size_alloc]; omega))
                   intro v2 w2 hown2 hgr2 hat2
                   obtain ⟨A2_, c2_, rfl, hAB2⟩ := AB.app (by first | exact (HAB.out.alloc _).drewN 1 | exact ((HAB.out.alloc _).alloc _).drewN 1) hvx hown2 hgr2 hat2
                   have hB2 : Below wo.heap.size wo w2 := AB.below (by first | exact (HAB.out.alloc _).drewN 1 | exact ((HAB.out.alloc _).alloc _).drewN 1) (by first | exact Gw.Below.drewN (hbel.alloc hbs _) 1 | exact Gw.Below.drewN ((hbel.alloc hbs _).alloc (by rw [World.size_alloc]; omega) _) 1) (by first | (show _ ≤ (wr.alloc _).heap.size; rw [World.size_alloc]; omega) | (show _ ≤ ((wr.alloc _).alloc _).heap.size; rw [World.size_alloc, World.size_alloc]; omega)) hgr2
                   have hK2 := hgr2
                   have hb2s := hB2.size
                   rw [HLA.out])
                | (refine step_apAt rfl (.tmp 84) (.tmp 92) 28 rfl wo.heap.size 5 i0 (.int .u8 0) 1 1 Try.underlying28 hi0 hz0 hz1 hz2 rfl (by decide) (.slice Ab j cb) j (bys lb) (by first | rfl | (simp [Act.eval]; done)) ?_ ⟨wr.heap.size, 0, none⟩ 1 1 [.int .u8 (vy : Int)] (by first | rfl | (simp [Act.eval]; done)) rfl ?_ ?_ ?_ ?_ ?_ ?_
                   · first | exact ((HAB.out.swap.a.alloc _).drewN 1).rowN HNB.out | exact (((HAB.out.swap.a.alloc _).alloc _).drewN 1).rowN HNB.out
                   · refine news_one ?_; first | exact cell_new wr _ _ | exact cell_1a wr _ _ _
                   · intro u hu; simp at hu; subst hu; rfl
                   · simp only [maxLen]; omega
                   · omega
                   · exact (by first | (show _ ≤ (wr.alloc _).heap.size; rw [World.size_alloc]; omega) | (show _ ≤ ((wr.alloc _).alloc _).heap.size; rw [World.size_alloc, World.size_alloc]; omega))
                   intro v2 w2 hown2 hgr2 hat2
                   obtain ⟨A2_, c2_, rfl, hAB2⟩ := AB.app (by first | exact (HAB.out.swap.alloc _).drewN 1 | exact ((HAB.out.swap.alloc _).alloc _).drewN 1) hvy hown2 hgr2 hat2
                   have hB2 : Below wo.heap.size wo w2 := AB.below (by first | exact (HAB.out.swap.alloc _).drewN 1 | exact ((HAB.out.swap.alloc _).alloc _).drewN 1) (by first | exact Gw.Below.drewN (hbel.alloc hbs _) 1 | exact Gw.Below.drewN ((hbel.alloc hbs _).alloc (by rw [World.size_alloc]; omega) _) 1) (by first | (show _ ≤ (wr.alloc _).heap.size; rw [World.size_alloc]; omega) | (show _ ≤ ((wr.alloc _).alloc _).heap.size; rw [World.size_alloc, World.size_alloc]; omega)) hgr2
                   have hK2 := hgr2
                   have hb2s := hB2.size
                   rw [HLB.out])
                | (refine step_apAt rfl (.tmp 84) (.tmp 92) 28 rfl wo.heap.size 5 i0 (.int .u8 0) 1 1 Try.underlying28 hi0 hz0 hz1 hz2 rfl (by decide) (.slice Ab j cb) j (bys lb) (by first | rfl | (simp [Act.eval]; done)) ?_ ⟨wr.heap.size + 1, 0, none⟩ 1 1 [.int .u8 (vy : Int)] (by first | rfl | (simp [Act.eval]; done)) rfl ?_ ?_ ?_ ?_ ?_ ?_
                   · first | exact ((HAB.out.swap.a.alloc _).drewN 1).rowN HNB.out | exact (((HAB.out.swap.a.alloc _).alloc _).drewN 1).rowN HNB.out
                   · refine news_one ?_; exact cell_2a wr _ _ _
                   · intro u hu; simp at hu; subst hu; rfl
                   · simp only [maxLen]; omega
                   · omega
                   · exact (by first | (show _ ≤ (wr.alloc _).heap.size; rw [World.size_alloc]; omega) | (show _ ≤ ((wr.alloc _).alloc _).heap.size; rw [World.size_alloc, World.size_alloc]; omega))
                   intro v2 w2 hown2 hgr2 hat2
                   obtain ⟨A2_, c2_, rfl, hAB2⟩ := AB.app (by first | exact (HAB.out.swap.alloc _).drewN 1 | exact ((HAB.out.swap.alloc _).alloc _).drewN 1) hvy hown2 hgr2 hat2
                   have hB2 : Below wo.heap.size wo w2 := AB.below (by first | exact (HAB.out.swap.alloc _).drewN 1 | exact ((HAB.out.swap.alloc _).alloc _).drewN 1) (by first | exact Gw.Below.drewN (hbel.alloc hbs _) 1 | exact Gw.Below.drewN ((hbel.alloc hbs _).alloc (by rw [World.size_alloc]; omega) _) 1) (by first | (show _ ≤ (wr.alloc _).heap.size; rw [World.size_alloc]; omega) | (show _ ≤ ((wr.alloc _).alloc _).heap.size; rw [World.size_alloc, World.size_alloc]; omega)) hgr2
                   have hK2 := hgr2
                   have hb2s := hB2.size
                   rw [HLB.out])
                | (refine step_apAt rfl (.tmp 84) (.tmp 92) 28 rfl wo.heap.size 5 i0 (.int .u8 0) 1 1 Try.underlying28 hi0 hz0 hz1 hz2 rfl (by decide) (.slice Ab j cb) j (bys lb) (by first | rfl | (simp [Act.eval]; done)) ?_ ⟨w2.heap.size, 0, none⟩ 1 1 [.int .u8 (vy : Int)] (by first | rfl | (simp [Act.eval]; done)) rfl ?_ ?_ ?_ ?_ ?_ ?_
                   · exact (hAB2.swap.a.alloc _).rowN HNB.out
                   · refine news_one ?_; exact cell_new w2 _ _
                   · intro u hu; simp at hu; subst hu; rfl
                   · simp only [maxLen]; omega
                   · omega
                   · exact (by rw [World.size_alloc]; omega)
                   intro v4 w4 hown4 hgr4 hat4
                   obtain ⟨A4_, c4_, rfl, hAB4⟩ := AB.app (hAB2.swap.alloc _) hvy hown4 hgr4 hat4
                   have hB4 : Below wo.heap.size wo w4 := AB.below (hAB2.swap.alloc _) (hB2.alloc hb2s _) (by rw [World.size_alloc]; omega) hgr4
                   rw [HLB.out])
                | (refine step_apAt rfl (.tmp 84) (.tmp 92) 28 rfl wo.heap.size 5 i0 (.int .u8 0) 1 1 Try.underlying28 hi0 hz0 hz1 hz2 rfl (by decide) (.slice Ab j cb) j (bys lb) (by first | rfl | (simp [Act.eval]; done)) ?_ ⟨wr.heap.size + 1, 0, none⟩ 1 1 [.int .u8 (vy : Int)] (by first | rfl | (simp [Act.eval]; done)) rfl ?_ ?_ ?_ ?_ ?_ ?_
                   · exact hAB2.swap.a.rowN HNB.out
                   · refine news_one ?_; exact grown_cell hK2 (cell_2a wr _ _ _) (fun r hr => by have := (ownB HAB.out.a hr).2; omega)
                   · intro u hu; simp at hu; subst hu; rfl
                   · simp only [maxLen]; omega
                   · omega
                   · exact hb2s
                   intro v4 w4 hown4 hgr4 hat4
                   obtain ⟨A4_, c4_, rfl, hAB4⟩ := AB.app hAB2.swap hvy hown4 hgr4 hat4
                   have hB4 : Below wo.heap.size wo w4 := AB.below hAB2.swap hB2 hb2s hgr4
                   rw [HLB.out])
                | (refine step_apAt rfl (.tmp 84) (.tmp 92) 28 rfl wo.heap.size 5 i0 (.int .u8 0) 1 1 Try.underlying28 hi0 hz0 hz1 hz2 rfl (by decide) (.slice Ab j cb) j (bys lb) (by first | rfl | (simp [Act.eval]; done)) ?_ ⟨wr.heap.size, 0, none⟩ 1 1 [.int .u8 (vy : Int)] (by first | rfl | (simp [Act.eval]; done)) rfl ?_ ?_ ?_ ?_ ?_ ?_
                   · exact hAB2.swap.a.rowN HNB.out
                   · refine news_one ?_; exact grown_cell hK2 (cell_1a wr _ _ _) (fun r hr => by have := (ownB HAB.out.a hr).2; omega)
                   · intro u hu; simp at hu; subst hu; rfl
                   · simp only [maxLen]; omega
                   · omega
                   · exact hb2s
                   intro v4 w4 hown4 hgr4 hat4
                   obtain ⟨A4_, c4_, rfl, hAB4⟩ := AB.app hAB2.swap hvy hown4 hgr4 hat4
                   have hB4 : Below wo.heap.size wo w4 := AB.below hAB2.swap hB2 hb2s hgr4
                   rw [HLB.out])
                | (refine step_apAt rfl (.tmp 78) (.tmp 82) 28 rfl wo.heap.size 5 i0 (.int .u8 0) 1 1 Try.underlying28 hi0 hz0 hz1 hz2 rfl (by decide) (.slice Aa j ca) j (bys la) (by first | rfl | (simp [Act.eval]; done)) ?_ ⟨w2.heap.size, 0, none⟩ 1 1 [.int .u8 (vx : Int)] (by first | rfl | (simp [Act.eval]; done)) rfl ?_ ?_ ?_ ?_ ?_ ?_
                   · exact (hAB2.swap.a.alloc _).rowN HNA.out
                   · refine news_one ?_; exact cell_new w2 _ _
                   · intro u hu; simp at hu; subst hu; rfl
                   · simp only [maxLen]; omega
                   · omega
                   · exact (by rw [World.size_alloc]; omega)
                   intro v4 w4 hown4 hgr4 hat4
                   obtain ⟨A4_, c4_, rfl, hAB4⟩ := AB.app (hAB2.swap.alloc _) hvx hown4 hgr4 hat4
                   have hB4 : Below wo.heap.size wo w4 := AB.below (hAB2.swap.alloc _) (hB2.alloc hb2s _) (by rw [World.size_alloc]; omega) hgr4
                   rw [HLA.out])
                | (refine step_apAt rfl (.tmp 78) (.tmp 82) 28 rfl wo.heap.size 5 i0 (.int .u8 0) 1 1 Try.underlying28 hi0 hz0 hz1 hz2 rfl (by decide) (.slice Aa j ca) j (bys la) (by first | rfl | (simp [Act.eval]; done)) ?_ ⟨wr.heap.size + 1, 0, none⟩ 1 1 [.int .u8 (vx : Int)] (by first | rfl | (simp [Act.eval]; done)) rfl ?_ ?_ ?_ ?_ ?_ ?_
                   · exact hAB2.swap.a.rowN HNA.out
                   · refine news_one ?_; exact grown_cell hK2 (cell_2a wr _ _ _) (fun r hr => by have := (ownB HAB.out.b hr).2; omega)
                   · intro u hu; simp at hu; subst hu; rfl
                   · simp only [maxLen]; omega
                   · omega
                   · exact hb2s
                   intro v4 w4 hown4 hgr4 hat4
                   obtain ⟨A4_, c4_, rfl, hAB4⟩ := AB.app hAB2.swap hvx hown4 hgr4 hat4
                   have hB4 : Below wo.heap.size wo w4 := AB.below hAB2.swap hB2 hb2s hgr4
                   rw [HLA.out])
                | (refine step_apAt rfl (.tmp 78) (.tmp 82) 28 rfl wo.heap.size 5 i0 (.int .u8 0) 1 1 Try.underlying28 hi0 hz0 hz1 hz2 rfl (by decide) (.slice Aa j ca) j (bys la) (by first | rfl | (simp [Act.eval]; done)) ?_ ⟨wr.heap.size, 0, none⟩ 1 1 [.int .u8 (vx : Int)] (by first | rfl | (simp [Act.eval]; done)) rfl ?_ ?_ ?_ ?_ ?_ ?_
                   · exact hAB2.swap.a.rowN HNA.out
                   · refine news_one ?_; exact grown_cell hK2 (cell_1a wr _ _ _) (fun r hr => by have := (ownB HAB.out.b hr).2; omega)
                   · intro u hu; simp at hu; subst hu; rfl
                   · simp only [maxLen]; omega
                   · omega
                   · exact hb2s
                   intro v4 w4 hown4 hgr4 hat4
                   obtain ⟨A4_, c4_, rfl, hAB4⟩ := AB.app hAB2.swap hvx hown4 hgr4 hat4
                   have hB4 : Below wo.heap.size wo w4 := AB.below hAB2.swap hB2 hb2s hgr4
                   rw [HLA.out]))
            all_goals (
              have H4 := Lib.hid hAB4
              have HB4 := Lib.hid hB4
              clear hAB4 hB4 hAB2 hB2 hown2 hgr2 hat2 hK2 hown4 hgr4 hat4
              go_wp2
              go_roundw
              case rel => first | exact ⟨j + 1, A2_, A4_, c2_, c4_, by omega, rfl, rfl, by rw [show f + (j + 1) = vx by have := HH.out; omega], by rw [HPA.out, HPB2.out]; exact H4.out.swap, HB4.out⟩ | exact ⟨j + 1, A4_, A2_, c4_, c2_, by omega, rfl, rfl, by rw [show f + (j + 1) = vx by have := HH.out; omega], by rw [HPA.out, HPB2.out]; exact H4.out, HB4.out⟩
              case measure => simp [intOf]; have := HH.out; omega)
          · obtain rfl : j = m := by omega
            have hHg : ¬ (H : Int) < (g2 : Int) := by omega
            have HT := Lib.hid (rthrough10 Aa Ab ca cb j j nq (ptL f j) (vlL p f j) wr (ptL_len f j).symm (vlL_len p f j).symm HNQ.out hAB.a.inn hAB.b.inn (by rw [ptL_len, vlL_len]; exact Nat.le_refl _) (by rw [ptL_len]; omega))
            clear hAB hpbr hH
            go_wp2_with fail
            refine HT.out.mono ?_
            rintro _ wq ⟨Aq, cq, rfl, hoq, hbq⟩
            have hBq := hbel.trans (hbq.mono hbs)
            have HBQ := Lib.hid hBq
            have HOQ := Lib.hid hoq
            have HPQ := Lib.hid (HPO.out.below hBq HPO.out.lt)
            have HCQ := Lib.hid ((HCO.out.below hBq).more hBq.size)
            clear hbel hbs hoq hbq hBq z1 z2 HT
            go_wp2
            go_loopw [18] (LpRel wq k) (fun i _ => k - (intOf i).toNat)
            case atStart => exact ⟨0, Nat.zero_le _, rfl, Below.refl _ _⟩
            case round =>
              obtain ⟨i, hi0', rfl, hbi⟩ := hrel
              have hpbi := HPQ.out.below hbi HPQ.out.lt
              have z0 := hpbi.c0
              have z2 := hpbi.c2
              by_cases hik : i < k
              · have hiki : (i : Int) < (k : Int) := by omega
                have hbis := hbi.size
                obtain ⟨bc, oc, hAc, hblc, hkc, hic⟩ := (HCQ.out.below hbi).rd c hcC
                subst hAc
                rw [Sp.col_len] at hkc
                obtain ⟨zz, b3, o3, hz1', hzb, hpc, hb3, hcz⟩ := hic.sl.at_ (k := i) (by rw [Sp.col_len]; exact hik)
                rw [hpc] at hkc
                have hcapc := HCQ.out.cap
                have hcap3 := hic.cap
                rw [Sp.col_len] at hcap3
                obtain ⟨x, hx⟩ : ∃ x, x = n + 1 + i := ⟨_, rfl⟩
                have hxb : x < 256 := by omega
                have eX : (n : Int) + 1 + (i : Int) = (x : Int) := by omega
                have eXw : IntKind.i64.wrap (x : Int) = (x : Int) := by rw [IntKind.wrap_i64]; omega
                have eXb : IntKind.u8.wrap (x : Int) = (x : Int) := wrap_byte hxb
                have hsec : ev x (thr (ptL f j) (vlL p f j)) = zz := by
                  rw [← co_of' hz1', hx]; exact HSEC.out i hik
                have HEV : ∀ m', Calls Try.prog 31 #[.slice Aq nq cq, .int .u8 (x : Int)] (wr.drewN m') fun e w' => e = .returned (.int .u8 (zz : Int)) ∧ w' = wr.drewN m' := fun m' =>
                  (reval' Aq cq nq (thr (ptL f j) (vlL p f j)) x hxb (wr.drewN m') wr.heap.size HNQ.out (((HOQ.out.inn.below hbi).more hbis).drewN m') (by rw [← HNQ.out]; omega)).mono fun e w' h => ⟨by rw [h.1, hsec], h.2.symm⟩
                have HBI := Lib.hid hbi
                clear hbi hx hz1' hpc hic hsec hpbi
                go_wp2
                go_quiet ((go_at_call 31; exact Calls.quiet_of_same (HEV _)))
                go_wp2
                go_roundw
                case rel => exact ⟨i + 1, by omega, by go_num, Gw.Below.drewN HBI.out _⟩
                case measure => simp [intOf]; omega
              · have hiki : ¬ (i : Int) < (k : Int) := by omega
                have HBO := Lib.hid (HBRO.out.trans ((HBQ.out.mono HBRO.out.size).trans (hbi.mono (Nat.le_trans HBRO.out.size HBQ.out.size))))
                clear hbi hpbi
                go_wp2
                go_roundw
                case rel => exact ⟨c + 1, by omega, by go_num, HBO.out⟩
                case measure => simp [intOf]; omega
      · have hcCi : ¬ (c : Int) < (C : Int) := by omega
        have HBW := Lib.hid (HBL.out.trans (hbo.mono HBL.out.size))
        clear hbo
        go_wp2_with fail
        refine (answers_any _).mono ?_
        rintro _ x5 ⟨rfl, hx5⟩
        go_wp2
        go_ret
        exact ⟨rfl, HBW.out.trans (hx5.mono HBW.out.size)⟩
    
set_option maxRecDepth 100000 in
set_option maxHeartbeats 8000000 in
theorem side_no (n t k e r : Nat) (_h1 : 1 ≤ t) (h2 : 1 ≤ k) (_h5 : t + k + 2 * e ≤ n) (hnk : n + k ≤ 255) (hg0 : goodB n t k e r = true) (hn30 : n ≤ 30) (A1 : Option Addr) (c1 N : Nat) (l1 : List Nat) (A2 : Option Addr) (c2 M : Nat) (l2 : List Nat) (q3 : Nat) (_hq3 : q3 < 256) (w : World) (hN : N = l1.length) (hN40 : N ≤ 40) (hM : M = l2.length) (hMb : M ≤ 140737488351232) (wi1 : In w w.heap.size A1 c1 l1) (wi2 : In w w.heap.size A2 c2 l2) (C : Nat) (hC : C = Sp.cnt N k) (hlen : M ≠ t * C) :
    Calls Try.prog 7 #[pv n t k e r, .slice A1 N c1, .slice A2 M c2, .int .u8 (q3 : Int)] w fun e w' => e = .returned (.bool true) ∧ Below w.heap.size w w' := by
  have hCN : C ≤ N := by rw [hC]; exact Sp.cnt_le N k
  have HLEN := Lib.hid (show l2.length ≠ t * C by rw [← hM]; exact hlen)
  have HN := Lib.hid hN
  have HM := Lib.hid hM
  have HC0 := Lib.hid hC
  have hpb1 := Pbx.new w 23 n t k e r
  have hb1 : Below w.heap.size w (w.alloc (.cells #[.int .i64 (n : Int), .int .i64 (t : Int), .int .i64 (k : Int), .int .i64 (e : Int), .int .i64 (r : Int)] 23)) := (Below.refl _ w).alloc (Nat.le_refl _) _
  have HG := Lib.hid (rgood_any n t k e r (w.alloc (.cells #[.int .i64 (n : Int), .int .i64 (t : Int), .int .i64 (k : Int), .int .i64 (e : Int), .int .i64 (r : Int)] 23)))
  rw [hg0] at HG
  clear hN hM hC hlen
  go_enter Try.func7, Try.ntmps7
  go_wp2_with fail
  refine HG.out.mono ?_
  rintro _ u2 ⟨rfl, hb2⟩
  have HP2 := Lib.hid (hpb1.below hb2 hpb1.lt)
  have HB2 := Lib.hid (hb1.trans (hb2.mono hb1.size))
  have hs := rsplit_any A1 c1 N k l1 u2 HN.out ((wi1.below HB2.out).more HB2.out.size) (by omega) (by omega) (by omega)
  rw [← HC0.out] at hs
  have HS := Lib.hid hs
  clear hpb1 hb1 hb2 HG hs
  obtain ⟨y0, y1, y2, y3, y4⟩ := HP2.out
  go_wp2_with fail
  refine HS.out.mono ?_
  rintro _ u3 ⟨vc, pc, qc, rfl, hG3⟩
  obtain ⟨Ac, cc, rfl, hMc⟩ := hG3.min (fun i _ => Sp.col_len l1 k i)
  have HB3 := Lib.hid (HB2.out.trans (hG3.bel.mono HB2.out.size))
  have HPB := Lib.hid (HP2.out.below hG3.bel HP2.out.lt)
  have HPL := Lib.hid HPB.out.lt
  have HMC := Lib.hid hMc
  have HI1 := Lib.hid ((wi1.below HB3.out).more HB3.out.size)
  have HI2 := Lib.hid ((wi2.below HB3.out).more HB3.out.size)
  clear y0 y1 y2 y3 y4 hG3 hMc HS
  go_wp2
  rename_i K0 hK0
  refine Gt.regionA [FIs, Gt.Is (pv (n : Int) (t : Int) (k : Int) (e : Int) (r : Int)), Gt.Is (.slice A1 N c1), Gt.Is (.slice A2 M c2), ZIs, ZIs, EIs, Gt.Is (.bool false), EIs, Gt.Is (.bool false)] 120
    [⟨[], [], none⟩, ⟨[], [4], none⟩, ⟨[], [1], none⟩, ⟨[], [2], none⟩, ⟨[(0, 38), (1, 39), (2, 40), (3, 41)], [], none⟩, ⟨[(4, 42)], [], none⟩, ⟨[(5, 37)], [], none⟩, ⟨[(5, 37)], [], none⟩, ⟨[(6, 43)], [], none⟩, ⟨[(7, 44)], [], none⟩]
    [(0, 38), (1, 39), (2, 40), (3, 41), (4, 42), (5, 37), (6, 43), (7, 44), (8, 10), (9, 11)] (by kernel_rfl) (by kernel_rfl) (by kernel_rfl) (by kernel_rfl) ?_ ?_ ?_
  · simp only [Gt.Monos]
    repeat' apply And.intro
    all_goals (first | exact trivial | exact Gt.Is.mono _ | exact OIs.mono _ _ _ | exact NIs.mono _ _ | exact FIs.mono | exact MIs.mono _ _ | exact TIs.mono _ _ | exact ZIs.mono | exact EIs.mono | exact LIs.mono _ | exact SIs.mono _ _ | exact GIs.mono _ _ _)
  · simp only [Gt.Obs]
    repeat' apply And.intro
    all_goals try exact trivial
    all_goals (
      intro a w5 hg
      have hg' : Below u3.heap.size u3 w5 := hg
      simp only [Gt.Pre, Gt.Kept, Gt.Guarded, Gt.tys, List.getD_cons_zero, List.getD_cons_succ, Gt.Is, Nat.zero_add, Nat.reduceAdd]
      intros
      try (refine ⟨fun _ => ?_, fun hne => absurd (by assumption) hne⟩))
    all_goals (first
      | exact Gt.ok_move rfl (by assumption)
      | exact Gt.ok_assign rfl (by assumption)
      | exact Gt.ok_pick rfl (by assumption) (by rw [if_pos rfl]; assumption)
      | (refine Gt.ok_call (f := 21) rfl #[] (by kernel_rfl) (by simp) ((new_any _).mono ?_)
         rintro e w6 ⟨rfl, hF6, hb6⟩
         exact ⟨_, rfl, hb6, _, rfl, hF6⟩)
      | (exact Gt.ok_load rfl (by assumption) (HPB.out.below hg' HPL.out).load rfl)
      | (obtain ⟨b6, hv6, hF6⟩ : FIs (a.eval (.tmp 38)) w5 := by assumption
         refine Gt.ok_call (f := 20) rfl #[.pointer (some ⟨b6, 0, none⟩), pv (n : Int) (t : Int) (k : Int) (e : Int) (r : Int), .slice A1 N c1, .slice A2 M c2] (by kernel_rfl) (by simp [*]) ((dshare_no n t k e r hg0 b6 A1 A2 c1 c2 N M C l1 l2 HN.out HM.out w5 hF6 ((HI1.out.below hg').more hg'.size) ((HI2.out.below hg').more hg'.size) HC0.out HLEN.out (by omega) (by omega)).mono ?_)
         rintro e w6 ⟨A9, c9, rfl, hb9⟩
         exact ⟨_, rfl, hb9, A9, c9, rfl⟩)
      | (obtain ⟨A6, c6, hv6⟩ : ZIs (a.eval (.tmp 37)) w5 := by assumption
         refine Gt.ok_run (v := .slice A6 0 c6) ?_ ⟨A6, c6, rfl⟩
         simp only [execOp, hv6]
         go_simp
         done)
      | (obtain ⟨A6, c6, hv6⟩ : ZIs (a.eval (.tmp 37)) w5 := by assumption
         refine Gt.ok_run (v := .bool false) ?_ rfl
         simp only [execOp, hv6]
         go_simp
         done))
  · intro a w5 hg
    have hg' : Below u3.heap.size u3 w5 := hg
    simp only [Gt.Pre, Gt.tys, List.getD_cons_zero, List.getD_cons_succ, Gt.Is]
    intro h0 h1 h2 h3 h4 h5 h6 h7 h8 h9
    show K0 _ _
    refine hK0 _ _ ?_
    obtain ⟨As, cs, h8⟩ := h8
    obtain ⟨_, _, h6⟩ := h6
    obtain ⟨_, h0, _⟩ := h0
    simp only [Gt.puts, List.foldl_cons, List.foldl_nil, h0, h1, h2, h3, h6, h7, h8, h9]
    simp only [Act.put, List.setIfInBounds_toArray, List.set_cons_zero, List.set_cons_succ]
    have HBL := Lib.hid (HB3.out.trans (hg'.mono HB3.out.size))
    clear h0 h1 h2 h3 h4 h5 h6 h7 h8 h9
    generalize a.eval (Operand.tmp 37) = v37
    generalize a.eval (Operand.tmp 42) = v42
    clear hg' hg
    go_wp2_with fail
    refine (answers_any _).mono ?_
    rintro e w6 ⟨rfl, hb6⟩
    go_wp2
    go_ret
    exact ⟨rfl, HBL.out.trans (hb6.mono HBL.out.size)⟩
    
set_option maxRecDepth 100000 in
set_option maxHeartbeats 1000000 in
theorem side_bad (a0 T0 K0 E0 R0 : Int) (A1 : Option Addr) (c1 N : Nat) (A2 : Option Addr) (c2 M : Nat) (q3 : Int) (w : World) (hbad : goodB a0 T0 K0 E0 R0 = false ∨ 40 < N ∨ 30 < a0) :
    Calls Try.prog 7 #[pv a0 T0 K0 E0 R0, .slice A1 N c1, .slice A2 M c2, .int .u8 q3] w fun e w' => e = .returned (.bool true) ∧ Below w.heap.size w w' := by
  have hpb1 := Pbx.new w 23 a0 T0 K0 E0 R0
  have hb1 : Below w.heap.size w (w.alloc (.cells #[.int .i64 a0, .int .i64 T0, .int .i64 K0, .int .i64 E0, .int .i64 R0] 23)) := (Below.refl _ w).alloc (Nat.le_refl _) _
  have HG := Lib.hid (rgood_any a0 T0 K0 E0 R0 (w.alloc (.cells #[.int .i64 a0, .int .i64 T0, .int .i64 K0, .int .i64 E0, .int .i64 R0] 23)))
  cases hgb : goodB a0 T0 K0 E0 R0 with
  | false =>
    rw [hgb] at HG
    clear hbad hgb
    go_enter Try.func7, Try.ntmps7
    go_wp2_with fail
    refine HG.out.mono ?_
    rintro _ w2 ⟨rfl, hb2⟩
    have z0 := (hpb1.below hb2 hpb1.lt).c0
    have HB2 := Lib.hid (hb1.trans (hb2.mono hb1.size))
    clear hpb1 hb1 hb2 HG
    go_wp2_with fail
    refine (answers_any _).mono ?_
    rintro e w6 ⟨rfl, hb6⟩
    go_wp2
    go_ret
    exact ⟨rfl, HB2.out.trans (hb6.mono HB2.out.size)⟩
  | true =>
    rw [hgb] at HG hbad
    clear hgb
    by_cases hN : 40 < N
    · clear hbad
      go_enter Try.func7, Try.ntmps7
      go_wp2_with fail
      refine HG.out.mono ?_
      rintro _ w2 ⟨rfl, hb2⟩
      have z0 := (hpb1.below hb2 hpb1.lt).c0
      have HB2 := Lib.hid (hb1.trans (hb2.mono hb1.size))
      clear hpb1 hb1 hb2 HG
      go_wp2_with fail
      refine (answers_any _).mono ?_
      rintro e w6 ⟨rfl, hb6⟩
      go_wp2
      go_ret
      exact ⟨rfl, HB2.out.trans (hb6.mono HB2.out.size)⟩
    · have ha : 30 < a0 := by
        rcases hbad with h | h | h
        · cases h
        · exact absurd h hN
        · exact h
      clear hbad
      go_enter Try.func7, Try.ntmps7
      go_wp2_with fail
      refine HG.out.mono ?_
      rintro _ w2 ⟨rfl, hb2⟩
      have z0 := (hpb1.below hb2 hpb1.lt).c0
      have HB2 := Lib.hid (hb1.trans (hb2.mono hb1.size))
      clear hpb1 hb1 hb2 HG
      go_wp2_with fail
      refine (answers_any _).mono ?_
      rintro e w6 ⟨rfl, hb6⟩
      go_wp2
      go_ret
      exact ⟨rfl, HB2.out.trans (hb6.mono HB2.out.size)⟩
theorem walk (a0 T0 K0 E0 R0 : Int) (A1 : Option Addr) (c1 : Nat) (l1 : List Nat) (A2 : Option Addr) (c2 : Nat) (l2 : List Nat) (a3 : Int) (w : World) (_w0 : (Lit.int .i64 a0).wf = true ∧ (Lit.int .i64 T0).wf = true ∧ (Lit.int .i64 K0).wf = true ∧ (Lit.int .i64 E0).wf = true ∧ (Lit.int .i64 R0).wf = true) (w1 : In w w.heap.size A1 c1 l1) (_s1 : c1 ≤ 140737488351232) (w2 : In w w.heap.size A2 c2 l2) (s2 : c2 ≤ 140737488351232) (w3 : (Lit.int .u8 a3).wf = true) :
    Calls Try.prog 7 #[pv a0 T0 K0 E0 R0, .slice A1 l1.length c1, .slice A2 l2.length c2, .int .u8 a3] w fun e w' => e = .returned (.bool true) ∧ Below w.heap.size w w' := by
  have hc2 := w2.cap
  obtain ⟨g1, g2⟩ := bounds_u8 w3
  obtain ⟨q, rfl⟩ := Int.eq_ofNat_of_zero_le g1
  have hq : q < 256 := by omega
  by_cases hbad : goodB a0 T0 K0 E0 R0 = false ∨ 40 < l1.length ∨ 30 < a0
  · exact side_bad a0 T0 K0 E0 R0 A1 c1 l1.length A2 c2 l2.length q w hbad
  · have hg : goodB a0 T0 K0 E0 R0 = true := by
      cases h : goodB a0 T0 K0 E0 R0 with
      | true => rfl
      | false => exact absurd (.inl h) hbad
    obtain ⟨n, t, k, e, r, rfl, rfl, rfl, rfl, rfl, h1, h2, h3, h4, h5, h6⟩ := goodB_nat hg
    have hn : n ≤ 30 := by omega
    have hN : l1.length ≤ 40 := by omega
    by_cases hlen : l2.length = t * Sp.cnt l1.length k
    · exact side_yes n t k e r h1 h2 h5 h6 hg hn A1 c1 _ l1 A2 c2 _ l2 q hq w rfl hN rfl (by omega) w1 w2 _ rfl hlen
    · exact side_no n t k e r h1 h2 h5 h6 hg hn A1 c1 _ l1 A2 c2 _ l2 q hq w rfl hN rfl (by omega) w1 w2 _ rfl hlen

set_option maxRecDepth 100000 in
theorem lifted (os : Os) (started : os.Started) (H : Type) (enc : TypeId × Value → H) :
    ReturnsInHanded {} Try.checked os 7 .any (Rows.dealSecretSpec.pre6 enc Try.prog Try.f7 Rows.dealSecretRow.domain false) (Rows.dealSecretSpec.post enc Try.prog Try.f7 false true false false) := by
  refine returnsInHanded_of_change_sized (C := Try.checked) own started (by kernel_rfl) Try.func7
    (ChangeSpec.witness6 (enc := enc) (C := Try.checked) false ⟨#[], #[.agg #[.int .i64 0, .int .i64 0, .int .i64 0, .int .i64 0, .int .i64 0], .slice none 0 0, .slice none 0 0, .int .u8 0], []⟩ 8 (by kernel_rfl) (by kernel_rfl) (by kernel_rfl) (by kernel_rfl)) ?_
  intro W base args ds gs before hval0 hW _hcnd hsz0 _
  have hval : ∀ (j : Nat) t v, Try.f7.params[j]? = some t → args[j]? = some v → Value.okWide Try.prog W .any base t v := hval0
  have hW' := hW
  obtain ⟨p, q, hA0, hV, rfl, _hfz, _hnd⟩ := hW
  have hA : DataW.TrodAll enc Try.prog W 0 (fun _ => true) true Try.f7.params.toList args.toList ds p := hA0
  have hsz : (DataW.weightsEach Try.prog (Try.f7.params.toList ++ Rows.dealSecretSpec.plain.varTypes Try.prog) (ds ++ gs)).all (· ≤ reachBytes) = true := hsz0
  rw [Try.params7] at hA hval hsz
  obtain ⟨v0, vs0, d0, ds0, p0, q0, hargs, rfl, rfl, h0, r0⟩ := trodAll_cons hA
  obtain ⟨v1, vs1, d1, ds1, p1, q1, rfl, rfl, rfl, h1, r1⟩ := trodAll_cons r0
  obtain ⟨v2, vs2, d2, ds2, p2, q2, rfl, rfl, rfl, h2, r2⟩ := trodAll_cons r1
  obtain ⟨v3, vs3, d3, ds3, p3, q3, rfl, rfl, rfl, h3, r3⟩ := trodAll_cons r2
  obtain ⟨rfl, rfl, rfl⟩ := trodAll_nil r3
  obtain rfl : args = #[v0, v1, v2, v3] := by cases args; simp_all
  obtain ⟨rfl, rfl⟩ := trodVars_none hV
  obtain ⟨a0, T0, K0, E0, R0, rfl, rfl, rfl, w0⟩ := open_five Try.underlying23 (by kernel_rfl) (by kernel_rfl) rfl rfl rfl rfl rfl Try.underlying3 (hval 0 23 v0 rfl rfl) h0
  have k1 := h1
  have lt1 : ∀ x ∈ p1, x.block < W.heap.size := by obtain ⟨m, hm⟩ := k1; exact DataW.trod_lt m _ _ _ hm
  obtain ⟨A1, c1, l1, rfl, w1, sz1⟩ := open_bytes Try.underlying28 Try.underlying5 (by kernel_rfl) (hval 1 28 v1 rfl rfl) h1
  have s1 := sized_bytes hsz (j := 1) (t := 28) (e := 5) rfl rfl Try.underlying28 (by kernel_rfl) sz1
  have k2 := h2
  have lt2 : ∀ x ∈ p2, x.block < W.heap.size := by obtain ⟨m, hm⟩ := k2; exact DataW.trod_lt m _ _ _ hm
  obtain ⟨A2, c2, l2, rfl, w2, sz2⟩ := open_bytes Try.underlying28 Try.underlying5 (by kernel_rfl) (hval 2 28 v2 rfl rfl) h2
  have s2 := sized_bytes hsz (j := 2) (t := 28) (e := 5) rfl rfl Try.underlying28 (by kernel_rfl) sz2
  obtain ⟨a3, rfl, rfl, rfl, w3⟩ := open_int Try.underlying5 (hval 3 5 v3 rfl rfl) h3
  clear hA0 hval0 hsz0 hsz
  refine (walk a0 T0 K0 E0 R0 A1 c1 l1 A2 c2 l2 a3 W w0 w1 s1 w2 s2 w3).mono fun e W' ⟨he, bel⟩ => ?_
  subst he
  exact ⟨_, rfl, _, _, _, [], _, [], hW', trodAll_mk1 (shut_bool Try.underlying4 _), (trodAll_cons_mk (shut_five Try.underlying23 (by kernel_rfl) (by kernel_rfl) rfl rfl rfl rfl rfl Try.underlying3 w0) (trodAll_cons_mk (Below.trod laidOut (by kernel_rfl) (of_decide_eq_true (by kernel_rfl)) k1 bel lt1) (trodAll_cons_mk (Below.trod laidOut (by kernel_rfl) (of_decide_eq_true (by kernel_rfl)) k2 bel lt2) (trodAll_cons_mk (shut_int Try.underlying5 w3) trodAll_mk0)))), rfl, bel.frame _, fun h => by cases h⟩

theorem over : Rows.dealSecretRow.holds Try.pinned (OpenSpec.ofChange Rows.dealSecretSpec) :=
  OpenClaim.holds_of_wide 7 Try.f7 rfl rfl rfl rfl rfl rfl rfl ⟨rfl, rfl, rfl, rfl, rfl⟩ rfl rfl rfl rfl rfl (by kernel_rfl) Try.func7 (by kernel_rfl)
    (of_decide_eq_true (by kernel_rfl)) (by unfold Func.isWrapper; first | (rw [if_pos (by decide +kernel)]; kernel_rfl) | (rw [if_neg (by decide +kernel)]; exact ⟨rfl, rfl⟩))
    (fun os started H enc _ => lifted os started H enc)

end Go.Proofs.Ytaknffdokkfmgaa.dealSecret
namespace Go.Proofs.Ytaknffdokkfmgaa
/-- The statement. -/
theorem dealSecret_holds : Rows.DealSecretSaid := dealSecret.over
#print axioms dealSecret_holds
end Go.Proofs.Ytaknffdokkfmgaa

