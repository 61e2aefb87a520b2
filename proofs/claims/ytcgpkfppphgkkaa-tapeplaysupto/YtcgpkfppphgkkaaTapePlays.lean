/- For every input TapePlays returns true, and every argument reads behind the call as it did before, where what comes in is of bulk at most 1048576. -/
import Derived.Test.YtcgpkfppphgkkaaRows
import Derived.ProofKit
import Derived.OpenShut
import Derived.SizedLaws
import Derived.ChangeOld
import Derived.Carry
import Derived.Test.YtcgpkfppphgkkaaLawb
import Derived.Test.YtcgpkfppphgkkaaBulk
import Derived.JoinedCond
import Derived.Test.YtcgpkfppphgkkaaLawo
import Derived.Test.YtcgpkfppphgkkaaTpe
import Derived.Test.YtcgpkfppphgkkaaGty
namespace Go.Proofs.Ytcgpkfppphgkkaa.tapePlays
open Go.ChangeShapes Go.WideShapes Go.ChangeAt Go.RowKit Go.Shelf Gw Pol

theorem own : ownKnob Try.prog.godebug = none := by kernel_rfl
theorem laidOut : laidOutB Try.prog = true := by kernel_rfl
/-- What a round has made. -/
def PlRel (w : World) (R : Nat) (l : Nat → List Nat) (p : Nat) (v4 v5 v6 : Value) (wr : World) : Prop :=
  ∃ (k n at' : Nat) (A : Option Addr) (c G g : Nat) (all : List Nat), v4 = .slice A n c ∧ v5 = .int .i64 (at' : Int) ∧ v6 = .int .i64 (k : Int) ∧ n = all.length ∧ k ≤ R ∧ at' ≤ n ∧ n ≤ tot l k ∧ Rw wr p G A c all ∧ G < wr.heap.size ∧ (G = p ∨ G ≠ g) ∧ w.heap.size ≤ G ∧ w.heap.size ≤ g ∧ Tp wr p g (all.drop at') at' ∧ Below w.heap.size w wr
set_option maxRecDepth 100000 in
set_option maxHeartbeats 4000000 in
theorem walk (A0 : Option Addr) (c0 R : Nat) (N : Nat → Int) (Q : Nat → Option Addr) (C : Nat → Nat) (l : Nat → List Nat) (w : World) (hO : OpsIn w w.heap.size A0 c0 R N Q C l) (hT : tot l R + R ≤ 1048576) :
    Calls Try.prog 3 #[.slice A0 R c0] w fun e w' => e = .returned (.bool true) ∧ Below w.heap.size w w' := by
  obtain ⟨i0, hi0, hz0, hz1, hz2'⟩ := info_parts pbyte_info
  go_enter Try.func3, Try.ntmps3
  go_wp2_with fail
  refine (tnew' w).mono ?_
  rintro e w1 ⟨rfl, ht1, hb1, hz1'⟩
  obtain ⟨p, hp⟩ : ∃ p, p = w.heap.size := ⟨_, rfl⟩
  rw [← hp] at ht1 ⊢
  have hplo : w.heap.size ≤ p := by omega
  clear hp
  have hcapO := hO.cap
  go_wp2
  go_loopw [4, 5, 6] (PlRel w R l p) (fun _ _ i _ => R - (intOf i).toNat)
  case atStart => exact ⟨0, 0, 0, none, 0, p, p, [], rfl, rfl, rfl, rfl, Nat.zero_le _, Nat.le_refl _, Nat.zero_le _, .inl ⟨rfl, rfl, rfl, rfl⟩, ht1.lt, .inl rfl, hplo, hplo, ht1, hb1⟩
  case round =>
    obtain ⟨k, n, at', A, c, G, g, all, rfl, rfl, rfl, hn, hk, hat, hnt, hRw, hGl, hGg, hG0, hg0, ht, hbel⟩ := hrel
    have hbs := hbel.size
    clear ht1 hb1 hz1'
    by_cases hkR : k < R
    · have hk1 := tot_mono (l := l) (show k + 1 ≤ R from hkR)
      obtain ⟨b, off, hA0, hb0, hc0, hc1, hI, hwf⟩ := (hO.below hbel).at_ k hkR
      subst hA0
      obtain ⟨L, hL⟩ : ∃ L, L = l k := ⟨_, rfl⟩
      obtain ⟨q, hq⟩ : ∃ q, q = Q k := ⟨_, rfl⟩
      obtain ⟨cq, hcq⟩ : ∃ cq, cq = C k := ⟨_, rfl⟩
      obtain ⟨z, hz⟩ : ∃ z, z = N k := ⟨_, rfl⟩
      rw [← hL, ← hq, ← hcq] at hc1 hI
      rw [← hz] at hc0
      obtain ⟨m, hm⟩ : ∃ m, m = L.length := ⟨_, rfl⟩
      rw [← hm] at hc1
      have htk : tot l (k + 1) = tot l k + m := by rw [hm, hL]; rfl
      obtain ⟨D, hD⟩ : ∃ D, D = all.drop at' := ⟨_, rfl⟩
      rw [← hD] at ht
      obtain ⟨d, hd⟩ : ∃ d, d = D.length := ⟨_, rfl⟩
      have hdn : d = n - at' := by rw [hd, hD, List.length_drop, ← hn]
      have hwd : IntKind.i64.wrap ((n : Int) - (at' : Int)) = (d : Int) := by rw [IntKind.wrap_i64]; omega
      obtain ⟨s, hs⟩ : ∃ s : Int, s = 65536 - (m : Int) := ⟨_, rfl⟩
      have hws : IntKind.i64.wrap (65536 - (m : Int)) = s := by rw [IntKind.wrap_i64]; omega
      have hmT : n + m ≤ 1048576 := by omega
      have HTK := Lib.hid htk
      have HM := Lib.hid hm
      have HN := Lib.hid hn
      have HD := Lib.hid hd
      have HDD := Lib.hid hD
      have HDN := Lib.hid hdn
      have HS := Lib.hid hs
      clear hL hq hcq hz hm htk hd hdn hs hn hwf hO
      by_cases hm0 : 0 < m
      · by_cases hfit : 65536 < d + m
        · have hgt : s < (d : Int) := by have := HS.out; omega
          obtain ⟨wo, hwo⟩ : ∃ wo, wo = wr.alloc (.cells #[.int .i64 z, .slice q m cq] 27) := ⟨_, rfl⟩
          have hbo : Below wr.heap.size wr wo := by rw [hwo]; exact (Below.refl _ _).alloc (Nat.le_refl _) _
          have ho0 : wo.cell? ⟨wr.heap.size, 0, none⟩ = some (.int .i64 z) := by rw [hwo]; exact World.cell?_alloc_new wr #[.int .i64 z, .slice q m cq] _ 0
          have ho1 : wo.cell? ⟨wr.heap.size, 1, none⟩ = some (.slice q m cq) := by rw [hwo]; exact World.cell?_alloc_new wr #[.int .i64 z, .slice q m cq] _ 1
          have hso : wo.heap.size = wr.heap.size + 1 := by rw [hwo]; simp
          have hto := ht.below hbo (Nat.le_refl _)
          have hRo := hRw.keep (fun _ => hbo.block G hGl) hbo.size
          have hBo := hbel.trans (hbo.mono hbs)
          have HO0 := Lib.hid ho0
          have HO1 := Lib.hid ho1
          clear ho0 ho1
          go_wp2_with fail
          rw [← hwo]
          clear hwo
          refine (tadd_large p g at' D q m cq wo hto (by rw [← HD.out]; exact hfit)).mono ?_
          rintro e w2 ⟨rfl, rfl⟩
          have ho1 := HO1.out
          go_wp2
          go_roundw
          case rel => exact ⟨k + 1, n, at', A, c, G, g, all, rfl, rfl, by go_num, HN.out, by omega, hat, by rw [HTK.out]; omega, hRo, by omega, hGg, hG0, hg0, by rw [← HDD.out]; exact hto, hBo⟩
          case measure => simp [intOf]; omega
        · have hfit' : True := trivial
          have hgt : ¬ s < (d : Int) := by have := HS.out; omega
          obtain ⟨wo, hwo⟩ : ∃ wo, wo = wr.alloc (.cells #[.int .i64 z, .slice q m cq] 27) := ⟨_, rfl⟩
          have hbo : Below wr.heap.size wr wo := by rw [hwo]; exact (Below.refl _ _).alloc (Nat.le_refl _) _
          have ho0 : wo.cell? ⟨wr.heap.size, 0, none⟩ = some (.int .i64 z) := by rw [hwo]; exact World.cell?_alloc_new wr #[.int .i64 z, .slice q m cq] _ 0
          have ho1 : wo.cell? ⟨wr.heap.size, 1, none⟩ = some (.slice q m cq) := by rw [hwo]; exact World.cell?_alloc_new wr #[.int .i64 z, .slice q m cq] _ 1
          have hso : wo.heap.size = wr.heap.size + 1 := by rw [hwo]; simp
          have hto := ht.below hbo (Nat.le_refl _)
          have hRo := hRw.keep (fun _ => hbo.block G hGl) hbo.size
          have hBo := hbel.trans (hbo.mono hbs)
          have HO0 := Lib.hid ho0
          have HO1 := Lib.hid ho1
          clear ho0 ho1
          have hIo := (hI.below ((hbo.mono hbs) : Below w.heap.size wr wo)).more (show w.heap.size ≤ wo.heap.size by omega)
          go_wp2_with fail
          rw [← hwo]
          clear hwo
          refine (tadd_any p g at' D q m cq L wo hto HM.out hIo (by rw [← HD.out, ← HM.out]; omega)).mono ?_
          rintro e w2 ⟨rfl, g', ht2, hg', hk2⟩
          have hz2 := hk2.size
          have hglt := hto.glt
          have hplt := hto.lt
          have ho1 : w2.cell? ⟨wr.heap.size, 1, none⟩ = some (.slice q m cq) := (cell_heap (hk2.block wr.heap.size (by omega) (by have := ht.lt; omega) (by have := ht.glt; omega))).trans HO1.out
          have hR2 := hRo.keep (fun h => hk2.block G (by omega) h (by omega)) hz2
          have hB2 := hBo.trans (hk2.below (by omega) hplo hg0)
          have hI2 := (hI.below ((hbo.mono hbs).trans (hk2.below (by omega) hplo hg0))).more hB2.size
          obtain ⟨A3, c3, G3, w3, hrun, hR3, hG3, hG3l, hk3, hp3⟩ := run_tape (P := Try.prog) 25 25 5 i0 _ Try.underlying25 hi0 hz0 hz1 hz2' rfl p G n c m cq A q all L HN.out HM.out hR2 (by omega) (by omega) hI2.sl (by rw [← HN.out, ← HM.out]; omega)
          have hg2lt := ht2.glt
          have hG2 : G = p ∨ G ≠ g' := by omega
          have ht3 := ht2.keep hp3 (by
            by_cases hgp : g' = p
            · rw [hgp]; exact hp3
            · by_cases hGp : g' = G
              · omega
              · exact hk3.block g' hg2lt hgp hGp) hk3.size
          have hB3 := hB2.trans (hk3.below hB2.size hplo hG0)
          have hz3 := hk3.size
          obtain ⟨n3, hn3⟩ : ∃ n3, n3 = (all ++ L).length := ⟨_, rfl⟩
          have hn3' : n3 = n + m := by rw [hn3, List.length_append, ← HN.out, ← HM.out]
          have HD3 := Lib.hid (show (all ++ L).drop at' = D ++ L by rw [HDD.out, List.drop_append_of_le_length (by rw [← HN.out]; exact hat)])
          rw [← hn3] at hrun
          have HR := Lib.hid hrun
          have HN3 := Lib.hid hn3
          have HN3' := Lib.hid hn3'
          clear hrun hn3 hn3' hbo hto hRo hBo hk2 hR2 hI2 hB2 ht2 HO0
          go_wp2_with (first
            | (at_builtin; refine wpList_append1 rfl (.tmp 42) (.tmp 44) 25 (.slice A n c) (.slice q m cq) (.slice A3 n3 c3) rfl rfl rfl HR.out ?_)
            | fail)
          go_roundw
          case rel => exact ⟨k + 1, n3, at', A3, c3, G3, g', all ++ L, rfl, rfl, by go_num, HN3.out, by omega, by have := HN3'.out; omega, by rw [HTK.out]; have := HN3'.out; omega, hR3, hG3l, by omega, by omega, by omega, by rw [HD3.out]; exact ht3, hB3⟩
          case measure => simp [intOf]; omega
      · obtain rfl : m = 0 := by omega
        by_cases hz0' : z < 0
        · obtain ⟨wo, hwo⟩ : ∃ wo, wo = wr.alloc (.cells #[.int .i64 z, .slice q 0 cq] 27) := ⟨_, rfl⟩
          have hbo : Below wr.heap.size wr wo := by rw [hwo]; exact (Below.refl _ _).alloc (Nat.le_refl _) _
          have ho0 : wo.cell? ⟨wr.heap.size, 0, none⟩ = some (.int .i64 z) := by rw [hwo]; exact World.cell?_alloc_new wr #[.int .i64 z, .slice q 0 cq] _ 0
          have ho1 : wo.cell? ⟨wr.heap.size, 1, none⟩ = some (.slice q 0 cq) := by rw [hwo]; exact World.cell?_alloc_new wr #[.int .i64 z, .slice q 0 cq] _ 1
          have hso : wo.heap.size = wr.heap.size + 1 := by rw [hwo]; simp
          have hto := ht.below hbo (Nat.le_refl _)
          have hRo := hRw.keep (fun _ => hbo.block G hGl) hbo.size
          have hBo := hbel.trans (hbo.mono hbs)
          have HO0 := Lib.hid ho0
          have HO1 := Lib.hid ho1
          clear ho0 ho1
          go_wp2_with fail
          rw [← hwo]
          clear hwo
          refine (ttake_low p g at' D z wo hto hz0').mono ?_
          rintro e w2 ⟨rfl, rfl⟩
          have ho0 := HO0.out
          go_wp2_with fail
          refine (tleft_any p g at' D _ hto).mono ?_
          rintro e w3 ⟨rfl, rfl⟩
          rw [← HD.out]
          go_wp2_with fail
          refine (tused_any p g at' D _ hto).mono ?_
          rintro e w4 ⟨rfl, rfl⟩
          go_wp2
          go_roundw
          case rel => exact ⟨k + 1, n, at', A, c, G, g, all, rfl, rfl, by go_num, HN.out, by omega, hat, by rw [HTK.out]; omega, hRo, by omega, hGg, hG0, hg0, by rw [← HDD.out]; exact hto, hBo⟩
          case measure => simp [intOf]; omega
        · by_cases hzd : (d : Int) < z
          · obtain ⟨wo, hwo⟩ : ∃ wo, wo = wr.alloc (.cells #[.int .i64 z, .slice q 0 cq] 27) := ⟨_, rfl⟩
            have hbo : Below wr.heap.size wr wo := by rw [hwo]; exact (Below.refl _ _).alloc (Nat.le_refl _) _
            have ho0 : wo.cell? ⟨wr.heap.size, 0, none⟩ = some (.int .i64 z) := by rw [hwo]; exact World.cell?_alloc_new wr #[.int .i64 z, .slice q 0 cq] _ 0
            have ho1 : wo.cell? ⟨wr.heap.size, 1, none⟩ = some (.slice q 0 cq) := by rw [hwo]; exact World.cell?_alloc_new wr #[.int .i64 z, .slice q 0 cq] _ 1
            have hso : wo.heap.size = wr.heap.size + 1 := by rw [hwo]; simp
            have hto := ht.below hbo (Nat.le_refl _)
            have hRo := hRw.keep (fun _ => hbo.block G hGl) hbo.size
            have hBo := hbel.trans (hbo.mono hbs)
            have HO0 := Lib.hid ho0
            have HO1 := Lib.hid ho1
            clear ho0 ho1
            go_wp2_with fail
            rw [← hwo]
            clear hwo
            refine (ttake_far p g at' D z wo hto (by omega) (by rw [← HD.out]; omega)).mono ?_
            rintro e w2 ⟨rfl, rfl⟩
            have ho0 := HO0.out
            go_wp2_with fail
            refine (tleft_any p g at' D _ hto).mono ?_
            rintro e w3 ⟨rfl, rfl⟩
            rw [← HD.out]
            go_wp2_with fail
            refine (tused_any p g at' D _ hto).mono ?_
            rintro e w4 ⟨rfl, rfl⟩
            go_wp2
            go_roundw
            case rel => exact ⟨k + 1, n, at', A, c, G, g, all, rfl, rfl, by go_num, HN.out, by omega, hat, by rw [HTK.out]; omega, hRo, by omega, hGg, hG0, hg0, by rw [← HDD.out]; exact hto, hBo⟩
            case measure => simp [intOf]; omega
          · have hz1' : True := trivial
            obtain ⟨j, rfl⟩ : ∃ j : Nat, z = j := ⟨z.toNat, by omega⟩
            have hjd : j ≤ d := by omega
            obtain ⟨U, hU⟩ : ∃ U, U = at' + j := ⟨_, rfl⟩
            obtain ⟨d2, hd2⟩ : ∃ d2, d2 = n - U := ⟨_, rfl⟩
            obtain ⟨x, hx⟩ : ∃ x, x = D.take j := ⟨_, rfl⟩
            obtain ⟨r, hr⟩ : ∃ r, r = D.drop j := ⟨_, rfl⟩
            have hUn : U ≤ n := by have := HDN.out; omega
            have hwU : IntKind.i64.wrap ((at' : Int) + (j : Int)) = (U : Int) := by rw [IntKind.wrap_i64]; omega
            have hwd2 : IntKind.i64.wrap ((n : Int) - (U : Int)) = (d2 : Int) := by rw [IntKind.wrap_i64]; omega
            have HXL := Lib.hid (show j = x.length by rw [hx, List.length_take, ← HD.out]; omega)
            have HRL := Lib.hid (show d2 = r.length by rw [hr, List.length_drop, ← HD.out]; have := HDN.out; omega)
            have HRD := Lib.hid (show r = all.drop U by rw [hr, HDD.out, List.drop_drop, hU])
            have HXA := Lib.hid (show (all.take U).drop at' = x by rw [hx, HDD.out, List.drop_take, hU]; congr 1; omega)
            have HUJ := Lib.hid (show U - at' = j by omega)
            obtain ⟨σ, hσ⟩ : ∃ σ, σ = str x := ⟨_, rfl⟩
            have HSG := Lib.hid hσ
            have hUj : at' ≤ U := by omega
            have HU := Lib.hid hU
            have HX0 := Lib.hid hx
            have HR0 := Lib.hid hr
            clear hσ hU hd2 hx hr
            obtain ⟨wo, hwo⟩ : ∃ wo, wo = wr.alloc (.cells #[.int .i64 (j : Int), .slice q 0 cq] 27) := ⟨_, rfl⟩
            have hbo : Below wr.heap.size wr wo := by rw [hwo]; exact (Below.refl _ _).alloc (Nat.le_refl _) _
            have ho0 : wo.cell? ⟨wr.heap.size, 0, none⟩ = some (.int .i64 (j : Int)) := by rw [hwo]; exact World.cell?_alloc_new wr #[.int .i64 (j : Int), .slice q 0 cq] _ 0
            have ho1 : wo.cell? ⟨wr.heap.size, 1, none⟩ = some (.slice q 0 cq) := by rw [hwo]; exact World.cell?_alloc_new wr #[.int .i64 (j : Int), .slice q 0 cq] _ 1
            have hso : wo.heap.size = wr.heap.size + 1 := by rw [hwo]; simp
            have hto := ht.below hbo (Nat.le_refl _)
            have hRo := hRw.keep (fun _ => hbo.block G hGl) hbo.size
            have hBo := hbel.trans (hbo.mono hbs)
            have HO0 := Lib.hid ho0
            have HO1 := Lib.hid ho1
            clear ho0 ho1
            go_wp2_with fail
            rw [← hwo]
            clear hwo
            refine (ttake' p g at' j U D x r wo hto (by rw [← HD.out]; exact hjd) (by have := HU.out; omega) HX0.out HR0.out HU.out).mono ?_
            rintro e w2 ⟨Ab, cb, rfl, hxo, ht2, hk2⟩
            have hz2 := hk2.size
            have hglt := hto.glt
            have hplt := hto.lt
            have ho0 : w2.cell? ⟨wr.heap.size, 0, none⟩ = some (.int .i64 (j : Int)) := (cell_heap (hk2.block wr.heap.size (by omega) (by have := ht.lt; omega) (by have := ht.glt; omega))).trans HO0.out
            have hR2 := hRo.keep (fun h => hk2.block G (by omega) h (by omega)) hz2
            have hB2 := hBo.trans (hk2.below (by omega) hplo hg0)
            obtain ⟨AT, cT, hsl, hst⟩ := slice_lh_any hR2.inn HN.out hUj hUn
            rw [HUJ.out] at hsl
            rw [HXA.out] at hst
            obtain ⟨O, hO'⟩ : ∃ O, O = wr.heap.size := ⟨_, rfl⟩
            rw [← hO'] at ho0 ⊢
            have HSL := Lib.hid hsl
            have HST := Lib.hid hst
            have HX := Lib.hid hxo
            have HO2 := Lib.hid ho0
            have HOL := Lib.hid (show O < w2.heap.size by omega)
            have HT2 := Lib.hid ht2
            have HR2 := Lib.hid hR2
            have HB2 := Lib.hid hB2
            have hG2l : G < w2.heap.size := by omega
            have hjge : (0 : Int) ≤ (j : Int) := by omega
            have hjle : (j : Int) ≤ (d : Int) := by omega
            clear hsl hst hxo ht2 hR2 hB2 hk2 hto hRo hBo HO0 HO1 hbo ht hRw hbel hO'
            go_wp2
            rename_i K hK
            clear ho0
            refine Gt.regionA [Gt.Is (.slice Ab j cb), Gt.Is (.string σ), Gt.Is (.slice A n c), Gt.Is (.int .i64 (at' : Int)), Gt.Is (.int .i64 (at' : Int)), Gt.Is (.pointer (some ⟨O, 0, none⟩)), Gt.Is (.int .i64 (j : Int)), Gt.Is (.int .i64 (U : Int)), Gt.Is (.slice AT j cT), Gt.Is (.string σ), Gt.Is (.bool false)] 103
              [⟨[], [9], none⟩, ⟨[(0, 71)], [], none⟩, ⟨[], [4], none⟩, ⟨[], [5], none⟩, ⟨[], [5], none⟩, ⟨[], [7], none⟩, ⟨[(5, 76)], [], none⟩, ⟨[(4, 75), (6, 77)], [], none⟩, ⟨[(2, 73), (3, 74), (7, 78)], [], none⟩, ⟨[(8, 79)], [], none⟩, ⟨[(1, 72), (9, 80)], [], none⟩]
              [(0, 71), (1, 72), (2, 73), (3, 74), (4, 75), (5, 76), (6, 77), (7, 78), (8, 79), (9, 80), (10, 81)] (by kernel_rfl) (by kernel_rfl) (by kernel_rfl) (by kernel_rfl) ?_ ?_ ?_
            · simp only [Gt.Monos]
              repeat' apply And.intro
              all_goals (first | exact trivial | exact Gt.Is.mono _)
            · simp only [Gt.Obs]
              repeat' apply And.intro
              all_goals try exact trivial
              all_goals (
                intro a w5 hg
                have hg' : Below w2.heap.size w2 w5 := hg
                simp only [Gt.Pre, Gt.Kept, Gt.Guarded, Gt.tys, List.getD_cons_zero, List.getD_cons_succ, Gt.Is, Nat.zero_add, Nat.reduceAdd]
                intros
                try (refine ⟨fun _ => ?_, fun hne => absurd (by assumption) hne⟩))
              all_goals (first
                | exact Gt.ok_move rfl (by assumption)
                | exact Gt.ok_assign rfl (by assumption)
                | exact Gt.ok_pick rfl (by assumption) (by rw [if_pos rfl]; assumption)
                | (have k5 := conv_n (HX.out.kept hg') HXL.out
                   rw [← HSG.out] at k5
                   exact Gt.ok_convert rfl (by assumption) k5 rfl)
                | (have k5 := conv_i (c := cT) (HST.out.below hg').sl HXL.out
                   rw [← HSG.out] at k5
                   exact Gt.ok_convert rfl (by assumption) k5 rfl)
                | (refine Gt.ok_run ?_ rfl
                   simp only [execOp, Option.map_some, Option.map_none, *]
                   have k5 := HSL.out w5
                   simp only [Sem.run_bind, k5, Result.andThen_ok, Sem.run_pure]
                   done)
                | (refine Gt.ok_run ?_ rfl
                   have k5 := (hg'.cell (p := ⟨O, 0, none⟩) HOL.out).trans HO2.out
                   simp only [execOp, *]
                   go_simp
                   done)
                | (refine Gt.ok_run ?_ rfl
                   simp only [execOp, *]
                   go_simp
                   done))
            · intro a w5 hg
              have hg' : Below w2.heap.size w2 w5 := hg
              simp only [Gt.Pre, Gt.tys, List.getD_cons_zero, List.getD_cons_succ, Gt.Is]
              intro h0 h1 h2 h3 h4 h5 h6 h7 h8 h9 h10
              show K _ _
              refine hK _ _ ?_
              simp only [Gt.puts, List.foldl_cons, List.foldl_nil, h0, h1, h2, h3, h4, h5, h6, h7, h8, h9, h10]
              simp only [Act.put, List.setIfInBounds_toArray, List.set_cons_zero, List.set_cons_succ]
              obtain ⟨w4, hw4⟩ : ∃ w4, w4 = w5 := ⟨_, rfl⟩
              rw [← hw4] at hg' ⊢
              have ho0 := (hg'.cell (p := ⟨O, 0, none⟩) HOL.out).trans HO2.out
              have ht4 := HT2.out.below hg' (Nat.le_refl _)
              have hR4 := HR2.out.keep (fun _ => hg'.block G hG2l) hg'.size
              have hB4 := HB2.out.trans (hg'.mono HB2.out.size)
              have hz4 := hg'.size
              clear hg' hg h0 h1 h2 h3 h4 h5 h6 h7 h8 h9 h10 hw4 hK
              go_wp2_with fail
              refine (tleft_any p g U r _ ht4).mono ?_
              rintro e w6 ⟨rfl, rfl⟩
              rw [← HRL.out]
              go_wp2_with fail
              refine (tused_any p g U r _ ht4).mono ?_
              rintro e w7 ⟨rfl, rfl⟩
              go_wp2
              go_roundw
              case rel => exact ⟨k + 1, n, U, A, c, G, g, all, rfl, rfl, by go_num, HN.out, by omega, hUn, by rw [HTK.out]; omega, hR4, by omega, hGg, hG0, hg0, by rw [← HRD.out]; exact ht4, hB4⟩
              case measure => simp [intOf]; omega
    · obtain rfl : R = k := by omega
      go_wp2_with fail
      refine (answers_any wr).mono ?_
      rintro e w2 ⟨rfl, hb⟩
      go_wp2
      go_ret
      exact ⟨rfl, hbel.trans (hb.mono hbs)⟩

theorem contract (H : Type) (enc : TypeId × Value → H) (W : World) (base : Nat) (args : Array Value) (ds gs : List (DataW H)) (before : List MemPlace)
    (hval : ∀ (j : Nat) t v, Try.f3.params[j]? = some t → args[j]? = some v → Value.okWide Try.prog W .any base t v)
    (hW : DataW.Whole enc Try.prog Try.f3.params.toList Rows.tapePlaysSpec.vars false W args.toList ds gs before) (hk : Rows.uptoSmall H (ds ++ gs) = true) :
    Calls Try.prog 3 args W fun e W' => ∃ v, e = .returned v ∧ Rows.tapePlaysSpec.post enc Try.prog Try.f3 false true false false W args v W' := by
  have hW' := hW
  obtain ⟨p, q, hA0, hV, rfl, _hfz, _hnd⟩ := hW
  have hA : DataW.TrodAll enc Try.prog W 0 (fun _ => true) true Try.f3.params.toList args.toList ds p := hA0
  rw [Try.params3] at hA hval
  obtain ⟨v0, vs0, d0, ds0, p0, q0, hargs, rfl, rfl, h0, r0⟩ := trodAll_cons hA
  obtain ⟨rfl, rfl, rfl⟩ := trodAll_nil r0
  obtain rfl : args = #[v0] := by cases args; simp_all
  obtain ⟨rfl, rfl⟩ := trodVars_none hV
  simp only [List.append_nil] at hk
  have k0 := h0
  have lt0 : ∀ x ∈ p0, x.block < W.heap.size := by obtain ⟨m, hm⟩ := k0; exact DataW.trod_lt m _ _ _ hm
  obtain ⟨A0, c0, R0, N0, Q0, C0, l0, rfl, w0, sz0⟩ := open_ops Try.underlying22 Try.underlying27 (by kernel_rfl) rfl rfl (by kernel_rfl) (by kernel_rfl) Try.underlying3 Try.underlying25 Try.underlying5 (by kernel_rfl) (hval 0 22 v0 rfl rfl) h0
  clear hA0
  refine (walk A0 c0 R0 N0 Q0 C0 l0 W w0 (bulks.ops_small (bulks.part hk (j := 0) rfl) sz0)).mono fun e W' ⟨he, bel⟩ => ?_
  subst he
  exact ⟨_, rfl, _, _, _, [], _, [], hW', trodAll_mk1 (shut_bool Try.underlying4 _), (trodAll_cons_mk (Below.trod laidOut (by kernel_rfl) (of_decide_eq_true (by kernel_rfl)) k0 bel lt0) trodAll_mk0), rfl, bel.frame _, fun h => by cases h⟩

set_option maxRecDepth 100000 in
theorem lifted (os : Os) (started : os.Started) (H : Type) (enc : TypeId × Value → H) (F : Stop.Interp) :
    ReturnsInHanded {} Try.checked os 3 .any ((Rows.OpenSpec.upto Rows.tapePlaysSpec).pre6 enc Try.prog Try.f3 Rows.tapePlaysUptoRow.domain false) (((Rows.OpenSpec.upto Rows.tapePlaysSpec).at F).post enc Try.prog Try.f3 false true false false) := by
  refine returnsInHanded_of_cond (C := Try.checked) (s := Rows.OpenSpec.upto Rows.tapePlaysSpec) (k := Rows.uptoSmall) rfl own started (by kernel_rfl) Try.func3
    (OpenSpec.witness (enc := enc) (C := Try.checked) (s := Rows.OpenSpec.upto Rows.tapePlaysSpec) (k := Rows.uptoSmall) rfl false ⟨#[], #[.slice none 0 0], []⟩ 8 (by kernel_rfl) (by kernel_rfl) (by kernel_rfl)
      (x := ([.nil], [], [])) (by kernel_rfl) rfl (by kernel_rfl)) ?_
  intro W base args ds gs before hval hW _ hk _
  exact contract H enc W base args ds gs before hval hW hk

theorem over : Rows.tapePlaysUptoRow.holds Try.pinned (Rows.OpenSpec.upto Rows.tapePlaysSpec) :=
  OpenClaim.holds_of_cond 3 Try.f3 rfl rfl rfl rfl rfl rfl rfl ⟨rfl, rfl, rfl, rfl, rfl⟩ rfl rfl rfl rfl rfl (by kernel_rfl) Try.func3 (by kernel_rfl)
    (of_decide_eq_true (by kernel_rfl)) (by unfold Func.isWrapper; first | (rw [if_pos (by decide +kernel)]; kernel_rfl) | (rw [if_neg (by decide +kernel)]; exact ⟨rfl, rfl⟩))
    (fun os started H enc _ F => lifted os started H enc F)

end Go.Proofs.Ytcgpkfppphgkkaa.tapePlays
namespace Go.Proofs.Ytcgpkfppphgkkaa
/-- The statement. -/
theorem tapePlays_holds : Rows.TapePlaysUptoSaid := tapePlays.over
#print axioms tapePlays_holds
end Go.Proofs.Ytcgpkfppphgkkaa

