/- What the definition's own Sum does (package shamrockref06): SHA-256. -/
import Derived.Test.YtfemcofjhcanhaaDoorSht
import Derived.Test.YtfemcofjhcanhaaDoorShf
import Derived.Test.YtfemcofjhcanhaaDoorGty
namespace Go.Proofs.YtfemcofjhcanhaaDoor
open Go.RowKit Go.Shelf Gw Pol Sh
/-- A row of bytes. -/
def RowIs (l : List Nat) : Value → World → Prop := fun v w => ∃ A, v = .slice A l.length l.length ∧ In w w.heap.size A l.length l
theorem RowIs.mono (l : List Nat) : Gt.Mono (RowIs l) := by
  rintro v w w' ⟨A, rfl, h⟩ hg
  exact ⟨A, rfl, (h.below hg).more hg.size⟩
/-- A row of ints that lies not below B. -/
def RowJ (B : Nat) (l : List Nat) : Value → World → Prop := fun v w => ∃ g, v = .slice (some ⟨g, 0, none⟩) 8 8 ∧ B ≤ g ∧ Cj w g l
theorem RowJ.mono (B : Nat) (l : List Nat) : Gt.Mono (RowJ B l) := by
  rintro v w w' ⟨g, rfl, hB, h⟩ hg
  exact ⟨g, rfl, hB, fun i hi => (hg.cell (p := ⟨g, i, none⟩) (cell_lt (h i hi))).trans (h i hi)⟩
/-- While noughts are put. -/
def RnRel (w : World) (l : List Nat) (N z : Nat) (v : Value) (wr : World) : Prop := ∃ (k n c : Nat) (A : Option Addr), k ≤ z ∧ v = .slice A n c ∧ n = N + 1 + k ∧ Gw.Own wr w.heap.size 5 A c (l ++ [128] ++ List.replicate k 0) ∧ Below w.heap.size w wr
/-- While the length is put. -/
def RlRel (w : World) (l : List Nat) (N z : Nat) (v i : Value) (wr : World) : Prop := ∃ (j n c : Nat) (A : Option Addr), j ≤ 8 ∧ v = .slice A n c ∧ n = N + 1 + z + j ∧ i = .int .i64 ((7 : Int) - (j : Int)) ∧ Gw.Own wr w.heap.size 5 A c (l ++ [128] ++ List.replicate z 0 ++ lb N j) ∧ Below w.heap.size w wr
set_option maxRecDepth 100000 in
set_option maxHeartbeats 40000000 in
theorem rsum_any (A : Option Addr) (c : Nat) (l : List Nat) (w : World) (hI : In w w.heap.size A c l) (hcm : l.length ≤ 140737488351300) :
    Calls Tryd.prog 10 #[.slice A l.length c] w fun e w' => ∃ A2 c2, e = .returned (.slice A2 32 c2) ∧ Gw.Own w' w.heap.size 5 A2 c2 (sum l) ∧ Below w.heap.size w w' := by
  obtain ⟨i0, hi0, hz0, hz1, hz2⟩ := info_parts byte_info
  obtain ⟨N, hN⟩ : ∃ N, N = l.length := ⟨_, rfl⟩
  obtain ⟨z, hz⟩ : ∃ z, z = zn N := ⟨_, rfl⟩
  have hz64 : z < 64 := by rw [hz]; unfold zn; omega
  have HZ := Lib.hid (show ∀ k, k ≤ z → ((N + 1 + k) % 64 = 56 ↔ k = z) from fun k hk => by rw [hz] at hk ⊢; unfold zn at hk ⊢; omega)
  rw [← hN] at hcm ⊢
  have HP := Lib.hid (show pad l = l ++ [128] ++ List.replicate z 0 ++ lb N 8 by rw [pad, en, ← hN, hz])
  have HN := Lib.hid hN
  have hnil := hI.none_
  have hsl := hI.sl
  have HSL := Lib.hid (hsl.alloc (Nat.le_refl _) (.cells #[] 5))
  clear hN hz
  go_enter Tryd.func10, Tryd.ntmps10
  go_wp2_with (first
    | (at_builtin; refine wpList_app rfl (.tmp 22) (.tmp 23) 22 rfl w.heap.size 5 i0 _ Tryd.underlying22 hi0 hz0 hz1 hz2 rfl (some ⟨w.heap.size, 0, none⟩) 0 0 [] rfl rfl (Own.lit0 w w.heap.size 5 (Nat.le_refl _)) w.heap.size A N c l rfl HN.out hnil HSL.out (by rw [← HN.out]; simp; omega) (by simp) ?_; intro A2 c2 w2 hown hgr; rw [List.nil_append] at hown; rw [List.nil_append, ← HN.out])
    | (at_builtin; refine wpList_app rfl (.tmp 24) (.tmp 25) 22 rfl w.heap.size 5 i0 _ Tryd.underlying22 hi0 hz0 hz1 hz2 rfl A2 N c2 l rfl HN.out (hown.alloc _) (w2.heap.size + 1) (some ⟨w2.heap.size, 0, none⟩) 1 1 [128] rfl rfl (fun h => by cases h) (Sl.one w2 5 128 (by omega)) (by rw [← HN.out]; simp; omega) (by rw [World.size_alloc]; have := hgr.size; rw [World.size_alloc] at this; omega) ?_; intro A3 c3 w3 hown3 hgr3)
    | fail)
  have hb2 := below_lit' (Below.refl w.heap.size w) (Nat.le_refl _) hgr
  have hb3 := below_app hb2 hb2.size hown hgr3
  have HO3 := Lib.hid hown3
  clear hgr hgr3 hown hown3 HSL hnil hsl hI
  go_loopw [3] (RnRel w l N z) (fun v _ => N + 1 + z - (match v with | .slice _ n _ => n | _ => 0))
  case atStart => exact ⟨0, _, c3, A3, Nat.zero_le _, rfl, by rw [HN.out], by rw [List.replicate_zero, List.append_nil]; exact HO3.out, hb3⟩
  case round =>
    clear HO3 hb3 hb2
    obtain ⟨k, n, c4, A4, hk, rfl, hn, hown, hbel⟩ := hrel
    obtain ⟨m, hm⟩ : ∃ m, m = n % 64 := ⟨_, rfl⟩
    have em : ((n : Int)).tmod 64 = (m : Int) := by rw [Int.tmod_eq_emod_of_nonneg (by omega)]; omega
    have HZK := HZ.out k hk
    rw [← hn, ← hm] at HZK
    by_cases hkz : k = z
    · have hm56 : m = 56 := HZK.2 hkz
      subst hkz hm56
      have HM := Lib.hid hn
      clear hm HZK hn
      go_wp2
      obtain ⟨N8, hN8⟩ : ∃ N8, N8 = N * 8 := ⟨_, rfl⟩
      have e8 : (N : Int) * 8 = (N8 : Int) := by omega
      have hN8b : N8 ≤ 1125899906842624 := by omega
      have HN8 := Lib.hid hN8
      have HOW := Lib.hid hown
      clear hN8 hown
      go_loopw [3, 4] (RlRel w l N k) (fun _ i _ => (intOf i + 1).toNat)
      case atStart => exact ⟨0, n, c4, A4, by omega, rfl, HM.out, rfl, by rw [lb, List.append_nil]; exact HOW.out, hbel⟩
      case round =>
        clear HOW hbel
        obtain ⟨j, n2, c6, A6, hj, rfl, hn2, rfl, hown, hbel⟩ := hrel
        by_cases hj8 : j < 8
        · as_aux_lemma =>
            obtain ⟨q, hq⟩ : ∃ q, q = 7 - j := ⟨_, rfl⟩
            have eq7 : (7 : Int) - (j : Int) = (q : Int) := by omega
            rw [eq7]
            obtain ⟨s, hs⟩ : ∃ s, s = 8 * q := ⟨_, rfl⟩
            have es : (8 : Int) * (q : Int) = (s : Int) := by omega
            have hs56 : s ≤ 56 := by omega
            obtain ⟨y, hy⟩ : ∃ y, y = N8 / 2 ^ s % 256 := ⟨_, rfl⟩
            have ey : (N8 : Int) / 2 ^ s % 256 = (y : Int) := by rw [hy]; simp
            have hyb : y < 256 := by rw [hy]; exact Nat.mod_lt _ (by omega)
            have HLB := Lib.hid (show lb N (j + 1) = lb N j ++ [y] by rw [lb, ← HN8.out, ← hq, ← hs, ← hy])
            have HLEN := Lib.hid (show n2 = (l ++ [128] ++ List.replicate k 0 ++ lb N j).length by simp [lb_len]; rw [← HN.out]; omega)
            have hnb : n2 ≤ 140737488355000 := by omega
            have HOA := Lib.hid (hown.alloc (.cells #[.int .u8 (y : Int)] 5))
            have HOW := Lib.hid hown
            have HM2 := Lib.hid hn2
            have HQ := Lib.hid hq
            clear hy hs hq hown hn2
            go_wp2_with (first
              | (at_builtin; refine wpList_app rfl (.tmp 38) (.tmp 47) 22 rfl w.heap.size 5 i0 _ Tryd.underlying22 hi0 hz0 hz1 hz2 rfl A6 n2 c6 (l ++ [128] ++ List.replicate k 0 ++ lb N j) rfl HLEN.out HOA.out (wr.heap.size + 1) (some ⟨wr.heap.size, 0, none⟩) 1 1 [y] rfl rfl (fun h => by cases h) (Sl.one wr 5 y hyb) (by rw [← HLEN.out]; simp; omega) (by rw [World.size_alloc]; exact Nat.le_succ_of_le hbel.size) ?_; intro A5 c5 w5 hown5 hgr5)
              | fail)
            have hb5 := below_app hbel hbel.size HOW.out hgr5
            have HO5 := Lib.hid hown5
            clear hown5 hgr5
            go_roundw
            case rel => exact ⟨j + 1, _, c5, A5, by omega, rfl, by have := HLEN.out; have := HM2.out; have := HN.out; first | omega | (simp [lb_len]; omega), by have := HQ.out; go_num, by rw [HLB.out, ← List.append_assoc]; exact HO5.out, hb5⟩
            case measure => have := HQ.out; simp [intOf]
        · obtain rfl : j = 8 := by omega
          obtain ⟨P, hP⟩ : ∃ P, P = pad l := ⟨_, rfl⟩
          rw [← HP.out, ← hP] at hown
          have HPP := Lib.hid hP
          have hML : n2 = P.length := by rw [hP, HP.out]; simp [lb_len]; rw [← HN.out]; omega
          have hM64 : n2 % 64 = 0 := by rw [hML, hP]; exact en_mod _ _
          obtain ⟨b, off, rfl, hbm, hmsg⟩ := hown.inn.msg (by rw [← hML]; omega)
          have hPb := hown.2
          have hMb : n2 ≤ 140737488355000 := by omega
          have hM0 : 0 < n2 := by omega
          have hs1 := hbel.size
          have HML := Lib.hid hML
          clear hP hML hown hn2
          go_wp2_with fail
          refine (constants_any _).mono ?_
          rintro e w8 ⟨rfl, hw8⟩
          rw [World.size_alloc]
          have hJk : Ja w8 (wr.heap.size + 1) 3 kk := by
            have := Ja.new (wr.alloc (.cells (intv ini.l).toArray 3)) 3 kk
            rw [World.size_alloc] at this; rw [hw8]; exact this
          have hJh : Ja w8 wr.heap.size 3 ini.l := by rw [hw8]; exact (Ja.new wr 3 ini.l).alloc _
          have hmsg8 : Msg w8 b off P := by rw [hw8]; exact (hmsg.alloc _).alloc _
          have hbel8 : Below w.heap.size w w8 := by rw [hw8]; exact (hbel.alloc hs1 _).alloc (by rw [World.size_alloc]; omega) _
          obtain ⟨gh, hgh⟩ : ∃ gh, gh = wr.heap.size := ⟨_, rfl⟩
          rw [← hgh] at hJk hJh hbm hs1 ⊢
          have hw8s : w8.heap.size = gh + 2 := by rw [hw8, World.size_alloc, World.size_alloc, ← hgh]
          have HMS := Lib.hid hmsg8
          have HJK := Lib.hid hJk
          have HJH := Lib.hid hJh
          clear hw8 hgh hmsg hbel hmsg8 hJk hJh HN8 hN8b e8
          go_wp2
          have hmk : ∀ w : World, (Instr.makeSlice 32 (.int .i64 64) (.int .i64 64)).run Tryd.prog w = .ok (.slice (some ⟨w.heap.size, 0, none⟩) 64 64) (w.alloc (.cells (intv (wl [])).toArray 3)) := fun w => by
            have := run_make_row' (P := Tryd.prog) 32 3 (.int .i64 0) 8 Tryd.underlying32 pint_info rfl .i64 .i64 64 (by omega) (by omega) w
            rw [made_intv] at this; exact this
          go_loopw [7] (RbRel w8 gh n2 P) (fun i _ => n2 - (intOf i).toNat)
          case atStart => exact ⟨0, by omega, rfl, HJH.out, World.grownBy.refl _ _⟩
          case round =>
            clear HJH
            obtain ⟨n3, hn3, rfl, hJh, hgr8⟩ := hrel
            by_cases hlt : 64 * n3 < n2
            · obtain ⟨q, hq⟩ : ∃ q, q = 64 * n3 := ⟨_, rfl⟩
              rw [← hq] at hlt ⊢
              have hq64 : q + 64 ≤ n2 := by omega
              have HQ := Lib.hid hq
              obtain ⟨m, hm⟩ : ∃ m : Nat → Nat, m = fun i => co P (64 * n3 + i) := ⟨_, rfl⟩
              have hm8 : ∀ i, m i < 256 := fun i => by rw [hm]; exact hPb.co _
              have HBK := Lib.hid (show blks (co P) ini (n3 + 1) = plus (blks (co P) ini n3) (rds (sc m 64) (blks (co P) ini n3) 64) by rw [hm]; rfl)
              have HSO := Lib.hid (blks_ok (co P) ini_ok n3)
              obtain ⟨S, hS⟩ : ∃ S, S = blks (co P) ini n3 := ⟨_, rfl⟩
              rw [← hS] at hJh HBK HSO
              have HMM := Lib.hid (show ∀ i, m i = co P (q + i) from fun i => by rw [hm, hq])
              have hgs := hgr8.size
              have HMG := Lib.hid ((HMS.out.by_ hgr8 (by intro e; injection e with e; omega)).alloc (.cells (intv (wl [])).toArray 3))
              have HKG := Lib.hid ((HJK.out.by_ hgr8 (by intro e; injection e with e; omega)).alloc (.cells (intv (wl [])).toArray 3))
              have HHG := Lib.hid (hJh.alloc (.cells (intv (wl [])).toArray 3))
              have HJW := Lib.hid (Ja.new wr 3 (wl []))
              clear hq hm hS hJh
              go_wp2
              obtain ⟨gw, hgw⟩ : ∃ gw, gw = wr.heap.size := ⟨_, rfl⟩
              obtain ⟨wA, hwA⟩ : ∃ wA, wA = wr.alloc (.cells (intv (wl [])).toArray 3) := ⟨_, rfl⟩
              have hgA : w8.grownBy wA (some gh) := by rw [hwA]; exact hgr8.trans (grown_alloc _ _ _)
              have hwAs : wA.heap.size = gw + 1 := by rw [hwA, World.size_alloc, ← hgw]
              rw [← hwA] at HMG HKG HHG HJW ⊢
              rw [← hgw] at HJW hgs ⊢
              have HGA := Lib.hid hgA
              clear hwA hgw hgr8 hgA
              go_loopw [9] (RwRel wA gw m) (fun i _ => 64 - (intOf i).toNat)
              case atStart => exact ⟨0, by omega, rfl, HJW.out, World.grownBy.refl _ _⟩
              case round =>
                clear HJW
                obtain ⟨t, ht, rfl, hJw, hgrA⟩ := hrel
                by_cases ht16 : t < 16
                · as_aux_lemma =>
                    have HS0 := Lib.hid (show Ja wr gw 3 (wl (sc m t ++ [be m (4 * t) 0])) by rw [be, wl_zero (by rw [sc_len]; omega)]; exact hJw)
                    have HG0 := Lib.hid hgrA
                    have ht64 : (t : Int) < 64 := by omega
                    have ht16i : (t : Int) < 16 := by omega
                    clear hJw hgrA
                    go_wp2
                    go_loopw [10] (RyRel wA gw m t) (fun i _ => 4 - (intOf i).toNat)
                    case atStart => exact ⟨0, by omega, rfl, HS0.out, HG0.out⟩
                    case round =>
                      clear HS0 HG0
                      obtain ⟨j, hj, rfl, hJw, hgrA⟩ := hrel
                      by_cases hj4 : j < 4
                      · obtain ⟨p1, hp1⟩ : ∃ p, p = 4 * t := ⟨_, rfl⟩
                        obtain ⟨p2, hp2⟩ : ∃ p, p = q + p1 := ⟨_, rfl⟩
                        obtain ⟨p3, hp3⟩ : ∃ p, p = p2 + j := ⟨_, rfl⟩
                        have e1 : IntKind.i64.wrap ((4 : Int) * (t : Int)) = (p1 : Int) := by rw [IntKind.wrap_i64]; omega
                        have e2 : IntKind.i64.wrap ((q : Int) + (p1 : Int)) = (p2 : Int) := by rw [IntKind.wrap_i64]; omega
                        have e3 : IntKind.i64.wrap ((p2 : Int) + (j : Int)) = (p3 : Int) := by rw [IntKind.wrap_i64]; omega
                        have hp3n : (p3 : Int) < (n2 : Int) := by omega
                        have hcx := HMG.out.by_ hgrA (by intro e; injection e with e; omega) p3 (by rw [← HML.out]; omega)
                        have hz := Sh.be_lt hm8 (4 * t) j
                        have hz24 : be m (4 * t) j < 16777216 := Nat.lt_of_lt_of_le hz (Nat.pow_le_pow_right (n := 256) (by omega) (show j ≤ 3 by omega))
                        have HNX := Lib.hid (show be m (4 * t) (j + 1) = be m (4 * t) j * 256 + co P p3 by rw [be, HMM.out, show q + (4 * t + j) = p3 by omega])
                        have hxb := hPb.co p3
                        obtain ⟨x, hx⟩ : ∃ x, x = co P p3 := ⟨_, rfl⟩
                        rw [← hx] at hcx hxb HNX
                        obtain ⟨z, hzz⟩ : ∃ z, z = be m (4 * t) j := ⟨_, rfl⟩
                        rw [← hzz] at hJw hz24 HNX
                        obtain ⟨z2, hz2'⟩ : ∃ y, y = z * 256 := ⟨_, rfl⟩
                        obtain ⟨z3, hz3'⟩ : ∃ y, y = z2 + x := ⟨_, rfl⟩
                        have e4 : IntKind.i64.wrap ((z : Int) * 256) = (z2 : Int) := by rw [IntKind.wrap_i64]; omega
                        have e5 : IntKind.i64.wrap ((z2 : Int) + (x : Int)) = (z3 : Int) := by rw [IntKind.wrap_i64]; omega
                        have e6 : wrap64 ((z2 : Int) + (x : Int)) = (z3 : Int) := by rw [← Int.natCast_add, ← hz3']; exact wrap64_nat _ (by omega)
                        have hcw := hJw.cell (k := t) (by rw [wl_len (by simp [sc_len]; omega)]; omega)
                        rw [wl_at (sc_len m t).symm] at hcw
                        have hfz := hJw.frozen t
                        have HPUT := Lib.hid (hJw.put t z3)
                        rw [wl_put (sc_len m t).symm] at HPUT
                        have HNX2 := Lib.hid (show be m (4 * t) (j + 1) = z3 by rw [HNX.out, hz3', hz2'])
                        have HG2 := Lib.hid (grown_drew (grown_put (k := t) hgrA (.int .i64 (z3 : Int))))
                        clear hp1 hp2 hp3 hz hx hzz hz2' hz3' hJw hgrA HNX
                        go_wp2
                        go_still_tail 19, (by kernel_rfl)
                        change wpList _ _ _ _ _ wr.drew
                        go_wp2
                        go_roundw
                        case rel => exact ⟨j + 1, by omega, by go_num, by rw [HNX2.out]; exact HPUT.out, HG2.out⟩
                        case measure => simp [intOf]; omega
                      · obtain rfl : j = 4 := by omega
                        rw [← sc_lo m ht16] at hJw
                        go_wp2
                        go_roundw
                        case rel => exact ⟨t + 1, by omega, by go_num, hJw, hgrA⟩
                        case measure => simp [intOf]; omega
                · by_cases ht64 : t < 64
                  · as_aux_lemma =>
                      have hlen := sc_len m t
                      have hall := Sh.sc_lt hm8 t
                      have HE := Lib.hid (sc_hi m (show 16 ≤ t by omega))
                      have HLW := Lib.hid (wl_len (L := sc m t) (by omega))
                      obtain ⟨p2, hp2⟩ : ∃ p, p = t - 2 := ⟨_, rfl⟩
                      obtain ⟨p7, hp7⟩ : ∃ p, p = t - 7 := ⟨_, rfl⟩
                      obtain ⟨p15, hp15⟩ : ∃ p, p = t - 15 := ⟨_, rfl⟩
                      obtain ⟨p16, hp16⟩ : ∃ p, p = t - 16 := ⟨_, rfl⟩
                      have e2 : IntKind.i64.wrap ((t : Int) - 2) = (p2 : Int) := by rw [IntKind.wrap_i64]; omega
                      have e7 : IntKind.i64.wrap ((t : Int) - 7) = (p7 : Int) := by rw [IntKind.wrap_i64]; omega
                      have e15 : IntKind.i64.wrap ((t : Int) - 15) = (p15 : Int) := by rw [IntKind.wrap_i64]; omega
                      have e16 : IntKind.i64.wrap ((t : Int) - 16) = (p16 : Int) := by rw [IntKind.wrap_i64]; omega
                      have l2 : (p2 : Int) < 64 := by omega
                      have l7 : (p7 : Int) < 64 := by omega
                      have l15 : (p15 : Int) < 64 := by omega
                      have l16 : (p16 : Int) < 64 := by omega
                      have lt : (t : Int) < 64 := by omega
                      have hn16 : ¬ (t : Int) < 16 := by omega
                      have c2' := hJw.cell (k := p2) (by rw [HLW.out]; omega)
                      have c7' := hJw.cell (k := p7) (by rw [HLW.out]; omega)
                      have c15' := hJw.cell (k := p15) (by rw [HLW.out]; omega)
                      have c16' := hJw.cell (k := p16) (by rw [HLW.out]; omega)
                      have ct' := hJw.cell (k := t) (by rw [HLW.out]; omega)
                      rw [wl_co (by omega)] at c2' c7' c15' c16'
                      have hft := hJw.frozen t
                      rw [← hp2, ← hp7, ← hp15, ← hp16] at HE
                      obtain ⟨v2, hv2⟩ : ∃ v, v = co (sc m t) p2 := ⟨_, rfl⟩
                      obtain ⟨v7, hv7⟩ : ∃ v, v = co (sc m t) p7 := ⟨_, rfl⟩
                      obtain ⟨v15, hv15⟩ : ∃ v, v = co (sc m t) p15 := ⟨_, rfl⟩
                      obtain ⟨v16, hv16⟩ : ∃ v, v = co (sc m t) p16 := ⟨_, rfl⟩
                      have b2 : v2 < 4294967296 := by rw [hv2]; exact co_lt' hall _
                      have b7 : v7 < 4294967296 := by rw [hv7]; exact co_lt' hall _
                      have b15 : v15 < 4294967296 := by rw [hv15]; exact co_lt' hall _
                      have b16 : v16 < 4294967296 := by rw [hv16]; exact co_lt' hall _
                      rw [← hv2] at c2' HE
                      rw [← hv7] at c7' HE
                      rw [← hv15] at c15' HE
                      rw [← hv16] at c16' HE
                      obtain ⟨zt, hzt⟩ : ∃ v, v = co (wl (sc m t)) t := ⟨_, rfl⟩
                      rw [← hzt] at ct'
                      have r17 := Sh.rr_lt (n := 17) b2 (by omega) (by omega)
                      have r19 := Sh.rr_lt (n := 19) b2 (by omega) (by omega)
                      have r7 := Sh.rr_lt (n := 7) b15 (by omega) (by omega)
                      have r18 := Sh.rr_lt (n := 18) b15 (by omega) (by omega)
                      have bs1 := Sh.s1_lt b2
                      have bs0 := Sh.s0_lt b15
                      have f1 : bits .xor .i64 (rr v2 17 : Int) (rr v2 19 : Int) = ((rr v2 17 ^^^ rr v2 19 : Nat) : Int) := xor32 r17 r19
                      have bx1 := Sh.xor_lt r17 r19
                      have f2 : bits .xor .i64 ((rr v2 17 ^^^ rr v2 19 : Nat) : Int) ((v2 : Int) / 1024) = (s1 v2 : Int) := xor32 bx1 (div_lt (n := 1024) b2)
                      have f3 : bits .xor .i64 (rr v15 7 : Int) (rr v15 18 : Int) = ((rr v15 7 ^^^ rr v15 18 : Nat) : Int) := xor32 r7 r18
                      have bx2 := Sh.xor_lt r7 r18
                      have f4 : bits .xor .i64 ((rr v15 7 ^^^ rr v15 18 : Nat) : Int) ((v15 : Int) / 8) = (s0 v15 : Int) := xor32 bx2 (div_lt (n := 8) b15)
                      obtain ⟨y1, hy1⟩ : ∃ y, y = s1 v2 + v7 := ⟨_, rfl⟩
                      obtain ⟨y2, hy2⟩ : ∃ y, y = y1 + s0 v15 := ⟨_, rfl⟩
                      obtain ⟨y3, hy3⟩ : ∃ y, y = y2 + v16 := ⟨_, rfl⟩
                      obtain ⟨y4, hy4⟩ : ∃ y, y = y3 % 4294967296 := ⟨_, rfl⟩
                      have by1 : y1 < 8589934592 := by rw [hy1]; exact Nat.add_lt_add bs1 b7
                      have by2 : y2 < 12884901888 := by rw [hy2]; exact Nat.add_lt_add by1 bs0
                      have by3 : y3 < 17179869184 := by rw [hy3]; exact Nat.add_lt_add by2 b16
                      have a1 : IntKind.i64.wrap ((s1 v2 : Int) + (v7 : Int)) = (y1 : Int) := wrapA hy1 (Nat.lt_trans by1 (by decide))
                      have a2 : IntKind.i64.wrap ((y1 : Int) + (s0 v15 : Int)) = (y2 : Int) := wrapA hy2 (Nat.lt_trans by2 (by decide))
                      have a3 : IntKind.i64.wrap ((y2 : Int) + (v16 : Int)) = (y3 : Int) := wrapA hy3 (Nat.lt_trans by3 (by decide))
                      have a4 : ((y3 : Int)).tmod 4294967296 = (y4 : Int) := tmodN hy4
                      have a5 : wrap64 ((y2 : Int) + (v16 : Int)) = (y3 : Int) := wrapB hy3 (Nat.lt_trans by3 (by decide))
                      have HY := Lib.hid (show y4 = (s1 v2 + v7 + s0 v15 + v16) % 4294967296 by rw [hy4, hy3, hy2, hy1])
                      have hset : (wl (sc m t)).set t y4 = wl (sc m (t + 1)) := by
                        rw [HE.out, ← HY.out, ← wl_zero (by omega)]
                        exact wl_put hlen.symm
                      have HPUT := Lib.hid (hJw.put t y4)
                      rw [hset] at HPUT
                      have HG2 := Lib.hid (grown_put (k := t) hgrA (.int .i64 (y4 : Int)))
                      clear hset hp2 hp7 hp15 hp16 hv2 hv7 hv15 hv16 hzt hy1 hy2 hy3 hy4 hall hlen HE HY HLW hJw hgrA
                      go_wp2
                      go_quiet (fail)
                      obtain ⟨wq, hwq⟩ : ∃ wq, wq = wr.drewN nq := ⟨_, rfl⟩
                      have d7 : wq.cell? ⟨gw, p7, none⟩ = some (.int .i64 (v7 : Int)) := by rw [hwq]; exact c7'
                      have d16 : wq.cell? ⟨gw, p16, none⟩ = some (.int .i64 (v16 : Int)) := by rw [hwq]; exact c16'
                      have dt : wq.cell? ⟨gw, t, none⟩ = some (.int .i64 (zt : Int)) := by rw [hwq]; exact ct'
                      have dft : wq.frozen? ⟨gw, t, none⟩ = false := by rw [hwq]; exact hft
                      have HPQ : Hid (Ja (wq.setCell ⟨gw, t, none⟩ (.int .i64 (y4 : Int))) gw 3 (wl (sc m (t + 1)))) := Lib.hid (by rw [hwq]; exact HPUT.out)
                      have HGQ : Hid (wA.grownBy (wq.setCell ⟨gw, t, none⟩ (.int .i64 (y4 : Int))).drew (some gw)) := Lib.hid (by rw [hwq]; exact grown_drew (grown_drewN HG2.out nq))
                      rw [← hwq]
                      clear hwq c2' c7' c15' c16' ct' hft HPUT HG2
                      go_wp2
                      go_still_tail 33, (by kernel_rfl)
                      still_call (turn_any v2 17 17 rfl b2 (by omega) (by omega) _)
                      repeat still_step
                      still_call (turn_any v2 19 19 rfl b2 (by omega) (by omega) _)
                      repeat still_step
                      still_call (turn_any v15 7 7 rfl b15 (by omega) (by omega) _)
                      repeat still_step
                      still_call (turn_any v15 18 18 rfl b15 (by omega) (by omega) _)
                      repeat still_step
                      refine wpStill_nil ?_
                      change wpList _ _ _ _ _ wq.drew
                      go_wp2
                      refine ⟨⟨t + 1, by omega, by go_num, HPQ.out, HGQ.out⟩, by simp [intOf]; omega⟩
                  · obtain rfl : t = 64 := by omega
                    rw [wl_full (sc_len m 64)] at hJw
                    have hJh := HHG.out.by_ hgrA (by intro e; injection e with e; omega)
                    have hJk := HKG.out.by_ hgrA (by intro e; injection e with e; omega)
                    have hgr8 : w8.grownBy wr (some gh) := HGA.out.andThen hgrA (fun j e => .inl (by injection e with e; omega))
                    have hgwr := hgrA.size
                    rw [hwAs] at hgwr
                    obtain ⟨j0, hj0, hj1, hj2, hj3⟩ := info_parts pint_info
                    have HNW := Lib.hid (hJh.alloc (.cells #[] 3)).news
                    have HJH := Lib.hid hJh
                    have HJK := Lib.hid hJk
                    have HJW := Lib.hid hJw
                    have HGR := Lib.hid hgr8
                    clear hJh hJk hJw hgr8 HHG HKG HGA hgrA HMG HMM
                    go_wp2_with (first
                      | (at_builtin
                         refine wpList_append_own_at _ rfl (.tmp 130) (.tmp 131) 32 rfl wr.heap.size 3 j0 (.int .i64 0) 1 8 Tryd.underlying32 hj0 hj1 hj2 hj3 rfl (by decide) (.slice (some ⟨wr.heap.size, 0, none⟩) 0 0) 0 [] rfl (Own.lit0 wr wr.heap.size 3 (Nat.le_refl _)).1 ⟨gh, 0, none⟩ 8 8 (intv S.l) rfl rfl HNW.out (intv_one _) (by simp [maxLen]) (by omega) (by rw [World.size_alloc]; omega) ?_
                         intro v9 w9 hown9 hgr9 _ hob9
                         obtain ⟨A9, c9, rfl, hO9⟩ := OwnJ.mk' (L := S.l) (by simpa using hown9)
                         obtain ⟨g9, rfl, hg9, hC9⟩ := hO9.cj (by simp [St.l])
                         rw [show S.l.length = 8 from rfl])
                      | fail)
                    have hB9 : Below wr.heap.size wr w9 := below_lit' (Below.refl wr.heap.size wr) (Nat.le_refl _) hgr9
                    have hlh := HJH.out.lt
                    have hlk := HJK.out.lt
                    have hlw := HJW.out.lt
                    have hs9 := hB9.size
                    have HH9 := Lib.hid (HJH.out.below hB9 hlh)
                    have HK9 := Lib.hid (HJK.out.below hB9 hlk)
                    have HW9 := Lib.hid (HJW.out.below hB9 hlw)
                    have HG9 := Lib.hid (HGR.out.trans (Gw.Below.grown hB9))
                    have HC9 := Lib.hid hC9
                    have hgB : gh + 2 ≤ g9 := by omega
                    have hlh9 : gh < w9.heap.size := Nat.lt_of_lt_of_le hlh hs9
                    have hlk9 : gh + 1 < w9.heap.size := Nat.lt_of_lt_of_le hlk hs9
                    have hlw9 : gw < w9.heap.size := Nat.lt_of_lt_of_le hlw hs9
                    clear hB9 hlh hlk hlw hgr9 hown9 hO9 hC9 hob9 HJH HJK HJW HGR HNW hgwr hj0 hj1 hj2 hj3 hs9
                    go_loopw [13, 14] (RrRel w9 (gh + 2) (sc m 64) S) (fun _ i _ => 64 - (intOf i).toNat)
                    case atStart => exact ⟨0, g9, c9, by omega, rfl, rfl, hgB, HC9.out, Below.refl _ _⟩
                    case round =>
                      clear HC9 hgB
                      obtain ⟨t, g, c, ht, rfl, rfl, hgg, hC, hB⟩ := hrel
                      by_cases ht64 : t < 64
                      · obtain ⟨s, hs⟩ : ∃ s, s = rds (sc m 64) S t := ⟨_, rfl⟩
                        have hok : s.Ok := by rw [hs]; exact rds_ok _ HSO.out t
                        rw [← hs] at hC
                        have HRD := Lib.hid (show rds (sc m 64) S (t + 1) = rd (co kk t) (co (sc m 64) t) s by rw [hs]; rfl)
                        have ck := (HK9.out.below hB hlk9).cell (k := t) (by rw [kk_len]; exact ht64)
                        have cw := (HW9.out.below hB hlw9).cell (k := t) (by rw [sc_len]; exact ht64)
                        have bk := kk_lt t
                        have bw := co_lt' (Sh.sc_lt hm8 64) t
                        obtain ⟨kt, hkt⟩ : ∃ k, k = co kk t := ⟨_, rfl⟩
                        obtain ⟨wt, hwt⟩ : ∃ k, k = co (sc m 64) t := ⟨_, rfl⟩
                        rw [← hkt] at ck bk HRD
                        rw [← hwt] at cw bw HRD
                        clear hkt hwt hs
                        obtain ⟨va, vb, vc, vd, ve, vf, vg, vh⟩ := s
                        have c0 : wr.cell? ⟨g, 0, none⟩ = some (.int .i64 (va : Int)) := hC 0 (by simp [St.l])
                        have c1 : wr.cell? ⟨g, 1, none⟩ = some (.int .i64 (vb : Int)) := hC 1 (by simp [St.l])
                        have c2 : wr.cell? ⟨g, 2, none⟩ = some (.int .i64 (vc : Int)) := hC 2 (by simp [St.l])
                        have c3 : wr.cell? ⟨g, 3, none⟩ = some (.int .i64 (vd : Int)) := hC 3 (by simp [St.l])
                        have c4 : wr.cell? ⟨g, 4, none⟩ = some (.int .i64 (ve : Int)) := hC 4 (by simp [St.l])
                        have c5 : wr.cell? ⟨g, 5, none⟩ = some (.int .i64 (vf : Int)) := hC 5 (by simp [St.l])
                        have c6 : wr.cell? ⟨g, 6, none⟩ = some (.int .i64 (vg : Int)) := hC 6 (by simp [St.l])
                        have c7 : wr.cell? ⟨g, 7, none⟩ = some (.int .i64 (vh : Int)) := hC 7 (by simp [St.l])
                        have ba : va < 4294967296 := hok.a
                        have bb : vb < 4294967296 := hok.b
                        have bc : vc < 4294967296 := hok.c
                        have bd : vd < 4294967296 := hok.d
                        have be' : ve < 4294967296 := hok.e
                        have bf : vf < 4294967296 := hok.f
                        have bg : vg < 4294967296 := hok.g
                        have bh : vh < 4294967296 := hok.h
                        have lt : (t : Int) < 64 := by omega
                        have r6 := Sh.rr_lt (n := 6) be' (by decide) (by decide)
                        have r11 := Sh.rr_lt (n := 11) be' (by decide) (by decide)
                        have r25 := Sh.rr_lt (n := 25) be' (by decide) (by decide)
                        have f1 : bits .xor .i64 (rr ve 6 : Int) (rr ve 11 : Int) = ((rr ve 6 ^^^ rr ve 11 : Nat) : Int) := xor32 r6 r11
                        have f2 : bits .xor .i64 ((rr ve 6 ^^^ rr ve 11 : Nat) : Int) (rr ve 25 : Int) = (S1 ve : Int) := xor32 (Sh.xor_lt r6 r11) r25
                        have f3 : bits .and .i64 (ve : Int) (vf : Int) = ((ve &&& vf : Nat) : Int) := and32 be' bf
                        obtain ⟨ne, hne⟩ : ∃ n, n = 4294967295 - ve := ⟨_, rfl⟩
                        have bne : ne < 4294967296 := by rw [hne]; exact Nat.lt_of_le_of_lt (Nat.sub_le _ _) (by decide)
                        have en1 := subN hne be'
                        have en2 := subN' hne be'
                        have f4 : bits .and .i64 (ne : Int) (vg : Int) = ((ne &&& vg : Nat) : Int) := and32 bne bg
                        have f5 : bits .xor .i64 ((ve &&& vf : Nat) : Int) ((ne &&& vg : Nat) : Int) = (ch ve vf vg : Int) := by rw [ch, ← hne]; exact xor32 (and_lt be') (and_lt bne)
                        have bS1 := Sh.S1_lt be'
                        have bch := Sh.ch_lt (f := vf) (g := vg) be'
                        obtain ⟨x1, hx1⟩ : ∃ y, y = vh + S1 ve := ⟨_, rfl⟩
                        obtain ⟨x2, hx2⟩ : ∃ y, y = x1 + ch ve vf vg := ⟨_, rfl⟩
                        obtain ⟨x3, hx3⟩ : ∃ y, y = x2 + kt := ⟨_, rfl⟩
                        obtain ⟨x4, hx4⟩ : ∃ y, y = x3 + wt := ⟨_, rfl⟩
                        have bx1 : x1 < 8589934592 := by rw [hx1]; exact Nat.add_lt_add bh bS1
                        have bx2 : x2 < 12884901888 := by rw [hx2]; exact Nat.add_lt_add bx1 bch
                        have bx3 : x3 < 17179869184 := by rw [hx3]; exact Nat.add_lt_add bx2 bk
                        have bx4 : x4 < 21474836480 := by rw [hx4]; exact Nat.add_lt_add bx3 bw
                        have p1 : IntKind.i64.wrap ((vh : Int) + (S1 ve : Int)) = (x1 : Int) := wrapA hx1 (Nat.lt_trans bx1 (by decide))
                        have p2 : IntKind.i64.wrap ((x1 : Int) + (ch ve vf vg : Int)) = (x2 : Int) := wrapA hx2 (Nat.lt_trans bx2 (by decide))
                        have p3 : IntKind.i64.wrap ((x2 : Int) + (kt : Int)) = (x3 : Int) := wrapA hx3 (Nat.lt_trans bx3 (by decide))
                        have p4 : IntKind.i64.wrap ((x3 : Int) + (wt : Int)) = (x4 : Int) := wrapA hx4 (Nat.lt_trans bx4 (by decide))
                        have p4' : wrap64 ((x3 : Int) + (wt : Int)) = (x4 : Int) := wrapB hx4 (Nat.lt_trans bx4 (by decide))
                        have r2 := Sh.rr_lt (n := 2) ba (by decide) (by decide)
                        have r13 := Sh.rr_lt (n := 13) ba (by decide) (by decide)
                        have r22 := Sh.rr_lt (n := 22) ba (by decide) (by decide)
                        have g1 : bits .xor .i64 (rr va 2 : Int) (rr va 13 : Int) = ((rr va 2 ^^^ rr va 13 : Nat) : Int) := xor32 r2 r13
                        have g2 : bits .xor .i64 ((rr va 2 ^^^ rr va 13 : Nat) : Int) (rr va 22 : Int) = (S0 va : Int) := xor32 (Sh.xor_lt r2 r13) r22
                        have g3 : bits .and .i64 (va : Int) (vb : Int) = ((va &&& vb : Nat) : Int) := and32 ba bb
                        have g4 : bits .and .i64 (va : Int) (vc : Int) = ((va &&& vc : Nat) : Int) := and32 ba bc
                        have g5 : bits .and .i64 (vb : Int) (vc : Int) = ((vb &&& vc : Nat) : Int) := and32 bb bc
                        have g6 : bits .xor .i64 ((va &&& vb : Nat) : Int) ((va &&& vc : Nat) : Int) = (((va &&& vb) ^^^ (va &&& vc) : Nat) : Int) := xor32 (and_lt ba) (and_lt ba)
                        have g7 : bits .xor .i64 (((va &&& vb) ^^^ (va &&& vc) : Nat) : Int) ((vb &&& vc : Nat) : Int) = (mj va vb vc : Int) := xor32 (Sh.xor_lt (and_lt ba) (and_lt ba)) (and_lt bb)
                        have bS0 := Sh.S0_lt ba
                        have bmj := Sh.mj_lt (c := vc) ba bb
                        obtain ⟨y1, hy1⟩ : ∃ y, y = S0 va + mj va vb vc := ⟨_, rfl⟩
                        have by1 : y1 < 8589934592 := by rw [hy1]; exact Nat.add_lt_add bS0 bmj
                        have q1 : IntKind.i64.wrap ((S0 va : Int) + (mj va vb vc : Int)) = (y1 : Int) := wrapA hy1 (Nat.lt_trans by1 (by decide))
                        have q1' : wrap64 ((S0 va : Int) + (mj va vb vc : Int)) = (y1 : Int) := wrapB hy1 (Nat.lt_trans by1 (by decide))
                        obtain ⟨z1, hz1'⟩ : ∃ y, y = x4 + y1 := ⟨_, rfl⟩
                        obtain ⟨z2, hz2'⟩ : ∃ y, y = z1 % 4294967296 := ⟨_, rfl⟩
                        obtain ⟨u1, hu1⟩ : ∃ y, y = vd + x4 := ⟨_, rfl⟩
                        obtain ⟨u2, hu2⟩ : ∃ y, y = u1 % 4294967296 := ⟨_, rfl⟩
                        have bz1 : z1 < 30064771072 := by rw [hz1']; exact Nat.add_lt_add bx4 by1
                        have bu1 : u1 < 25769803776 := by rw [hu1]; exact Nat.add_lt_add bd bx4
                        have q2 : IntKind.i64.wrap ((x4 : Int) + (y1 : Int)) = (z1 : Int) := wrapA hz1' (Nat.lt_trans bz1 (by decide))
                        have q3 : ((z1 : Int)).tmod 4294967296 = (z2 : Int) := tmodN hz2'
                        have q4 : IntKind.i64.wrap ((vd : Int) + (x4 : Int)) = (u1 : Int) := wrapA hu1 (Nat.lt_trans bu1 (by decide))
                        have q5 : ((u1 : Int)).tmod 4294967296 = (u2 : Int) := tmodN hu2
                        have HST := Lib.hid (show (rd kt wt ⟨va, vb, vc, vd, ve, vf, vg, vh⟩).l = [z2, va, vb, vc, u2, ve, vf, vg] by
                          rw [hz2', hz1', hu2, hu1, hx4, hx3, hx2, hx1, hy1]; rfl)
                        have HBE := Lib.hid hB
                        have HT6 := Lib.hid (fun w => turn_any ve 6 6 rfl be' (by decide) (by decide) w)
                        have HT11 := Lib.hid (fun w => turn_any ve 11 11 rfl be' (by decide) (by decide) w)
                        have HT25 := Lib.hid (fun w => turn_any ve 25 25 rfl be' (by decide) (by decide) w)
                        have HT2 := Lib.hid (fun w => turn_any va 2 2 rfl ba (by decide) (by decide) w)
                        have HT13 := Lib.hid (fun w => turn_any va 13 13 rfl ba (by decide) (by decide) w)
                        have HT22 := Lib.hid (fun w => turn_any va 22 22 rfl ba (by decide) (by decide) w)
                        clear hne hx1 hx2 hx3 hx4 hy1 hz1' hz2' hu1 hu2 hok hC hB bx1 bx2 bx3 bx4 by1 bz1 bu1 bS0 bmj bS1 bch r2 r13 r22 r6 r11 r25 ba bb bc bd be' bf bg bh bne bk bw
                        go_wp2
                        go_quiet (fail)
                        obtain ⟨wq, hwq⟩ : ∃ wq, wq = wr.drewN nq := ⟨_, rfl⟩
                        rw [← hwq]
                        have HBQ := Lib.hid (show Below w9.heap.size w9 wq by rw [hwq]; exact Gw.Below.drewN HBE.out nq)
                        have HCJ := Lib.hid (show ∀ w5, Below wq.heap.size wq w5 → w5.cell? ⟨g, 1, none⟩ = some (.int .i64 (vb : Int)) ∧ w5.cell? ⟨g, 2, none⟩ = some (.int .i64 (vc : Int)) ∧ w5.cell? ⟨g, 3, none⟩ = some (.int .i64 (vd : Int)) ∧ w5.cell? ⟨g, 5, none⟩ = some (.int .i64 (vf : Int)) ∧ w5.cell? ⟨g, 6, none⟩ = some (.int .i64 (vg : Int)) ∧ w5.cell? ⟨g, 7, none⟩ = some (.int .i64 (vh : Int)) ∧ w5.cell? ⟨gh + 1, t, none⟩ = some (.int .i64 (kt : Int)) ∧ w5.cell? ⟨gw, t, none⟩ = some (.int .i64 (wt : Int)) from fun w5 hb => by
                          have up : ∀ {x y : Nat} {v : Value}, wr.cell? ⟨x, y, none⟩ = some v → w5.cell? ⟨x, y, none⟩ = some v := fun {x y v} h => (hb.cell (p := ⟨x, y, none⟩) (by rw [hwq]; show x < wr.heap.size; exact cell_lt h)).trans (by rw [hwq]; exact h)
                          exact ⟨up c1, up c2, up c3, up c5, up c6, up c7, up ck, up cw⟩)
                        clear hwq c0 c1 c2 c3 c4 c5 c6 c7 ck cw HBE
                        go_wp2
                        rename_i K hK
                        refine Gt.regionA [Gt.Is (.slice (some ⟨g, 0, none⟩) 8 c), Gt.Is (.pointer (some ⟨g, 7, none⟩)), Gt.Is (.int .i64 (vh : Int)), Gt.Is (.int .i64 (ve : Int)), Gt.Is (.int .i64 (rr ve 6 : Int)), Gt.Is (.int .i64 (ve : Int)), Gt.Is (.int .i64 (rr ve 11 : Int)), Gt.Is (.int .i64 ((rr ve 6 ^^^ rr ve 11 : Nat) : Int)), Gt.Is (.int .i64 (ve : Int)), Gt.Is (.int .i64 (rr ve 25 : Int)), Gt.Is (.int .i64 (S1 ve : Int)), Gt.Is (.int .i64 (x1 : Int)), Gt.Is (.int .i64 (ve : Int)), Gt.Is (.slice (some ⟨g, 0, none⟩) 8 c), Gt.Is (.pointer (some ⟨g, 5, none⟩)), Gt.Is (.int .i64 (vf : Int)), Gt.Is (.int .i64 ((ve &&& vf : Nat) : Int)), Gt.Is (.int .i64 (ve : Int)), Gt.Is (.int .i64 (ne : Int)), Gt.Is (.slice (some ⟨g, 0, none⟩) 8 c), Gt.Is (.pointer (some ⟨g, 6, none⟩)), Gt.Is (.int .i64 (vg : Int)), Gt.Is (.int .i64 ((ne &&& vg : Nat) : Int)), Gt.Is (.int .i64 (ch ve vf vg : Int)), Gt.Is (.int .i64 (x2 : Int)), Gt.Is (.slice (some ⟨gh + 1, 0, none⟩) 64 64), Gt.Is (.int .i64 (t : Int)), Gt.Is (.pointer (some ⟨gh + 1, t, none⟩)), Gt.Is (.int .i64 (kt : Int)), Gt.Is (.int .i64 (x3 : Int)), Gt.Is (.slice (some ⟨gw, 0, none⟩) 64 64), Gt.Is (.int .i64 (t : Int)), Gt.Is (.pointer (some ⟨gw, t, none⟩)), Gt.Is (.int .i64 (wt : Int)), Gt.Is (.int .i64 (x4 : Int)), Gt.Is (.int .i64 (x4 : Int))] 279
                          [⟨[], [13], none⟩, ⟨[(0, 143)], [], none⟩, ⟨[(1, 144)], [], none⟩, ⟨[], [16], none⟩, ⟨[(3, 146)], [], none⟩, ⟨[], [16], none⟩, ⟨[(5, 148)], [], none⟩, ⟨[(4, 147), (6, 149)], [], none⟩, ⟨[], [16], none⟩, ⟨[(8, 151)], [], none⟩, ⟨[(7, 150), (9, 152)], [], none⟩, ⟨[(2, 145), (10, 153)], [], none⟩, ⟨[], [16], none⟩, ⟨[], [13], none⟩, ⟨[(13, 156)], [], none⟩, ⟨[(14, 157)], [], none⟩, ⟨[(12, 155), (15, 158)], [], none⟩, ⟨[], [16], none⟩, ⟨[(17, 160)], [], none⟩, ⟨[], [13], none⟩, ⟨[(19, 162)], [], none⟩, ⟨[(20, 163)], [], none⟩, ⟨[(18, 161), (21, 164)], [], none⟩, ⟨[(16, 159), (22, 165)], [], none⟩, ⟨[(11, 154), (23, 166)], [], none⟩, ⟨[], [6], none⟩, ⟨[], [14], none⟩, ⟨[(25, 168), (26, 169)], [], none⟩, ⟨[(27, 170)], [], none⟩, ⟨[(24, 167), (28, 171)], [], none⟩, ⟨[], [8], none⟩, ⟨[], [14], none⟩, ⟨[(30, 173), (31, 174)], [], none⟩, ⟨[(32, 175)], [], none⟩, ⟨[(29, 172), (33, 176)], [], none⟩, ⟨[(34, 177)], [], none⟩]
                          [(0, 143), (1, 144), (2, 145), (3, 146), (4, 147), (5, 148), (6, 149), (7, 150), (8, 151), (9, 152), (10, 153), (11, 154), (12, 155), (13, 156), (14, 157), (15, 158), (16, 159), (17, 160), (18, 161), (19, 162), (20, 163), (21, 164), (22, 165), (23, 166), (24, 167), (25, 168), (26, 169), (27, 170), (28, 171), (29, 172), (30, 173), (31, 174), (32, 175), (33, 176), (34, 177), (35, 17)] (by kernel_rfl) (by kernel_rfl) (by kernel_rfl) (by kernel_rfl) ?_ ?_ ?_
                        · simp only [Gt.Monos]
                          repeat' apply And.intro
                          all_goals (first | exact trivial | exact Gt.Is.mono _)
                        · simp only [Gt.Obs]
                          repeat' apply And.intro
                          all_goals try exact trivial
                          all_goals (
                            intro a w5 hg
                            have hg' : Below wq.heap.size wq w5 := hg
                            simp only [Gt.Pre, Gt.Kept, Gt.Guarded, Gt.tys, List.getD_cons_zero, List.getD_cons_succ, Gt.Is, Nat.zero_add, Nat.reduceAdd]
                            intros
                            try (refine ⟨fun _ => ?_, fun hne => absurd (by assumption) hne⟩))
                          all_goals (first
                            | exact Gt.ok_move rfl (by assumption)
                            | exact Gt.ok_assign rfl (by assumption)
                            | exact Gt.ok_pick rfl (by assumption) (by rw [if_pos rfl]; assumption)
                            | (exact Gt.ok_call (f := 15) rfl #[.int .i64 (ve : Int), .int .i64 6] (by kernel_rfl) (by simp only [List.map_toArray, List.map_cons, List.map_nil, *]; rfl) ((HT6.out w5).mono fun e w6 h => ⟨_, h.1, by rw [h.2]; exact Gt.Gr.refl _, rfl⟩))
                            | (exact Gt.ok_call (f := 15) rfl #[.int .i64 (ve : Int), .int .i64 11] (by kernel_rfl) (by simp only [List.map_toArray, List.map_cons, List.map_nil, *]; rfl) ((HT11.out w5).mono fun e w6 h => ⟨_, h.1, by rw [h.2]; exact Gt.Gr.refl _, rfl⟩))
                            | (exact Gt.ok_call (f := 15) rfl #[.int .i64 (ve : Int), .int .i64 25] (by kernel_rfl) (by simp only [List.map_toArray, List.map_cons, List.map_nil, *]; rfl) ((HT25.out w5).mono fun e w6 h => ⟨_, h.1, by rw [h.2]; exact Gt.Gr.refl _, rfl⟩))
                            | (obtain ⟨k1, k2, k3, k5, k6, k7, kk', kw'⟩ := HCJ.out w5 hg'
                               refine Gt.ok_run ?_ rfl
                               simp only [execOp, *]
                               go_simp
                               done))
                        · intro a w5 hg
                          have hg' : Below wq.heap.size wq w5 := hg
                          simp only [Gt.Pre, Gt.tys, List.getD_cons_zero, List.getD_cons_succ, Gt.Is]
                          intro h0 h1 h2 h3 h4 h5 h6 h7 h8 h9 h10 h11 h12 h13 h14 h15 h16 h17 h18 h19 h20 h21 h22 h23 h24 h25 h26 h27 h28 h29 h30 h31 h32 h33 h34 h35
                          show K _ _
                          refine hK _ _ ?_
                          simp only [Gt.puts, List.foldl_cons, List.foldl_nil, h0, h1, h2, h3, h4, h5, h6, h7, h8, h9, h10, h11, h12, h13, h14, h15, h16, h17, h18, h19, h20, h21, h22, h23, h24, h25, h26, h27, h28, h29, h30, h31, h32, h33, h34, h35]
                          simp only [Act.put, List.setIfInBounds_toArray, List.set_cons_zero, List.set_cons_succ]
                          have HCJ2 := Lib.hid (show ∀ w6, Below w5.heap.size w5 w6 → _ from fun w6 h => HCJ.out w6 (hg'.trans (h.mono hg'.size)))
                          have HB2 := Lib.hid (HBQ.out.trans (hg'.mono HBQ.out.size))
                          clear HCJ HBQ hg hg' h0 h1 h2 h3 h4 h5 h6 h7 h8 h9 h10 h11 h12 h13 h14 h15 h16 h17 h18 h19 h20 h21 h22 h23 h24 h25 h26 h27 h28 h29 h30 h31 h32 h33 h34 h35 hK
                          obtain ⟨wq, hwq⟩ : ∃ wq, wq = w5 := ⟨_, rfl⟩
                          rw [← hwq] at HCJ2 HB2 ⊢
                          clear hwq
                          have HCJ := HCJ2
                          have HBQ := HB2
                          clear HCJ2 HB2
                          go_wp2
                          rename_i K hK
                          refine Gt.regionA [Gt.Is (.int .i64 (va : Int)), Gt.Is (.int .i64 (rr va 2 : Int)), Gt.Is (.int .i64 (va : Int)), Gt.Is (.int .i64 (rr va 13 : Int)), Gt.Is (.int .i64 ((rr va 2 ^^^ rr va 13 : Nat) : Int)), Gt.Is (.int .i64 (va : Int)), Gt.Is (.int .i64 (rr va 22 : Int)), Gt.Is (.int .i64 (S0 va : Int)), Gt.Is (.int .i64 (va : Int)), Gt.Is (.slice (some ⟨g, 0, none⟩) 8 c), Gt.Is (.pointer (some ⟨g, 1, none⟩)), Gt.Is (.int .i64 (vb : Int)), Gt.Is (.int .i64 ((va &&& vb : Nat) : Int)), Gt.Is (.int .i64 (va : Int)), Gt.Is (.slice (some ⟨g, 0, none⟩) 8 c), Gt.Is (.pointer (some ⟨g, 2, none⟩)), Gt.Is (.int .i64 (vc : Int)), Gt.Is (.int .i64 ((va &&& vc : Nat) : Int)), Gt.Is (.int .i64 (((va &&& vb) ^^^ (va &&& vc) : Nat) : Int)), Gt.Is (.slice (some ⟨g, 0, none⟩) 8 c), Gt.Is (.pointer (some ⟨g, 1, none⟩)), Gt.Is (.int .i64 (vb : Int)), Gt.Is (.slice (some ⟨g, 0, none⟩) 8 c), Gt.Is (.pointer (some ⟨g, 2, none⟩)), Gt.Is (.int .i64 (vc : Int)), Gt.Is (.int .i64 ((vb &&& vc : Nat) : Int)), Gt.Is (.int .i64 (mj va vb vc : Int)), Gt.Is (.int .i64 (y1 : Int)), Gt.Is (.int .i64 (y1 : Int))] 279
                            [⟨[], [15], none⟩, ⟨[(0, 178)], [], none⟩, ⟨[], [15], none⟩, ⟨[(2, 180)], [], none⟩, ⟨[(1, 179), (3, 181)], [], none⟩, ⟨[], [15], none⟩, ⟨[(5, 183)], [], none⟩, ⟨[(4, 182), (6, 184)], [], none⟩, ⟨[], [15], none⟩, ⟨[], [13], none⟩, ⟨[(9, 187)], [], none⟩, ⟨[(10, 188)], [], none⟩, ⟨[(8, 186), (11, 189)], [], none⟩, ⟨[], [15], none⟩, ⟨[], [13], none⟩, ⟨[(14, 192)], [], none⟩, ⟨[(15, 193)], [], none⟩, ⟨[(13, 191), (16, 194)], [], none⟩, ⟨[(12, 190), (17, 195)], [], none⟩, ⟨[], [13], none⟩, ⟨[(19, 197)], [], none⟩, ⟨[(20, 198)], [], none⟩, ⟨[], [13], none⟩, ⟨[(22, 200)], [], none⟩, ⟨[(23, 201)], [], none⟩, ⟨[(21, 199), (24, 202)], [], none⟩, ⟨[(18, 196), (25, 203)], [], none⟩, ⟨[(7, 185), (26, 204)], [], none⟩, ⟨[(27, 205)], [], none⟩]
                            [(0, 178), (1, 179), (2, 180), (3, 181), (4, 182), (5, 183), (6, 184), (7, 185), (8, 186), (9, 187), (10, 188), (11, 189), (12, 190), (13, 191), (14, 192), (15, 193), (16, 194), (17, 195), (18, 196), (19, 197), (20, 198), (21, 199), (22, 200), (23, 201), (24, 202), (25, 203), (26, 204), (27, 205), (28, 18)] (by kernel_rfl) (by kernel_rfl) (by kernel_rfl) (by kernel_rfl) ?_ ?_ ?_
                          · simp only [Gt.Monos]
                            repeat' apply And.intro
                            all_goals (first | exact trivial | exact Gt.Is.mono _)
                          · simp only [Gt.Obs]
                            repeat' apply And.intro
                            all_goals try exact trivial
                            all_goals (
                              intro a w5 hg
                              have hg' : Below wq.heap.size wq w5 := hg
                              simp only [Gt.Pre, Gt.Kept, Gt.Guarded, Gt.tys, List.getD_cons_zero, List.getD_cons_succ, Gt.Is, Nat.zero_add, Nat.reduceAdd]
                              intros
                              try (refine ⟨fun _ => ?_, fun hne => absurd (by assumption) hne⟩))
                            all_goals (first
                              | exact Gt.ok_move rfl (by assumption)
                              | exact Gt.ok_assign rfl (by assumption)
                              | exact Gt.ok_pick rfl (by assumption) (by rw [if_pos rfl]; assumption)
                              | (exact Gt.ok_call (f := 15) rfl #[.int .i64 (va : Int), .int .i64 2] (by kernel_rfl) (by simp only [List.map_toArray, List.map_cons, List.map_nil, *]; rfl) ((HT2.out w5).mono fun e w6 h => ⟨_, h.1, by rw [h.2]; exact Gt.Gr.refl _, rfl⟩))
                              | (exact Gt.ok_call (f := 15) rfl #[.int .i64 (va : Int), .int .i64 13] (by kernel_rfl) (by simp only [List.map_toArray, List.map_cons, List.map_nil, *]; rfl) ((HT13.out w5).mono fun e w6 h => ⟨_, h.1, by rw [h.2]; exact Gt.Gr.refl _, rfl⟩))
                              | (exact Gt.ok_call (f := 15) rfl #[.int .i64 (va : Int), .int .i64 22] (by kernel_rfl) (by simp only [List.map_toArray, List.map_cons, List.map_nil, *]; rfl) ((HT22.out w5).mono fun e w6 h => ⟨_, h.1, by rw [h.2]; exact Gt.Gr.refl _, rfl⟩))
                              | (obtain ⟨k1, k2, k3, k5, k6, k7, kk', kw'⟩ := HCJ.out w5 hg'
                                 refine Gt.ok_run ?_ rfl
                                 simp only [execOp, *]
                                 go_simp
                                 done))
                          · intro a w5 hg
                            have hg' : Below wq.heap.size wq w5 := hg
                            simp only [Gt.Pre, Gt.tys, List.getD_cons_zero, List.getD_cons_succ, Gt.Is]
                            intro h0 h1 h2 h3 h4 h5 h6 h7 h8 h9 h10 h11 h12 h13 h14 h15 h16 h17 h18 h19 h20 h21 h22 h23 h24 h25 h26 h27 h28
                            show K _ _
                            refine hK _ _ ?_
                            simp only [Gt.puts, List.foldl_cons, List.foldl_nil, h0, h1, h2, h3, h4, h5, h6, h7, h8, h9, h10, h11, h12, h13, h14, h15, h16, h17, h18, h19, h20, h21, h22, h23, h24, h25, h26, h27, h28]
                            simp only [Act.put, List.setIfInBounds_toArray, List.set_cons_zero, List.set_cons_succ]
                            have HCJ2 := Lib.hid (show ∀ w6, Below w5.heap.size w5 w6 → _ from fun w6 h => HCJ.out w6 (hg'.trans (h.mono hg'.size)))
                            have HB2 := Lib.hid (HBQ.out.trans (hg'.mono HBQ.out.size))
                            clear HCJ HBQ hg hg' h0 h1 h2 h3 h4 h5 h6 h7 h8 h9 h10 h11 h12 h13 h14 h15 h16 h17 h18 h19 h20 h21 h22 h23 h24 h25 h26 h27 h28 hK
                            obtain ⟨wq, hwq⟩ : ∃ wq, wq = w5 := ⟨_, rfl⟩
                            rw [← hwq] at HCJ2 HB2 ⊢
                            clear hwq
                            have HCJ := HCJ2
                            have HBQ := HB2
                            clear HCJ2 HB2
                            go_wp2
                            rename_i K hK
                            refine Gt.regionA [Gt.Is (.int .i64 (x4 : Int)), Gt.Is (.int .i64 (y1 : Int)), Gt.Is (.int .i64 (z1 : Int)), Gt.Is (.int .i64 (z2 : Int)), Gt.Is (.int .i64 (va : Int)), Gt.Is (.slice (some ⟨g, 0, none⟩) 8 c), Gt.Is (.pointer (some ⟨g, 1, none⟩)), Gt.Is (.int .i64 (vb : Int)), Gt.Is (.slice (some ⟨g, 0, none⟩) 8 c), Gt.Is (.pointer (some ⟨g, 2, none⟩)), Gt.Is (.int .i64 (vc : Int)), Gt.Is (.slice (some ⟨g, 0, none⟩) 8 c), Gt.Is (.pointer (some ⟨g, 3, none⟩)), Gt.Is (.int .i64 (vd : Int)), Gt.Is (.int .i64 (x4 : Int)), Gt.Is (.int .i64 (u1 : Int)), Gt.Is (.int .i64 (u2 : Int)), Gt.Is (.int .i64 (ve : Int)), Gt.Is (.slice (some ⟨g, 0, none⟩) 8 c), Gt.Is (.pointer (some ⟨g, 5, none⟩)), Gt.Is (.int .i64 (vf : Int)), Gt.Is (.slice (some ⟨g, 0, none⟩) 8 c), Gt.Is (.pointer (some ⟨g, 6, none⟩)), Gt.Is (.int .i64 (vg : Int)), RowJ (gh + 2) [z2, va, vb, vc, u2, ve, vf, vg], RowJ (gh + 2) [z2, va, vb, vc, u2, ve, vf, vg]] 279
                              [⟨[], [17], none⟩, ⟨[], [18], none⟩, ⟨[(0, 206), (1, 207)], [], none⟩, ⟨[(2, 208)], [], none⟩, ⟨[], [15], none⟩, ⟨[], [13], none⟩, ⟨[(5, 211)], [], none⟩, ⟨[(6, 212)], [], none⟩, ⟨[], [13], none⟩, ⟨[(8, 214)], [], none⟩, ⟨[(9, 215)], [], none⟩, ⟨[], [13], none⟩, ⟨[(11, 217)], [], none⟩, ⟨[(12, 218)], [], none⟩, ⟨[], [17], none⟩, ⟨[(13, 219), (14, 220)], [], none⟩, ⟨[(15, 221)], [], none⟩, ⟨[], [16], none⟩, ⟨[], [13], none⟩, ⟨[(18, 224)], [], none⟩, ⟨[(19, 225)], [], none⟩, ⟨[], [13], none⟩, ⟨[(21, 227)], [], none⟩, ⟨[(22, 228)], [], none⟩, ⟨[(3, 209), (4, 210), (7, 213), (10, 216), (16, 222), (17, 223), (20, 226), (23, 229)], [], none⟩, ⟨[(24, 230)], [], none⟩]
                              [(0, 206), (1, 207), (2, 208), (3, 209), (4, 210), (5, 211), (6, 212), (7, 213), (8, 214), (9, 215), (10, 216), (11, 217), (12, 218), (13, 219), (14, 220), (15, 221), (16, 222), (17, 223), (18, 224), (19, 225), (20, 226), (21, 227), (22, 228), (23, 229), (24, 230), (25, 13)] (by kernel_rfl) (by kernel_rfl) (by kernel_rfl) (by kernel_rfl) ?_ ?_ ?_
                            · simp only [Gt.Monos]
                              repeat' apply And.intro
                              all_goals (first | exact trivial | exact Gt.Is.mono _ | exact RowJ.mono _ _)
                            · simp only [Gt.Obs]
                              repeat' apply And.intro
                              all_goals try exact trivial
                              all_goals (
                                intro a w5 hg
                                have hg' : Below wq.heap.size wq w5 := hg
                                simp only [Gt.Pre, Gt.Kept, Gt.Guarded, Gt.tys, List.getD_cons_zero, List.getD_cons_succ, Gt.Is, Nat.zero_add, Nat.reduceAdd]
                                intros
                                try (refine ⟨fun _ => ?_, fun hne => absurd (by assumption) hne⟩))
                              all_goals (first
                                | exact Gt.ok_move rfl (by assumption)
                                | exact Gt.ok_assign rfl (by assumption)
                                | exact Gt.ok_pick rfl (by assumption) (by rw [if_pos rfl]; assumption)
                                | (exact Gt.ok_move rfl h24)
                                | (rename_i h24
                                   exact Gt.ok_assign rfl h24)
                                | (refine Gt.ok_runW (v := .slice (some ⟨w5.heap.size, 0, none⟩) 8 8) (w' := w5.alloc (.cells #[.int .i64 (z2 : Int), .int .i64 (va : Int), .int .i64 (vb : Int), .int .i64 (vc : Int), .int .i64 (u2 : Int), .int .i64 (ve : Int), .int .i64 (vf : Int), .int .i64 (vg : Int)] 3)) ?_ ((Below.refl _ _).alloc (Nat.le_refl _) _) ⟨w5.heap.size, rfl, Nat.le_trans (Nat.le_trans hlk9 HBQ.out.size) hg'.size, (Ja.new w5 3 [z2, va, vb, vc, u2, ve, vf, vg]).cj⟩
                                   simp only [execOp, List.map_toArray, List.map_cons, List.map_nil, *]
                                   go_simp
                                   done)
                                | (obtain ⟨k1, k2, k3, k5, k6, k7, kk', kw'⟩ := HCJ.out w5 hg'
                                   refine Gt.ok_run ?_ rfl
                                   simp only [execOp, *]
                                   go_simp
                                   done))
                            · intro a w5 hg
                              have hg' : Below wq.heap.size wq w5 := hg
                              simp only [Gt.Pre, Gt.tys, List.getD_cons_zero, List.getD_cons_succ, Gt.Is]
                              intro h0 h1 h2 h3 h4 h5 h6 h7 h8 h9 h10 h11 h12 h13 h14 h15 h16 h17 h18 h19 h20 h21 h22 h23 h24 h25
                              obtain ⟨g7, e24, _, _⟩ := h24
                              obtain ⟨g8, e25, hg8, hC8⟩ := h25
                              simp only [Gt.puts, List.foldl_cons, List.foldl_nil, h0, h1, h2, h3, h4, h5, h6, h7, h8, h9, h10, h11, h12, h13, h14, h15, h16, h17, h18, h19, h20, h21, h22, h23, e24, e25]
                              simp only [Act.put, List.setIfInBounds_toArray, List.set_cons_zero, List.set_cons_succ]
                              have HB2 := Lib.hid (HBQ.out.trans (hg'.mono HBQ.out.size))
                              have HC8 := Lib.hid hC8
                              clear hC8 HBQ HCJ hg hg' hK h0 h1 h2 h3 h4 h5 h6 h7 h8 h9 h10 h11 h12 h13 h14 h15 h16 h17 h18 h19 h20 h21 h22 h23 e24 e25
                              go_wp2
                              go_roundw
                              case rel => exact ⟨t + 1, g8, 8, by omega, by go_num, rfl, hg8, by rw [HRD.out, HST.out]; exact HC8.out, HB2.out⟩
                              case measure => simp [intOf]; omega
                      · as_aux_lemma =>
                          obtain rfl : t = 64 := by omega
                          have HJD := Lib.hid (HH9.out.below hB hlh9)
                          have HGD := Lib.hid (HG9.out.trans (Gw.Below.grown hB))
                          have HVO := Lib.hid (rds_ok (sc m 64) HSO.out 64)
                          obtain ⟨V, hV⟩ : ∃ V, V = rds (sc m 64) S 64 := ⟨_, rfl⟩
                          rw [← hV] at hC HBK HVO
                          have hgne : (some gh : Option Nat) ≠ some g := by intro e; injection e with e; omega
                          have HSA := Lib.hid (St.Ok.all HSO.out)
                          have HVA := Lib.hid (St.Ok.all HVO.out)
                          have HC := Lib.hid hC
                          clear hV hC hB HH9 HK9 HW9 HG9 hlh9 hlk9 hlw9 HVO
                          go_wp2
                          go_loopw [19] (RpRel wr gh S V) (fun i _ => 8 - (intOf i).toNat)
                          case atStart => exact ⟨0, by omega, rfl, by rw [List.take_zero, List.nil_append, List.drop_zero]; exact HJD.out, World.grownBy.refl _ _⟩
                          case round =>
                            obtain ⟨k, hk, rfl, hJ, hgD⟩ := hrel
                            by_cases hk8 : k < 8
                            · have hch := hJ.cell (k := k) (by rw [mix_len S V k hk]; exact hk8)
                              rw [mix_co S V hk8] at hch
                              have hcv := HC.out.by_ hgD hgne k (by simp [St.l]; exact hk8)
                              have hfz := hJ.frozen k
                              have bS := co_lt' HSA.out k
                              have bV := co_lt' HVA.out k
                              have HSET := Lib.hid (mix_set S V hk8)
                              obtain ⟨x, hx⟩ : ∃ x, x = co S.l k := ⟨_, rfl⟩
                              obtain ⟨y, hy⟩ : ∃ y, y = co V.l k := ⟨_, rfl⟩
                              rw [← hx] at hch bS HSET
                              rw [← hy] at hcv bV HSET
                              obtain ⟨s1', hs1'⟩ : ∃ s, s = x + y := ⟨_, rfl⟩
                              obtain ⟨s2', hs2'⟩ : ∃ s, s = s1' % 4294967296 := ⟨_, rfl⟩
                              rw [← hs1', ← hs2'] at HSET
                              have bs1 : s1' < 8589934592 := by rw [hs1']; exact Nat.add_lt_add bS bV
                              have a1 : IntKind.i64.wrap ((x : Int) + (y : Int)) = (s1' : Int) := wrapA hs1' (Nat.lt_trans bs1 (by decide))
                              have a1' : wrap64 ((x : Int) + (y : Int)) = (s1' : Int) := wrapB hs1' (Nat.lt_trans bs1 (by decide))
                              have a2 : ((s1' : Int)).tmod 4294967296 = (s2' : Int) := tmodN hs2'
                              have lk : (k : Int) < 8 := by omega
                              have HPUT := Lib.hid (hJ.put k s2')
                              rw [HSET.out] at HPUT
                              have HG2 := Lib.hid (grown_drew (grown_put (k := k) hgD (.int .i64 (s2' : Int))))
                              clear hJ hgD hx hy hs1' hs2' HSET bS bV bs1
                              go_wp2
                              go_still_tail 13, (by kernel_rfl)
                              change wpList _ _ _ _ _ wr.drew
                              go_wp2
                              go_roundw
                              case rel => exact ⟨.int .i64 ((k : Int) + 1), _, _, _, _, _, _, _, _, _, _, _, _, _, _, _, _, _, ⟨k + 1, by omega, by go_num, HPUT.out, HG2.out⟩, rfl⟩
                              case measure => simp [intOf]; omega
                            · obtain rfl : k = 8 := by omega
                              rw [show (plus S V).l.take 8 ++ S.l.drop 8 = (plus S V).l from rfl, ← HBK.out] at hJ
                              have HJE := Lib.hid hJ
                              have HGE := Lib.hid (HGD.out.trans hgD)
                              clear hJ hgD
                              go_wp2
                              go_roundw
                              case rel => exact ⟨n3 + 1, by have := HQ.out; omega, by have := HQ.out; go_num, HJE.out, HGE.out⟩
                              case measure => simp [intOf]; omega
            · have hn3' : n3 = P.length / 64 := by rw [← HML.out]; omega
              have hfin : blks (co P) ini n3 = fin l := by rw [hn3', HPP.out]; rfl
              have HOK := Lib.hid (St.Ok.all (blks_ok (co P) ini_ok n3))
              rw [hfin] at hJh HOK
              have HSUM := Lib.hid (show sum l = outs (fin l).l 8 from rfl)
              have HL8 := Lib.hid (show (fin l).l.length = 8 from rfl)
              obtain ⟨L, hL⟩ : ∃ L, L = (fin l).l := ⟨_, rfl⟩
              rw [← hL] at hJh HOK HSUM HL8
              have hgs := hgr8.size
              have hbE : Below w.heap.size w wr := hbel8.trans (Gw.Below.by hgr8 hbel8.size hs1)
              have HJE := Lib.hid hJh
              have hlE := hJh.lt
              clear hL hfin hn3' hJh hgr8
              go_wp2
              go_loopw [20, 21] (RoRel wr L) (fun _ i _ => 8 - (intOf i).toNat)
              case atStart => exact ⟨0, 0, 0, none, by omega, rfl, rfl, rfl, Own.none_ _ _ _, Below.refl _ _⟩
              case round =>
                obtain ⟨k, n, c, A, hk, rfl, rfl, hn, hown, hbl⟩ := hrel
                by_cases hk8 : k < 8
                · have hch := (HJE.out.below hbl hlE).cell (k := k) (by rw [HL8.out]; exact hk8)
                  have hxb := co_lt' HOK.out k
                  have HO := Lib.hid (show outs L (k + 1) = outs L k ++ bs (co L k) from rfl)
                  obtain ⟨x, hx⟩ : ∃ x, x = co L k := ⟨_, rfl⟩
                  rw [← hx] at hch hxb HO
                  obtain ⟨y0, hy0⟩ : ∃ y, y = x / 16777216 := ⟨_, rfl⟩
                  obtain ⟨q1, hq1⟩ : ∃ y, y = x / 65536 := ⟨_, rfl⟩
                  obtain ⟨q2, hq2⟩ : ∃ y, y = x / 256 := ⟨_, rfl⟩
                  obtain ⟨y1, hy1⟩ : ∃ y, y = q1 % 256 := ⟨_, rfl⟩
                  obtain ⟨y2, hy2⟩ : ∃ y, y = q2 % 256 := ⟨_, rfl⟩
                  obtain ⟨y3, hy3⟩ : ∃ y, y = x % 256 := ⟨_, rfl⟩
                  have e0 : (x : Int) / 16777216 = (y0 : Int) := by omega
                  have e1 : (x : Int) / 65536 = (q1 : Int) := by omega
                  have e2 : (x : Int) / 256 = (q2 : Int) := by omega
                  have hy0b : y0 < 256 := by omega
                  have m0 : IntKind.u8.wrap (y0 : Int) = (y0 : Int) := wrapU8 (Nat.mod_eq_of_lt hy0b).symm
                  have m1 : IntKind.u8.wrap (q1 : Int) = (y1 : Int) := wrapU8 hy1
                  have m2 : IntKind.u8.wrap (q2 : Int) = (y2 : Int) := wrapU8 hy2
                  have m3 : IntKind.u8.wrap (x : Int) = (y3 : Int) := wrapU8 hy3
                  have hbs : bs x = [y0, y1, y2, y3] := by rw [bs, hy1, hq1, hy2, hq2, ← hy3, ← hy0, Nat.mod_eq_of_lt hy0b]
                  have hb4 : BB [y0, y1, y2, y3] := by rw [← hbs]; exact bs_bb x
                  rw [hbs] at HO
                  have lk : (k : Int) < 8 := by omega
                  have hnb : n ≤ 32 := by omega
                  have HNN := Lib.hid (hn.trans (outs_len L k).symm)
                  have HLE := Lib.hid (outs_len L k)
                  have HJR := Lib.hid (HJE.out.below hbl hlE)
                  have hlR : gh < wr.heap.size := Nat.lt_of_lt_of_le hlE hbl.size
                  have HOWN := Lib.hid hown
                  have HBL := Lib.hid hbl
                  have HX := Lib.hid hx
                  have HB4 := Lib.hid hb4
                  clear hx hy0 hy1 hy2 hy3 hq1 hq2 hbs hn hown hbl hb4 hch HJE hlE HSUM
                  go_wp2
                  refine Gt.regionB [Gt.Is (.slice A n c), Gt.Is (.slice (some ⟨gh, 0, none⟩) 8 8), Gt.Is (.int .i64 (k : Int)), Gt.Is (.pointer (some ⟨gh, k, none⟩)), Gt.Is (.int .i64 (x : Int)), Gt.Is (.int .i64 (y0 : Int)), Gt.Is (.int .u8 (y0 : Int)), Gt.Is (.slice (some ⟨gh, 0, none⟩) 8 8), Gt.Is (.int .i64 (k : Int)), Gt.Is (.pointer (some ⟨gh, k, none⟩)), Gt.Is (.int .i64 (x : Int)), Gt.Is (.int .i64 (q1 : Int)), Gt.Is (.int .u8 (y1 : Int)), Gt.Is (.slice (some ⟨gh, 0, none⟩) 8 8), Gt.Is (.int .i64 (k : Int)), Gt.Is (.pointer (some ⟨gh, k, none⟩)), Gt.Is (.int .i64 (x : Int)), Gt.Is (.int .i64 (q2 : Int)), Gt.Is (.int .u8 (y2 : Int)), Gt.Is (.slice (some ⟨gh, 0, none⟩) 8 8), Gt.Is (.int .i64 (k : Int)), Gt.Is (.pointer (some ⟨gh, k, none⟩)), Gt.Is (.int .i64 (x : Int)), Gt.Is (.int .u8 (y3 : Int)), RowIs [y0, y1, y2, y3]] 279 25
                    [⟨[], [20], none⟩, ⟨[], [5], none⟩, ⟨[], [21], none⟩, ⟨[(1, 253), (2, 254)], [], none⟩, ⟨[(3, 255)], [], none⟩, ⟨[(4, 256)], [], none⟩, ⟨[(5, 257)], [], none⟩, ⟨[], [5], none⟩, ⟨[], [21], none⟩, ⟨[(7, 259), (8, 260)], [], none⟩, ⟨[(9, 261)], [], none⟩, ⟨[(10, 262)], [], none⟩, ⟨[(11, 263)], [], none⟩, ⟨[], [5], none⟩, ⟨[], [21], none⟩, ⟨[(13, 265), (14, 266)], [], none⟩, ⟨[(15, 267)], [], none⟩, ⟨[(16, 268)], [], none⟩, ⟨[(17, 269)], [], none⟩, ⟨[], [5], none⟩, ⟨[], [21], none⟩, ⟨[(19, 271), (20, 272)], [], none⟩, ⟨[(21, 273)], [], none⟩, ⟨[(22, 274)], [], none⟩, ⟨[(6, 258), (12, 264), (18, 270), (23, 275)], [], none⟩, ⟨[(0, 252), (24, 276)], [], none⟩, ⟨[(25, 277)], [], none⟩]
                    [(0, 252), (1, 253), (2, 254), (3, 255), (4, 256), (5, 257), (6, 258), (7, 259), (8, 260), (9, 261), (10, 262), (11, 263), (12, 264), (13, 265), (14, 266), (15, 267), (16, 268), (17, 269), (18, 270), (19, 271), (20, 272), (21, 273), (22, 274), (23, 275), (24, 276)] (by kernel_rfl) (by kernel_rfl) (by kernel_rfl) (by kernel_rfl) (by kernel_rfl) ?_ ?_ ?_
                  · simp only [Gt.Monos]
                    repeat' apply And.intro
                    all_goals (first | exact trivial | exact Gt.Is.mono _ | exact RowIs.mono _)
                  · simp only [List.take_succ_cons, List.take_zero, Gt.Obs]
                    repeat' apply And.intro
                    all_goals try exact trivial
                    all_goals (
                      intro a w5 hg
                      have hg' : Below wr.heap.size wr w5 := hg
                      simp only [Gt.Pre, Gt.Kept, Gt.Guarded, Gt.tys, List.getD_cons_zero, List.getD_cons_succ, Gt.Is, Nat.zero_add, Nat.reduceAdd]
                      intros)
                    all_goals (first
                      | exact Gt.ok_move rfl (by assumption)
                      | (have hcc := (HJR.out.below hg' hlR).cell (k := k) (by rw [HL8.out]; exact hk8)
                         rw [← HX.out] at hcc
                         refine Gt.ok_run ?_ rfl
                         simp only [execOp, *]
                         go_simp
                         done)
                      | (refine Gt.ok_runW (v := .slice (some ⟨w5.heap.size, 0, none⟩) 4 4) (w' := w5.alloc (.cells #[.int .u8 (y0 : Int), .int .u8 (y1 : Int), .int .u8 (y2 : Int), .int .u8 (y3 : Int)] 5)) ?_ ((Below.refl _ _).alloc (Nat.le_refl _) _) ⟨_, rfl, ?_⟩
                         · simp only [execOp, List.map_toArray, List.map_cons, List.map_nil, *]
                           go_simp
                           done
                         · rw [World.size_alloc]
                           exact ⟨Sl.lit w5 5 _ HB4.out, by simp, fun h => by cases h⟩))
                  · intro a w5 hg
                    have hg' : Below wr.heap.size wr w5 := hg
                    simp only [Gt.Pre, Gt.tys, List.getD_cons_zero, List.getD_cons_succ, Gt.Is]
                    intro h0 h1 h2 h3 h4 h5 h6 h7 h8 h9 h10 h11 h12 h13 h14 h15 h16 h17 h18 h19 h20 h21 h22 h23 h24
                    obtain ⟨A5, e24, hI5⟩ := h24
                    simp only [Gt.puts, List.foldl_cons, List.foldl_nil, h0, h1, h2, h3, h4, h5, h6, h7, h8, h9, h10, h11, h12, h13, h14, h15, h16, h17, h18, h19, h20, h21, h22, h23, e24, List.drop_succ_cons, List.drop_zero]
                    simp only [Act.put, List.setIfInBounds_toArray, List.set_cons_zero, List.set_cons_succ]
                    have HO5 := Lib.hid (HOWN.out.kept hg')
                    have HB5 := Lib.hid (HBL.out.trans (hg'.mono HBL.out.size))
                    have HI5 := Lib.hid hI5
                    clear h0 h1 h2 h3 h4 h5 h6 h7 h8 h9 h10 h11 h12 h13 h14 h15 h16 h17 h18 h19 h20 h21 h22 h23 e24 hg hg' hI5
                    go_wp2_with (first | (at_builtin; refine wpList_app rfl (.tmp 252) (.tmp 276) 22 rfl _ 5 i0 _ Tryd.underlying22 hi0 hz0 hz1 hz2 rfl A n c (outs L k) rfl HNN.out HO5.out w5.heap.size A5 4 4 [y0, y1, y2, y3] rfl rfl HI5.out.none_ HI5.out.sl (by rw [HLE.out]; simp; omega) HB5.out.size ?_; intro A2 c2 w2 hown2 hgr2) | fail)
                    have hb2 := Lib.hid (below_app0 HB5.out HB5.out.size HO5.out hgr2)
                    rw [← HO.out] at hown2
                    have HO2 := Lib.hid hown2
                    clear hown2 hgr2
                    go_roundw
                    case rel => first | exact ⟨k + 1, _, c2, A2, by omega, by go_num, rfl, by rw [HLE.out]; omega, HO2.out, hb2.out⟩ | exact ⟨_, _, _, _, _, _, _, _, _, _, _, _, _, _, _, _, _, _, _, _, _, _, _, _, _, _, _, _, _, _, _, _, ⟨k + 1, _, c2, A2, by omega, by go_num, rfl, by rw [HLE.out]; omega, HO2.out, hb2.out⟩, rfl⟩
                    case measure => simp [intOf]; omega
                · obtain rfl : k = 8 := by omega
                  have HNN := Lib.hid hn
                  clear hn
                  go_wp2
                  go_ret
                  exact ⟨A, c, by rw [show 32 = n from HNN.out.symm]; rfl, by rw [HSUM.out]; exact hown.base hbE.size, hbE.trans (hbl.mono hbE.size)⟩
    · as_aux_lemma =>
        have hm56 : ((m : Int) == 56) = false := beq_eq_false_iff_ne.2 (fun h => hkz (HZK.1 (by omega)))
        have hm57 : ¬ (m : Int) = 56 := fun h => hkz (HZK.1 (by omega))
        have HM := Lib.hid hn
        have HLEN := Lib.hid (show n = (l ++ [128] ++ List.replicate k 0).length by simp; rw [← HN.out]; omega)
        have hnb : n ≤ 140737488355000 := by omega
        have HOA := Lib.hid (hown.alloc (.cells #[.int .u8 (0 : Int)] 5))
        have HOW := Lib.hid hown
        clear hm HZK hn hown
        go_wp2_with (first
          | (at_builtin; refine wpList_app rfl (.tmp 31) (.tmp 32) 22 rfl w.heap.size 5 i0 _ Tryd.underlying22 hi0 hz0 hz1 hz2 rfl A4 n c4 (l ++ [128] ++ List.replicate k 0) rfl HLEN.out HOA.out (wr.heap.size + 1) (some ⟨wr.heap.size, 0, none⟩) 1 1 [0] rfl rfl (fun h => by cases h) (Sl.one wr 5 0 (by omega)) (by rw [← HLEN.out]; simp; omega) (by rw [World.size_alloc]; exact Nat.le_succ_of_le hbel.size) ?_; intro A5 c5 w5 hown5 hgr5)
          | fail)
        have hb5 := below_app hbel hbel.size HOW.out hgr5
        have HO5 := Lib.hid hown5
        clear hown5 hgr5
        go_roundw
        case rel => exact ⟨k + 1, _, c5, A5, by omega, rfl, by have := HLEN.out; have := HM.out; have := HN.out; first | omega | (simp; omega), by rw [List.replicate_succ', ← List.append_assoc]; exact HO5.out, hb5⟩
        case measure => have := HM.out; have := HN.out; first | omega | (simp; omega)
end Go.Proofs.YtfemcofjhcanhaaDoor
