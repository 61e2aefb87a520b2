/- What the definition's Do does with a Save: the walk. -/
import Derived.Test.YtijbpafmokbnaaaSkc
namespace Go.Proofs.Ytijbpafmokbnaaa
open Go.RowKit Go.Shelf Gw Pol Go.BigFrame
theorem K2.low {w W w2 : World} {p g : Nat} (hb : Below w.heap.size w W) (hk : K2 W w2 p g) : K2 w w2 p g := ⟨hk.os.trans hb.os, hk.tape.trans hb.tape, hk.output.trans hb.output, Nat.le_trans hb.size hk.size, fun j hj h1 h2 => (hk.block j (Nat.lt_of_lt_of_le hj hb.size) h1 h2).trans (hb.block j hj)⟩
theorem Rs.turned {w w' : World} {q k B0 room : Nat} {s' : Pw} {K : List Nat} {Ak : Option Addr} {ck : Nat} {dirty : Bool} (lt : q < B0) (klt : k < w.heap.size) (few : room ≤ 512) (len : tk K.length ≤ room) (fit : s'.fit)
    (ho : Gw.Own w B0 5 Ak ck K) (hA : (Ak = none ∧ k = q) ∨ Ak = some ⟨k, 0, none⟩) (hk : K2 w w' q q) (hb : Rb w' q (room : Int) s'.Z s'.u s'.gone dirty (.slice Ak K.length ck)) : Rs w' q k B0 room s' K := by
  refine ⟨lt, Nat.lt_of_lt_of_le klt hk.size, few, len, fit, dirty, Ak, ck, hb, ?_, hA⟩
  exact ho.k2 hk (ho.nb lt) (ho.nb lt)
section
variable (y : Nat) (A : Option Addr) (m c : Nat) (w : World)
set_option maxRecDepth 100000 in
theorem fsave_bad (q k B0 room : Nat) (s : Pw) (K : List Nat) (N : Int) (h : Rs w q k B0 room s K) (ht : room < tk m) (hm : m ≤ 4611686018427387904) :
    Calls Try.prog 11 #[.pointer (some ⟨q, 0, none⟩), .agg #[.int .i64 1, .int .i64 N, .int .u8 (y : Int), .slice A m c]] w fun e w' => e = .returned (.int .i64 7) ∧ Below w.heap.size w w' := by
  obtain ⟨dirty, Ak, ck, hb, ho, hAk⟩ := h.box
  have hbl : Below w.heap.size w (w.alloc (.cells #[.int .i64 1, .int .i64 N, .int .u8 (y : Int), .slice A m c] 30)) := (Below.refl _ w).alloc (Nat.le_refl _) _
  have hb1 : Rb (w.alloc (.cells #[.int .i64 1, .int .i64 N, .int .u8 (y : Int), .slice A m c] 30)) q (room : Int) s.Z s.u s.gone dirty (.slice Ak K.length ck) := (hbl.block q hb.lt).trans hb
  have c0 : (w.alloc (.cells #[.int .i64 1, .int .i64 N, .int .u8 (y : Int), .slice A m c] 30)).cell? ⟨q, 0, none⟩ = some (.int .i64 (room : Int)) := hb1.cell 0
  obtain ⟨t, htt⟩ : ∃ t, t = tk m := ⟨_, rfl⟩
  have hgt : (room : Int) < (t : Int) := by omega
  have HT := Lib.hid (show ∀ w, Calls Try.prog 24 #[.slice A m c] w fun e w' => e = .returned (.int .i64 (t : Int)) ∧ w' = w from fun w => by rw [htt]; exact takes_any A m c w hm)
  have HB := Lib.hid hbl
  clear h hb ho hAk hbl hb1 htt hm ht
  go_enter Try.func11, Try.ntmps11
  go_wp2
  go_quiet (first | (go_at_call 24; refine Calls.quiet_of_same (HT.out _)))
  go_wp2
  go_ret
  exact ⟨rfl, HB.out.os, HB.out.tape, HB.out.output, HB.out.size, HB.out.block⟩
set_option maxRecDepth 100000 in
set_option maxHeartbeats 1000000 in
theorem fsave_any (q k B0 room B : Nat) (s : Pw) (K b : List Nat) (N : Int) (h : Rs w q k B0 room s K) (hB0 : B0 ≤ w.heap.size) (hI : In w B A c b) (hm : m = b.length) (hA : ∀ o, b ≠ [] → A ≠ some ⟨q, o, none⟩) (ht : tk m ≤ room) (hu : s.u < 2305843009213693952) :
    Calls Try.prog 11 #[.pointer (some ⟨q, 0, none⟩), .agg #[.int .i64 1, .int .i64 N, .int .u8 (y : Int), .slice A m c]] w (FsP w q k B0 room s K b) := by
  obtain ⟨i0, hi0, hz0, hz1, hz2⟩ := info_parts pbyte_info
  obtain ⟨dirty, Ak, ck, hb, ho, hAk⟩ := h.box
  obtain ⟨t, htt⟩ : ∃ t, t = tk m := ⟨_, rfl⟩
  obtain ⟨n, hn⟩ : ∃ n, n = K.length := ⟨_, rfl⟩
  obtain ⟨o, hoo⟩ : ∃ o, o = tk n := ⟨_, rfl⟩
  have hm2 : m ≤ 16384 := by have := h.few; unfold tk at ht; omega
  have hn2 : n ≤ 16384 := by have := h.few; have := h.len; rw [hn]; unfold tk at this; omega
  have ht2 : t ≤ 512 := by have := h.few; omega
  have ho2 : o ≤ 512 := by have := h.few; have := h.len; rw [hoo, hn]; omega
  have htr : t ≤ room := by omega
  rw [← hn] at hb
  have HT := Lib.hid (show ∀ w, Calls Try.prog 24 #[.slice A m c] w fun e w' => e = .returned (.int .i64 (t : Int)) ∧ w' = w from fun w => by rw [htt]; exact takes_any A m c w (by omega))
  have HTK := Lib.hid (show ∀ w, Calls Try.prog 24 #[.slice Ak n ck] w fun e w' => e = .returned (.int .i64 (o : Int)) ∧ w' = w from fun w => by rw [hoo]; exact takes_any Ak n ck w (by omega))
  have hbl : Below w.heap.size w (w.alloc (.cells #[.int .i64 1, .int .i64 N, .int .u8 (y : Int), .slice A m c] 30)) := (Below.refl _ w).alloc (Nat.le_refl _) _
  have hb1 : Rb (w.alloc (.cells #[.int .i64 1, .int .i64 N, .int .u8 (y : Int), .slice A m c] 30)) q (room : Int) s.Z s.u s.gone dirty (.slice Ak n ck) := (hbl.block q hb.lt).trans hb
  have c0 : (w.alloc (.cells #[.int .i64 1, .int .i64 N, .int .u8 (y : Int), .slice A m c] 30)).cell? ⟨q, 0, none⟩ = some (.int .i64 (room : Int)) := hb1.cell 0
  have hle : ¬ (room : Int) < (t : Int) := by omega
  have hle2 : decide (room < t) = false := decide_eq_false (by omega)
  have HH := Lib.hid h
  have HO := Lib.hid ho
  have HAK := Lib.hid hAk
  have HBX := Lib.hid hb1
  have HBL := Lib.hid hbl
  have HI := Lib.hid hI
  have HA := Lib.hid hA
  have HM := Lib.hid hm
  have HN := Lib.hid hn
  have HTT := Lib.hid htt
  have HOO := Lib.hid hoo
  have HU := Lib.hid hu
  have HTR := Lib.hid htr
  have HB0 := Lib.hid hB0
  clear h hb ho hAk hbl hb1 htt hm ht hI hA hn hoo hu htr hB0
  go_enter Try.func11, Try.ntmps11
  go_wp2
  go_quiet (first | (go_at_call 24; refine Calls.quiet_of_same (HT.out _)))
  go_wp2
  obtain ⟨W, hW⟩ : ∃ W, W = (w.alloc (.cells #[.int .i64 1, .int .i64 N, .int .u8 (y : Int), .slice A m c] 30)).drewN nq := ⟨_, rfl⟩
  have hWB : Below w.heap.size w W := by rw [hW]; exact ⟨HBL.out.os, HBL.out.tape, HBL.out.output, HBL.out.size, HBL.out.block⟩
  have hWb : Rb W q (room : Int) s.Z s.u s.gone dirty (.slice Ak n ck) := by rw [hW]; exact HBX.out
  have hWs : W.heap.size = w.heap.size + 1 := by rw [hW]; show (w.alloc _).heap.size = _; simp
  have hWo : W.cell? ⟨w.heap.size, 3, none⟩ = some (.slice A m c) := by rw [hW]; exact World.cell?_alloc_new w _ _ 3
  have hqs : q < w.heap.size := by have := HH.out.lt; have := HB0.out; omega
  rw [← hW]
  have HWB := Lib.hid hWB
  have HWR := Lib.hid hWb
  have HWS := Lib.hid hWs
  have HWO := Lib.hid hWo
  have HQS := Lib.hid hqs
  clear hW hWB hWb hWs hWo hqs c0 HBX HBL
  go_loopw [5] (F1 W q (room : Int) s t (.slice Ak n ck)) (fun i _ => t - (intOf i).toNat)
  case atStart => exact ⟨0, s, _, rfl, by omega, rfl, rfl, HWR.out, K2.refl _ _ _⟩
  case round =>
    obtain ⟨i, si, dirty, rfl, hi, hok, hsi, hb, hk⟩ := hrel
    clear HWR
    have x3 : wr.cell? ⟨w.heap.size, 3, none⟩ = some (.slice A m c) := (cell_heap (hk.block _ (by have := HWS.out; omega) (by have := HQS.out; omega) (by have := HQS.out; omega))).trans HWO.out
    have c4 : wr.cell? ⟨q, 4, none⟩ = some (.bool dirty) := hb.cell 4
    have hsu : si.fit ∧ si.u < 4611686018427387904 := by rw [hsi]; exact ⟨Pw.go_fit _ _ HH.out.fit, by have := Pw.go_u i s; have := HU.out; omega⟩
    obtain ⟨s2, hs2⟩ : ∃ s2, s2 = si.one := ⟨_, rfl⟩
    obtain ⟨cn, hcn⟩ : ∃ cn, cn = si.can := ⟨_, rfl⟩
    have HW := Lib.hid (rwrite_l q (room : Int) si s2 hs2 cn hcn dirty (.slice Ak n ck) wr hb hsu.1 hsu.2)
    have HK := Lib.hid hk
    have HS := Lib.hid hsi
    have HS2 := Lib.hid hs2
    have HOK := Lib.hid hok
    have HCN := Lib.hid hcn
    have HF2 := Lib.hid (show s2.fit by rw [hs2]; exact Pw.one_fit hsu.1)
    have HBW := Lib.hid hb
    clear hk hsi hs2 hok hcn hsu hb
    by_cases hit : i < t
    · have hit' : (i : Int) < (t : Int) := by omega
      go_wp2_with fail
      refine (HT.out wr).mono ?_
      rintro e w' ⟨rfl, rfl⟩
      go_wp2_with fail
      refine HW.out.mono ?_
      rintro e w2 ⟨rfl, hb2, hk2⟩
      have HK2 := Lib.hid (HK.out.sm hk2)
      have HB2 := Lib.hid hb2
      have y3 : w2.cell? ⟨w.heap.size, 3, none⟩ = some (.slice A m c) := (cell_heap (HK2.out.block _ (by have := HWS.out; omega) (by have := HQS.out; omega) (by have := HQS.out; omega))).trans HWO.out
      have d4 : w2.cell? ⟨q, 4, none⟩ = some (.bool dirty) := hb2.cell 4
      have f4 : w2.frozen? ⟨q, 4, none⟩ = false := frozen_of hb2
      clear hb2 hk2 x3 c4 HW HBW
      cases cn with
      | false =>
        have hst := Pw.stops i (t - i) s HOK.out (by rw [← HS.out]; exact HCN.out.symm)
        rw [show i + 1 + (t - i) = t + 1 by omega, ← HS.out, ← HS2.out] at hst
        have HST := Lib.hid hst
        clear hst
        go_wp2
        go_ret
        have hfin : Rs w2 q k B0 room s2 K := by
          have hb2 := HB2.out
          rw [HN.out] at hb2
          exact Rs.turned HH.out.lt HH.out.klt HH.out.few HH.out.len HF2.out HO.out HAK.out (K2.low HWB.out HK2.out) hb2
        refine .inl ⟨?_, rfl, ?_, ?_⟩
        · rw [← HM.out, ← HTT.out]; exact HST.out.2
        · rw [← HM.out, ← HTT.out, HST.out.1]; exact hfin
        · exact K2.mk2 (K2.low HWB.out HK2.out)
      | true =>
        have HREL := Lib.hid (show ∀ (w5 : World) (d : Bool), w5 = w2.setCell ⟨q, 4, none⟩ (.bool d) → F1 W q (room : Int) s t (.slice Ak n ck) (.int .i64 ((i : Int) + 1)) w5 from fun w5 d h5 => by
          have e1 : Pw.ok (i + 1) s = true := by rw [Pw.ok_snoc, HOK.out, ← HS.out, ← HCN.out]; rfl
          refine ⟨i + 1, s2, d, by rfl, by omega, e1, by rw [Pw.go_snoc i s HOK.out, ← HS.out, HS2.out], ?_, ?_⟩
          · rw [h5]; exact heap_set_same HB2.out
          · rw [h5]; exact HK2.out.sm (K2.set _ q q 4 _))
        cases dirty with
        | true =>
          go_wp2
          go_roundw
          case rel => exact HREL.out _ true rfl
          case measure => simp [intOf]; omega
        | false =>
          have hIw : In w2 B A c b := In.k2 (HI.out) (K2.low HWB.out HK2.out) HA.out
          have HSO := Lib.hid (solid_any A m c B i b w2 HM.out hIw (by omega) (by omega))
          clear hIw
          go_wp2_with fail
          refine HSO.out.mono ?_
          rintro e w3 ⟨⟨d, rfl⟩, rfl⟩
          go_wp2
          go_roundw
          case rel => exact HREL.out _ d rfl
          case measure => simp [intOf]; omega
    · obtain rfl : i = t := by omega
      clear hit hi
      have hii : ¬ (i : Int) < (i : Int) := by omega
      go_wp2_with fail
      refine (HT.out wr).mono ?_
      rintro e w' ⟨rfl, rfl⟩
      go_wp2_with fail
      refine HW.out.mono ?_
      rintro e w2 ⟨rfl, hb2, hk2⟩
      have HK2 := Lib.hid (HK.out.sm hk2)
      have HB2 := Lib.hid hb2
      have y3 : w2.cell? ⟨w.heap.size, 3, none⟩ = some (.slice A m c) := (cell_heap (HK2.out.block _ (by have := HWS.out; omega) (by have := HQS.out; omega) (by have := HQS.out; omega))).trans HWO.out
      have d5 : w2.cell? ⟨q, 5, none⟩ = some (.slice Ak n ck) := hb2.cell 5
      clear hb2 hk2 x3 c4 HW HBW
      cases cn with
      | false =>
        have hst := Pw.stops i 0 s HOK.out (by rw [← HS.out]; exact HCN.out.symm)
        rw [Nat.add_zero, ← HS.out, ← HS2.out] at hst
        have HST := Lib.hid hst
        clear hst
        go_wp2
        go_ret
        have hfin : Rs w2 q k B0 room s2 K := by
          have hb2 := HB2.out
          rw [HN.out] at hb2
          exact Rs.turned HH.out.lt HH.out.klt HH.out.few HH.out.len HF2.out HO.out HAK.out (K2.low HWB.out HK2.out) hb2
        refine .inl ⟨?_, rfl, ?_, ?_⟩
        · rw [← HM.out, ← HTT.out]; exact HST.out.2
        · rw [← HM.out, ← HTT.out, HST.out.1]; exact hfin
        · exact K2.mk2 (K2.low HWB.out HK2.out)
      | true =>
        have e1 : Pw.ok (i + 1) s = true := by rw [Pw.ok_snoc, HOK.out, ← HS.out, ← HCN.out]; rfl
        have e2 : s2 = Pw.go (i + 1) s := by rw [Pw.go_snoc i s HOK.out, ← HS.out, HS2.out]
        have HE1 := Lib.hid e1
        have HE2 := Lib.hid e2
        have HK02 := Lib.hid (K2.low HWB.out HK2.out)
        have HU2 := Lib.hid (show s2.u < 2305843009213693952 + 1024 by rw [e2]; have := (Pw.go_u (i + 1) s).1; have := HU.out; omega)
        have HI2 := Lib.hid (In.k2 HI.out HK02.out HA.out)
        have HSL2 := Lib.hid (show Sl w2 w2.heap.size A b from fun i x hx => by obtain ⟨h1, b', off, h2, _, h4⟩ := HI2.out.sl i x hx; exact ⟨h1, b', off, h2, cell_lt h4, h4⟩)
        have HQ2 := Lib.hid (show q < w2.heap.size from HB2.out.lt)
        have y3b : (w2.alloc (.cells #[] 5)).cell? ⟨w.heap.size, 3, none⟩ = some (.slice A m c) := (World.cell?_alloc_lt w2 _ _ (by have := HK2.out.size; have := HWS.out; show w.heap.size < _; omega)).trans y3
        clear e1 e2
        go_wp2_with (first | (at_builtin; refine wpList_app rfl (.tmp 53) (.tmp 55) 28 rfl w2.heap.size 5 i0 _ Try.underlying28 hi0 hz0 hz1 hz2 rfl (some ⟨w2.heap.size, 0, none⟩) 0 0 [] rfl rfl (Own.lit0 w2 w2.heap.size 5 (Nat.le_refl _)) w2.heap.size A m c b rfl HM.out HI2.out.none_ (HSL2.out.alloc (Nat.le_refl _) _) (by rw [← HM.out]; simp; omega) (by simp) ?_; intro A2 c2 w3 hown2 hgr2; have hb23 := below_lit' (Below.refl w2.heap.size w2) (Nat.le_refl _) hgr2; have hb3 : Rb w3 q (room : Int) s2.Z s2.u s2.gone dirty (.slice Ak n ck) := (hb23.block q HQ2.out).trans HB2.out; have g4 := hb3.cell 4; have g5 := hb3.cell 5; have fr4 : w3.frozen? ⟨q, 4, none⟩ = false := frozen_of hb3; have fr5 : w3.frozen? ⟨q, 5, none⟩ = false := frozen_of hb3) | fail)
        obtain ⟨X, hX⟩ : ∃ X, X = (w3.setCell ⟨q, 5, none⟩ (.slice A2 b.length c2)).setCell ⟨q, 4, none⟩ (.bool false) := ⟨_, rfl⟩
        have hbX : Rb X q (room : Int) s2.Z s2.u s2.gone false (.slice A2 b.length c2) := by rw [hX]; exact heap_set_same (heap_set_same hb3)
        have hkX : K2 w2 X q q := by rw [hX]; exact ((K2.ofBelow hb23 (Nat.le_refl _)).sm (K2.set w3 q q 5 _)).sm (K2.set _ q q 4 _)
        have hoX : Gw.Own X w2.heap.size 5 A2 c2 b := by
          rw [List.nil_append] at hown2
          have h1 : K2 w3 X q q := by rw [hX]; exact (K2.set w3 q q 5 _).sm (K2.set _ q q 4 _)
          exact hown2.k2 h1 (hown2.nb HQ2.out) (hown2.nb HQ2.out)
        have hokX : Gw.Own X B0 5 Ak ck K := HO.out.k2 (HK02.out.sm hkX) (HO.out.nb HH.out.lt) (HO.out.nb HH.out.lt)
        have HX2 := Lib.hid hkX.size
        have HBX := Lib.hid hbX
        have HKX := Lib.hid (HK02.out.sm hkX)
        have HOX := Lib.hid hoX
        have HOKX := Lib.hid hokX
        have HQL := Lib.hid HH.out.lt
        rw [← hX]
        clear hX hbX hkX hoX hokX hown2 hgr2 hb23 hb3 g4 g5 fr4 fr5 y3 y3b d5 hii HSL2 HI2 HB2 HK2 HT HWO HWB HCN HK HS HS2 HOK
        go_loopw [7] (F2 X q (room : Int) s2 o (.slice A2 b.length c2)) (fun j _ => o - (intOf j).toNat)
        case atStart => exact ⟨0, false, rfl, by omega, HBX.out, K2.refl _ _ _⟩
        case round =>
          obtain ⟨j, dirty, rfl, hj, hb, hk⟩ := hrel
          have HB5 := Lib.hid hb
          have HK5 := Lib.hid hk
          have c4 : wr.cell? ⟨q, 4, none⟩ = some (.bool dirty) := hb.cell 4
          have f4 : wr.frozen? ⟨q, 4, none⟩ = false := frozen_of hb
          clear hb hk HBX
          by_cases hjo : j < o
          · have hjo' : (j : Int) < (o : Int) := by omega
            have HREL := Lib.hid (show ∀ (w5 : World) (d : Bool), w5 = wr.setCell ⟨q, 4, none⟩ (.bool d) → F2 X q (room : Int) s2 o (.slice A2 b.length c2) (.int .i64 ((j : Int) + 1)) w5 from fun w5 d h5 => ⟨j + 1, d, by rfl, by omega, by rw [h5]; exact heap_set_same HB5.out, by rw [h5]; exact HK5.out.sm (K2.set _ q q 4 _)⟩)
            go_wp2_with fail
            refine (HTK.out wr).mono ?_
            rintro e w' ⟨rfl, rfl⟩
            cases dirty with
            | true =>
              go_wp2
              go_roundw
              case rel => exact HREL.out _ true rfl
              case measure => simp [intOf]; omega
            | false =>
              have HSO := Lib.hid (solid_any Ak n ck _ j K w' HN.out ((HOKX.out.k2 HK5.out (HOKX.out.nb HQL.out) (HOKX.out.nb HQL.out)).inn) (by omega) (by omega))
              go_wp2_with fail
              refine HSO.out.mono ?_
              rintro e w5 ⟨⟨d, rfl⟩, rfl⟩
              go_wp2
              go_roundw
              case rel => exact HREL.out _ d rfl
              case measure => simp [intOf]; omega
          · obtain rfl : j = o := by omega
            have hjj : ¬ (j : Int) < (j : Int) := by omega
            clear hjo hj
            go_wp2_with fail
            refine (HTK.out wr).mono ?_
            rintro e w' ⟨rfl, rfl⟩
            go_wp2
            clear c4 f4 hjj
            go_loopw [8] (F1 w' q (room : Int) s2 j (.slice A2 b.length c2)) (fun i _ => j - (intOf i).toNat)
            case atStart => exact ⟨0, s2, _, rfl, by omega, rfl, rfl, HB5.out, K2.refl _ _ _⟩
            case round =>
              obtain ⟨l, sl, dirty, rfl, hl, hok, hsl, hb, hk⟩ := hrel
              have hsu : sl.fit ∧ sl.u < 4611686018427387904 := by rw [hsl]; exact ⟨Pw.go_fit _ _ HF2.out, by have := Pw.go_u l s2; have := HU2.out; omega⟩
              obtain ⟨s5, hs5⟩ : ∃ s5, s5 = sl.one := ⟨_, rfl⟩
              obtain ⟨cn, hcn⟩ : ∃ cn, cn = sl.can := ⟨_, rfl⟩
              have HW := Lib.hid (rwrite_l q (room : Int) sl s5 hs5 cn hcn dirty (.slice A2 b.length c2) wr hb hsu.1 hsu.2)
              have HF5 := Lib.hid (show s5.fit by rw [hs5]; exact Pw.one_fit hsu.1)
              have HFL := Lib.hid hsu.1
              have HK6 := Lib.hid ((HKX.out.sm HK5.out).sm hk)
              have HK7 := Lib.hid (HK5.out.sm hk)
              have HKL := Lib.hid hk
              have HB6 := Lib.hid hb
              have HSL := Lib.hid hsl
              have HS5 := Lib.hid hs5
              have HOK := Lib.hid hok
              have HCN := Lib.hid hcn
              have HEND := Lib.hid (show ∀ (w5 : World) (s' : Pw) (d : Bool), s'.fit → K2 X w5 q q → Rb w5 q (room : Int) s'.Z s'.u s'.gone d (.slice A2 b.length c2) → ∃ k', (k' = q ∨ w.heap.size ≤ k') ∧ Rs w5 q k' B0 room s' b ∧ K2 w w5 q k from fun w5 s' d hf hk hb => by
                have hown := HOX.out
                have hlen : tk b.length ≤ room := by rw [← HM.out, ← HTT.out]; exact HTR.out
                have hB0 : B0 ≤ w2.heap.size := Nat.le_trans HB0.out HK02.out.size
                have hk2 := K2.mk2 (g := k) (HKX.out.sm hk)
                rcases hown.1.2 with ⟨hv, _⟩ | ⟨g, cap, cur, hv, hbg, hg, _⟩
                · injection hv with hv
                  exact ⟨q, .inl rfl, Rs.turned HH.out.lt (Nat.lt_of_lt_of_le HQ2.out HX2.out) HH.out.few hlen hf (hown.base hB0) (.inl ⟨hv, rfl⟩) hk hb, hk2⟩
                · injection hv with hv
                  exact ⟨g, .inr (Nat.le_trans HK02.out.size hbg), Rs.turned HH.out.lt (Array.getElem?_eq_some_iff.1 hg).1 HH.out.few hlen hf (hown.base hB0) (.inr hv) hk hb, hk2⟩)
              clear hok hsl hs5 hcn hb hk hsu
              by_cases hlj : l < j
              · have hlj' : (l : Int) < (j : Int) := by omega
                go_wp2_with fail
                refine (HTK.out wr).mono ?_
                rintro e w' ⟨rfl, rfl⟩
                go_wp2_with fail
                refine HW.out.mono ?_
                rintro e w8 ⟨rfl, hb8, hk8⟩
                have HK8 := Lib.hid (HK7.out.sm hk8)
                have HKL8 := Lib.hid (HKL.out.sm hk8)
                have HB8 := Lib.hid hb8
                clear hb8 hk8
                cases cn with
                | false =>
                  have hst := Pw.stops l (j - l - 1) s2 HOK.out (by rw [← HSL.out]; exact HCN.out.symm)
                  rw [show l + 1 + (j - l - 1) = j by omega, ← HSL.out, ← HS5.out] at hst
                  have HST := Lib.hid hst
                  clear hst
                  go_wp2
                  go_ret
                  refine .inr ⟨?_, ?_, ?_⟩
                  · rw [← HM.out, ← HTT.out]; exact HE1.out
                  · rw [← HM.out, ← HTT.out, ← HE2.out, ← HN.out, ← HOO.out, HST.out.2]; rfl
                  · rw [← HM.out, ← HTT.out, ← HE2.out, ← HN.out, ← HOO.out, HST.out.1]
                    exact HEND.out w8 s5 dirty HF5.out HK8.out HB8.out
                | true =>
                  have e1 : Pw.ok (l + 1) s2 = true := by rw [Pw.ok_snoc, HOK.out, ← HSL.out, ← HCN.out]; rfl
                  have e2 : s5 = Pw.go (l + 1) s2 := by rw [Pw.go_snoc l s2 HOK.out, ← HSL.out, HS5.out]
                  have HE3 := Lib.hid e1
                  have HE4 := Lib.hid e2
                  clear e1 e2
                  go_wp2
                  go_roundw
                  case rel => exact ⟨l + 1, s5, dirty, by go_num, by omega, HE3.out, HE4.out, HB8.out, HKL8.out⟩
                  case measure => simp [intOf]; omega
              · obtain rfl : l = j := by omega
                have hll : ¬ (l : Int) < (l : Int) := by omega
                have f4 : wr.frozen? ⟨q, 4, none⟩ = false := frozen_of HB6.out
                have c4 : wr.cell? ⟨q, 4, none⟩ = some (.bool dirty) := HB6.out.cell 4
                clear hlj hl
                go_wp2_with fail
                refine (HTK.out wr).mono ?_
                rintro e w' ⟨rfl, rfl⟩
                go_wp2
                go_ret
                refine .inr ⟨?_, ?_, ?_⟩
                · rw [← HM.out, ← HTT.out]; exact HE1.out
                · rw [← HM.out, ← HTT.out, ← HE2.out, ← HN.out, ← HOO.out, HOK.out]; rfl
                · rw [← HM.out, ← HTT.out, ← HE2.out, ← HN.out, ← HOO.out, ← HSL.out]
                  exact HEND.out _ sl false HFL.out (HK7.out.sm (K2.set _ q q 4 _)) (heap_set_same HB6.out)
end
end Go.Proofs.Ytijbpafmokbnaaa
