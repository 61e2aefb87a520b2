/- For every input DiskPlays returns true, and every argument reads behind the call as it did before: no condition. -/
import Derived.Test.YtcbgpichkjcgnaaRows
import Derived.ProofKit
import Derived.OpenShut
import Derived.SizedLaws
import Derived.ChangeOld
import Derived.Carry
import Derived.Test.YtcbgpichkjcgnaaLawb
import Derived.Test.YtcbgpichkjcgnaaDkf
import Derived.Test.YtcbgpichkjcgnaaGty
import Derived.BigQuiet
import Derived.Test.YtcbgpichkjcgnaaLawd
namespace Go.Proofs.Ytcbgpichkjcgnaa.diskPlays
open Go.ChangeShapes Go.WideShapes Go.ChangeAt Go.RowKit Go.Shelf Gw Pol Go.BigFrame

theorem own : ownKnob Try.prog.godebug = none := by kernel_rfl
theorem laidOut : laidOutB Try.prog = true := by kernel_rfl
/-- The two fuses are one. -/
def ZR (fu : Bool) (lf : Nat) (Z : Int) : Prop := (fu = true ∧ Z = (lf : Int)) ∨ (fu = false ∧ Z = -1)
/-- Where the two disks stand, and that nothing else is touched. -/
structure Two (w : World) (p g q h n : Nat) (L : List Nat) (dn fu : Bool) (lf wr : Nat) (Z : Int) (wr' : World) : Prop where
  dk : Dk wr' p g n L dn fu lf wr
  df : Df wr' q h n L Z wr dn
  bel : Below w.heap.size w wr'
  z : ZR fu lf Z
  lim : lf < 9223372036854775808
/-- The four blocks are new, and no two are one. -/
structure Four (B p g q h : Nat) : Prop where
  bp : B ≤ p
  bg : B ≤ g
  bq : B ≤ q
  bh : B ≤ h
  pq : p ≠ q
  ph : p ≠ h
  gq : g ≠ q
  gh : g ≠ h
/-- What rounds have made. -/
def PRel (w : World) (R p g q h n : Nat) (v7 : Value) (wr : World) : Prop := ∃ (i : Nat) (L : List Nat) (dn fu : Bool) (lf u : Nat) (Z : Int), v7 = .int .i64 (i : Int) ∧ i ≤ R ∧ u ≤ i ∧ Two w p g q h n L dn fu lf u Z wr
/-- While what is there is held against one another. -/
def QRel (w : World) (p g q h n : Nat) (L : List Nat) (dn fu : Bool) (lf u : Nat) (Z : Int) (v14 : Value) (wr : World) : Prop := ∃ (i : Nat), v14 = .int .i64 (i : Int) ∧ i ≤ n ∧ Two w p g q h n L dn fu lf u Z wr
theorem no_blk {w : World} {B p : Nat} {A : Option Addr} {b : List Nat} (h : Sl w B A b) (hb : b.length = 32) (hp : B ≤ p) : ∀ o, A ≠ some ⟨p, o, none⟩ := by
  rintro o rfl
  obtain ⟨x, b', off, _, _, e, hb', _⟩ := h.at_ (k := 0) (by omega)
  injection e with e
  injection e with e1
  omega
theorem k2_same {w w' : World} {p g : Nat} (h : w' = w) : K2 w w' p g := by subst h; exact K2.refl _ _ _
theorem hs_at {n : Nat} {N : Int} (h : hs n N = true) : ∃ k : Nat, N = (k : Int) ∧ k < n := by
  unfold hs at h
  simp at h
  exact ⟨N.toNat, by omega, by omega⟩
/-- A call on the definition's disk, told whole. -/
def DoP (wo : World) (q h n : Nat) (L : List Nat) (Z : Int) (u : Nat) (gone : Bool) (r : Value) : Ending → World → Prop := fun e w' => e = .returned r ∧ Df w' q h n L Z u gone ∧ K2 wo w' q h
theorem doP_of {P : Program} {f : Nat} {args : Array Value} {wo : World} {q h n : Nat} {L : List Nat} {Z : Int} {u : Nat} {gone : Bool} {r : Value} (hd : Df wo q h n L Z u gone) (hc : Calls P f args wo fun e w' => e = .returned r ∧ Below wo.heap.size wo w') : Calls P f args wo (DoP wo q h n L Z u gone r) :=
  hc.mono fun _ _ hh => ⟨hh.1, Bxs.below hd hh.2 (Nat.le_refl _), K2.ofBelow hh.2 (Nat.le_refl _)⟩
theorem doP_to {P : Program} {f : Nat} {args : Array Value} {wo : World} {q h n : Nat} {L : List Nat} {Z : Int} {u : Nat} {gone : Bool} {r : Value} (hc : Calls P f args wo fun e w' => e = .returned r ∧ Df w' q h n L Z u gone ∧ K2 wo w' q h) : Calls P f args wo (DoP wo q h n L Z u gone r) := hc
/-- A call on the program's disk, told whole. -/
def DkP (wo : World) (p g n : Nat) (L : List Nat) (dn fu : Bool) (lf u : Nat) (r : Value) : Ending → World → Prop := fun e w' => e = .returned r ∧ Dk w' p g n L dn fu lf u ∧ K2 wo w' p g
theorem dkP_of {P : Program} {f : Nat} {args : Array Value} {wo : World} {p g n : Nat} {L : List Nat} {dn fu : Bool} {lf u : Nat} {r : Value} (hd : Dk wo p g n L dn fu lf u) (hc : Calls P f args wo fun e w' => e = .returned r ∧ w' = wo) : Calls P f args wo (DkP wo p g n L dn fu lf u r) :=
  hc.mono fun _ _ hh => ⟨hh.1, by rw [hh.2]; exact hd, k2_same hh.2⟩
theorem dkP_to {P : Program} {f : Nat} {args : Array Value} {wo : World} {p g n : Nat} {L : List Nat} {dn fu : Bool} {lf u : Nat} {r : Value} (hc : Calls P f args wo fun e w' => e = .returned r ∧ Dk w' p g n L dn fu lf u ∧ K2 wo w' p g) : Calls P f args wo (DkP wo p g n L dn fu lf u r) := hc
set_option maxRecDepth 100000 in
set_option maxHeartbeats 4000000 in
theorem walk (a0 : Int) (A1 : Option Addr) (c1 R : Nat) (K1 N1 T1 : Nat → Int) (Y1 : Nat → Nat) (Q1 : Nat → Option Addr) (C1 : Nat → Nat) (l1 : Nat → List Nat) (w : World) (_w0 : (Lit.int .i64 a0).wf = true) (w1 : O5In w w.heap.size A1 c1 R K1 N1 T1 Y1 Q1 C1 l1) :
    Calls Try.prog 3 #[.int .i64 a0, .slice A1 R c1] w fun e w' => e = .returned (.bool true) ∧ Below w.heap.size w w' := by
  clear _w0
  have HO := Lib.hid w1
  have hcapO := w1.cap
  clear w1
  go_enter Try.func3, Try.ntmps3
  go_wp2_with fail
  refine (dnew_any a0 w).mono ?_
  rintro e w1 ⟨p, g, rfl, hd1, hp, hg, hb1⟩
  have HP := Lib.hid hp
  have HG := Lib.hid hg
  have HD1 := Lib.hid hd1
  have HB1 := Lib.hid hb1
  clear hd1 hp hg hb1
  go_wp2_with fail
  refine (fnew_any a0 w1).mono ?_
  rintro e w2 ⟨q, h, rfl, hf2, hqq, hh, hb2⟩
  have hd2 := Bxs.below HD1.out hb2 (Nat.le_refl _)
  obtain ⟨n, hn⟩ : ∃ n, n = nb a0 := ⟨_, rfl⟩
  obtain ⟨L0, hL0⟩ : ∃ L0, L0 = List.replicate (32 * nb a0) 0 := ⟨_, rfl⟩
  rw [← hL0] at hd2 hf2
  have hn2 : n ≤ 2048 := by rw [hn]; exact Nat.min_le_right _ _
  have hd2' : Dk w2 p g n L0 false false 0 0 := by rw [hn, hL0]; rw [← hL0]; exact hd2
  have hf2' : Df w2 q h n L0 (-1) 0 false := by rw [hn]; exact hf2
  have h4 : Four w.heap.size p g q h := ⟨HP.out, HG.out, by have := HB1.out.size; omega, by have := HB1.out.size; omega, by have := HD1.out.plt; omega, by have := HD1.out.plt; omega, by have := HD1.out.glt; omega, by have := HD1.out.glt; omega⟩
  have H4 := Lib.hid h4
  have hT : Two w p g q h n L0 false false 0 0 (-1) w2 := ⟨hd2', hf2', HB1.out.trans (hb2.mono HB1.out.size), .inr ⟨rfl, rfl⟩, by omega⟩
  have HT0 := Lib.hid hT
  have HD2 := Lib.hid hd2'
  obtain ⟨M, hM⟩ : ∃ M, M = 32 * n := ⟨_, rfl⟩
  have c0 : w2.cell? ⟨q, 0, none⟩ = some (.slice (some ⟨h, 0, none⟩) M M) := by rw [hM]; exact hf2'.cell 0
  have hq : ((M : Int) / 32) = (n : Int) := by omega
  obtain ⟨hwa0, hwb0⟩ := i64w (n : Int) (n : Int) rfl (by omega) (by omega)
  have hne : ((n : Int) != (n : Int)) = false := by simp
  have HN2 := Lib.hid hn2
  clear hd2 hf2 hqq hh hb2 hL0 hd2' hf2' h4 hT hM HD1 HB1 HP HG hn hn2
  by_cases hR : 300 < R
  · have hgt : (300 : Int) < (R : Int) := by omega
    go_wp2
    go_quiet (first | (go_at_call 9; refine Calls.quiet_of_same (dlen_any p g n L0 false false 0 0 _ (Bxs.keep HD2.out rfl rfl))))
    go_wp2_with fail
    refine (answers_any _).mono ?_
    rintro e w4 ⟨rfl, hb4⟩
    have HB4 := Lib.hid (HT0.out.bel.trans ((show Below w2.heap.size w2 w4 from ⟨hb4.os, hb4.tape, hb4.output, hb4.size, hb4.block⟩).mono HT0.out.bel.size))
    clear hb4
    go_wp2
    go_ret
    exact ⟨rfl, HB4.out⟩
  · have hgt : ¬ (300 : Int) < (R : Int) := by omega
    have hgt2 : decide ((300 : Int) < (R : Int)) = false := decide_eq_false hgt
    go_wp2
    go_quiet (first | (go_at_call 9; refine Calls.quiet_of_same (dlen_any p g n L0 false false 0 0 _ (Bxs.keep HD2.out rfl rfl))))
    go_wp2
    have HTn := Lib.hid (show Two w p g q h n L0 false false 0 0 (-1) (w2.drewN nq) from ⟨Bxs.keep HT0.out.dk rfl rfl, Bxs.keep HT0.out.df rfl rfl, ⟨HT0.out.bel.os, HT0.out.bel.tape, HT0.out.bel.output, HT0.out.bel.size, HT0.out.bel.block⟩, HT0.out.z, HT0.out.lim⟩)
    go_loopw [7] (PRel w R p g q h n) (fun i _ => R - (intOf i).toNat)
    case atStart => exact ⟨0, L0, _, _, _, _, _, rfl, by omega, by omega, HTn.out⟩
    case round =>
      obtain ⟨i, L, dn, fu, lf, u, Z, rfl, hi, hu, hT⟩ := hrel
      have HT := Lib.hid hT
      clear hT HT0 HTn HD2 c0
      by_cases hiR : i < R
      · obtain ⟨bA, off, rfl, hbA, hcs, hIb, hw5⟩ := (HO.out.below HT.out.bel).at_ i hiR
        obtain ⟨K, hK⟩ : ∃ K, K = K1 i := ⟨_, rfl⟩
        obtain ⟨N, hN⟩ : ∃ N, N = N1 i := ⟨_, rfl⟩
        obtain ⟨T, hTT⟩ : ∃ T, T = T1 i := ⟨_, rfl⟩
        obtain ⟨y, hy⟩ : ∃ y, y = Y1 i := ⟨_, rfl⟩
        obtain ⟨A, hA⟩ : ∃ A, A = Q1 i := ⟨_, rfl⟩
        obtain ⟨c, hc⟩ : ∃ c, c = C1 i := ⟨_, rfl⟩
        obtain ⟨b, hb⟩ : ∃ b, b = l1 i := ⟨_, rfl⟩
        rw [← hK, ← hN, ← hTT, ← hy, ← hA, ← hc, ← hb] at hcs
        rw [← hA, ← hc, ← hb] at hIb
        rw [← hK, ← hN, ← hTT, ← hy] at hw5
        obtain ⟨hk0, hk1, hk2, hk3, hk4⟩ := hcs
        obtain ⟨m, hm⟩ : ∃ m, m = b.length := ⟨_, rfl⟩
        rw [← hm] at hk4
        have HIb := Lib.hid hIb
        have HM := Lib.hid hm
        have HY := Lib.hid hw5.2.2.2
        have HNW := Lib.hid hw5.2.1
        have hiR' : (i : Int) < (R : Int) := by omega
        clear hK hN hTT hy hA hc hb hIb hm hw5 HO
        by_cases k1 : K = 1
        · subst k1
          by_cases hno : hs n N = true
          · obtain ⟨k, rfl, hkn⟩ := hs_at hno
            clear hno
            by_cases h32 : m = 32
            · subst h32
              have HBL := Lib.hid (show b.length = 32 from HM.out.symm)
              rcases HT.out.z with ⟨rfl, hZ⟩ | ⟨rfl, hZ⟩
              · by_cases hl0 : lf = 0
                · subst hl0
                  obtain rfl : Z = 0 := hZ
                  have HZ2 := Lib.hid (show ZR true 0 0 from .inl ⟨rfl, rfl⟩)
                  have HL2 := Lib.hid (show (0 : Nat) < 9223372036854775808 by omega)
                  obtain ⟨wo, hwo⟩ : ∃ wo, wo = wr.alloc (.cells #[.int .i64 1, .int .i64 (k : Int), .int .i64 T, .int .u8 (y : Int), .slice A 32 c] 33) := ⟨_, rfl⟩
                  have hbo : Below wr.heap.size wr wo := by rw [hwo]; exact bel_alloc (Nat.le_refl _) _
                  have hso : wo.heap.size = wr.heap.size + 1 := by rw [hwo]; simp
                  have hop : ∀ j v, (#[.int .i64 1, .int .i64 (k : Int), .int .i64 T, .int .u8 (y : Int), .slice A 32 c] : Array Value)[j]? = some v → wo.cell? ⟨wr.heap.size, j, none⟩ = some v := fun j v hv => by rw [hwo]; exact (World.cell?_alloc_new wr _ _ j).trans hv
                  have hdk : Dk wo p g n L dn true 0 u := Bxs.below HT.out.dk hbo (Nat.le_refl _)
                  have hdf : Df wo q h n L 0 u dn := Bxs.below HT.out.df hbo (Nat.le_refl _)
                  have HWO := Lib.hid (HT.out.bel.trans (hbo.mono HT.out.bel.size))
                  have hsl : Sl wo w.heap.size A b := (HIb.out.sl).keep fun x hx => hbo.cell (by have := HT.out.bel.size; omega)
                  have HA := Lib.hid (show Calls Try.prog 11 #[.pointer (some ⟨q, 0, none⟩), .agg #[.int .i64 1, .int .i64 (k : Int), .int .i64 T, .int .u8 (y : Int), .slice A 32 c]] wo (DoP wo q h n L 0 u true (.tuple #[.int .i64 3, .string ⟨#[]⟩, .bool false])) from doP_to (fdo_goes y A c wo q h n L u dn k T hdf hkn))
                  have HOP := Lib.hid hop
                  have HSO := Lib.hid hso
                  have HDK := Lib.hid hdk
                  have HSL := Lib.hid hsl
                  have HTZ := Lib.hid HT.out.df.plt
                  have HTH := Lib.hid HT.out.df.glt
                  have HWQ := Lib.hid hwo
                  clear hbo hop hso hdk hdf hsl hwo
                  go_wp2_with fail
                  rw [← HWQ.out]
                  refine HA.out.mono ?_
                  rintro e w2 ⟨rfl, hf2, hk2⟩
                  have hd2 : Dk w2 p g n L dn true 0 u := Bxs.k2 HDK.out hk2 H4.out.pq H4.out.ph H4.out.gq H4.out.gh
                  have hob : w2.heap[wr.heap.size]? = wo.heap[wr.heap.size]? := hk2.block _ (by rw [HSO.out]; omega) (by have := HTZ.out; omega) (by have := HTH.out; omega)
                  have HB2 := Lib.hid (HWO.out.trans (hk2.below HWO.out.size H4.out.bq H4.out.bh))
                  have x0 := (cell_heap hob).trans (HOP.out 0 _ rfl)
                  have x1 := (cell_heap hob).trans (HOP.out 1 _ rfl)
                  have x2 := (cell_heap hob).trans (HOP.out 2 _ rfl)
                  have x3 := (cell_heap hob).trans (HOP.out 3 _ rfl)
                  have x4 := (cell_heap hob).trans (HOP.out 4 _ rfl)
                  have HF2 := Lib.hid hf2
                  have hsl2 : Sl w2 w.heap.size A b := Sl.keepq HSL.out hk2 H4.out.bq H4.out.bh
                  have HPC := Lib.hid (show Calls Try.prog 12 #[.pointer (some ⟨p, 0, none⟩), .int .i64 (k : Int), .slice A 32 c] w2 (DkP w2 p g n L true true 0 u (.int .i64 3)) from dkP_to (dwrite_goes p g n L dn u k A c w2 hd2 hkn))
                  clear hf2 hk2 hd2 hob hsl2 HA HWO HDK HSL HOP HWQ
                  go_wp2_with fail
                  refine HPC.out.mono ?_
                  rintro e w3 ⟨rfl, hd3, hk3⟩
                  have hf3 : Df w3 q h n L 0 u true := Bxs.k2 HF2.out hk3 (Ne.symm H4.out.pq) (Ne.symm H4.out.gq) (Ne.symm H4.out.ph) (Ne.symm H4.out.gh)
                  have HB3 := Lib.hid (HB2.out.trans (hk3.below HB2.out.size H4.out.bp H4.out.bg))
                  have g3 : w3.cell? ⟨q, 3, none⟩ = some (.bool true) := hf3.cell 3
                  have g2 : w3.cell? ⟨q, 2, none⟩ = some (.int .i64 (u : Int)) := hf3.cell 2
                  have HD3 := Lib.hid hd3
                  have HF3 := Lib.hid hf3
                  clear hd3 hf3 hk3 HF2 HB2
                  go_wp2
                  go_quiet (first | (go_at_call 17; refine Calls.quiet_of_same (ddown_any p g n L true true 0 u _ (Bxs.keep HD3.out rfl rfl))) | (go_at_call 18; refine Calls.quiet_of_same (dwrites_any p g n L true true 0 u _ (Bxs.keep HD3.out rfl rfl))))
                  go_wp2
                  go_roundw
                  case rel => exact ⟨i + 1, _, _, _, _, _, _, by go_num, by omega, by omega, Bxs.keep HD3.out rfl rfl, Bxs.keep HF3.out rfl rfl, ⟨HB3.out.os, HB3.out.tape, HB3.out.output, HB3.out.size, HB3.out.block⟩, HZ2.out, HL2.out⟩
                  case measure => simp [intOf]; omega
                · obtain ⟨z, rfl⟩ : ∃ z, lf = z + 1 := ⟨lf - 1, by omega⟩
                  have hzl : (z : Int) < 9223372036854775807 := by have := HT.out.lim; omega
                  have hZz : Z = (z : Int) + 1 := by rw [hZ]; omega
                  cases dn with
                  | true =>
                    have hZ0 : Z ≠ 0 := by omega
                    have HZ2 := Lib.hid HT.out.z
                    have HL2 := Lib.hid HT.out.lim
                    obtain ⟨wo, hwo⟩ : ∃ wo, wo = wr.alloc (.cells #[.int .i64 1, .int .i64 (k : Int), .int .i64 T, .int .u8 (y : Int), .slice A 32 c] 33) := ⟨_, rfl⟩
                    have hbo : Below wr.heap.size wr wo := by rw [hwo]; exact bel_alloc (Nat.le_refl _) _
                    have hso : wo.heap.size = wr.heap.size + 1 := by rw [hwo]; simp
                    have hop : ∀ j v, (#[.int .i64 1, .int .i64 (k : Int), .int .i64 T, .int .u8 (y : Int), .slice A 32 c] : Array Value)[j]? = some v → wo.cell? ⟨wr.heap.size, j, none⟩ = some v := fun j v hv => by rw [hwo]; exact (World.cell?_alloc_new wr _ _ j).trans hv
                    have hdk : Dk wo p g n L true true (z + 1) u := Bxs.below HT.out.dk hbo (Nat.le_refl _)
                    have hdf : Df wo q h n L Z u true := Bxs.below HT.out.df hbo (Nat.le_refl _)
                    have HWO := Lib.hid (HT.out.bel.trans (hbo.mono HT.out.bel.size))
                    have hsl : Sl wo w.heap.size A b := (HIb.out.sl).keep fun x hx => hbo.cell (by have := HT.out.bel.size; omega)
                    have HA := Lib.hid (show Calls Try.prog 11 #[.pointer (some ⟨q, 0, none⟩), .agg #[.int .i64 1, .int .i64 (k : Int), .int .i64 T, .int .u8 (y : Int), .slice A 32 c]] wo (DoP wo q h n L Z u true (.tuple #[.int .i64 3, .string ⟨#[]⟩, .bool false])) from doP_of hdf (fdo_down y A c wo q h n L Z u k T hdf hkn hZ0))
                    have HOP := Lib.hid hop
                    have HSO := Lib.hid hso
                    have HDK := Lib.hid hdk
                    have HSL := Lib.hid hsl
                    have HTZ := Lib.hid HT.out.df.plt
                    have HTH := Lib.hid HT.out.df.glt
                    have HWQ := Lib.hid hwo
                    clear hbo hop hso hdk hdf hsl hwo
                    go_wp2_with fail
                    rw [← HWQ.out]
                    refine HA.out.mono ?_
                    rintro e w2 ⟨rfl, hf2, hk2⟩
                    have hd2 : Dk w2 p g n L true true (z + 1) u := Bxs.k2 HDK.out hk2 H4.out.pq H4.out.ph H4.out.gq H4.out.gh
                    have hob : w2.heap[wr.heap.size]? = wo.heap[wr.heap.size]? := hk2.block _ (by rw [HSO.out]; omega) (by have := HTZ.out; omega) (by have := HTH.out; omega)
                    have HB2 := Lib.hid (HWO.out.trans (hk2.below HWO.out.size H4.out.bq H4.out.bh))
                    have x0 := (cell_heap hob).trans (HOP.out 0 _ rfl)
                    have x1 := (cell_heap hob).trans (HOP.out 1 _ rfl)
                    have x2 := (cell_heap hob).trans (HOP.out 2 _ rfl)
                    have x3 := (cell_heap hob).trans (HOP.out 3 _ rfl)
                    have x4 := (cell_heap hob).trans (HOP.out 4 _ rfl)
                    have HF2 := Lib.hid hf2
                    have hsl2 : Sl w2 w.heap.size A b := Sl.keepq HSL.out hk2 H4.out.bq H4.out.bh
                    have HPC := Lib.hid (show Calls Try.prog 12 #[.pointer (some ⟨p, 0, none⟩), .int .i64 (k : Int), .slice A 32 c] w2 (DkP w2 p g n L true true (z + 1) u (.int .i64 3)) from dkP_of hd2 (dwrite_down p g n L u k true (z + 1) A c w2 hd2 hkn (fun _ => Nat.succ_ne_zero z)))
                    clear hf2 hk2 hd2 hob hsl2 HA HWO HDK HSL HOP HWQ
                    go_wp2_with fail
                    refine HPC.out.mono ?_
                    rintro e w3 ⟨rfl, hd3, hk3⟩
                    have hf3 : Df w3 q h n L Z u true := Bxs.k2 HF2.out hk3 (Ne.symm H4.out.pq) (Ne.symm H4.out.gq) (Ne.symm H4.out.ph) (Ne.symm H4.out.gh)
                    have HB3 := Lib.hid (HB2.out.trans (hk3.below HB2.out.size H4.out.bp H4.out.bg))
                    have g3 : w3.cell? ⟨q, 3, none⟩ = some (.bool true) := hf3.cell 3
                    have g2 : w3.cell? ⟨q, 2, none⟩ = some (.int .i64 (u : Int)) := hf3.cell 2
                    have HD3 := Lib.hid hd3
                    have HF3 := Lib.hid hf3
                    clear hd3 hf3 hk3 HF2 HB2
                    go_wp2
                    go_quiet (first | (go_at_call 17; refine Calls.quiet_of_same (ddown_any p g n L true true (z + 1) u _ (Bxs.keep HD3.out rfl rfl))) | (go_at_call 18; refine Calls.quiet_of_same (dwrites_any p g n L true true (z + 1) u _ (Bxs.keep HD3.out rfl rfl))))
                    go_wp2
                    go_roundw
                    case rel => exact ⟨i + 1, _, _, _, _, _, _, by go_num, by omega, by omega, Bxs.keep HD3.out rfl rfl, Bxs.keep HF3.out rfl rfl, ⟨HB3.out.os, HB3.out.tape, HB3.out.output, HB3.out.size, HB3.out.block⟩, HZ2.out, HL2.out⟩
                    case measure => simp [intOf]; omega
                  | false =>
                    have HZ2 := Lib.hid (show ZR true z (z : Int) from .inl ⟨rfl, rfl⟩)
                    have HL2 := Lib.hid (show z < 9223372036854775808 by have := HT.out.lim; omega)
                    obtain ⟨wo, hwo⟩ : ∃ wo, wo = wr.alloc (.cells #[.int .i64 1, .int .i64 (k : Int), .int .i64 T, .int .u8 (y : Int), .slice A 32 c] 33) := ⟨_, rfl⟩
                    have hbo : Below wr.heap.size wr wo := by rw [hwo]; exact bel_alloc (Nat.le_refl _) _
                    have hso : wo.heap.size = wr.heap.size + 1 := by rw [hwo]; simp
                    have hop : ∀ j v, (#[.int .i64 1, .int .i64 (k : Int), .int .i64 T, .int .u8 (y : Int), .slice A 32 c] : Array Value)[j]? = some v → wo.cell? ⟨wr.heap.size, j, none⟩ = some v := fun j v hv => by rw [hwo]; exact (World.cell?_alloc_new wr _ _ j).trans hv
                    have hdk : Dk wo p g n L false true (z + 1) u := Bxs.below HT.out.dk hbo (Nat.le_refl _)
                    have hdf : Df wo q h n L Z u false := Bxs.below HT.out.df hbo (Nat.le_refl _)
                    have HWO := Lib.hid (HT.out.bel.trans (hbo.mono HT.out.bel.size))
                    have hsl : Sl wo w.heap.size A b := (HIb.out.sl).keep fun x hx => hbo.cell (by have := HT.out.bel.size; omega)
                    have HA := Lib.hid (show Calls Try.prog 11 #[.pointer (some ⟨q, 0, none⟩), .agg #[.int .i64 1, .int .i64 (k : Int), .int .i64 T, .int .u8 (y : Int), .slice A 32 c]] wo (DoP wo q h n (laid L (k * 32) b) (z : Int) (u + 1) false (.tuple #[.int .i64 0, .string ⟨#[]⟩, .bool false])) from doP_to (fdo_lets y A c wo q h n L u k T w.heap.size b z Z hdf hkn hsl H4.out.bq H4.out.bh HBL.out (by omega) hZz hzl))
                    have HOP := Lib.hid hop
                    have HSO := Lib.hid hso
                    have HDK := Lib.hid hdk
                    have HSL := Lib.hid hsl
                    have HTZ := Lib.hid HT.out.df.plt
                    have HTH := Lib.hid HT.out.df.glt
                    have HWQ := Lib.hid hwo
                    clear hbo hop hso hdk hdf hsl hwo
                    go_wp2_with fail
                    rw [← HWQ.out]
                    refine HA.out.mono ?_
                    rintro e w2 ⟨rfl, hf2, hk2⟩
                    have hd2 : Dk w2 p g n L false true (z + 1) u := Bxs.k2 HDK.out hk2 H4.out.pq H4.out.ph H4.out.gq H4.out.gh
                    have hob : w2.heap[wr.heap.size]? = wo.heap[wr.heap.size]? := hk2.block _ (by rw [HSO.out]; omega) (by have := HTZ.out; omega) (by have := HTH.out; omega)
                    have HB2 := Lib.hid (HWO.out.trans (hk2.below HWO.out.size H4.out.bq H4.out.bh))
                    have x0 := (cell_heap hob).trans (HOP.out 0 _ rfl)
                    have x1 := (cell_heap hob).trans (HOP.out 1 _ rfl)
                    have x2 := (cell_heap hob).trans (HOP.out 2 _ rfl)
                    have x3 := (cell_heap hob).trans (HOP.out 3 _ rfl)
                    have x4 := (cell_heap hob).trans (HOP.out 4 _ rfl)
                    have HF2 := Lib.hid hf2
                    have hsl2 : Sl w2 w.heap.size A b := Sl.keepq HSL.out hk2 H4.out.bq H4.out.bh
                    have HPC := Lib.hid (show Calls Try.prog 12 #[.pointer (some ⟨p, 0, none⟩), .int .i64 (k : Int), .slice A 32 c] w2 (DkP w2 p g n (laid L (k * 32) b) false true z (u + 1) (.int .i64 0)) from dkP_to (dwrite_fuse p g n L z u k A c w.heap.size b w2 hd2 hkn hsl2 (no_blk hsl2 HBL.out H4.out.bp) HBL.out (by omega) (by omega)))
                    clear hf2 hk2 hd2 hob hsl2 HA HWO HDK HSL HOP HWQ
                    go_wp2_with fail
                    refine HPC.out.mono ?_
                    rintro e w3 ⟨rfl, hd3, hk3⟩
                    have hf3 : Df w3 q h n (laid L (k * 32) b) (z : Int) (u + 1) false := Bxs.k2 HF2.out hk3 (Ne.symm H4.out.pq) (Ne.symm H4.out.gq) (Ne.symm H4.out.ph) (Ne.symm H4.out.gh)
                    have HB3 := Lib.hid (HB2.out.trans (hk3.below HB2.out.size H4.out.bp H4.out.bg))
                    have g3 : w3.cell? ⟨q, 3, none⟩ = some (.bool false) := hf3.cell 3
                    have g2 : w3.cell? ⟨q, 2, none⟩ = some (.int .i64 ((u + 1) : Int)) := hf3.cell 2
                    have HD3 := Lib.hid hd3
                    have HF3 := Lib.hid hf3
                    clear hd3 hf3 hk3 HF2 HB2
                    go_wp2
                    go_quiet (first | (go_at_call 17; refine Calls.quiet_of_same (ddown_any p g n (laid L (k * 32) b) false true z (u + 1) _ (Bxs.keep HD3.out rfl rfl))) | (go_at_call 18; refine Calls.quiet_of_same (dwrites_any p g n (laid L (k * 32) b) false true z (u + 1) _ (Bxs.keep HD3.out rfl rfl))))
                    go_wp2
                    go_roundw
                    case rel => exact ⟨i + 1, _, _, _, _, _, _, by go_num, by omega, by omega, Bxs.keep HD3.out rfl rfl, Bxs.keep HF3.out rfl rfl, ⟨HB3.out.os, HB3.out.tape, HB3.out.output, HB3.out.size, HB3.out.block⟩, HZ2.out, HL2.out⟩
                    case measure => simp [intOf]; omega
              · subst hZ
                cases dn with
                | true =>
                  have hZ0 : (-1 : Int) ≠ 0 := by omega
                  have HZ2 := Lib.hid HT.out.z
                  have HL2 := Lib.hid HT.out.lim
                  obtain ⟨wo, hwo⟩ : ∃ wo, wo = wr.alloc (.cells #[.int .i64 1, .int .i64 (k : Int), .int .i64 T, .int .u8 (y : Int), .slice A 32 c] 33) := ⟨_, rfl⟩
                  have hbo : Below wr.heap.size wr wo := by rw [hwo]; exact bel_alloc (Nat.le_refl _) _
                  have hso : wo.heap.size = wr.heap.size + 1 := by rw [hwo]; simp
                  have hop : ∀ j v, (#[.int .i64 1, .int .i64 (k : Int), .int .i64 T, .int .u8 (y : Int), .slice A 32 c] : Array Value)[j]? = some v → wo.cell? ⟨wr.heap.size, j, none⟩ = some v := fun j v hv => by rw [hwo]; exact (World.cell?_alloc_new wr _ _ j).trans hv
                  have hdk : Dk wo p g n L true false lf u := Bxs.below HT.out.dk hbo (Nat.le_refl _)
                  have hdf : Df wo q h n L (-1) u true := Bxs.below HT.out.df hbo (Nat.le_refl _)
                  have HWO := Lib.hid (HT.out.bel.trans (hbo.mono HT.out.bel.size))
                  have hsl : Sl wo w.heap.size A b := (HIb.out.sl).keep fun x hx => hbo.cell (by have := HT.out.bel.size; omega)
                  have HA := Lib.hid (show Calls Try.prog 11 #[.pointer (some ⟨q, 0, none⟩), .agg #[.int .i64 1, .int .i64 (k : Int), .int .i64 T, .int .u8 (y : Int), .slice A 32 c]] wo (DoP wo q h n L (-1) u true (.tuple #[.int .i64 3, .string ⟨#[]⟩, .bool false])) from doP_of hdf (fdo_down y A c wo q h n L (-1) u k T hdf hkn hZ0))
                  have HOP := Lib.hid hop
                  have HSO := Lib.hid hso
                  have HDK := Lib.hid hdk
                  have HSL := Lib.hid hsl
                  have HTZ := Lib.hid HT.out.df.plt
                  have HTH := Lib.hid HT.out.df.glt
                  have HWQ := Lib.hid hwo
                  clear hbo hop hso hdk hdf hsl hwo
                  go_wp2_with fail
                  rw [← HWQ.out]
                  refine HA.out.mono ?_
                  rintro e w2 ⟨rfl, hf2, hk2⟩
                  have hd2 : Dk w2 p g n L true false lf u := Bxs.k2 HDK.out hk2 H4.out.pq H4.out.ph H4.out.gq H4.out.gh
                  have hob : w2.heap[wr.heap.size]? = wo.heap[wr.heap.size]? := hk2.block _ (by rw [HSO.out]; omega) (by have := HTZ.out; omega) (by have := HTH.out; omega)
                  have HB2 := Lib.hid (HWO.out.trans (hk2.below HWO.out.size H4.out.bq H4.out.bh))
                  have x0 := (cell_heap hob).trans (HOP.out 0 _ rfl)
                  have x1 := (cell_heap hob).trans (HOP.out 1 _ rfl)
                  have x2 := (cell_heap hob).trans (HOP.out 2 _ rfl)
                  have x3 := (cell_heap hob).trans (HOP.out 3 _ rfl)
                  have x4 := (cell_heap hob).trans (HOP.out 4 _ rfl)
                  have HF2 := Lib.hid hf2
                  have hsl2 : Sl w2 w.heap.size A b := Sl.keepq HSL.out hk2 H4.out.bq H4.out.bh
                  have HPC := Lib.hid (show Calls Try.prog 12 #[.pointer (some ⟨p, 0, none⟩), .int .i64 (k : Int), .slice A 32 c] w2 (DkP w2 p g n L true false lf u (.int .i64 3)) from dkP_of hd2 (dwrite_down p g n L u k false lf A c w2 hd2 hkn (fun h => by cases h)))
                  clear hf2 hk2 hd2 hob hsl2 HA HWO HDK HSL HOP HWQ
                  go_wp2_with fail
                  refine HPC.out.mono ?_
                  rintro e w3 ⟨rfl, hd3, hk3⟩
                  have hf3 : Df w3 q h n L (-1) u true := Bxs.k2 HF2.out hk3 (Ne.symm H4.out.pq) (Ne.symm H4.out.gq) (Ne.symm H4.out.ph) (Ne.symm H4.out.gh)
                  have HB3 := Lib.hid (HB2.out.trans (hk3.below HB2.out.size H4.out.bp H4.out.bg))
                  have g3 : w3.cell? ⟨q, 3, none⟩ = some (.bool true) := hf3.cell 3
                  have g2 : w3.cell? ⟨q, 2, none⟩ = some (.int .i64 (u : Int)) := hf3.cell 2
                  have HD3 := Lib.hid hd3
                  have HF3 := Lib.hid hf3
                  clear hd3 hf3 hk3 HF2 HB2
                  go_wp2
                  go_quiet (first | (go_at_call 17; refine Calls.quiet_of_same (ddown_any p g n L true false lf u _ (Bxs.keep HD3.out rfl rfl))) | (go_at_call 18; refine Calls.quiet_of_same (dwrites_any p g n L true false lf u _ (Bxs.keep HD3.out rfl rfl))))
                  go_wp2
                  go_roundw
                  case rel => exact ⟨i + 1, _, _, _, _, _, _, by go_num, by omega, by omega, Bxs.keep HD3.out rfl rfl, Bxs.keep HF3.out rfl rfl, ⟨HB3.out.os, HB3.out.tape, HB3.out.output, HB3.out.size, HB3.out.block⟩, HZ2.out, HL2.out⟩
                  case measure => simp [intOf]; omega
                | false =>
                  have HZ2 := Lib.hid (show ZR false lf (-1) from .inr ⟨rfl, rfl⟩)
                  have HL2 := Lib.hid HT.out.lim
                  obtain ⟨wo, hwo⟩ : ∃ wo, wo = wr.alloc (.cells #[.int .i64 1, .int .i64 (k : Int), .int .i64 T, .int .u8 (y : Int), .slice A 32 c] 33) := ⟨_, rfl⟩
                  have hbo : Below wr.heap.size wr wo := by rw [hwo]; exact bel_alloc (Nat.le_refl _) _
                  have hso : wo.heap.size = wr.heap.size + 1 := by rw [hwo]; simp
                  have hop : ∀ j v, (#[.int .i64 1, .int .i64 (k : Int), .int .i64 T, .int .u8 (y : Int), .slice A 32 c] : Array Value)[j]? = some v → wo.cell? ⟨wr.heap.size, j, none⟩ = some v := fun j v hv => by rw [hwo]; exact (World.cell?_alloc_new wr _ _ j).trans hv
                  have hdk : Dk wo p g n L false false lf u := Bxs.below HT.out.dk hbo (Nat.le_refl _)
                  have hdf : Df wo q h n L (-1) u false := Bxs.below HT.out.df hbo (Nat.le_refl _)
                  have HWO := Lib.hid (HT.out.bel.trans (hbo.mono HT.out.bel.size))
                  have hsl : Sl wo w.heap.size A b := (HIb.out.sl).keep fun x hx => hbo.cell (by have := HT.out.bel.size; omega)
                  have HA := Lib.hid (show Calls Try.prog 11 #[.pointer (some ⟨q, 0, none⟩), .agg #[.int .i64 1, .int .i64 (k : Int), .int .i64 T, .int .u8 (y : Int), .slice A 32 c]] wo (DoP wo q h n (laid L (k * 32) b) (-1) (u + 1) false (.tuple #[.int .i64 0, .string ⟨#[]⟩, .bool false])) from doP_to (fdo_ok y A c wo q h n L u k T w.heap.size b hdf hkn hsl H4.out.bq H4.out.bh HBL.out (by omega)))
                  have HOP := Lib.hid hop
                  have HSO := Lib.hid hso
                  have HDK := Lib.hid hdk
                  have HSL := Lib.hid hsl
                  have HTZ := Lib.hid HT.out.df.plt
                  have HTH := Lib.hid HT.out.df.glt
                  have HWQ := Lib.hid hwo
                  clear hbo hop hso hdk hdf hsl hwo
                  go_wp2_with fail
                  rw [← HWQ.out]
                  refine HA.out.mono ?_
                  rintro e w2 ⟨rfl, hf2, hk2⟩
                  have hd2 : Dk w2 p g n L false false lf u := Bxs.k2 HDK.out hk2 H4.out.pq H4.out.ph H4.out.gq H4.out.gh
                  have hob : w2.heap[wr.heap.size]? = wo.heap[wr.heap.size]? := hk2.block _ (by rw [HSO.out]; omega) (by have := HTZ.out; omega) (by have := HTH.out; omega)
                  have HB2 := Lib.hid (HWO.out.trans (hk2.below HWO.out.size H4.out.bq H4.out.bh))
                  have x0 := (cell_heap hob).trans (HOP.out 0 _ rfl)
                  have x1 := (cell_heap hob).trans (HOP.out 1 _ rfl)
                  have x2 := (cell_heap hob).trans (HOP.out 2 _ rfl)
                  have x3 := (cell_heap hob).trans (HOP.out 3 _ rfl)
                  have x4 := (cell_heap hob).trans (HOP.out 4 _ rfl)
                  have HF2 := Lib.hid hf2
                  have hsl2 : Sl w2 w.heap.size A b := Sl.keepq HSL.out hk2 H4.out.bq H4.out.bh
                  have HPC := Lib.hid (show Calls Try.prog 12 #[.pointer (some ⟨p, 0, none⟩), .int .i64 (k : Int), .slice A 32 c] w2 (DkP w2 p g n (laid L (k * 32) b) false false lf (u + 1) (.int .i64 0)) from dkP_to (dwrite_ok p g n L lf u k A c w.heap.size b w2 hd2 hkn hsl2 HBL.out (by omega)))
                  clear hf2 hk2 hd2 hob hsl2 HA HWO HDK HSL HOP HWQ
                  go_wp2_with fail
                  refine HPC.out.mono ?_
                  rintro e w3 ⟨rfl, hd3, hk3⟩
                  have hf3 : Df w3 q h n (laid L (k * 32) b) (-1) (u + 1) false := Bxs.k2 HF2.out hk3 (Ne.symm H4.out.pq) (Ne.symm H4.out.gq) (Ne.symm H4.out.ph) (Ne.symm H4.out.gh)
                  have HB3 := Lib.hid (HB2.out.trans (hk3.below HB2.out.size H4.out.bp H4.out.bg))
                  have g3 : w3.cell? ⟨q, 3, none⟩ = some (.bool false) := hf3.cell 3
                  have g2 : w3.cell? ⟨q, 2, none⟩ = some (.int .i64 ((u + 1) : Int)) := hf3.cell 2
                  have HD3 := Lib.hid hd3
                  have HF3 := Lib.hid hf3
                  clear hd3 hf3 hk3 HF2 HB2
                  go_wp2
                  go_quiet (first | (go_at_call 17; refine Calls.quiet_of_same (ddown_any p g n (laid L (k * 32) b) false false lf (u + 1) _ (Bxs.keep HD3.out rfl rfl))) | (go_at_call 18; refine Calls.quiet_of_same (dwrites_any p g n (laid L (k * 32) b) false false lf (u + 1) _ (Bxs.keep HD3.out rfl rfl))))
                  go_wp2
                  go_roundw
                  case rel => exact ⟨i + 1, _, _, _, _, _, _, by go_num, by omega, by omega, Bxs.keep HD3.out rfl rfl, Bxs.keep HF3.out rfl rfl, ⟨HB3.out.os, HB3.out.tape, HB3.out.output, HB3.out.size, HB3.out.block⟩, HZ2.out, HL2.out⟩
                  case measure => simp [intOf]; omega
            · have HZ2 := Lib.hid HT.out.z
              have HL2 := Lib.hid HT.out.lim
              obtain ⟨wo, hwo⟩ : ∃ wo, wo = wr.alloc (.cells #[.int .i64 1, .int .i64 (k : Int), .int .i64 T, .int .u8 (y : Int), .slice A m c] 33) := ⟨_, rfl⟩
              have hbo : Below wr.heap.size wr wo := by rw [hwo]; exact bel_alloc (Nat.le_refl _) _
              have hso : wo.heap.size = wr.heap.size + 1 := by rw [hwo]; simp
              have hop : ∀ j v, (#[.int .i64 1, .int .i64 (k : Int), .int .i64 T, .int .u8 (y : Int), .slice A m c] : Array Value)[j]? = some v → wo.cell? ⟨wr.heap.size, j, none⟩ = some v := fun j v hv => by rw [hwo]; exact (World.cell?_alloc_new wr _ _ j).trans hv
              have hdk : Dk wo p g n L dn fu lf u := Bxs.below HT.out.dk hbo (Nat.le_refl _)
              have hdf : Df wo q h n L Z u dn := Bxs.below HT.out.df hbo (Nat.le_refl _)
              have HWO := Lib.hid (HT.out.bel.trans (hbo.mono HT.out.bel.size))
              have hsl : Sl wo w.heap.size A b := (HIb.out.sl).keep fun x hx => hbo.cell (by have := HT.out.bel.size; omega)
              have HA := Lib.hid (show Calls Try.prog 11 #[.pointer (some ⟨q, 0, none⟩), .agg #[.int .i64 1, .int .i64 (k : Int), .int .i64 T, .int .u8 (y : Int), .slice A m c]] wo (DoP wo q h n L Z u dn (.tuple #[.int .i64 1, .string ⟨#[]⟩, .bool false])) from doP_of hdf (fdo_arg32 y A m c wo q h n L Z u dn k T hdf hkn h32))
              have HOP := Lib.hid hop
              have HSO := Lib.hid hso
              have HDK := Lib.hid hdk
              have HSL := Lib.hid hsl
              have HTZ := Lib.hid HT.out.df.plt
              have HTH := Lib.hid HT.out.df.glt
              have HWQ := Lib.hid hwo
              clear hbo hop hso hdk hdf hsl hwo
              go_wp2_with fail
              rw [← HWQ.out]
              refine HA.out.mono ?_
              rintro e w2 ⟨rfl, hf2, hk2⟩
              have hd2 : Dk w2 p g n L dn fu lf u := Bxs.k2 HDK.out hk2 H4.out.pq H4.out.ph H4.out.gq H4.out.gh
              have hob : w2.heap[wr.heap.size]? = wo.heap[wr.heap.size]? := hk2.block _ (by rw [HSO.out]; omega) (by have := HTZ.out; omega) (by have := HTH.out; omega)
              have HB2 := Lib.hid (HWO.out.trans (hk2.below HWO.out.size H4.out.bq H4.out.bh))
              have x0 := (cell_heap hob).trans (HOP.out 0 _ rfl)
              have x1 := (cell_heap hob).trans (HOP.out 1 _ rfl)
              have x2 := (cell_heap hob).trans (HOP.out 2 _ rfl)
              have x3 := (cell_heap hob).trans (HOP.out 3 _ rfl)
              have x4 := (cell_heap hob).trans (HOP.out 4 _ rfl)
              have HF2 := Lib.hid hf2
              have hsl2 : Sl w2 w.heap.size A b := Sl.keepq HSL.out hk2 H4.out.bq H4.out.bh
              have HPC := Lib.hid (show Calls Try.prog 12 #[.pointer (some ⟨p, 0, none⟩), .int .i64 (k : Int), .slice A m c] w2 (DkP w2 p g n L dn fu lf u (.int .i64 1)) from dkP_of hd2 (dwrite_arg p g n L dn fu lf u (k : Int) A m c w2 hd2 (.inr h32)))
              clear hf2 hk2 hd2 hob hsl2 HA HWO HDK HSL HOP HWQ
              go_wp2_with fail
              refine HPC.out.mono ?_
              rintro e w3 ⟨rfl, hd3, hk3⟩
              have hf3 : Df w3 q h n L Z u dn := Bxs.k2 HF2.out hk3 (Ne.symm H4.out.pq) (Ne.symm H4.out.gq) (Ne.symm H4.out.ph) (Ne.symm H4.out.gh)
              have HB3 := Lib.hid (HB2.out.trans (hk3.below HB2.out.size H4.out.bp H4.out.bg))
              have g3 : w3.cell? ⟨q, 3, none⟩ = some (.bool dn) := hf3.cell 3
              have g2 : w3.cell? ⟨q, 2, none⟩ = some (.int .i64 (u : Int)) := hf3.cell 2
              have HD3 := Lib.hid hd3
              have HF3 := Lib.hid hf3
              clear hd3 hf3 hk3 HF2 HB2
              go_wp2
              go_quiet (first | (go_at_call 17; refine Calls.quiet_of_same (ddown_any p g n L dn fu lf u _ (Bxs.keep HD3.out rfl rfl))) | (go_at_call 18; refine Calls.quiet_of_same (dwrites_any p g n L dn fu lf u _ (Bxs.keep HD3.out rfl rfl))))
              go_wp2
              go_roundw
              case rel => exact ⟨i + 1, _, _, _, _, _, _, by go_num, by omega, by omega, Bxs.keep HD3.out rfl rfl, Bxs.keep HF3.out rfl rfl, ⟨HB3.out.os, HB3.out.tape, HB3.out.output, HB3.out.size, HB3.out.block⟩, HZ2.out, HL2.out⟩
              case measure => simp [intOf]; omega
          · have hno : hs n N = false := by simpa using hno
            have HZ2 := Lib.hid HT.out.z
            have HL2 := Lib.hid HT.out.lim
            obtain ⟨wo, hwo⟩ : ∃ wo, wo = wr.alloc (.cells #[.int .i64 1, .int .i64 N, .int .i64 T, .int .u8 (y : Int), .slice A m c] 33) := ⟨_, rfl⟩
            have hbo : Below wr.heap.size wr wo := by rw [hwo]; exact bel_alloc (Nat.le_refl _) _
            have hso : wo.heap.size = wr.heap.size + 1 := by rw [hwo]; simp
            have hop : ∀ j v, (#[.int .i64 1, .int .i64 N, .int .i64 T, .int .u8 (y : Int), .slice A m c] : Array Value)[j]? = some v → wo.cell? ⟨wr.heap.size, j, none⟩ = some v := fun j v hv => by rw [hwo]; exact (World.cell?_alloc_new wr _ _ j).trans hv
            have hdk : Dk wo p g n L dn fu lf u := Bxs.below HT.out.dk hbo (Nat.le_refl _)
            have hdf : Df wo q h n L Z u dn := Bxs.below HT.out.df hbo (Nat.le_refl _)
            have HWO := Lib.hid (HT.out.bel.trans (hbo.mono HT.out.bel.size))
            have hsl : Sl wo w.heap.size A b := (HIb.out.sl).keep fun x hx => hbo.cell (by have := HT.out.bel.size; omega)
            have HA := Lib.hid (show Calls Try.prog 11 #[.pointer (some ⟨q, 0, none⟩), .agg #[.int .i64 1, .int .i64 N, .int .i64 T, .int .u8 (y : Int), .slice A m c]] wo (DoP wo q h n L Z u dn (.tuple #[.int .i64 1, .string ⟨#[]⟩, .bool false])) from doP_of hdf (fdo_arg y A m c wo q h n L Z u dn N T hdf hno))
            have HOP := Lib.hid hop
            have HSO := Lib.hid hso
            have HDK := Lib.hid hdk
            have HSL := Lib.hid hsl
            have HTZ := Lib.hid HT.out.df.plt
            have HTH := Lib.hid HT.out.df.glt
            have HWQ := Lib.hid hwo
            clear hbo hop hso hdk hdf hsl hwo
            go_wp2_with fail
            rw [← HWQ.out]
            refine HA.out.mono ?_
            rintro e w2 ⟨rfl, hf2, hk2⟩
            have hd2 : Dk w2 p g n L dn fu lf u := Bxs.k2 HDK.out hk2 H4.out.pq H4.out.ph H4.out.gq H4.out.gh
            have hob : w2.heap[wr.heap.size]? = wo.heap[wr.heap.size]? := hk2.block _ (by rw [HSO.out]; omega) (by have := HTZ.out; omega) (by have := HTH.out; omega)
            have HB2 := Lib.hid (HWO.out.trans (hk2.below HWO.out.size H4.out.bq H4.out.bh))
            have x0 := (cell_heap hob).trans (HOP.out 0 _ rfl)
            have x1 := (cell_heap hob).trans (HOP.out 1 _ rfl)
            have x2 := (cell_heap hob).trans (HOP.out 2 _ rfl)
            have x3 := (cell_heap hob).trans (HOP.out 3 _ rfl)
            have x4 := (cell_heap hob).trans (HOP.out 4 _ rfl)
            have HF2 := Lib.hid hf2
            have hsl2 : Sl w2 w.heap.size A b := Sl.keepq HSL.out hk2 H4.out.bq H4.out.bh
            have HPC := Lib.hid (show Calls Try.prog 12 #[.pointer (some ⟨p, 0, none⟩), .int .i64 N, .slice A m c] w2 (DkP w2 p g n L dn fu lf u (.int .i64 1)) from dkP_of hd2 (dwrite_arg p g n L dn fu lf u N A m c w2 hd2 (.inl hno)))
            clear hf2 hk2 hd2 hob hsl2 HA HWO HDK HSL HOP HWQ
            go_wp2_with fail
            refine HPC.out.mono ?_
            rintro e w3 ⟨rfl, hd3, hk3⟩
            have hf3 : Df w3 q h n L Z u dn := Bxs.k2 HF2.out hk3 (Ne.symm H4.out.pq) (Ne.symm H4.out.gq) (Ne.symm H4.out.ph) (Ne.symm H4.out.gh)
            have HB3 := Lib.hid (HB2.out.trans (hk3.below HB2.out.size H4.out.bp H4.out.bg))
            have g3 : w3.cell? ⟨q, 3, none⟩ = some (.bool dn) := hf3.cell 3
            have g2 : w3.cell? ⟨q, 2, none⟩ = some (.int .i64 (u : Int)) := hf3.cell 2
            have HD3 := Lib.hid hd3
            have HF3 := Lib.hid hf3
            clear hd3 hf3 hk3 HF2 HB2
            go_wp2
            go_quiet (first | (go_at_call 17; refine Calls.quiet_of_same (ddown_any p g n L dn fu lf u _ (Bxs.keep HD3.out rfl rfl))) | (go_at_call 18; refine Calls.quiet_of_same (dwrites_any p g n L dn fu lf u _ (Bxs.keep HD3.out rfl rfl))))
            go_wp2
            go_roundw
            case rel => exact ⟨i + 1, _, _, _, _, _, _, by go_num, by omega, by omega, Bxs.keep HD3.out rfl rfl, Bxs.keep HF3.out rfl rfl, ⟨HB3.out.os, HB3.out.tape, HB3.out.output, HB3.out.size, HB3.out.block⟩, HZ2.out, HL2.out⟩
            case measure => simp [intOf]; omega
        · by_cases k2 : K = 2
          · subst k2
            by_cases hno : hs n N = true
            · obtain ⟨k, rfl, hkn⟩ := hs_at hno
              clear hno
              have HZ2 := Lib.hid HT.out.z
              have HL2 := Lib.hid HT.out.lim
              have HPL := Lib.hid (piece_len HT.out.df.len hkn)
              have HPB := Lib.hid (show BB (piece L k) from (HT.out.df.bb.drop _).take _)
              obtain ⟨wo, hwo⟩ : ∃ wo, wo = wr.alloc (.cells #[.int .i64 2, .int .i64 (k : Int), .int .i64 T, .int .u8 (y : Int), .slice A m c] 33) := ⟨_, rfl⟩
              have hbo : Below wr.heap.size wr wo := by rw [hwo]; exact bel_alloc (Nat.le_refl _) _
              have hso : wo.heap.size = wr.heap.size + 1 := by rw [hwo]; simp
              have hop : ∀ j v, (#[.int .i64 2, .int .i64 (k : Int), .int .i64 T, .int .u8 (y : Int), .slice A m c] : Array Value)[j]? = some v → wo.cell? ⟨wr.heap.size, j, none⟩ = some v := fun j v hv => by rw [hwo]; exact (World.cell?_alloc_new wr _ _ j).trans hv
              have hdk : Dk wo p g n L dn fu lf u := Bxs.below HT.out.dk hbo (Nat.le_refl _)
              have hdf : Df wo q h n L Z u dn := Bxs.below HT.out.df hbo (Nat.le_refl _)
              have HWO := Lib.hid (HT.out.bel.trans (hbo.mono HT.out.bel.size))
              have hsl : Sl wo w.heap.size A b := (HIb.out.sl).keep fun x hx => hbo.cell (by have := HT.out.bel.size; omega)
              have HA := Lib.hid (show Calls Try.prog 11 #[.pointer (some ⟨q, 0, none⟩), .agg #[.int .i64 2, .int .i64 (k : Int), .int .i64 T, .int .u8 (y : Int), .slice A m c]] wo (DoP wo q h n L Z u dn (.tuple #[.int .i64 0, .string (str (piece L k)), .bool true])) from doP_of hdf (fdo_read y A m c wo q h n L Z u dn k T hdf hkn))
              have HOP := Lib.hid hop
              have HSO := Lib.hid hso
              have HDK := Lib.hid hdk
              have HSL := Lib.hid hsl
              have HTZ := Lib.hid HT.out.df.plt
              have HTH := Lib.hid HT.out.df.glt
              have HWQ := Lib.hid hwo
              clear hbo hop hso hdk hdf hsl hwo
              go_wp2_with fail
              rw [← HWQ.out]
              refine HA.out.mono ?_
              rintro e w2 ⟨rfl, hf2, hk2⟩
              have hd2 : Dk w2 p g n L dn fu lf u := Bxs.k2 HDK.out hk2 H4.out.pq H4.out.ph H4.out.gq H4.out.gh
              have hob : w2.heap[wr.heap.size]? = wo.heap[wr.heap.size]? := hk2.block _ (by rw [HSO.out]; omega) (by have := HTZ.out; omega) (by have := HTH.out; omega)
              have HB2 := Lib.hid (HWO.out.trans (hk2.below HWO.out.size H4.out.bq H4.out.bh))
              have x0 := (cell_heap hob).trans (HOP.out 0 _ rfl)
              have x1 := (cell_heap hob).trans (HOP.out 1 _ rfl)
              have x2 := (cell_heap hob).trans (HOP.out 2 _ rfl)
              have x3 := (cell_heap hob).trans (HOP.out 3 _ rfl)
              have x4 := (cell_heap hob).trans (HOP.out 4 _ rfl)
              have HF2 := Lib.hid hf2
              have hsl2 : Sl w2 w.heap.size A b := Sl.keepq HSL.out hk2 H4.out.bq H4.out.bh
              have HPC := Lib.hid (dread_yes p g n L dn fu lf u k w2 hd2 hkn)
              have HD2 := Lib.hid hd2
              clear hf2 hk2 hd2 hob hsl2 HA HWO HDK HSL HOP HWQ
              go_wp2_with fail
              refine HPC.out.mono ?_
              rintro e w3 ⟨r, rfl, hbk, hr, hb3⟩
              have hd3 : Dk w3 p g n L dn fu lf u := Bxs.below HD2.out hb3 (Nat.le_refl _)
              have hk3 : K2 w2 w3 p g := K2.ofBelow hb3 (Nat.le_refl _)
              obtain ⟨S, hS⟩ : ∃ S, S = str (piece L k) := ⟨_, rfl⟩
              have hcv := conv_sl (P := Try.prog) (hbk.sl HPB.out 0 32) Try.underlying28 Try.underlying5 Try.underlying9 32
              rw [List.drop_zero, List.take_of_length_le (Nat.le_of_eq HPL.out), ← hS, HPL.out] at hcv
              rw [← hS]
              clear hbk hr hb3 hS
              have hf3 : Df w3 q h n L Z u dn := Bxs.k2 HF2.out hk3 (Ne.symm H4.out.pq) (Ne.symm H4.out.gq) (Ne.symm H4.out.ph) (Ne.symm H4.out.gh)
              have HB3 := Lib.hid (HB2.out.trans (hk3.below HB2.out.size H4.out.bp H4.out.bg))
              have g3 : w3.cell? ⟨q, 3, none⟩ = some (.bool dn) := hf3.cell 3
              have g2 : w3.cell? ⟨q, 2, none⟩ = some (.int .i64 (u : Int)) := hf3.cell 2
              have HD3 := Lib.hid hd3
              have HF3 := Lib.hid hf3
              clear hd3 hf3 hk3 HF2 HB2
              go_wp2
              go_quiet (first | (go_at_call 17; refine Calls.quiet_of_same (ddown_any p g n L dn fu lf u _ (Bxs.keep HD3.out rfl rfl))) | (go_at_call 18; refine Calls.quiet_of_same (dwrites_any p g n L dn fu lf u _ (Bxs.keep HD3.out rfl rfl))))
              go_wp2
              go_roundw
              case rel => exact ⟨i + 1, _, _, _, _, _, _, by go_num, by omega, by omega, Bxs.keep HD3.out rfl rfl, Bxs.keep HF3.out rfl rfl, ⟨HB3.out.os, HB3.out.tape, HB3.out.output, HB3.out.size, HB3.out.block⟩, HZ2.out, HL2.out⟩
              case measure => simp [intOf]; omega
            · have hno : hs n N = false := by simpa using hno
              have HZ2 := Lib.hid HT.out.z
              have HL2 := Lib.hid HT.out.lim
              have hcn : ∀ v, (convert 28 9 (.slice none 0 0)).run Try.prog v = .ok (.string ⟨#[]⟩) v := fun v => run_convert_bytes_nil v 28 5 Try.underlying28 Try.underlying5 0 0 9 Try.underlying9
              obtain ⟨wo, hwo⟩ : ∃ wo, wo = wr.alloc (.cells #[.int .i64 2, .int .i64 N, .int .i64 T, .int .u8 (y : Int), .slice A m c] 33) := ⟨_, rfl⟩
              have hbo : Below wr.heap.size wr wo := by rw [hwo]; exact bel_alloc (Nat.le_refl _) _
              have hso : wo.heap.size = wr.heap.size + 1 := by rw [hwo]; simp
              have hop : ∀ j v, (#[.int .i64 2, .int .i64 N, .int .i64 T, .int .u8 (y : Int), .slice A m c] : Array Value)[j]? = some v → wo.cell? ⟨wr.heap.size, j, none⟩ = some v := fun j v hv => by rw [hwo]; exact (World.cell?_alloc_new wr _ _ j).trans hv
              have hdk : Dk wo p g n L dn fu lf u := Bxs.below HT.out.dk hbo (Nat.le_refl _)
              have hdf : Df wo q h n L Z u dn := Bxs.below HT.out.df hbo (Nat.le_refl _)
              have HWO := Lib.hid (HT.out.bel.trans (hbo.mono HT.out.bel.size))
              have hsl : Sl wo w.heap.size A b := (HIb.out.sl).keep fun x hx => hbo.cell (by have := HT.out.bel.size; omega)
              have HA := Lib.hid (show Calls Try.prog 11 #[.pointer (some ⟨q, 0, none⟩), .agg #[.int .i64 2, .int .i64 N, .int .i64 T, .int .u8 (y : Int), .slice A m c]] wo (DoP wo q h n L Z u dn (.tuple #[.int .i64 0, .string ⟨#[]⟩, .bool false])) from doP_of hdf (fdo_rno y A m c wo q h n L Z u dn N T hdf hno))
              have HOP := Lib.hid hop
              have HSO := Lib.hid hso
              have HDK := Lib.hid hdk
              have HSL := Lib.hid hsl
              have HTZ := Lib.hid HT.out.df.plt
              have HTH := Lib.hid HT.out.df.glt
              have HWQ := Lib.hid hwo
              clear hbo hop hso hdk hdf hsl hwo
              go_wp2_with fail
              rw [← HWQ.out]
              refine HA.out.mono ?_
              rintro e w2 ⟨rfl, hf2, hk2⟩
              have hd2 : Dk w2 p g n L dn fu lf u := Bxs.k2 HDK.out hk2 H4.out.pq H4.out.ph H4.out.gq H4.out.gh
              have hob : w2.heap[wr.heap.size]? = wo.heap[wr.heap.size]? := hk2.block _ (by rw [HSO.out]; omega) (by have := HTZ.out; omega) (by have := HTH.out; omega)
              have HB2 := Lib.hid (HWO.out.trans (hk2.below HWO.out.size H4.out.bq H4.out.bh))
              have x0 := (cell_heap hob).trans (HOP.out 0 _ rfl)
              have x1 := (cell_heap hob).trans (HOP.out 1 _ rfl)
              have x2 := (cell_heap hob).trans (HOP.out 2 _ rfl)
              have x3 := (cell_heap hob).trans (HOP.out 3 _ rfl)
              have x4 := (cell_heap hob).trans (HOP.out 4 _ rfl)
              have HF2 := Lib.hid hf2
              have hsl2 : Sl w2 w.heap.size A b := Sl.keepq HSL.out hk2 H4.out.bq H4.out.bh
              have HPC := Lib.hid (show Calls Try.prog 13 #[.pointer (some ⟨p, 0, none⟩), .int .i64 N] w2 (DkP w2 p g n L dn fu lf u (.tuple #[.slice none 0 0, .bool false])) from dkP_of hd2 (dread_no p g n L dn fu lf u N w2 hd2 hno))
              clear hf2 hk2 hd2 hob hsl2 HA HWO HDK HSL HOP HWQ
              go_wp2_with fail
              refine HPC.out.mono ?_
              rintro e w3 ⟨rfl, hd3, hk3⟩
              have hf3 : Df w3 q h n L Z u dn := Bxs.k2 HF2.out hk3 (Ne.symm H4.out.pq) (Ne.symm H4.out.gq) (Ne.symm H4.out.ph) (Ne.symm H4.out.gh)
              have HB3 := Lib.hid (HB2.out.trans (hk3.below HB2.out.size H4.out.bp H4.out.bg))
              have g3 : w3.cell? ⟨q, 3, none⟩ = some (.bool dn) := hf3.cell 3
              have g2 : w3.cell? ⟨q, 2, none⟩ = some (.int .i64 (u : Int)) := hf3.cell 2
              have HD3 := Lib.hid hd3
              have HF3 := Lib.hid hf3
              clear hd3 hf3 hk3 HF2 HB2
              go_wp2
              go_quiet (first | (go_at_call 17; refine Calls.quiet_of_same (ddown_any p g n L dn fu lf u _ (Bxs.keep HD3.out rfl rfl))) | (go_at_call 18; refine Calls.quiet_of_same (dwrites_any p g n L dn fu lf u _ (Bxs.keep HD3.out rfl rfl))))
              go_wp2
              go_roundw
              case rel => exact ⟨i + 1, _, _, _, _, _, _, by go_num, by omega, by omega, Bxs.keep HD3.out rfl rfl, Bxs.keep HF3.out rfl rfl, ⟨HB3.out.os, HB3.out.tape, HB3.out.output, HB3.out.size, HB3.out.block⟩, HZ2.out, HL2.out⟩
              case measure => simp [intOf]; omega
          · by_cases k3 : K = 3
            · subst k3
              by_cases hno : hs n N = true
              · obtain ⟨k, rfl, hkn⟩ := hs_at hno
                clear hno
                by_cases hto : hs 32 T = true
                · obtain ⟨a, rfl, han⟩ := hs_at hto
                  clear hto
                  have HZ2 := Lib.hid HT.out.z
                  have HL2 := Lib.hid HT.out.lim
                  obtain ⟨wo, hwo⟩ : ∃ wo, wo = wr.alloc (.cells #[.int .i64 3, .int .i64 (k : Int), .int .i64 (a : Int), .int .u8 (y : Int), .slice A m c] 33) := ⟨_, rfl⟩
                  have hbo : Below wr.heap.size wr wo := by rw [hwo]; exact bel_alloc (Nat.le_refl _) _
                  have hso : wo.heap.size = wr.heap.size + 1 := by rw [hwo]; simp
                  have hop : ∀ j v, (#[.int .i64 3, .int .i64 (k : Int), .int .i64 (a : Int), .int .u8 (y : Int), .slice A m c] : Array Value)[j]? = some v → wo.cell? ⟨wr.heap.size, j, none⟩ = some v := fun j v hv => by rw [hwo]; exact (World.cell?_alloc_new wr _ _ j).trans hv
                  have hdk : Dk wo p g n L dn fu lf u := Bxs.below HT.out.dk hbo (Nat.le_refl _)
                  have hdf : Df wo q h n L Z u dn := Bxs.below HT.out.df hbo (Nat.le_refl _)
                  have HWO := Lib.hid (HT.out.bel.trans (hbo.mono HT.out.bel.size))
                  have hsl : Sl wo w.heap.size A b := (HIb.out.sl).keep fun x hx => hbo.cell (by have := HT.out.bel.size; omega)
                  have HA := Lib.hid (show Calls Try.prog 11 #[.pointer (some ⟨q, 0, none⟩), .agg #[.int .i64 3, .int .i64 (k : Int), .int .i64 (a : Int), .int .u8 (y : Int), .slice A m c]] wo (DoP wo q h n (L.set (k * 32 + a) (co L (k * 32 + a) ^^^ y)) Z u dn (.tuple #[.int .i64 0, .string ⟨#[]⟩, .bool true])) from doP_to (fdo_turn y A m c wo q h n L Z u dn k a hdf hkn han HY.out))
                  have HOP := Lib.hid hop
                  have HSO := Lib.hid hso
                  have HDK := Lib.hid hdk
                  have HSL := Lib.hid hsl
                  have HTZ := Lib.hid HT.out.df.plt
                  have HTH := Lib.hid HT.out.df.glt
                  have HWQ := Lib.hid hwo
                  clear hbo hop hso hdk hdf hsl hwo
                  go_wp2_with fail
                  rw [← HWQ.out]
                  refine HA.out.mono ?_
                  rintro e w2 ⟨rfl, hf2, hk2⟩
                  have hd2 : Dk w2 p g n L dn fu lf u := Bxs.k2 HDK.out hk2 H4.out.pq H4.out.ph H4.out.gq H4.out.gh
                  have hob : w2.heap[wr.heap.size]? = wo.heap[wr.heap.size]? := hk2.block _ (by rw [HSO.out]; omega) (by have := HTZ.out; omega) (by have := HTH.out; omega)
                  have HB2 := Lib.hid (HWO.out.trans (hk2.below HWO.out.size H4.out.bq H4.out.bh))
                  have x0 := (cell_heap hob).trans (HOP.out 0 _ rfl)
                  have x1 := (cell_heap hob).trans (HOP.out 1 _ rfl)
                  have x2 := (cell_heap hob).trans (HOP.out 2 _ rfl)
                  have x3 := (cell_heap hob).trans (HOP.out 3 _ rfl)
                  have x4 := (cell_heap hob).trans (HOP.out 4 _ rfl)
                  have HF2 := Lib.hid hf2
                  have hsl2 : Sl w2 w.heap.size A b := Sl.keepq HSL.out hk2 H4.out.bq H4.out.bh
                  have HPC := Lib.hid (show Calls Try.prog 14 #[.pointer (some ⟨p, 0, none⟩), .int .i64 (k : Int), .int .i64 (a : Int), .int .u8 (y : Int)] w2 (DkP w2 p g n (L.set (k * 32 + a) (co L (k * 32 + a) ^^^ y)) dn fu lf u (.bool true)) from dkP_to (dturn_yes p g n L dn fu lf u k a y w2 hd2 hkn han HY.out))
                  clear hf2 hk2 hd2 hob hsl2 HA HWO HDK HSL HOP HWQ
                  go_wp2_with fail
                  refine HPC.out.mono ?_
                  rintro e w3 ⟨rfl, hd3, hk3⟩
                  have hf3 : Df w3 q h n (L.set (k * 32 + a) (co L (k * 32 + a) ^^^ y)) Z u dn := Bxs.k2 HF2.out hk3 (Ne.symm H4.out.pq) (Ne.symm H4.out.gq) (Ne.symm H4.out.ph) (Ne.symm H4.out.gh)
                  have HB3 := Lib.hid (HB2.out.trans (hk3.below HB2.out.size H4.out.bp H4.out.bg))
                  have g3 : w3.cell? ⟨q, 3, none⟩ = some (.bool dn) := hf3.cell 3
                  have g2 : w3.cell? ⟨q, 2, none⟩ = some (.int .i64 (u : Int)) := hf3.cell 2
                  have HD3 := Lib.hid hd3
                  have HF3 := Lib.hid hf3
                  clear hd3 hf3 hk3 HF2 HB2
                  go_wp2
                  go_quiet (first | (go_at_call 17; refine Calls.quiet_of_same (ddown_any p g n (L.set (k * 32 + a) (co L (k * 32 + a) ^^^ y)) dn fu lf u _ (Bxs.keep HD3.out rfl rfl))) | (go_at_call 18; refine Calls.quiet_of_same (dwrites_any p g n (L.set (k * 32 + a) (co L (k * 32 + a) ^^^ y)) dn fu lf u _ (Bxs.keep HD3.out rfl rfl))))
                  go_wp2
                  go_roundw
                  case rel => exact ⟨i + 1, _, _, _, _, _, _, by go_num, by omega, by omega, Bxs.keep HD3.out rfl rfl, Bxs.keep HF3.out rfl rfl, ⟨HB3.out.os, HB3.out.tape, HB3.out.output, HB3.out.size, HB3.out.block⟩, HZ2.out, HL2.out⟩
                  case measure => simp [intOf]; omega
                · have hto : hs 32 T = false := by simpa using hto
                  have HZ2 := Lib.hid HT.out.z
                  have HL2 := Lib.hid HT.out.lim
                  obtain ⟨wo, hwo⟩ : ∃ wo, wo = wr.alloc (.cells #[.int .i64 3, .int .i64 (k : Int), .int .i64 T, .int .u8 (y : Int), .slice A m c] 33) := ⟨_, rfl⟩
                  have hbo : Below wr.heap.size wr wo := by rw [hwo]; exact bel_alloc (Nat.le_refl _) _
                  have hso : wo.heap.size = wr.heap.size + 1 := by rw [hwo]; simp
                  have hop : ∀ j v, (#[.int .i64 3, .int .i64 (k : Int), .int .i64 T, .int .u8 (y : Int), .slice A m c] : Array Value)[j]? = some v → wo.cell? ⟨wr.heap.size, j, none⟩ = some v := fun j v hv => by rw [hwo]; exact (World.cell?_alloc_new wr _ _ j).trans hv
                  have hdk : Dk wo p g n L dn fu lf u := Bxs.below HT.out.dk hbo (Nat.le_refl _)
                  have hdf : Df wo q h n L Z u dn := Bxs.below HT.out.df hbo (Nat.le_refl _)
                  have HWO := Lib.hid (HT.out.bel.trans (hbo.mono HT.out.bel.size))
                  have hsl : Sl wo w.heap.size A b := (HIb.out.sl).keep fun x hx => hbo.cell (by have := HT.out.bel.size; omega)
                  have HA := Lib.hid (show Calls Try.prog 11 #[.pointer (some ⟨q, 0, none⟩), .agg #[.int .i64 3, .int .i64 (k : Int), .int .i64 T, .int .u8 (y : Int), .slice A m c]] wo (DoP wo q h n L Z u dn (.tuple #[.int .i64 0, .string ⟨#[]⟩, .bool false])) from doP_of hdf (fdo_tfar y A m c wo q h n L Z u dn k T hdf hkn hto))
                  have HOP := Lib.hid hop
                  have HSO := Lib.hid hso
                  have HDK := Lib.hid hdk
                  have HSL := Lib.hid hsl
                  have HTZ := Lib.hid HT.out.df.plt
                  have HTH := Lib.hid HT.out.df.glt
                  have HWQ := Lib.hid hwo
                  clear hbo hop hso hdk hdf hsl hwo
                  go_wp2_with fail
                  rw [← HWQ.out]
                  refine HA.out.mono ?_
                  rintro e w2 ⟨rfl, hf2, hk2⟩
                  have hd2 : Dk w2 p g n L dn fu lf u := Bxs.k2 HDK.out hk2 H4.out.pq H4.out.ph H4.out.gq H4.out.gh
                  have hob : w2.heap[wr.heap.size]? = wo.heap[wr.heap.size]? := hk2.block _ (by rw [HSO.out]; omega) (by have := HTZ.out; omega) (by have := HTH.out; omega)
                  have HB2 := Lib.hid (HWO.out.trans (hk2.below HWO.out.size H4.out.bq H4.out.bh))
                  have x0 := (cell_heap hob).trans (HOP.out 0 _ rfl)
                  have x1 := (cell_heap hob).trans (HOP.out 1 _ rfl)
                  have x2 := (cell_heap hob).trans (HOP.out 2 _ rfl)
                  have x3 := (cell_heap hob).trans (HOP.out 3 _ rfl)
                  have x4 := (cell_heap hob).trans (HOP.out 4 _ rfl)
                  have HF2 := Lib.hid hf2
                  have hsl2 : Sl w2 w.heap.size A b := Sl.keepq HSL.out hk2 H4.out.bq H4.out.bh
                  have HPC := Lib.hid (show Calls Try.prog 14 #[.pointer (some ⟨p, 0, none⟩), .int .i64 (k : Int), .int .i64 T, .int .u8 (y : Int)] w2 (DkP w2 p g n L dn fu lf u (.bool false)) from dkP_of hd2 (dturn_no p g n L dn fu lf u (k : Int) T y w2 hd2 (by rw [hto, Bool.and_false])))
                  clear hf2 hk2 hd2 hob hsl2 HA HWO HDK HSL HOP HWQ
                  go_wp2_with fail
                  refine HPC.out.mono ?_
                  rintro e w3 ⟨rfl, hd3, hk3⟩
                  have hf3 : Df w3 q h n L Z u dn := Bxs.k2 HF2.out hk3 (Ne.symm H4.out.pq) (Ne.symm H4.out.gq) (Ne.symm H4.out.ph) (Ne.symm H4.out.gh)
                  have HB3 := Lib.hid (HB2.out.trans (hk3.below HB2.out.size H4.out.bp H4.out.bg))
                  have g3 : w3.cell? ⟨q, 3, none⟩ = some (.bool dn) := hf3.cell 3
                  have g2 : w3.cell? ⟨q, 2, none⟩ = some (.int .i64 (u : Int)) := hf3.cell 2
                  have HD3 := Lib.hid hd3
                  have HF3 := Lib.hid hf3
                  clear hd3 hf3 hk3 HF2 HB2
                  go_wp2
                  go_quiet (first | (go_at_call 17; refine Calls.quiet_of_same (ddown_any p g n L dn fu lf u _ (Bxs.keep HD3.out rfl rfl))) | (go_at_call 18; refine Calls.quiet_of_same (dwrites_any p g n L dn fu lf u _ (Bxs.keep HD3.out rfl rfl))))
                  go_wp2
                  go_roundw
                  case rel => exact ⟨i + 1, _, _, _, _, _, _, by go_num, by omega, by omega, Bxs.keep HD3.out rfl rfl, Bxs.keep HF3.out rfl rfl, ⟨HB3.out.os, HB3.out.tape, HB3.out.output, HB3.out.size, HB3.out.block⟩, HZ2.out, HL2.out⟩
                  case measure => simp [intOf]; omega
              · have hno : hs n N = false := by simpa using hno
                have HZ2 := Lib.hid HT.out.z
                have HL2 := Lib.hid HT.out.lim
                obtain ⟨wo, hwo⟩ : ∃ wo, wo = wr.alloc (.cells #[.int .i64 3, .int .i64 N, .int .i64 T, .int .u8 (y : Int), .slice A m c] 33) := ⟨_, rfl⟩
                have hbo : Below wr.heap.size wr wo := by rw [hwo]; exact bel_alloc (Nat.le_refl _) _
                have hso : wo.heap.size = wr.heap.size + 1 := by rw [hwo]; simp
                have hop : ∀ j v, (#[.int .i64 3, .int .i64 N, .int .i64 T, .int .u8 (y : Int), .slice A m c] : Array Value)[j]? = some v → wo.cell? ⟨wr.heap.size, j, none⟩ = some v := fun j v hv => by rw [hwo]; exact (World.cell?_alloc_new wr _ _ j).trans hv
                have hdk : Dk wo p g n L dn fu lf u := Bxs.below HT.out.dk hbo (Nat.le_refl _)
                have hdf : Df wo q h n L Z u dn := Bxs.below HT.out.df hbo (Nat.le_refl _)
                have HWO := Lib.hid (HT.out.bel.trans (hbo.mono HT.out.bel.size))
                have hsl : Sl wo w.heap.size A b := (HIb.out.sl).keep fun x hx => hbo.cell (by have := HT.out.bel.size; omega)
                have HA := Lib.hid (show Calls Try.prog 11 #[.pointer (some ⟨q, 0, none⟩), .agg #[.int .i64 3, .int .i64 N, .int .i64 T, .int .u8 (y : Int), .slice A m c]] wo (DoP wo q h n L Z u dn (.tuple #[.int .i64 0, .string ⟨#[]⟩, .bool false])) from doP_of hdf (fdo_tno y A m c wo q h n L Z u dn N T hdf hno))
                have HOP := Lib.hid hop
                have HSO := Lib.hid hso
                have HDK := Lib.hid hdk
                have HSL := Lib.hid hsl
                have HTZ := Lib.hid HT.out.df.plt
                have HTH := Lib.hid HT.out.df.glt
                have HWQ := Lib.hid hwo
                clear hbo hop hso hdk hdf hsl hwo
                go_wp2_with fail
                rw [← HWQ.out]
                refine HA.out.mono ?_
                rintro e w2 ⟨rfl, hf2, hk2⟩
                have hd2 : Dk w2 p g n L dn fu lf u := Bxs.k2 HDK.out hk2 H4.out.pq H4.out.ph H4.out.gq H4.out.gh
                have hob : w2.heap[wr.heap.size]? = wo.heap[wr.heap.size]? := hk2.block _ (by rw [HSO.out]; omega) (by have := HTZ.out; omega) (by have := HTH.out; omega)
                have HB2 := Lib.hid (HWO.out.trans (hk2.below HWO.out.size H4.out.bq H4.out.bh))
                have x0 := (cell_heap hob).trans (HOP.out 0 _ rfl)
                have x1 := (cell_heap hob).trans (HOP.out 1 _ rfl)
                have x2 := (cell_heap hob).trans (HOP.out 2 _ rfl)
                have x3 := (cell_heap hob).trans (HOP.out 3 _ rfl)
                have x4 := (cell_heap hob).trans (HOP.out 4 _ rfl)
                have HF2 := Lib.hid hf2
                have hsl2 : Sl w2 w.heap.size A b := Sl.keepq HSL.out hk2 H4.out.bq H4.out.bh
                have HPC := Lib.hid (show Calls Try.prog 14 #[.pointer (some ⟨p, 0, none⟩), .int .i64 N, .int .i64 T, .int .u8 (y : Int)] w2 (DkP w2 p g n L dn fu lf u (.bool false)) from dkP_of hd2 (dturn_no p g n L dn fu lf u N T y w2 hd2 (by rw [hno]; rfl)))
                clear hf2 hk2 hd2 hob hsl2 HA HWO HDK HSL HOP HWQ
                go_wp2_with fail
                refine HPC.out.mono ?_
                rintro e w3 ⟨rfl, hd3, hk3⟩
                have hf3 : Df w3 q h n L Z u dn := Bxs.k2 HF2.out hk3 (Ne.symm H4.out.pq) (Ne.symm H4.out.gq) (Ne.symm H4.out.ph) (Ne.symm H4.out.gh)
                have HB3 := Lib.hid (HB2.out.trans (hk3.below HB2.out.size H4.out.bp H4.out.bg))
                have g3 : w3.cell? ⟨q, 3, none⟩ = some (.bool dn) := hf3.cell 3
                have g2 : w3.cell? ⟨q, 2, none⟩ = some (.int .i64 (u : Int)) := hf3.cell 2
                have HD3 := Lib.hid hd3
                have HF3 := Lib.hid hf3
                clear hd3 hf3 hk3 HF2 HB2
                go_wp2
                go_quiet (first | (go_at_call 17; refine Calls.quiet_of_same (ddown_any p g n L dn fu lf u _ (Bxs.keep HD3.out rfl rfl))) | (go_at_call 18; refine Calls.quiet_of_same (dwrites_any p g n L dn fu lf u _ (Bxs.keep HD3.out rfl rfl))))
                go_wp2
                go_roundw
                case rel => exact ⟨i + 1, _, _, _, _, _, _, by go_num, by omega, by omega, Bxs.keep HD3.out rfl rfl, Bxs.keep HF3.out rfl rfl, ⟨HB3.out.os, HB3.out.tape, HB3.out.output, HB3.out.size, HB3.out.block⟩, HZ2.out, HL2.out⟩
                case measure => simp [intOf]; omega
            · by_cases k4 : K = 4
              · subst k4
                have HZ2 := Lib.hid (show ZR true N.toNat (N.toNat : Int) from .inl ⟨rfl, rfl⟩)
                have HL2 := Lib.hid (show N.toNat < 9223372036854775808 by have := bounds_i64 HNW.out; omega)
                obtain ⟨wo, hwo⟩ : ∃ wo, wo = wr.alloc (.cells #[.int .i64 4, .int .i64 N, .int .i64 T, .int .u8 (y : Int), .slice A m c] 33) := ⟨_, rfl⟩
                have hbo : Below wr.heap.size wr wo := by rw [hwo]; exact bel_alloc (Nat.le_refl _) _
                have hso : wo.heap.size = wr.heap.size + 1 := by rw [hwo]; simp
                have hop : ∀ j v, (#[.int .i64 4, .int .i64 N, .int .i64 T, .int .u8 (y : Int), .slice A m c] : Array Value)[j]? = some v → wo.cell? ⟨wr.heap.size, j, none⟩ = some v := fun j v hv => by rw [hwo]; exact (World.cell?_alloc_new wr _ _ j).trans hv
                have hdk : Dk wo p g n L dn fu lf u := Bxs.below HT.out.dk hbo (Nat.le_refl _)
                have hdf : Df wo q h n L Z u dn := Bxs.below HT.out.df hbo (Nat.le_refl _)
                have HWO := Lib.hid (HT.out.bel.trans (hbo.mono HT.out.bel.size))
                have hsl : Sl wo w.heap.size A b := (HIb.out.sl).keep fun x hx => hbo.cell (by have := HT.out.bel.size; omega)
                have HA := Lib.hid (show Calls Try.prog 11 #[.pointer (some ⟨q, 0, none⟩), .agg #[.int .i64 4, .int .i64 N, .int .i64 T, .int .u8 (y : Int), .slice A m c]] wo (DoP wo q h n L (N.toNat : Int) u dn (.tuple #[.int .i64 0, .string ⟨#[]⟩, .bool false])) from doP_to (fdo_fuse y A m c wo q h n L Z u dn N T hdf))
                have HOP := Lib.hid hop
                have HSO := Lib.hid hso
                have HDK := Lib.hid hdk
                have HSL := Lib.hid hsl
                have HTZ := Lib.hid HT.out.df.plt
                have HTH := Lib.hid HT.out.df.glt
                have HWQ := Lib.hid hwo
                clear hbo hop hso hdk hdf hsl hwo
                go_wp2_with fail
                rw [← HWQ.out]
                refine HA.out.mono ?_
                rintro e w2 ⟨rfl, hf2, hk2⟩
                have hd2 : Dk w2 p g n L dn fu lf u := Bxs.k2 HDK.out hk2 H4.out.pq H4.out.ph H4.out.gq H4.out.gh
                have hob : w2.heap[wr.heap.size]? = wo.heap[wr.heap.size]? := hk2.block _ (by rw [HSO.out]; omega) (by have := HTZ.out; omega) (by have := HTH.out; omega)
                have HB2 := Lib.hid (HWO.out.trans (hk2.below HWO.out.size H4.out.bq H4.out.bh))
                have x0 := (cell_heap hob).trans (HOP.out 0 _ rfl)
                have x1 := (cell_heap hob).trans (HOP.out 1 _ rfl)
                have x2 := (cell_heap hob).trans (HOP.out 2 _ rfl)
                have x3 := (cell_heap hob).trans (HOP.out 3 _ rfl)
                have x4 := (cell_heap hob).trans (HOP.out 4 _ rfl)
                have HF2 := Lib.hid hf2
                have hsl2 : Sl w2 w.heap.size A b := Sl.keepq HSL.out hk2 H4.out.bq H4.out.bh
                have HPC := Lib.hid (show Calls Try.prog 15 #[.pointer (some ⟨p, 0, none⟩), .int .i64 N] w2 (DkP w2 p g n L dn true N.toNat u (.tuple #[])) from dkP_to (dfuse_any p g n L dn fu lf u N w2 hd2))
                clear hf2 hk2 hd2 hob hsl2 HA HWO HDK HSL HOP HWQ
                go_wp2_with fail
                refine HPC.out.mono ?_
                rintro e w3 ⟨rfl, hd3, hk3⟩
                have hf3 : Df w3 q h n L (N.toNat : Int) u dn := Bxs.k2 HF2.out hk3 (Ne.symm H4.out.pq) (Ne.symm H4.out.gq) (Ne.symm H4.out.ph) (Ne.symm H4.out.gh)
                have HB3 := Lib.hid (HB2.out.trans (hk3.below HB2.out.size H4.out.bp H4.out.bg))
                have g3 : w3.cell? ⟨q, 3, none⟩ = some (.bool dn) := hf3.cell 3
                have g2 : w3.cell? ⟨q, 2, none⟩ = some (.int .i64 (u : Int)) := hf3.cell 2
                have HD3 := Lib.hid hd3
                have HF3 := Lib.hid hf3
                clear hd3 hf3 hk3 HF2 HB2
                go_wp2
                go_quiet (first | (go_at_call 17; refine Calls.quiet_of_same (ddown_any p g n L dn true N.toNat u _ (Bxs.keep HD3.out rfl rfl))) | (go_at_call 18; refine Calls.quiet_of_same (dwrites_any p g n L dn true N.toNat u _ (Bxs.keep HD3.out rfl rfl))))
                go_wp2
                go_roundw
                case rel => exact ⟨i + 1, _, _, _, _, _, _, by go_num, by omega, by omega, Bxs.keep HD3.out rfl rfl, Bxs.keep HF3.out rfl rfl, ⟨HB3.out.os, HB3.out.tape, HB3.out.output, HB3.out.size, HB3.out.block⟩, HZ2.out, HL2.out⟩
                case measure => simp [intOf]; omega
              · by_cases k5 : K = 5
                · subst k5
                  have HZ2 := Lib.hid (show ZR false 0 (-1) from .inr ⟨rfl, rfl⟩)
                  have HL2 := Lib.hid (show (0 : Nat) < 9223372036854775808 by omega)
                  obtain ⟨wo, hwo⟩ : ∃ wo, wo = wr.alloc (.cells #[.int .i64 5, .int .i64 N, .int .i64 T, .int .u8 (y : Int), .slice A m c] 33) := ⟨_, rfl⟩
                  have hbo : Below wr.heap.size wr wo := by rw [hwo]; exact bel_alloc (Nat.le_refl _) _
                  have hso : wo.heap.size = wr.heap.size + 1 := by rw [hwo]; simp
                  have hop : ∀ j v, (#[.int .i64 5, .int .i64 N, .int .i64 T, .int .u8 (y : Int), .slice A m c] : Array Value)[j]? = some v → wo.cell? ⟨wr.heap.size, j, none⟩ = some v := fun j v hv => by rw [hwo]; exact (World.cell?_alloc_new wr _ _ j).trans hv
                  have hdk : Dk wo p g n L dn fu lf u := Bxs.below HT.out.dk hbo (Nat.le_refl _)
                  have hdf : Df wo q h n L Z u dn := Bxs.below HT.out.df hbo (Nat.le_refl _)
                  have HWO := Lib.hid (HT.out.bel.trans (hbo.mono HT.out.bel.size))
                  have hsl : Sl wo w.heap.size A b := (HIb.out.sl).keep fun x hx => hbo.cell (by have := HT.out.bel.size; omega)
                  have HA := Lib.hid (show Calls Try.prog 11 #[.pointer (some ⟨q, 0, none⟩), .agg #[.int .i64 5, .int .i64 N, .int .i64 T, .int .u8 (y : Int), .slice A m c]] wo (DoP wo q h n L (-1) u false (.tuple #[.int .i64 0, .string ⟨#[]⟩, .bool false])) from doP_to (fdo_on y A m c wo q h n L Z u dn N T hdf))
                  have HOP := Lib.hid hop
                  have HSO := Lib.hid hso
                  have HDK := Lib.hid hdk
                  have HSL := Lib.hid hsl
                  have HTZ := Lib.hid HT.out.df.plt
                  have HTH := Lib.hid HT.out.df.glt
                  have HWQ := Lib.hid hwo
                  clear hbo hop hso hdk hdf hsl hwo
                  go_wp2_with fail
                  rw [← HWQ.out]
                  refine HA.out.mono ?_
                  rintro e w2 ⟨rfl, hf2, hk2⟩
                  have hd2 : Dk w2 p g n L dn fu lf u := Bxs.k2 HDK.out hk2 H4.out.pq H4.out.ph H4.out.gq H4.out.gh
                  have hob : w2.heap[wr.heap.size]? = wo.heap[wr.heap.size]? := hk2.block _ (by rw [HSO.out]; omega) (by have := HTZ.out; omega) (by have := HTH.out; omega)
                  have HB2 := Lib.hid (HWO.out.trans (hk2.below HWO.out.size H4.out.bq H4.out.bh))
                  have x0 := (cell_heap hob).trans (HOP.out 0 _ rfl)
                  have x1 := (cell_heap hob).trans (HOP.out 1 _ rfl)
                  have x2 := (cell_heap hob).trans (HOP.out 2 _ rfl)
                  have x3 := (cell_heap hob).trans (HOP.out 3 _ rfl)
                  have x4 := (cell_heap hob).trans (HOP.out 4 _ rfl)
                  have HF2 := Lib.hid hf2
                  have hsl2 : Sl w2 w.heap.size A b := Sl.keepq HSL.out hk2 H4.out.bq H4.out.bh
                  have HPC := Lib.hid (show Calls Try.prog 16 #[.pointer (some ⟨p, 0, none⟩)] w2 (DkP w2 p g n L false false 0 u (.tuple #[])) from dkP_to (don_any p g n L dn fu lf u w2 hd2))
                  clear hf2 hk2 hd2 hob hsl2 HA HWO HDK HSL HOP HWQ
                  go_wp2_with fail
                  refine HPC.out.mono ?_
                  rintro e w3 ⟨rfl, hd3, hk3⟩
                  have hf3 : Df w3 q h n L (-1) u false := Bxs.k2 HF2.out hk3 (Ne.symm H4.out.pq) (Ne.symm H4.out.gq) (Ne.symm H4.out.ph) (Ne.symm H4.out.gh)
                  have HB3 := Lib.hid (HB2.out.trans (hk3.below HB2.out.size H4.out.bp H4.out.bg))
                  have g3 : w3.cell? ⟨q, 3, none⟩ = some (.bool false) := hf3.cell 3
                  have g2 : w3.cell? ⟨q, 2, none⟩ = some (.int .i64 (u : Int)) := hf3.cell 2
                  have HD3 := Lib.hid hd3
                  have HF3 := Lib.hid hf3
                  clear hd3 hf3 hk3 HF2 HB2
                  go_wp2
                  go_quiet (first | (go_at_call 17; refine Calls.quiet_of_same (ddown_any p g n L false false 0 u _ (Bxs.keep HD3.out rfl rfl))) | (go_at_call 18; refine Calls.quiet_of_same (dwrites_any p g n L false false 0 u _ (Bxs.keep HD3.out rfl rfl))))
                  go_wp2
                  go_roundw
                  case rel => exact ⟨i + 1, _, _, _, _, _, _, by go_num, by omega, by omega, Bxs.keep HD3.out rfl rfl, Bxs.keep HF3.out rfl rfl, ⟨HB3.out.os, HB3.out.tape, HB3.out.output, HB3.out.size, HB3.out.block⟩, HZ2.out, HL2.out⟩
                  case measure => simp [intOf]; omega
                · have HZ2 := Lib.hid HT.out.z
                  have HL2 := Lib.hid HT.out.lim
                  have e1 : (K == 1) = false := by simpa using k1
                  have e2 : (K == 2) = false := by simpa using k2
                  have e3 : (K == 3) = false := by simpa using k3
                  have e4 : (K == 4) = false := by simpa using k4
                  have e5 : (K == 5) = false := by simpa using k5
                  obtain ⟨wo, hwo⟩ : ∃ wo, wo = wr.alloc (.cells #[.int .i64 K, .int .i64 N, .int .i64 T, .int .u8 (y : Int), .slice A m c] 33) := ⟨_, rfl⟩
                  have hbo : Below wr.heap.size wr wo := by rw [hwo]; exact bel_alloc (Nat.le_refl _) _
                  have hso : wo.heap.size = wr.heap.size + 1 := by rw [hwo]; simp
                  have hop : ∀ j v, (#[.int .i64 K, .int .i64 N, .int .i64 T, .int .u8 (y : Int), .slice A m c] : Array Value)[j]? = some v → wo.cell? ⟨wr.heap.size, j, none⟩ = some v := fun j v hv => by rw [hwo]; exact (World.cell?_alloc_new wr _ _ j).trans hv
                  have hdk : Dk wo p g n L dn fu lf u := Bxs.below HT.out.dk hbo (Nat.le_refl _)
                  have hdf : Df wo q h n L Z u dn := Bxs.below HT.out.df hbo (Nat.le_refl _)
                  have HWO := Lib.hid (HT.out.bel.trans (hbo.mono HT.out.bel.size))
                  have hsl : Sl wo w.heap.size A b := (HIb.out.sl).keep fun x hx => hbo.cell (by have := HT.out.bel.size; omega)
                  have HA := Lib.hid (show Calls Try.prog 11 #[.pointer (some ⟨q, 0, none⟩), .agg #[.int .i64 K, .int .i64 N, .int .i64 T, .int .u8 (y : Int), .slice A m c]] wo (DoP wo q h n L Z u dn (.tuple #[.int .i64 0, .string ⟨#[]⟩, .bool false])) from doP_of hdf (fdo_other y A m c wo q h n L Z u dn K N T hdf ⟨k1, k2, k3, k4, k5⟩))
                  have HOP := Lib.hid hop
                  have HSO := Lib.hid hso
                  have HDK := Lib.hid hdk
                  have HSL := Lib.hid hsl
                  have HTZ := Lib.hid HT.out.df.plt
                  have HTH := Lib.hid HT.out.df.glt
                  have HWQ := Lib.hid hwo
                  clear k1 k2 k3 k4 k5
                  clear hbo hop hso hdk hdf hsl hwo
                  go_wp2_with fail
                  rw [← HWQ.out]
                  refine HA.out.mono ?_
                  rintro e w2 ⟨rfl, hf2, hk2⟩
                  have hd2 : Dk w2 p g n L dn fu lf u := Bxs.k2 HDK.out hk2 H4.out.pq H4.out.ph H4.out.gq H4.out.gh
                  have hob : w2.heap[wr.heap.size]? = wo.heap[wr.heap.size]? := hk2.block _ (by rw [HSO.out]; omega) (by have := HTZ.out; omega) (by have := HTH.out; omega)
                  have HB2 := Lib.hid (HWO.out.trans (hk2.below HWO.out.size H4.out.bq H4.out.bh))
                  have x0 := (cell_heap hob).trans (HOP.out 0 _ rfl)
                  have x1 := (cell_heap hob).trans (HOP.out 1 _ rfl)
                  have x2 := (cell_heap hob).trans (HOP.out 2 _ rfl)
                  have x3 := (cell_heap hob).trans (HOP.out 3 _ rfl)
                  have x4 := (cell_heap hob).trans (HOP.out 4 _ rfl)
                  have HF2 := Lib.hid hf2
                  have hd3 := hd2
                  have hk3 := K2.refl w2 p g
                  obtain ⟨w3, hw3⟩ : ∃ w3, w3 = w2 := ⟨_, rfl⟩
                  subst hw3
                  clear hf2 hk2 hd2 hob HA HWO HDK HSL HOP HWQ
                  have hf3 : Df w3 q h n L Z u dn := Bxs.k2 HF2.out hk3 (Ne.symm H4.out.pq) (Ne.symm H4.out.gq) (Ne.symm H4.out.ph) (Ne.symm H4.out.gh)
                  have HB3 := Lib.hid (HB2.out.trans (hk3.below HB2.out.size H4.out.bp H4.out.bg))
                  have g3 : w3.cell? ⟨q, 3, none⟩ = some (.bool dn) := hf3.cell 3
                  have g2 : w3.cell? ⟨q, 2, none⟩ = some (.int .i64 (u : Int)) := hf3.cell 2
                  have HD3 := Lib.hid hd3
                  have HF3 := Lib.hid hf3
                  clear hd3 hf3 hk3 HF2 HB2
                  go_wp2
                  go_quiet (first | (go_at_call 17; refine Calls.quiet_of_same (ddown_any p g n L dn fu lf u _ (Bxs.keep HD3.out rfl rfl))) | (go_at_call 18; refine Calls.quiet_of_same (dwrites_any p g n L dn fu lf u _ (Bxs.keep HD3.out rfl rfl))))
                  go_wp2
                  go_roundw
                  case rel => exact ⟨i + 1, _, _, _, _, _, _, by go_num, by omega, by omega, Bxs.keep HD3.out rfl rfl, Bxs.keep HF3.out rfl rfl, ⟨HB3.out.os, HB3.out.tape, HB3.out.output, HB3.out.size, HB3.out.block⟩, HZ2.out, HL2.out⟩
                  case measure => simp [intOf]; omega
      · obtain rfl : i = R := by omega
        have hge : ¬ (i : Int) < (i : Int) := by omega
        clear hiR hi HO
        go_wp2
        go_loopw [14] (QRel w p g q h n L dn fu lf u Z) (fun i _ => n - (intOf i).toNat)
        case atStart => exact ⟨0, rfl, by omega, HT.out⟩
        case round =>
          obtain ⟨j, rfl, hj, hTj⟩ := hrel
          have HTj := Lib.hid hTj
          clear hTj HT
          have HLC := Lib.hid (dlen_any p g n L dn fu lf u wr HTj.out.dk)
          have hn2 := HN2.out
          by_cases hjn : j < n
          · have hjn' : (j : Int) < (n : Int) := by omega
            have HRC := Lib.hid (dread_yes p g n L dn fu lf u j wr HTj.out.dk hjn)
            go_wp2_with fail
            refine HLC.out.mono ?_
            rintro e w' ⟨rfl, rfl⟩
            go_wp2_with fail
            refine HRC.out.mono ?_
            rintro e w3 ⟨r, rfl, hbk, hr, hb3⟩
            have hf3 : Df w3 q h n L Z u dn := Bxs.below HTj.out.df hb3 (Nat.le_refl _)
            have hd3 : Dk w3 p g n L dn fu lf u := Bxs.below HTj.out.dk hb3 (Nat.le_refl _)
            have HT3 := Lib.hid (show Two w p g q h n L dn fu lf u Z w3 from ⟨hd3, hf3, HTj.out.bel.trans (hb3.mono HTj.out.bel.size), HTj.out.z, HTj.out.lim⟩)
            obtain ⟨S, hS⟩ : ∃ S, S = str (piece L j) := ⟨_, rfl⟩
            obtain ⟨M, hM⟩ : ∃ M, M = 32 * n := ⟨_, rfl⟩
            obtain ⟨o, ho⟩ : ∃ o, o = j * 32 := ⟨_, rfl⟩
            obtain ⟨e, he⟩ : ∃ e, e = o + 32 := ⟨_, rfl⟩
            have hL := hf3.len
            have hfew := hf3.few
            have hpl := piece_len hL hjn
            have hoM : o < M := by omega
            have heM : e ≤ M := by omega
            have c0 : w3.cell? ⟨q, 0, none⟩ = some (.slice (some ⟨h, 0, none⟩) M M) := by rw [hM]; exact hf3.cell 0
            have hcv1 : ∀ a, (convert 28 9 (.slice (some ⟨r, 0, none⟩) 32 32)).run Try.prog (w3.drewN a) = .ok (.string S) (w3.drewN a) := fun a => by
              have := conv_sl (P := Try.prog) ((hbk.sl ((hf3.bb.drop _).take _) 0 32).drewN a) Try.underlying28 Try.underlying5 Try.underlying9 32
              rw [List.drop_zero, List.take_of_length_le (Nat.le_of_eq hpl), ← hS, hpl] at this
              exact this
            have hcv2 : ∀ a, (convert 28 9 (.slice (some ⟨h, o, none⟩) 32 (M - o))).run Try.prog (w3.drewN a) = .ok (.string S) (w3.drewN a) := fun a => by
              have := conv_sl (P := Try.prog) ((show Sl w3 w3.heap.size (some ⟨h, o, none⟩) (piece L j) from by rw [ho]; exact hf3.row.sl hf3.bb (j * 32) 32).drewN a) Try.underlying28 Try.underlying5 Try.underlying9 (M - o)
              rw [← hS, hpl] at this
              exact this
            have hsl : ∀ v, (Instr.sliceAt 28 (.slice (some ⟨h, 0, none⟩) M M) (some (.int .i64 (o : Int))) (some (.int .i64 (e : Int))) none).run Try.prog v = .ok (.slice (some ⟨h, o, none⟩) 32 (M - o)) v := fun v => by
              have := slice_lh_at h M o e (by omega) heM hoM v
              rwa [show e - o = 32 by omega] at this
            have hws := (⟨i64w ((j : Int) * 32) (o : Int) (by omega) (by omega) (by omega), i64w ((o : Int) + 32) (e : Int) (by omega) (by omega) (by omega)⟩ : (_ ∧ _) ∧ (_ ∧ _))
            obtain ⟨⟨hwa1, hwb1⟩, hwa2, hwb2⟩ := hws
            clear hbk hr hb3 hf3 hd3 hS hM ho he hL hpl hoM heM HLC HRC hfew
            go_wp2
            go_quiet (fail)
            go_wp2
            go_roundw
            case rel => exact ⟨j + 1, by go_num, by omega, Bxs.keep HT3.out.dk rfl rfl, Bxs.keep HT3.out.df rfl rfl, ⟨HT3.out.bel.os, HT3.out.bel.tape, HT3.out.bel.output, HT3.out.bel.size, HT3.out.bel.block⟩, HT3.out.z, HT3.out.lim⟩
            case measure => simp [intOf]; omega
          · obtain rfl : j = n := by omega
            clear hjn hj
            go_wp2_with fail
            refine HLC.out.mono ?_
            rintro e w' ⟨rfl, rfl⟩
            go_wp2_with fail
            refine (answers_any _).mono ?_
            rintro e w4 ⟨rfl, hb4⟩
            have HB4 := Lib.hid (HTj.out.bel.trans (hb4.mono HTj.out.bel.size))
            clear hb4
            go_wp2
            go_ret
            exact ⟨rfl, HB4.out⟩

set_option maxRecDepth 100000 in
theorem lifted (os : Os) (started : os.Started) (H : Type) (enc : TypeId × Value → H) :
    ReturnsInHanded {} Try.checked os 3 .any (Rows.diskPlaysSpec.pre6 enc Try.prog Try.f3 Rows.diskPlaysRow.domain false) (Rows.diskPlaysSpec.post enc Try.prog Try.f3 false true false false) := by
  refine returnsInHanded_of_change_sized (C := Try.checked) own started (by kernel_rfl) Try.func3
    (ChangeSpec.witness6 (enc := enc) (C := Try.checked) false ⟨#[], #[.int .i64 0, .slice none 0 0], []⟩ 8 (by kernel_rfl) (by kernel_rfl) (by kernel_rfl) (by kernel_rfl)) ?_
  intro W base args ds gs before hval0 hW _hcnd hsz0 _
  have hval : ∀ (j : Nat) t v, Try.f3.params[j]? = some t → args[j]? = some v → Value.okWide Try.prog W .any base t v := hval0
  have hW' := hW
  obtain ⟨p, q, hA0, hV, rfl, _hfz, _hnd⟩ := hW
  have hA : DataW.TrodAll enc Try.prog W 0 (fun _ => true) true Try.f3.params.toList args.toList ds p := hA0
  have hsz : (DataW.weightsEach Try.prog (Try.f3.params.toList ++ Rows.diskPlaysSpec.plain.varTypes Try.prog) (ds ++ gs)).all (· ≤ reachBytes) = true := hsz0
  rw [Try.params3] at hA hval hsz
  obtain ⟨v0, vs0, d0, ds0, p0, q0, hargs, rfl, rfl, h0, r0⟩ := trodAll_cons hA
  obtain ⟨v1, vs1, d1, ds1, p1, q1, rfl, rfl, rfl, h1, r1⟩ := trodAll_cons r0
  obtain ⟨rfl, rfl, rfl⟩ := trodAll_nil r1
  obtain rfl : args = #[v0, v1] := by cases args; simp_all
  obtain ⟨rfl, rfl⟩ := trodVars_none hV
  obtain ⟨a0, rfl, rfl, rfl, w0⟩ := open_int Try.underlying3 (hval 0 3 v0 rfl rfl) h0
  have k1 := h1
  have lt1 : ∀ x ∈ p1, x.block < W.heap.size := by obtain ⟨m, hm⟩ := k1; exact DataW.trod_lt m _ _ _ hm
  obtain ⟨A1, c1, R1, K1, N1, T1, Y1, Q1, C1, l1, rfl, w1⟩ := open_ops5 Try.underlying22 Try.underlying33 (by kernel_rfl) rfl (by kernel_rfl) Try.underlying3 Try.underlying3 Try.underlying3 Try.underlying5 Try.underlying28 Try.underlying5 (by kernel_rfl) (hval 1 22 v1 rfl rfl) h1
  clear hA0 hval0 hsz0 hsz
  refine (walk a0 A1 c1 R1 K1 N1 T1 Y1 Q1 C1 l1 W w0 w1).mono fun e W' ⟨he, bel⟩ => ?_
  subst he
  exact ⟨_, rfl, _, _, _, [], _, [], hW', trodAll_mk1 (shut_bool Try.underlying4 _), (trodAll_cons_mk (shut_int Try.underlying3 w0) (trodAll_cons_mk (Below.trod laidOut (by kernel_rfl) (of_decide_eq_true (by kernel_rfl)) k1 bel lt1) trodAll_mk0)), rfl, bel.frame _, fun h => by cases h⟩

theorem over : Rows.diskPlaysRow.holds Try.pinned (OpenSpec.ofChange Rows.diskPlaysSpec) :=
  OpenClaim.holds_of_wide 3 Try.f3 rfl rfl rfl rfl rfl rfl rfl ⟨rfl, rfl, rfl, rfl, rfl⟩ rfl rfl rfl rfl rfl (by kernel_rfl) Try.func3 (by kernel_rfl)
    (of_decide_eq_true (by kernel_rfl)) (by unfold Func.isWrapper; first | (rw [if_pos (by decide +kernel)]; kernel_rfl) | (rw [if_neg (by decide +kernel)]; exact ⟨rfl, rfl⟩))
    (fun os started H enc _ => lifted os started H enc)

end Go.Proofs.Ytcbgpichkjcgnaa.diskPlays
namespace Go.Proofs.Ytcbgpichkjcgnaa
/-- The statement. -/
theorem diskPlays_holds : Rows.DiskPlaysSaid := diskPlays.over
#print axioms diskPlays_holds
end Go.Proofs.Ytcbgpichkjcgnaa

