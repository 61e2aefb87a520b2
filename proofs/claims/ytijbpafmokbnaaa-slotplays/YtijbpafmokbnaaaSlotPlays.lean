/- For every input SlotPlays returns true, and every argument reads behind the call as it did before: no condition. -/
import Derived.Test.YtijbpafmokbnaaaRows
import Derived.ProofKit
import Derived.OpenShut
import Derived.SizedLaws
import Derived.ChangeOld
import Derived.Carry
import Derived.Test.YtijbpafmokbnaaaLawb
import Derived.Test.YtijbpafmokbnaaaSkk
import Derived.Test.YtijbpafmokbnaaaGty
import Derived.BigQuiet
import Derived.Test.YtijbpafmokbnaaaLawe
namespace Go.Proofs.Ytijbpafmokbnaaa.slotPlays
open Go.ChangeShapes Go.WideShapes Go.ChangeAt Go.RowKit Go.Shelf Gw Pol Go.BigFrame

theorem own : ownKnob Try.prog.godebug = none := by kernel_rfl
theorem laidOut : laidOutB Try.prog = true := by kernel_rfl
/-- The two slots, side by side. -/
structure Two (w : World) (z p g q k B0 r : Nat) (s t : Pw) (Kp : List Nat) (u : Nat) (wr : World) : Prop where
  sq : Sq wr z p g r s Kp
  rs : Rs wr q k B0 r t Kp
  bel : Below w.heap.size w wr
  eqv : s.eqv t
  su : s.u ≤ u
  tu : t.u ≤ u
/-- Their blocks are new, and no two are one. -/
structure Four (B B0 z p g q : Nat) : Prop where
  bz : B ≤ z
  bp : B ≤ p
  bg : B ≤ g
  bq : B ≤ q
  zq : z ≠ q
  pq : p ≠ q
  gq : g ≠ q
  z0 : z < B0
  p0 : p < B0
  g0 : g < B0
/-- What rounds have made. -/
def PRel (w : World) (R z p g q B0 r : Nat) (v7 : Value) (wr : World) : Prop := ∃ (i k : Nat) (s t : Pw) (Kp : List Nat), v7 = .int .i64 (i : Int) ∧ i ≤ R ∧ B0 ≤ wr.heap.size ∧ Two w z p g q k B0 r s t Kp (i * 4096) wr
/-- A call on the definition's slot, told whole. -/
def DoP (wo : World) (q k B0 r : Nat) (t : Pw) (Kp : List Nat) (v : Value) : Ending → World → Prop := fun e w' => e = .returned v ∧ (∃ k', (k' = k ∨ k' = q ∨ wo.heap.size ≤ k') ∧ Rs w' q k' B0 r t Kp) ∧ K2 wo w' q k
theorem doP_bel {P : Program} {f : Nat} {args : Array Value} {wo : World} {q k B0 r : Nat} {t : Pw} {Kp : List Nat} {v : Value} (hd : Rs wo q k B0 r t Kp) (hc : Calls P f args wo fun e w' => e = .returned v ∧ Below wo.heap.size wo w') : Calls P f args wo (DoP wo q k B0 r t Kp v) :=
  hc.mono fun _ _ hh => ⟨hh.1, ⟨k, .inl rfl, hd.below hh.2 (Nat.le_refl _)⟩, K2.ofBelow hh.2 (Nat.le_refl _)⟩
theorem doP_q {P : Program} {f : Nat} {args : Array Value} {wo : World} {q k B0 r : Nat} {t : Pw} {Kp : List Nat} {v : Value} (hc : Calls P f args wo fun e w' => e = .returned v ∧ Rs w' q k B0 r t Kp ∧ K2 wo w' q q) : Calls P f args wo (DoP wo q k B0 r t Kp v) :=
  hc.mono fun _ _ hh => ⟨hh.1, ⟨k, .inl rfl, hh.2.1⟩, K2.mk2 hh.2.2⟩
theorem doP_k {P : Program} {f : Nat} {args : Array Value} {wo : World} {q k B0 r : Nat} {t : Pw} {Kp : List Nat} {v : Value} (hc : Calls P f args wo fun e w' => e = .returned v ∧ Rs w' q k B0 r t Kp ∧ K2 wo w' q k) : Calls P f args wo (DoP wo q k B0 r t Kp v) :=
  hc.mono fun _ _ hh => ⟨hh.1, ⟨k, .inl rfl, hh.2.1⟩, hh.2.2⟩
theorem doP_y {P : Program} {f : Nat} {args : Array Value} {wo : World} {q k B0 r : Nat} {t : Pw} {Kp : List Nat} {v : Value} (hc : Calls P f args wo fun e w' => e = .returned v ∧ (∃ k', (k' = q ∨ wo.heap.size ≤ k') ∧ Rs w' q k' B0 r t Kp) ∧ K2 wo w' q k) : Calls P f args wo (DoP wo q k B0 r t Kp v) :=
  hc.mono fun _ _ hh => ⟨hh.1, by obtain ⟨k', h1, h2⟩ := hh.2.1; exact ⟨k', .inr h1, h2⟩, hh.2.2⟩
/-- A call on the program's slot, told whole. -/
def SzP (wo : World) (z p g r : Nat) (s : Pw) (Kp : List Nat) (v : Value) : Ending → World → Prop := fun e w' => e = .returned v ∧ Sq w' z p g r s Kp ∧ K3 wo w' z p g
theorem szP_bel {P : Program} {f : Nat} {args : Array Value} {wo : World} {z p g r : Nat} {s : Pw} {Kp : List Nat} {v : Value} (hd : Sq wo z p g r s Kp) (hc : Calls P f args wo fun e w' => e = .returned v ∧ Below wo.heap.size wo w') : Calls P f args wo (SzP wo z p g r s Kp v) :=
  hc.mono fun _ _ hh => ⟨hh.1, hd.below hh.2 (Nat.le_refl _), K3.ofBelow hh.2 (Nat.le_refl _)⟩
theorem szP_to {P : Program} {f : Nat} {args : Array Value} {wo : World} {z p g r : Nat} {s : Pw} {Kp : List Nat} {v : Value} (hc : Calls P f args wo fun e w' => e = .returned v ∧ Sq w' z p g r s Kp ∧ K3 wo w' z p g) : Calls P f args wo (SzP wo z p g r s Kp v) := hc
theorem pw_max {n o : Nat} {s : Pw} {i m : Nat} (h : s.u ≤ i * 4096) (hn : n ≤ 513) (ho : o ≤ 512) (hm : m = (i + 1) * 4096) : (Pw.go n s).u ≤ m ∧ (Pw.go o (Pw.go n s)).u ≤ m := by
  have h1 := (Pw.go_u n s).1
  have h2 := (Pw.go_u o (Pw.go n s)).1
  omega
set_option maxRecDepth 100000 in
set_option maxHeartbeats 4000000 in
theorem walk (a0 : Int) (A1 : Option Addr) (c1 R : Nat) (K1 N1 : Nat → Int) (Y1 : Nat → Nat) (Q1 : Nat → Option Addr) (C1 : Nat → Nat) (l1 : Nat → List Nat) (w : World) (_w0 : (Lit.int .i64 a0).wf = true) (w1 : O4In w w.heap.size A1 c1 R K1 N1 Y1 Q1 C1 l1) (s1 : ∀ i, i < R → (l1 i).length < 140737488355328) :
    Calls Try.prog 3 #[.int .i64 a0, .slice A1 R c1] w fun e w' => e = .returned (.bool true) ∧ Below w.heap.size w w' := by
  clear _w0
  have HO := Lib.hid w1
  have HLE := Lib.hid s1
  have hcapO := w1.cap
  clear w1 s1
  obtain ⟨r, hr⟩ : ∃ r, r = min a0.toNat 512 := ⟨_, rfl⟩
  have hnr : nr a0 = r := hr.symm
  have HR5 := Lib.hid (show r ≤ 512 by rw [hr]; exact Nat.min_le_right _ _)
  have HNW := Lib.hid (sq_new a0 r hr w)
  have HRN := Lib.hid (show ∀ w, Calls Try.prog 9 #[.int .i64 a0] w fun e w' => e = .returned (.pointer (some ⟨w.heap.size, 0, none⟩)) ∧ Rb w' w.heap.size (r : Int) (-1) 0 false false (.slice none 0 0) ∧ Below w.heap.size w w' from fun w => by rw [← hnr]; exact rnew_any a0 w)
  clear hr hnr
  go_enter Try.func3, Try.ntmps3
  go_wp2_with fail
  refine HNW.out.mono ?_
  rintro e w1 ⟨z, p, g, rfl, hq1, hz, hp, hg, hb1⟩
  have HZ := Lib.hid hz
  have HP := Lib.hid hp
  have HG := Lib.hid hg
  have HQ1 := Lib.hid hq1
  have HB1 := Lib.hid hb1
  clear hz hp hg hq1 hb1
  go_wp2_with fail
  refine (HRN.out w1).mono ?_
  rintro e w2 ⟨rfl, hrb, hb2⟩
  obtain ⟨q, hqq⟩ : ∃ q, q = w1.heap.size := ⟨_, rfl⟩
  rw [← hqq] at hrb ⊢
  obtain ⟨B0, hB0⟩ : ∃ B0, B0 = w2.heap.size := ⟨_, rfl⟩
  have hlt := HQ1.out.lt
  have h4 : Four w.heap.size B0 z p g q := ⟨HZ.out, HP.out, HG.out, by have := HB1.out.size; omega, by omega, by omega, by omega, by have := hb2.size; omega, by have := hb2.size; omega, by have := hb2.size; omega⟩
  have hT : Two w z p g q q B0 r ⟨-1, false, 0⟩ ⟨-1, false, 0⟩ [] (0 * 4096) w2 := ⟨HQ1.out.below hb2 (Nat.le_refl _), Rs.new hrb (by rw [hB0]; exact hrb.lt) HR5.out, HB1.out.trans (hb2.mono HB1.out.size), ⟨rfl, rfl⟩, Nat.zero_le _, Nat.zero_le _⟩
  have H4 := Lib.hid h4
  have HT0 := Lib.hid hT
  have HB00 := Lib.hid (show B0 ≤ w2.heap.size by omega)
  clear hrb hb2 hqq hB0 hlt h4 hT HQ1 HB1 HZ HP HG HNW HRN
  by_cases hR : 100 < R
  · have hgt : (100 : Int) < (R : Int) := by omega
    go_wp2_with fail
    refine (answers_any _).mono ?_
    rintro e w4 ⟨rfl, hb4⟩
    have HB4 := Lib.hid (HT0.out.bel.trans (hb4.mono HT0.out.bel.size))
    clear hb4
    go_wp2
    go_ret
    exact ⟨rfl, HB4.out⟩
  · have hgt : ¬ (100 : Int) < (R : Int) := by omega
    have hgt2 : decide ((100 : Int) < (R : Int)) = false := decide_eq_false hgt
    go_wp2
    go_loopw [7] (PRel w R z p g q B0 r) (fun i _ => R - (intOf i).toNat)
    case atStart => exact ⟨0, q, _, _, [], rfl, by omega, HB00.out, HT0.out⟩
    case round =>
      obtain ⟨i, k, s, t, Kp, rfl, hi, hB0, hT⟩ := hrel
      have HT := Lib.hid hT
      have HB0 := Lib.hid hB0
      clear hT HT0 HB00 hB0
      by_cases hiR : i < R
      · obtain ⟨bA, off, rfl, hbA, hcs0, hIw, hw5⟩ := HO.out.at_ i hiR
        have hcs := And.intro ((HT.out.bel.cell (p := ⟨bA, off + i * 4, none⟩) hbA).trans hcs0.1) (And.intro ((HT.out.bel.cell (p := ⟨bA, off + i * 4 + 1, none⟩) hbA).trans hcs0.2.1) (And.intro ((HT.out.bel.cell (p := ⟨bA, off + i * 4 + 2, none⟩) hbA).trans hcs0.2.2.1) ((HT.out.bel.cell (p := ⟨bA, off + i * 4 + 3, none⟩) hbA).trans hcs0.2.2.2)))
        clear hcs0
        obtain ⟨E, hE⟩ : ∃ E, E = K1 i := ⟨_, rfl⟩
        obtain ⟨N, hN⟩ : ∃ N, N = N1 i := ⟨_, rfl⟩
        obtain ⟨y, hy⟩ : ∃ y, y = Y1 i := ⟨_, rfl⟩
        obtain ⟨A, hA⟩ : ∃ A, A = Q1 i := ⟨_, rfl⟩
        obtain ⟨c, hc⟩ : ∃ c, c = C1 i := ⟨_, rfl⟩
        obtain ⟨b, hb⟩ : ∃ b, b = l1 i := ⟨_, rfl⟩
        have hbl : b.length < 140737488355328 := by rw [hb]; exact HLE.out i hiR
        rw [← hE, ← hN, ← hy, ← hA, ← hc, ← hb] at hcs
        rw [← hA, ← hc, ← hb] at hIw
        rw [← hE, ← hN, ← hy] at hw5
        obtain ⟨hk0, hk1, hk2, hk3⟩ := hcs
        obtain ⟨m, hm⟩ : ∃ m, m = b.length := ⟨_, rfl⟩
        rw [← hm] at hk3
        obtain ⟨n, hn⟩ : ∃ n, n = Kp.length := ⟨_, rfl⟩
        obtain ⟨dirty, Ak0, ck0, hbx, -, -⟩ := HT.out.rs.box
        rw [← hn] at hbx
        obtain ⟨wo, hwo⟩ : ∃ wo, wo = wr.alloc (.cells #[.int .i64 E, .int .i64 N, .int .u8 (y : Int), .slice A m c] 30) := ⟨_, rfl⟩
        have hbo : Below wr.heap.size wr wo := by rw [hwo]; exact bel_al (Nat.le_refl _) _
        have hso : wo.heap.size = wr.heap.size + 1 := by rw [hwo]; simp
        have hop : ∀ j v, (#[.int .i64 E, .int .i64 N, .int .u8 (y : Int), .slice A m c] : Array Value)[j]? = some v → wo.cell? ⟨wr.heap.size, j, none⟩ = some v := fun j v hv => by rw [hwo]; exact (World.cell?_alloc_new wr _ _ j).trans hv
        have HC5 := Lib.hid (show wo.cell? ⟨q, 5, none⟩ = some (.slice Ak0 n ck0) from (hbo.cell hbx.lt).trans (hbx.cell 5))
        have HIb := Lib.hid (show In w w.heap.size A c b from hIw)
        have HM := Lib.hid hm
        have HN := Lib.hid hn
        have HY := Lib.hid hw5.2.2
        have HNI := Lib.hid hw5.2.1
        have HBL := Lib.hid hbl
        have hiR' : (i : Int) < (R : Int) := by omega
        have HOP0 := Lib.hid hop
        have HWB0 := Lib.hid hbo
        have HWS0 := Lib.hid hso
        have HWL := Lib.hid hwo
        clear hE hN hy hA hc hb hIw hm hn hw5 hbx hwo hbo hso hop hbl HO HLE hbA
        have HTS := Lib.hid (show s.u < 2305843009213693952 ∧ t.u < 2305843009213693952 by have := HT.out.su; have := HT.out.tu; omega)
        by_cases h0 : 0 ≤ N
        · have t0 : decide (0 ≤ N) = true := decide_eq_true h0
          by_cases hlt : N < (n : Int)
          · have t1 : decide (N < (n : Int)) = true := decide_eq_true hlt
            go_wp2
            rw [← HWL.out]
            have c5 := HC5.out
            have y0 := HOP0.out 0 (.int .i64 E) rfl
            have y1 := HOP0.out 1 (.int .i64 N) rfl
            have y2 := HOP0.out 2 (.int .u8 (y : Int)) rfl
            have y3 := HOP0.out 3 (.slice A m c) rfl
            go_quiet (fail)
            go_wp2_with fail
            obtain ⟨wq, hwq⟩ : ∃ wq, wq = wo.drewN nq := ⟨_, rfl⟩
            have HOP := Lib.hid (show ∀ j v, (#[.int .i64 E, .int .i64 N, .int .u8 (y : Int), .slice A m c] : Array Value)[j]? = some v → wq.cell? ⟨wr.heap.size, j, none⟩ = some v by rw [hwq]; exact HOP0.out)
            have HWB := Lib.hid (show Below wr.heap.size wr wq by rw [hwq]; exact ⟨HWB0.out.os, HWB0.out.tape, HWB0.out.output, HWB0.out.size, HWB0.out.block⟩)
            have HSO := Lib.hid (show wq.heap.size = wr.heap.size + 1 by rw [hwq]; exact HWS0.out)
            rw [← hwq]
            clear hwq c5 y0 y1 y2 y3 HOP0 HWB0 HWS0 HWL HC5
            obtain ⟨wo, rfl⟩ : ∃ wo, wo = wq := ⟨_, rfl⟩
            have HSQ := Lib.hid (HT.out.sq.below HWB.out (Nat.le_refl _))
            have HRS := Lib.hid (HT.out.rs.below HWB.out (Nat.le_refl _))
            have HWO := Lib.hid (HT.out.bel.trans (HWB.out.mono HT.out.bel.size))
            have HBO := Lib.hid (show B0 ≤ wo.heap.size by have := HB0.out; have := HSO.out; omega)
            have HKN := Lib.hid (show z ≠ k ∧ p ≠ k ∧ g ≠ k by have h1 := HT.out.rs.kb; have h2 := H4.out; have h3 := h2.z0; have h4 := h2.p0; have h5 := h2.g0; have h6 := h2.zq; have h7 := h2.pq; have h8 := h2.gq; omega)
            have HQW := Lib.hid (show q < wr.heap.size by have := HT.out.rs.lt; have := HB0.out; omega)
            have HKW := Lib.hid HT.out.rs.klt
            have HKB := Lib.hid (show w.heap.size ≤ k by have h1 := HT.out.rs.kb; have h2 := H4.out.bq; have h3 := H4.out.bz; have h4 := H4.out.z0; omega)
            have HI0 := Lib.hid (show In wo w.heap.size A c b from HIb.out.below HWO.out)
            by_cases k1 : E = 1
            · subst k1
              by_cases hrt : r < tk m
              · have HA := Lib.hid (show Calls Try.prog 11 #[.pointer (some ⟨q, 0, none⟩), .agg #[.int .i64 1, .int .i64 N, .int .u8 (y : Int), .slice A m c]] wo (DoP wo q k B0 r t (Kp) (.int .i64 7)) from doP_bel HRS.out (fsave_bad y A m c wo q k B0 r t Kp N HRS.out (by omega) (by have := HBL.out; have := HM.out; omega)))
                refine HA.out.mono ?_
                rintro e w2 ⟨rfl, hrr, hk2⟩
                have hq2 : Sq w2 z p g r s Kp := HSQ.out.k2 hk2 ⟨H4.out.zq, H4.out.pq, H4.out.gq⟩ HKN.out
                have hob : w2.heap[wr.heap.size]? = wo.heap[wr.heap.size]? := hk2.block _ (by rw [HSO.out]; omega) (by have := HQW.out; omega) (by have := HKW.out; omega)
                have HB2 := Lib.hid (HWO.out.trans (hk2.below HWO.out.size H4.out.bq HKB.out))
                have x0 := (cell_heap hob).trans (HOP.out 0 (.int .i64 1) rfl)
                have x1 := (cell_heap hob).trans (HOP.out 1 (.int .i64 N) rfl)
                have x2 := (cell_heap hob).trans (HOP.out 2 (.int .u8 (y : Int)) rfl)
                have x3 := (cell_heap hob).trans (HOP.out 3 (.slice A m c) rfl)
                have HS2 := Lib.hid hk2.size
                have hI2 : In w2 w.heap.size A c b := HIb.out.below HB2.out
                have HPC := Lib.hid (show Calls Try.prog 12 #[.pointer (some ⟨z, 0, none⟩), .slice A m c] w2 (SzP w2 z p g r s (Kp) (.int .i64 7)) from szP_bel hq2 (sq_big z p g r Kp s A m c w2 hq2 (by omega) (by have := HBL.out; have := HM.out; omega)))
                clear hI2 hk2 hq2 hob HA
                go_wp2_with fail
                refine HPC.out.mono ?_
                rintro e w3 ⟨rfl, hq3, hk3⟩
                replace hrr : ∃ k', (k' = k ∨ k' = q ∨ wo.heap.size ≤ k') ∧ Rs w3 q k' B0 r t (Kp) := by
                  obtain ⟨k', h1, h2⟩ := hrr
                  exact ⟨k', h1, h2.k3 hk3 ⟨Ne.symm H4.out.zq, Ne.symm H4.out.pq, Ne.symm H4.out.gq⟩ ⟨H4.out.z0, H4.out.p0, H4.out.g0⟩⟩
                have HB3 := Lib.hid (HB2.out.trans (hk3.below HB2.out.size H4.out.bz H4.out.bp H4.out.bg))
                have HBS := Lib.hid (show wr.heap.size ≤ w3.heap.size by have := HSO.out; have := HS2.out; have := hk3.size; omega)
                clear hk3 HB2 HS2 x0 x1 x2 x3
                obtain ⟨k2, hk2or, hr3⟩ := hrr
                have hr3w := hr3
                obtain ⟨dirty, Ak, ck, hbx, how, -⟩ := hr3.box
                obtain ⟨n2, hn2⟩ : ∃ n2, n2 = (Kp).length := ⟨_, rfl⟩
                obtain ⟨σ, hσ⟩ : ∃ σ, σ = str (Kp) := ⟨_, rfl⟩
                obtain ⟨gn, hgn⟩ : ∃ gn, gn = (t).gone := ⟨_, rfl⟩
                rw [← hgn, ← hn2] at hbx
                have HN2 := Lib.hid hn2
                have HSG := Lib.hid hσ
                have HQL := Lib.hid (show q < w3.heap.size from hbx.lt)
                have HG5 := Lib.hid (show w3.cell? ⟨q, 5, none⟩ = some (.slice Ak n2 ck) from hbx.cell 5)
                have HG3 := Lib.hid (show w3.cell? ⟨q, 3, none⟩ = some (.bool gn) from hbx.cell 3)
                have HCV := Lib.hid (show ∀ w5, Below w3.heap.size w3 w5 → (convert 28 9 (.slice Ak n2 ck)).run Try.prog w5 = .ok (.string σ) w5 from fun w5 hg => by
                  have h1 := (how.inn).below hg
                  have h2 := conv_sl (P := Try.prog) h1.sl Try.underlying28 Try.underlying5 Try.underlying9 ck
                  rw [← hn2, ← hσ] at h2
                  exact h2)
                have HLD := Lib.hid (show ∀ w5, Below w3.heap.size w3 w5 → Calls Try.prog 16 #[.pointer (some ⟨z, 0, none⟩)] w5 fun e w' => ∃ A c, e = .returned (.slice A n2 c) ∧ In w' w'.heap.size A c (Kp) ∧ Below w5.heap.size w5 w' from fun w5 hg => by
                  rw [hn2]; exact sq_load z p g r _ _ w5 (hq3.below hg (Nat.le_refl _)))
                have HDN := Lib.hid (show ∀ w5, Below w3.heap.size w3 w5 → Calls Try.prog 17 #[.pointer (some ⟨z, 0, none⟩)] w5 fun e w' => e = .returned (.bool gn) ∧ w' = w5 from fun w5 hg => by
                  have h1 := sq_down z p g r _ _ w5 (hq3.below hg (Nat.le_refl _))
                  rw [show (s).gone = gn from (HT.out.eqv).2.trans hgn.symm] at h1
                  exact h1)
                have HEND := Lib.hid (show ∀ w5, Below w3.heap.size w3 w5 → B0 ≤ w5.heap.size ∧ Two w z p g q k2 B0 r (s) (t) (Kp) ((i + 1) * 4096) w5 from fun w5 hg => ⟨Nat.le_trans HB0.out (Nat.le_trans HBS.out hg.size), hq3.below hg (Nat.le_refl _), hr3w.below hg (Nat.le_refl _), HB3.out.trans (hg.mono HB3.out.size), HT.out.eqv, (by have := HT.out.su; omega), (by have := HT.out.tu; omega)⟩)
                clear hr3w hr3 hbx how hn2 hσ hgn hq3 hk2or HBS HB3
                go_wp2
                rename_i K hK
                refine Gt.regionA [Gt.Is (.pointer (some ⟨z, 0, none⟩)), LdIs n2 (Kp), Gt.Is (.string σ), Gt.Is (.pointer (some ⟨q, 0, none⟩)), Gt.Is (.pointer (some ⟨q, 0, none⟩)), Gt.Is (.pointer (some ⟨q, 5, none⟩)), Gt.Is (.slice Ak n2 ck), Gt.Is (.string σ), Gt.Is (.bool false), Gt.Is (.bool false), Gt.Is (.pointer (some ⟨z, 0, none⟩)), Gt.Is (.bool gn), Gt.Is (.pointer (some ⟨q, 0, none⟩)), Gt.Is (.pointer (some ⟨q, 0, none⟩)), Gt.Is (.pointer (some ⟨q, 3, none⟩)), Gt.Is (.bool gn), Gt.Is (.bool false), Gt.Is (.bool false)] 94
                  [⟨[], [5], none⟩, ⟨[(0, 75)], [], none⟩, ⟨[(1, 76)], [], none⟩, ⟨[], [6], none⟩, ⟨[(3, 78)], [], none⟩, ⟨[(4, 79)], [], none⟩, ⟨[(5, 80)], [], none⟩, ⟨[(6, 81)], [], none⟩, ⟨[(2, 77), (7, 82)], [], none⟩, ⟨[(8, 83)], [], none⟩, ⟨[(9, 84)], [5], some (84, false)⟩, ⟨[(9, 84), (10, 85)], [], some (84, false)⟩, ⟨[(9, 84)], [6], some (84, false)⟩, ⟨[(9, 84), (12, 87)], [], some (84, false)⟩, ⟨[(9, 84), (13, 88)], [], some (84, false)⟩, ⟨[(9, 84), (14, 89)], [], some (84, false)⟩, ⟨[(9, 84), (11, 86), (15, 90)], [], some (84, false)⟩, ⟨[(9, 84), (16, 91)], [], none⟩]
                  [(0, 75), (1, 76), (2, 77), (3, 78), (4, 79), (5, 80), (6, 81), (7, 82), (8, 83), (9, 84), (10, 85), (11, 86), (12, 87), (13, 88), (14, 89), (15, 90), (16, 91), (17, 92)] (by kernel_rfl) (by kernel_rfl) (by kernel_rfl) (by kernel_rfl) ?_ ?_ ?_
                · simp only [Gt.Monos]
                  repeat' apply And.intro
                  all_goals (first | exact trivial | exact Gt.Is.mono _ | exact LdIs.mono _ _)
                · simp only [Gt.Obs]
                  repeat' apply And.intro
                  all_goals try exact trivial
                  all_goals (
                    intro a w5 hg
                    have hg' : Below w3.heap.size w3 w5 := hg
                    simp only [Gt.Pre, Gt.Kept, Gt.Guarded, Gt.tys, List.getD_cons_zero, List.getD_cons_succ, Gt.Is, Nat.zero_add, Nat.reduceAdd]
                    intros
                    try (refine ⟨fun _ => ?_, fun hne => absurd (by assumption) hne⟩))
                  all_goals (first
                    | exact Gt.ok_move rfl (by assumption)
                    | exact Gt.ok_assign rfl (by assumption)
                    | exact Gt.ok_pick rfl (by assumption) (by rw [if_pos rfl]; assumption)
                    | (exact Gt.ok_call (f := 16) rfl #[.pointer (some ⟨z, 0, none⟩)] (by kernel_rfl) (by simp [*]) ((HLD.out w5 hg').mono fun e w6 h => by obtain ⟨A6, c6, h1, h2, h3⟩ := h; exact ⟨_, h1, h3, A6, c6, rfl, h2⟩))
                    | (exact Gt.ok_call (f := 17) rfl #[.pointer (some ⟨z, 0, none⟩)] (by kernel_rfl) (by simp [*]) ((HDN.out w5 hg').mono fun e w6 h => ⟨_, h.1, by rw [h.2]; exact Gt.Gr.refl _, rfl⟩))
                    | (rename_i h6
                       obtain ⟨A6, c6, e6, hI6⟩ := h6
                       have k5 := conv_load hI6 HN2.out
                       rw [← HSG.out] at k5
                       exact Gt.ok_convert rfl e6 k5 rfl)
                    | (exact Gt.ok_convert rfl (by assumption) (HCV.out w5 hg') rfl)
                    | (have g5 : w5.cell? ⟨q, 5, none⟩ = some (.slice Ak n2 ck) := (hg'.cell HQL.out).trans HG5.out
                       have g3 : w5.cell? ⟨q, 3, none⟩ = some (.bool gn) := (hg'.cell HQL.out).trans HG3.out
                       refine Gt.ok_run ?_ rfl
                       simp only [execOp, *]
                       go_simp
                       done))
                · intro a w5 hg
                  have hg' : Below w3.heap.size w3 w5 := hg
                  simp only [Gt.Pre, Gt.tys, List.getD_cons_zero, List.getD_cons_succ, Gt.Is]
                  intro h0 h1 h2 h3 h4 h5 h6 h7 h8 h9 h10 h11 h12 h13 h14 h15 h16 h17
                  obtain ⟨A6, c6, e1, _⟩ := h1
                  show K _ _
                  refine hK _ _ ?_
                  simp only [Gt.puts, List.foldl_cons, List.foldl_nil, h0, h2, h3, h4, h5, h6, h7, h8, h9, h10, h11, h12, h13, h14, h15, h16, h17, e1]
                  simp only [Act.put, List.setIfInBounds_toArray, List.set_cons_zero, List.set_cons_succ]
                  have hT5 := HEND.out w5 hg'
                  have HT5 := Lib.hid hT5
                  clear hT5
                  go_wp2
                  go_roundw
                  case rel => exact ⟨i + 1, _, _, _, _, by go_num, by omega, HT5.out.1, HT5.out.2⟩
                  case measure => simp [intOf]; omega
              · cases hot : Pw.ok (tk b.length + 1) t with
                | false =>
                  have HOT := Lib.hid hot
                  have HOS := Lib.hid ((Pw.eqv_go (tk b.length + 1) HT.out.eqv).2.trans hot)
                  clear hot
                  have HA := Lib.hid (show Calls Try.prog 11 #[.pointer (some ⟨q, 0, none⟩), .agg #[.int .i64 1, .int .i64 N, .int .u8 (y : Int), .slice A m c]] wo (DoP wo q k B0 r (Pw.go (tk b.length + 1) t) (Kp) (.int .i64 3)) from doP_k (fsave_no y A m c wo q k B0 r w.heap.size t Kp b N HRS.out HBO.out HI0.out HM.out (fun o hne => in_no HI0.out H4.out.bq hne o) (by omega) HTS.out.2 HOT.out))
                  refine HA.out.mono ?_
                  rintro e w2 ⟨rfl, hrr, hk2⟩
                  have hq2 : Sq w2 z p g r s Kp := HSQ.out.k2 hk2 ⟨H4.out.zq, H4.out.pq, H4.out.gq⟩ HKN.out
                  have hob : w2.heap[wr.heap.size]? = wo.heap[wr.heap.size]? := hk2.block _ (by rw [HSO.out]; omega) (by have := HQW.out; omega) (by have := HKW.out; omega)
                  have HB2 := Lib.hid (HWO.out.trans (hk2.below HWO.out.size H4.out.bq HKB.out))
                  have x0 := (cell_heap hob).trans (HOP.out 0 (.int .i64 1) rfl)
                  have x1 := (cell_heap hob).trans (HOP.out 1 (.int .i64 N) rfl)
                  have x2 := (cell_heap hob).trans (HOP.out 2 (.int .u8 (y : Int)) rfl)
                  have x3 := (cell_heap hob).trans (HOP.out 3 (.slice A m c) rfl)
                  have HS2 := Lib.hid hk2.size
                  have hI2 : In w2 w.heap.size A c b := HIb.out.below HB2.out
                  have HPC := Lib.hid (show Calls Try.prog 12 #[.pointer (some ⟨z, 0, none⟩), .slice A m c] w2 (SzP w2 z p g r (Pw.go (tk b.length + 1) s) (Kp) (.int .i64 3)) from szP_to (sq_no z p g r w.heap.size Kp b s A m c w2 hq2 hI2 (fun o hne => ⟨in_no hI2 H4.out.bz hne o, in_no hI2 H4.out.bp hne o, in_no hI2 H4.out.bg hne o⟩) HM.out (by omega) HTS.out.1 HOS.out))
                  clear hI2 hk2 hq2 hob HA
                  go_wp2_with fail
                  refine HPC.out.mono ?_
                  rintro e w3 ⟨rfl, hq3, hk3⟩
                  replace hrr : ∃ k', (k' = k ∨ k' = q ∨ wo.heap.size ≤ k') ∧ Rs w3 q k' B0 r (Pw.go (tk b.length + 1) t) (Kp) := by
                    obtain ⟨k', h1, h2⟩ := hrr
                    exact ⟨k', h1, h2.k3 hk3 ⟨Ne.symm H4.out.zq, Ne.symm H4.out.pq, Ne.symm H4.out.gq⟩ ⟨H4.out.z0, H4.out.p0, H4.out.g0⟩⟩
                  have HB3 := Lib.hid (HB2.out.trans (hk3.below HB2.out.size H4.out.bz H4.out.bp H4.out.bg))
                  have HBS := Lib.hid (show wr.heap.size ≤ w3.heap.size by have := HSO.out; have := HS2.out; have := hk3.size; omega)
                  clear hk3 HB2 HS2 x0 x1 x2 x3
                  obtain ⟨k2, hk2or, hr3⟩ := hrr
                  have hr3w := hr3
                  obtain ⟨dirty, Ak, ck, hbx, how, -⟩ := hr3.box
                  obtain ⟨n2, hn2⟩ : ∃ n2, n2 = (Kp).length := ⟨_, rfl⟩
                  obtain ⟨σ, hσ⟩ : ∃ σ, σ = str (Kp) := ⟨_, rfl⟩
                  obtain ⟨gn, hgn⟩ : ∃ gn, gn = ((Pw.go (tk b.length + 1) t)).gone := ⟨_, rfl⟩
                  rw [← hgn, ← hn2] at hbx
                  have HN2 := Lib.hid hn2
                  have HSG := Lib.hid hσ
                  have HQL := Lib.hid (show q < w3.heap.size from hbx.lt)
                  have HG5 := Lib.hid (show w3.cell? ⟨q, 5, none⟩ = some (.slice Ak n2 ck) from hbx.cell 5)
                  have HG3 := Lib.hid (show w3.cell? ⟨q, 3, none⟩ = some (.bool gn) from hbx.cell 3)
                  have HCV := Lib.hid (show ∀ w5, Below w3.heap.size w3 w5 → (convert 28 9 (.slice Ak n2 ck)).run Try.prog w5 = .ok (.string σ) w5 from fun w5 hg => by
                    have h1 := (how.inn).below hg
                    have h2 := conv_sl (P := Try.prog) h1.sl Try.underlying28 Try.underlying5 Try.underlying9 ck
                    rw [← hn2, ← hσ] at h2
                    exact h2)
                  have HLD := Lib.hid (show ∀ w5, Below w3.heap.size w3 w5 → Calls Try.prog 16 #[.pointer (some ⟨z, 0, none⟩)] w5 fun e w' => ∃ A c, e = .returned (.slice A n2 c) ∧ In w' w'.heap.size A c (Kp) ∧ Below w5.heap.size w5 w' from fun w5 hg => by
                    rw [hn2]; exact sq_load z p g r _ _ w5 (hq3.below hg (Nat.le_refl _)))
                  have HDN := Lib.hid (show ∀ w5, Below w3.heap.size w3 w5 → Calls Try.prog 17 #[.pointer (some ⟨z, 0, none⟩)] w5 fun e w' => e = .returned (.bool gn) ∧ w' = w5 from fun w5 hg => by
                    have h1 := sq_down z p g r _ _ w5 (hq3.below hg (Nat.le_refl _))
                    rw [show ((Pw.go (tk b.length + 1) s)).gone = gn from ((Pw.eqv_go _ HT.out.eqv).1).2.trans hgn.symm] at h1
                    exact h1)
                  have HEND := Lib.hid (show ∀ w5, Below w3.heap.size w3 w5 → B0 ≤ w5.heap.size ∧ Two w z p g q k2 B0 r ((Pw.go (tk b.length + 1) s)) ((Pw.go (tk b.length + 1) t)) (Kp) ((i + 1) * 4096) w5 from fun w5 hg => ⟨Nat.le_trans HB0.out (Nat.le_trans HBS.out hg.size), hq3.below hg (Nat.le_refl _), hr3w.below hg (Nat.le_refl _), HB3.out.trans (hg.mono HB3.out.size), (Pw.eqv_go _ HT.out.eqv).1, (pw_max HT.out.su (show tk b.length + 1 ≤ 513 by have := HR5.out; rw [← HM.out]; omega) (show tk Kp.length ≤ 512 by have := HT.out.rs.len; have := HR5.out; omega) rfl).1, (pw_max HT.out.tu (show tk b.length + 1 ≤ 513 by have := HR5.out; rw [← HM.out]; omega) (show tk Kp.length ≤ 512 by have := HT.out.rs.len; have := HR5.out; omega) rfl).1⟩)
                  clear hr3w hr3 hbx how hn2 hσ hgn hq3 hk2or HBS HB3
                  go_wp2
                  rename_i K hK
                  refine Gt.regionA [Gt.Is (.pointer (some ⟨z, 0, none⟩)), LdIs n2 (Kp), Gt.Is (.string σ), Gt.Is (.pointer (some ⟨q, 0, none⟩)), Gt.Is (.pointer (some ⟨q, 0, none⟩)), Gt.Is (.pointer (some ⟨q, 5, none⟩)), Gt.Is (.slice Ak n2 ck), Gt.Is (.string σ), Gt.Is (.bool false), Gt.Is (.bool false), Gt.Is (.pointer (some ⟨z, 0, none⟩)), Gt.Is (.bool gn), Gt.Is (.pointer (some ⟨q, 0, none⟩)), Gt.Is (.pointer (some ⟨q, 0, none⟩)), Gt.Is (.pointer (some ⟨q, 3, none⟩)), Gt.Is (.bool gn), Gt.Is (.bool false), Gt.Is (.bool false)] 94
                    [⟨[], [5], none⟩, ⟨[(0, 75)], [], none⟩, ⟨[(1, 76)], [], none⟩, ⟨[], [6], none⟩, ⟨[(3, 78)], [], none⟩, ⟨[(4, 79)], [], none⟩, ⟨[(5, 80)], [], none⟩, ⟨[(6, 81)], [], none⟩, ⟨[(2, 77), (7, 82)], [], none⟩, ⟨[(8, 83)], [], none⟩, ⟨[(9, 84)], [5], some (84, false)⟩, ⟨[(9, 84), (10, 85)], [], some (84, false)⟩, ⟨[(9, 84)], [6], some (84, false)⟩, ⟨[(9, 84), (12, 87)], [], some (84, false)⟩, ⟨[(9, 84), (13, 88)], [], some (84, false)⟩, ⟨[(9, 84), (14, 89)], [], some (84, false)⟩, ⟨[(9, 84), (11, 86), (15, 90)], [], some (84, false)⟩, ⟨[(9, 84), (16, 91)], [], none⟩]
                    [(0, 75), (1, 76), (2, 77), (3, 78), (4, 79), (5, 80), (6, 81), (7, 82), (8, 83), (9, 84), (10, 85), (11, 86), (12, 87), (13, 88), (14, 89), (15, 90), (16, 91), (17, 92)] (by kernel_rfl) (by kernel_rfl) (by kernel_rfl) (by kernel_rfl) ?_ ?_ ?_
                  · simp only [Gt.Monos]
                    repeat' apply And.intro
                    all_goals (first | exact trivial | exact Gt.Is.mono _ | exact LdIs.mono _ _)
                  · simp only [Gt.Obs]
                    repeat' apply And.intro
                    all_goals try exact trivial
                    all_goals (
                      intro a w5 hg
                      have hg' : Below w3.heap.size w3 w5 := hg
                      simp only [Gt.Pre, Gt.Kept, Gt.Guarded, Gt.tys, List.getD_cons_zero, List.getD_cons_succ, Gt.Is, Nat.zero_add, Nat.reduceAdd]
                      intros
                      try (refine ⟨fun _ => ?_, fun hne => absurd (by assumption) hne⟩))
                    all_goals (first
                      | exact Gt.ok_move rfl (by assumption)
                      | exact Gt.ok_assign rfl (by assumption)
                      | exact Gt.ok_pick rfl (by assumption) (by rw [if_pos rfl]; assumption)
                      | (exact Gt.ok_call (f := 16) rfl #[.pointer (some ⟨z, 0, none⟩)] (by kernel_rfl) (by simp [*]) ((HLD.out w5 hg').mono fun e w6 h => by obtain ⟨A6, c6, h1, h2, h3⟩ := h; exact ⟨_, h1, h3, A6, c6, rfl, h2⟩))
                      | (exact Gt.ok_call (f := 17) rfl #[.pointer (some ⟨z, 0, none⟩)] (by kernel_rfl) (by simp [*]) ((HDN.out w5 hg').mono fun e w6 h => ⟨_, h.1, by rw [h.2]; exact Gt.Gr.refl _, rfl⟩))
                      | (rename_i h6
                         obtain ⟨A6, c6, e6, hI6⟩ := h6
                         have k5 := conv_load hI6 HN2.out
                         rw [← HSG.out] at k5
                         exact Gt.ok_convert rfl e6 k5 rfl)
                      | (exact Gt.ok_convert rfl (by assumption) (HCV.out w5 hg') rfl)
                      | (have g5 : w5.cell? ⟨q, 5, none⟩ = some (.slice Ak n2 ck) := (hg'.cell HQL.out).trans HG5.out
                         have g3 : w5.cell? ⟨q, 3, none⟩ = some (.bool gn) := (hg'.cell HQL.out).trans HG3.out
                         refine Gt.ok_run ?_ rfl
                         simp only [execOp, *]
                         go_simp
                         done))
                  · intro a w5 hg
                    have hg' : Below w3.heap.size w3 w5 := hg
                    simp only [Gt.Pre, Gt.tys, List.getD_cons_zero, List.getD_cons_succ, Gt.Is]
                    intro h0 h1 h2 h3 h4 h5 h6 h7 h8 h9 h10 h11 h12 h13 h14 h15 h16 h17
                    obtain ⟨A6, c6, e1, _⟩ := h1
                    show K _ _
                    refine hK _ _ ?_
                    simp only [Gt.puts, List.foldl_cons, List.foldl_nil, h0, h2, h3, h4, h5, h6, h7, h8, h9, h10, h11, h12, h13, h14, h15, h16, h17, e1]
                    simp only [Act.put, List.setIfInBounds_toArray, List.set_cons_zero, List.set_cons_succ]
                    have hT5 := HEND.out w5 hg'
                    have HT5 := Lib.hid hT5
                    clear hT5
                    go_wp2
                    go_roundw
                    case rel => exact ⟨i + 1, _, _, _, _, by go_num, by omega, HT5.out.1, HT5.out.2⟩
                    case measure => simp [intOf]; omega
                | true =>
                  have HOT := Lib.hid hot
                  have HOS := Lib.hid ((Pw.eqv_go (tk b.length + 1) HT.out.eqv).2.trans hot)
                  clear hot
                  have HA := Lib.hid (show Calls Try.prog 11 #[.pointer (some ⟨q, 0, none⟩), .agg #[.int .i64 1, .int .i64 N, .int .u8 (y : Int), .slice A m c]] wo (DoP wo q k B0 r (Pw.go (tk Kp.length) (Pw.go (tk b.length + 1) t)) (b) (.int .i64 (bif Pw.ok (tk Kp.length) (Pw.go (tk b.length + 1) t) then 0 else 3))) from doP_y (fsave_yes y A m c wo q k B0 r w.heap.size t Kp b N HRS.out HBO.out HI0.out HM.out (fun o hne => in_no HI0.out H4.out.bq hne o) (by omega) HTS.out.2 HOT.out))
                  refine HA.out.mono ?_
                  rintro e w2 ⟨rfl, hrr, hk2⟩
                  have hq2 : Sq w2 z p g r s Kp := HSQ.out.k2 hk2 ⟨H4.out.zq, H4.out.pq, H4.out.gq⟩ HKN.out
                  have hob : w2.heap[wr.heap.size]? = wo.heap[wr.heap.size]? := hk2.block _ (by rw [HSO.out]; omega) (by have := HQW.out; omega) (by have := HKW.out; omega)
                  have HB2 := Lib.hid (HWO.out.trans (hk2.below HWO.out.size H4.out.bq HKB.out))
                  have x0 := (cell_heap hob).trans (HOP.out 0 (.int .i64 1) rfl)
                  have x1 := (cell_heap hob).trans (HOP.out 1 (.int .i64 N) rfl)
                  have x2 := (cell_heap hob).trans (HOP.out 2 (.int .u8 (y : Int)) rfl)
                  have x3 := (cell_heap hob).trans (HOP.out 3 (.slice A m c) rfl)
                  have HS2 := Lib.hid hk2.size
                  have hI2 : In w2 w.heap.size A c b := HIb.out.below HB2.out
                  have HPC := Lib.hid (show Calls Try.prog 12 #[.pointer (some ⟨z, 0, none⟩), .slice A m c] w2 (SzP w2 z p g r (Pw.go (tk Kp.length) (Pw.go (tk b.length + 1) s)) (b) (.int .i64 (bif Pw.ok (tk Kp.length) (Pw.go (tk b.length + 1) t) then 0 else 3))) from szP_to (by rw [← (Pw.eqv_go (tk Kp.length) (Pw.eqv_go (tk b.length + 1) HT.out.eqv).1).2]; exact sq_yes z p g r w.heap.size Kp b s A m c w2 hq2 hI2 (fun o hne => ⟨in_no hI2 H4.out.bz hne o, in_no hI2 H4.out.bp hne o, in_no hI2 H4.out.bg hne o⟩) HM.out (by omega) HTS.out.1 HOS.out))
                  clear hI2 hk2 hq2 hob HA
                  go_wp2_with fail
                  refine HPC.out.mono ?_
                  rintro e w3 ⟨rfl, hq3, hk3⟩
                  replace hrr : ∃ k', (k' = k ∨ k' = q ∨ wo.heap.size ≤ k') ∧ Rs w3 q k' B0 r (Pw.go (tk Kp.length) (Pw.go (tk b.length + 1) t)) (b) := by
                    obtain ⟨k', h1, h2⟩ := hrr
                    exact ⟨k', h1, h2.k3 hk3 ⟨Ne.symm H4.out.zq, Ne.symm H4.out.pq, Ne.symm H4.out.gq⟩ ⟨H4.out.z0, H4.out.p0, H4.out.g0⟩⟩
                  have HB3 := Lib.hid (HB2.out.trans (hk3.below HB2.out.size H4.out.bz H4.out.bp H4.out.bg))
                  have HBS := Lib.hid (show wr.heap.size ≤ w3.heap.size by have := HSO.out; have := HS2.out; have := hk3.size; omega)
                  clear hk3 HB2 HS2 x0 x1 x2 x3
                  obtain ⟨k2, hk2or, hr3⟩ := hrr
                  have hr3w := hr3
                  obtain ⟨dirty, Ak, ck, hbx, how, -⟩ := hr3.box
                  obtain ⟨n2, hn2⟩ : ∃ n2, n2 = (b).length := ⟨_, rfl⟩
                  obtain ⟨σ, hσ⟩ : ∃ σ, σ = str (b) := ⟨_, rfl⟩
                  obtain ⟨gn, hgn⟩ : ∃ gn, gn = ((Pw.go (tk Kp.length) (Pw.go (tk b.length + 1) t))).gone := ⟨_, rfl⟩
                  rw [← hgn, ← hn2] at hbx
                  have HN2 := Lib.hid hn2
                  have HSG := Lib.hid hσ
                  have HQL := Lib.hid (show q < w3.heap.size from hbx.lt)
                  have HG5 := Lib.hid (show w3.cell? ⟨q, 5, none⟩ = some (.slice Ak n2 ck) from hbx.cell 5)
                  have HG3 := Lib.hid (show w3.cell? ⟨q, 3, none⟩ = some (.bool gn) from hbx.cell 3)
                  have HCV := Lib.hid (show ∀ w5, Below w3.heap.size w3 w5 → (convert 28 9 (.slice Ak n2 ck)).run Try.prog w5 = .ok (.string σ) w5 from fun w5 hg => by
                    have h1 := (how.inn).below hg
                    have h2 := conv_sl (P := Try.prog) h1.sl Try.underlying28 Try.underlying5 Try.underlying9 ck
                    rw [← hn2, ← hσ] at h2
                    exact h2)
                  have HLD := Lib.hid (show ∀ w5, Below w3.heap.size w3 w5 → Calls Try.prog 16 #[.pointer (some ⟨z, 0, none⟩)] w5 fun e w' => ∃ A c, e = .returned (.slice A n2 c) ∧ In w' w'.heap.size A c (b) ∧ Below w5.heap.size w5 w' from fun w5 hg => by
                    rw [hn2]; exact sq_load z p g r _ _ w5 (hq3.below hg (Nat.le_refl _)))
                  have HDN := Lib.hid (show ∀ w5, Below w3.heap.size w3 w5 → Calls Try.prog 17 #[.pointer (some ⟨z, 0, none⟩)] w5 fun e w' => e = .returned (.bool gn) ∧ w' = w5 from fun w5 hg => by
                    have h1 := sq_down z p g r _ _ w5 (hq3.below hg (Nat.le_refl _))
                    rw [show ((Pw.go (tk Kp.length) (Pw.go (tk b.length + 1) s))).gone = gn from ((Pw.eqv_go _ (Pw.eqv_go _ HT.out.eqv).1).1).2.trans hgn.symm] at h1
                    exact h1)
                  have HEND := Lib.hid (show ∀ w5, Below w3.heap.size w3 w5 → B0 ≤ w5.heap.size ∧ Two w z p g q k2 B0 r ((Pw.go (tk Kp.length) (Pw.go (tk b.length + 1) s))) ((Pw.go (tk Kp.length) (Pw.go (tk b.length + 1) t))) (b) ((i + 1) * 4096) w5 from fun w5 hg => ⟨Nat.le_trans HB0.out (Nat.le_trans HBS.out hg.size), hq3.below hg (Nat.le_refl _), hr3w.below hg (Nat.le_refl _), HB3.out.trans (hg.mono HB3.out.size), (Pw.eqv_go _ (Pw.eqv_go _ HT.out.eqv).1).1, (pw_max HT.out.su (show tk b.length + 1 ≤ 513 by have := HR5.out; rw [← HM.out]; omega) (show tk Kp.length ≤ 512 by have := HT.out.rs.len; have := HR5.out; omega) rfl).2, (pw_max HT.out.tu (show tk b.length + 1 ≤ 513 by have := HR5.out; rw [← HM.out]; omega) (show tk Kp.length ≤ 512 by have := HT.out.rs.len; have := HR5.out; omega) rfl).2⟩)
                  clear hr3w hr3 hbx how hn2 hσ hgn hq3 hk2or HBS HB3
                  go_wp2
                  rename_i K hK
                  refine Gt.regionA [Gt.Is (.pointer (some ⟨z, 0, none⟩)), LdIs n2 (b), Gt.Is (.string σ), Gt.Is (.pointer (some ⟨q, 0, none⟩)), Gt.Is (.pointer (some ⟨q, 0, none⟩)), Gt.Is (.pointer (some ⟨q, 5, none⟩)), Gt.Is (.slice Ak n2 ck), Gt.Is (.string σ), Gt.Is (.bool false), Gt.Is (.bool false), Gt.Is (.pointer (some ⟨z, 0, none⟩)), Gt.Is (.bool gn), Gt.Is (.pointer (some ⟨q, 0, none⟩)), Gt.Is (.pointer (some ⟨q, 0, none⟩)), Gt.Is (.pointer (some ⟨q, 3, none⟩)), Gt.Is (.bool gn), Gt.Is (.bool false), Gt.Is (.bool false)] 94
                    [⟨[], [5], none⟩, ⟨[(0, 75)], [], none⟩, ⟨[(1, 76)], [], none⟩, ⟨[], [6], none⟩, ⟨[(3, 78)], [], none⟩, ⟨[(4, 79)], [], none⟩, ⟨[(5, 80)], [], none⟩, ⟨[(6, 81)], [], none⟩, ⟨[(2, 77), (7, 82)], [], none⟩, ⟨[(8, 83)], [], none⟩, ⟨[(9, 84)], [5], some (84, false)⟩, ⟨[(9, 84), (10, 85)], [], some (84, false)⟩, ⟨[(9, 84)], [6], some (84, false)⟩, ⟨[(9, 84), (12, 87)], [], some (84, false)⟩, ⟨[(9, 84), (13, 88)], [], some (84, false)⟩, ⟨[(9, 84), (14, 89)], [], some (84, false)⟩, ⟨[(9, 84), (11, 86), (15, 90)], [], some (84, false)⟩, ⟨[(9, 84), (16, 91)], [], none⟩]
                    [(0, 75), (1, 76), (2, 77), (3, 78), (4, 79), (5, 80), (6, 81), (7, 82), (8, 83), (9, 84), (10, 85), (11, 86), (12, 87), (13, 88), (14, 89), (15, 90), (16, 91), (17, 92)] (by kernel_rfl) (by kernel_rfl) (by kernel_rfl) (by kernel_rfl) ?_ ?_ ?_
                  · simp only [Gt.Monos]
                    repeat' apply And.intro
                    all_goals (first | exact trivial | exact Gt.Is.mono _ | exact LdIs.mono _ _)
                  · simp only [Gt.Obs]
                    repeat' apply And.intro
                    all_goals try exact trivial
                    all_goals (
                      intro a w5 hg
                      have hg' : Below w3.heap.size w3 w5 := hg
                      simp only [Gt.Pre, Gt.Kept, Gt.Guarded, Gt.tys, List.getD_cons_zero, List.getD_cons_succ, Gt.Is, Nat.zero_add, Nat.reduceAdd]
                      intros
                      try (refine ⟨fun _ => ?_, fun hne => absurd (by assumption) hne⟩))
                    all_goals (first
                      | exact Gt.ok_move rfl (by assumption)
                      | exact Gt.ok_assign rfl (by assumption)
                      | exact Gt.ok_pick rfl (by assumption) (by rw [if_pos rfl]; assumption)
                      | (exact Gt.ok_call (f := 16) rfl #[.pointer (some ⟨z, 0, none⟩)] (by kernel_rfl) (by simp [*]) ((HLD.out w5 hg').mono fun e w6 h => by obtain ⟨A6, c6, h1, h2, h3⟩ := h; exact ⟨_, h1, h3, A6, c6, rfl, h2⟩))
                      | (exact Gt.ok_call (f := 17) rfl #[.pointer (some ⟨z, 0, none⟩)] (by kernel_rfl) (by simp [*]) ((HDN.out w5 hg').mono fun e w6 h => ⟨_, h.1, by rw [h.2]; exact Gt.Gr.refl _, rfl⟩))
                      | (rename_i h6
                         obtain ⟨A6, c6, e6, hI6⟩ := h6
                         have k5 := conv_load hI6 HN2.out
                         rw [← HSG.out] at k5
                         exact Gt.ok_convert rfl e6 k5 rfl)
                      | (exact Gt.ok_convert rfl (by assumption) (HCV.out w5 hg') rfl)
                      | (have g5 : w5.cell? ⟨q, 5, none⟩ = some (.slice Ak n2 ck) := (hg'.cell HQL.out).trans HG5.out
                         have g3 : w5.cell? ⟨q, 3, none⟩ = some (.bool gn) := (hg'.cell HQL.out).trans HG3.out
                         refine Gt.ok_run ?_ rfl
                         simp only [execOp, *]
                         go_simp
                         done))
                  · intro a w5 hg
                    have hg' : Below w3.heap.size w3 w5 := hg
                    simp only [Gt.Pre, Gt.tys, List.getD_cons_zero, List.getD_cons_succ, Gt.Is]
                    intro h0 h1 h2 h3 h4 h5 h6 h7 h8 h9 h10 h11 h12 h13 h14 h15 h16 h17
                    obtain ⟨A6, c6, e1, _⟩ := h1
                    show K _ _
                    refine hK _ _ ?_
                    simp only [Gt.puts, List.foldl_cons, List.foldl_nil, h0, h2, h3, h4, h5, h6, h7, h8, h9, h10, h11, h12, h13, h14, h15, h16, h17, e1]
                    simp only [Act.put, List.setIfInBounds_toArray, List.set_cons_zero, List.set_cons_succ]
                    have hT5 := HEND.out w5 hg'
                    have HT5 := Lib.hid hT5
                    clear hT5
                    go_wp2
                    go_roundw
                    case rel => exact ⟨i + 1, _, _, _, _, by go_num, by omega, HT5.out.1, HT5.out.2⟩
                    case measure => simp [intOf]; omega
            · by_cases k2 : E = 2
              · subst k2
                have HA := Lib.hid (show Calls Try.prog 11 #[.pointer (some ⟨q, 0, none⟩), .agg #[.int .i64 2, .int .i64 N, .int .u8 (y : Int), .slice A m c]] wo (DoP wo q k B0 r (⟨-1, false, t.u⟩ : Pw) (Kp) (.int .i64 0)) from doP_q (fslot_start y A m c wo q k B0 r t Kp N HRS.out))
                refine HA.out.mono ?_
                rintro e w2 ⟨rfl, hrr, hk2⟩
                have hq2 : Sq w2 z p g r s Kp := HSQ.out.k2 hk2 ⟨H4.out.zq, H4.out.pq, H4.out.gq⟩ HKN.out
                have hob : w2.heap[wr.heap.size]? = wo.heap[wr.heap.size]? := hk2.block _ (by rw [HSO.out]; omega) (by have := HQW.out; omega) (by have := HKW.out; omega)
                have HB2 := Lib.hid (HWO.out.trans (hk2.below HWO.out.size H4.out.bq HKB.out))
                have x0 := (cell_heap hob).trans (HOP.out 0 (.int .i64 2) rfl)
                have x1 := (cell_heap hob).trans (HOP.out 1 (.int .i64 N) rfl)
                have x2 := (cell_heap hob).trans (HOP.out 2 (.int .u8 (y : Int)) rfl)
                have x3 := (cell_heap hob).trans (HOP.out 3 (.slice A m c) rfl)
                have HS2 := Lib.hid hk2.size
                have hI2 : In w2 w.heap.size A c b := HIb.out.below HB2.out
                have HPC := Lib.hid (show Calls Try.prog 13 #[.pointer (some ⟨z, 0, none⟩)] w2 (fun e w' => ∃ u2, e = .returned (.tuple #[]) ∧ Sq w' z p g r ⟨-1, false, u2⟩ Kp ∧ u2 ≤ s.u + r ∧ K3 w2 w' z p g) from sq_start z p g r Kp s w2 hq2 HTS.out.1)
                clear hI2 hk2 hq2 hob HA
                go_wp2_with fail
                refine HPC.out.mono ?_
                rintro e w3 ⟨u2, rfl, hq3, hu2', hk3⟩
                have hu2 : (⟨-1, false, u2⟩ : Pw).u ≤ (i + 1) * 4096 := by show u2 ≤ _; have := HT.out.su; have := HR5.out; omega
                replace hrr : ∃ k', (k' = k ∨ k' = q ∨ wo.heap.size ≤ k') ∧ Rs w3 q k' B0 r (⟨-1, false, t.u⟩ : Pw) (Kp) := by
                  obtain ⟨k', h1, h2⟩ := hrr
                  exact ⟨k', h1, h2.k3 hk3 ⟨Ne.symm H4.out.zq, Ne.symm H4.out.pq, Ne.symm H4.out.gq⟩ ⟨H4.out.z0, H4.out.p0, H4.out.g0⟩⟩
                have HB3 := Lib.hid (HB2.out.trans (hk3.below HB2.out.size H4.out.bz H4.out.bp H4.out.bg))
                have HBS := Lib.hid (show wr.heap.size ≤ w3.heap.size by have := HSO.out; have := HS2.out; have := hk3.size; omega)
                clear hk3 hu2' HB2 HS2 x0 x1 x2 x3
                obtain ⟨k2, hk2or, hr3⟩ := hrr
                have hr3w := hr3
                obtain ⟨dirty, Ak, ck, hbx, how, -⟩ := hr3.box
                obtain ⟨n2, hn2⟩ : ∃ n2, n2 = (Kp).length := ⟨_, rfl⟩
                obtain ⟨σ, hσ⟩ : ∃ σ, σ = str (Kp) := ⟨_, rfl⟩
                obtain ⟨gn, hgn⟩ : ∃ gn, gn = ((⟨-1, false, t.u⟩ : Pw)).gone := ⟨_, rfl⟩
                rw [← hgn, ← hn2] at hbx
                have HN2 := Lib.hid hn2
                have HSG := Lib.hid hσ
                have HQL := Lib.hid (show q < w3.heap.size from hbx.lt)
                have HG5 := Lib.hid (show w3.cell? ⟨q, 5, none⟩ = some (.slice Ak n2 ck) from hbx.cell 5)
                have HG3 := Lib.hid (show w3.cell? ⟨q, 3, none⟩ = some (.bool gn) from hbx.cell 3)
                have HCV := Lib.hid (show ∀ w5, Below w3.heap.size w3 w5 → (convert 28 9 (.slice Ak n2 ck)).run Try.prog w5 = .ok (.string σ) w5 from fun w5 hg => by
                  have h1 := (how.inn).below hg
                  have h2 := conv_sl (P := Try.prog) h1.sl Try.underlying28 Try.underlying5 Try.underlying9 ck
                  rw [← hn2, ← hσ] at h2
                  exact h2)
                have HLD := Lib.hid (show ∀ w5, Below w3.heap.size w3 w5 → Calls Try.prog 16 #[.pointer (some ⟨z, 0, none⟩)] w5 fun e w' => ∃ A c, e = .returned (.slice A n2 c) ∧ In w' w'.heap.size A c (Kp) ∧ Below w5.heap.size w5 w' from fun w5 hg => by
                  rw [hn2]; exact sq_load z p g r _ _ w5 (hq3.below hg (Nat.le_refl _)))
                have HDN := Lib.hid (show ∀ w5, Below w3.heap.size w3 w5 → Calls Try.prog 17 #[.pointer (some ⟨z, 0, none⟩)] w5 fun e w' => e = .returned (.bool gn) ∧ w' = w5 from fun w5 hg => by
                  have h1 := sq_down z p g r _ _ w5 (hq3.below hg (Nat.le_refl _))
                  rw [show ((⟨-1, false, u2⟩ : Pw)).gone = gn from ((show Pw.eqv ⟨-1, false, u2⟩ ⟨-1, false, t.u⟩ from ⟨rfl, rfl⟩)).2.trans hgn.symm] at h1
                  exact h1)
                have HEND := Lib.hid (show ∀ w5, Below w3.heap.size w3 w5 → B0 ≤ w5.heap.size ∧ Two w z p g q k2 B0 r ((⟨-1, false, u2⟩ : Pw)) ((⟨-1, false, t.u⟩ : Pw)) (Kp) ((i + 1) * 4096) w5 from fun w5 hg => ⟨Nat.le_trans HB0.out (Nat.le_trans HBS.out hg.size), hq3.below hg (Nat.le_refl _), hr3w.below hg (Nat.le_refl _), HB3.out.trans (hg.mono HB3.out.size), (show Pw.eqv ⟨-1, false, u2⟩ ⟨-1, false, t.u⟩ from ⟨rfl, rfl⟩), hu2, (show t.u ≤ _ by have := HT.out.tu; omega)⟩)
                clear hr3w hr3 hbx how hn2 hσ hgn hq3 hk2or HBS HB3
                go_wp2
                rename_i K hK
                refine Gt.regionA [Gt.Is (.pointer (some ⟨z, 0, none⟩)), LdIs n2 (Kp), Gt.Is (.string σ), Gt.Is (.pointer (some ⟨q, 0, none⟩)), Gt.Is (.pointer (some ⟨q, 0, none⟩)), Gt.Is (.pointer (some ⟨q, 5, none⟩)), Gt.Is (.slice Ak n2 ck), Gt.Is (.string σ), Gt.Is (.bool false), Gt.Is (.bool false), Gt.Is (.pointer (some ⟨z, 0, none⟩)), Gt.Is (.bool gn), Gt.Is (.pointer (some ⟨q, 0, none⟩)), Gt.Is (.pointer (some ⟨q, 0, none⟩)), Gt.Is (.pointer (some ⟨q, 3, none⟩)), Gt.Is (.bool gn), Gt.Is (.bool false), Gt.Is (.bool false)] 94
                  [⟨[], [5], none⟩, ⟨[(0, 75)], [], none⟩, ⟨[(1, 76)], [], none⟩, ⟨[], [6], none⟩, ⟨[(3, 78)], [], none⟩, ⟨[(4, 79)], [], none⟩, ⟨[(5, 80)], [], none⟩, ⟨[(6, 81)], [], none⟩, ⟨[(2, 77), (7, 82)], [], none⟩, ⟨[(8, 83)], [], none⟩, ⟨[(9, 84)], [5], some (84, false)⟩, ⟨[(9, 84), (10, 85)], [], some (84, false)⟩, ⟨[(9, 84)], [6], some (84, false)⟩, ⟨[(9, 84), (12, 87)], [], some (84, false)⟩, ⟨[(9, 84), (13, 88)], [], some (84, false)⟩, ⟨[(9, 84), (14, 89)], [], some (84, false)⟩, ⟨[(9, 84), (11, 86), (15, 90)], [], some (84, false)⟩, ⟨[(9, 84), (16, 91)], [], none⟩]
                  [(0, 75), (1, 76), (2, 77), (3, 78), (4, 79), (5, 80), (6, 81), (7, 82), (8, 83), (9, 84), (10, 85), (11, 86), (12, 87), (13, 88), (14, 89), (15, 90), (16, 91), (17, 92)] (by kernel_rfl) (by kernel_rfl) (by kernel_rfl) (by kernel_rfl) ?_ ?_ ?_
                · simp only [Gt.Monos]
                  repeat' apply And.intro
                  all_goals (first | exact trivial | exact Gt.Is.mono _ | exact LdIs.mono _ _)
                · simp only [Gt.Obs]
                  repeat' apply And.intro
                  all_goals try exact trivial
                  all_goals (
                    intro a w5 hg
                    have hg' : Below w3.heap.size w3 w5 := hg
                    simp only [Gt.Pre, Gt.Kept, Gt.Guarded, Gt.tys, List.getD_cons_zero, List.getD_cons_succ, Gt.Is, Nat.zero_add, Nat.reduceAdd]
                    intros
                    try (refine ⟨fun _ => ?_, fun hne => absurd (by assumption) hne⟩))
                  all_goals (first
                    | exact Gt.ok_move rfl (by assumption)
                    | exact Gt.ok_assign rfl (by assumption)
                    | exact Gt.ok_pick rfl (by assumption) (by rw [if_pos rfl]; assumption)
                    | (exact Gt.ok_call (f := 16) rfl #[.pointer (some ⟨z, 0, none⟩)] (by kernel_rfl) (by simp [*]) ((HLD.out w5 hg').mono fun e w6 h => by obtain ⟨A6, c6, h1, h2, h3⟩ := h; exact ⟨_, h1, h3, A6, c6, rfl, h2⟩))
                    | (exact Gt.ok_call (f := 17) rfl #[.pointer (some ⟨z, 0, none⟩)] (by kernel_rfl) (by simp [*]) ((HDN.out w5 hg').mono fun e w6 h => ⟨_, h.1, by rw [h.2]; exact Gt.Gr.refl _, rfl⟩))
                    | (rename_i h6
                       obtain ⟨A6, c6, e6, hI6⟩ := h6
                       have k5 := conv_load hI6 HN2.out
                       rw [← HSG.out] at k5
                       exact Gt.ok_convert rfl e6 k5 rfl)
                    | (exact Gt.ok_convert rfl (by assumption) (HCV.out w5 hg') rfl)
                    | (have g5 : w5.cell? ⟨q, 5, none⟩ = some (.slice Ak n2 ck) := (hg'.cell HQL.out).trans HG5.out
                       have g3 : w5.cell? ⟨q, 3, none⟩ = some (.bool gn) := (hg'.cell HQL.out).trans HG3.out
                       refine Gt.ok_run ?_ rfl
                       simp only [execOp, *]
                       go_simp
                       done))
                · intro a w5 hg
                  have hg' : Below w3.heap.size w3 w5 := hg
                  simp only [Gt.Pre, Gt.tys, List.getD_cons_zero, List.getD_cons_succ, Gt.Is]
                  intro h0 h1 h2 h3 h4 h5 h6 h7 h8 h9 h10 h11 h12 h13 h14 h15 h16 h17
                  obtain ⟨A6, c6, e1, _⟩ := h1
                  show K _ _
                  refine hK _ _ ?_
                  simp only [Gt.puts, List.foldl_cons, List.foldl_nil, h0, h2, h3, h4, h5, h6, h7, h8, h9, h10, h11, h12, h13, h14, h15, h16, h17, e1]
                  simp only [Act.put, List.setIfInBounds_toArray, List.set_cons_zero, List.set_cons_succ]
                  have hT5 := HEND.out w5 hg'
                  have HT5 := Lib.hid hT5
                  clear hT5
                  go_wp2
                  go_roundw
                  case rel => exact ⟨i + 1, _, _, _, _, by go_num, by omega, HT5.out.1, HT5.out.2⟩
                  case measure => simp [intOf]; omega
              · by_cases k3 : E = 3
                · subst k3
                  have HA := Lib.hid (show Calls Try.prog 11 #[.pointer (some ⟨q, 0, none⟩), .agg #[.int .i64 3, .int .i64 N, .int .u8 (y : Int), .slice A m c]] wo (DoP wo q k B0 r (⟨(N.toNat : Int), t.gone, t.u⟩ : Pw) (Kp) (.int .i64 0)) from doP_q (fslot_fuse y A m c wo q k B0 r t Kp N (by have := bounds_i64 HNI.out; omega) HRS.out))
                  refine HA.out.mono ?_
                  rintro e w2 ⟨rfl, hrr, hk2⟩
                  have hq2 : Sq w2 z p g r s Kp := HSQ.out.k2 hk2 ⟨H4.out.zq, H4.out.pq, H4.out.gq⟩ HKN.out
                  have hob : w2.heap[wr.heap.size]? = wo.heap[wr.heap.size]? := hk2.block _ (by rw [HSO.out]; omega) (by have := HQW.out; omega) (by have := HKW.out; omega)
                  have HB2 := Lib.hid (HWO.out.trans (hk2.below HWO.out.size H4.out.bq HKB.out))
                  have x0 := (cell_heap hob).trans (HOP.out 0 (.int .i64 3) rfl)
                  have x1 := (cell_heap hob).trans (HOP.out 1 (.int .i64 N) rfl)
                  have x2 := (cell_heap hob).trans (HOP.out 2 (.int .u8 (y : Int)) rfl)
                  have x3 := (cell_heap hob).trans (HOP.out 3 (.slice A m c) rfl)
                  have HS2 := Lib.hid hk2.size
                  have hI2 : In w2 w.heap.size A c b := HIb.out.below HB2.out
                  have HPC := Lib.hid (show Calls Try.prog 14 #[.pointer (some ⟨z, 0, none⟩), .int .i64 N] w2 (SzP w2 z p g r (⟨(N.toNat : Int), s.gone, s.u⟩ : Pw) (Kp) (.tuple #[])) from szP_to (sq_fuse z p g r Kp s N w2 hq2 (by have := bounds_i64 HNI.out; omega)))
                  clear hI2 hk2 hq2 hob HA
                  go_wp2_with fail
                  refine HPC.out.mono ?_
                  rintro e w3 ⟨rfl, hq3, hk3⟩
                  replace hrr : ∃ k', (k' = k ∨ k' = q ∨ wo.heap.size ≤ k') ∧ Rs w3 q k' B0 r (⟨(N.toNat : Int), t.gone, t.u⟩ : Pw) (Kp) := by
                    obtain ⟨k', h1, h2⟩ := hrr
                    exact ⟨k', h1, h2.k3 hk3 ⟨Ne.symm H4.out.zq, Ne.symm H4.out.pq, Ne.symm H4.out.gq⟩ ⟨H4.out.z0, H4.out.p0, H4.out.g0⟩⟩
                  have HB3 := Lib.hid (HB2.out.trans (hk3.below HB2.out.size H4.out.bz H4.out.bp H4.out.bg))
                  have HBS := Lib.hid (show wr.heap.size ≤ w3.heap.size by have := HSO.out; have := HS2.out; have := hk3.size; omega)
                  clear hk3 HB2 HS2 x0 x1 x2 x3
                  obtain ⟨k2, hk2or, hr3⟩ := hrr
                  have hr3w := hr3
                  obtain ⟨dirty, Ak, ck, hbx, how, -⟩ := hr3.box
                  obtain ⟨n2, hn2⟩ : ∃ n2, n2 = (Kp).length := ⟨_, rfl⟩
                  obtain ⟨σ, hσ⟩ : ∃ σ, σ = str (Kp) := ⟨_, rfl⟩
                  obtain ⟨gn, hgn⟩ : ∃ gn, gn = ((⟨(N.toNat : Int), t.gone, t.u⟩ : Pw)).gone := ⟨_, rfl⟩
                  rw [← hgn, ← hn2] at hbx
                  have HN2 := Lib.hid hn2
                  have HSG := Lib.hid hσ
                  have HQL := Lib.hid (show q < w3.heap.size from hbx.lt)
                  have HG5 := Lib.hid (show w3.cell? ⟨q, 5, none⟩ = some (.slice Ak n2 ck) from hbx.cell 5)
                  have HG3 := Lib.hid (show w3.cell? ⟨q, 3, none⟩ = some (.bool gn) from hbx.cell 3)
                  have HCV := Lib.hid (show ∀ w5, Below w3.heap.size w3 w5 → (convert 28 9 (.slice Ak n2 ck)).run Try.prog w5 = .ok (.string σ) w5 from fun w5 hg => by
                    have h1 := (how.inn).below hg
                    have h2 := conv_sl (P := Try.prog) h1.sl Try.underlying28 Try.underlying5 Try.underlying9 ck
                    rw [← hn2, ← hσ] at h2
                    exact h2)
                  have HLD := Lib.hid (show ∀ w5, Below w3.heap.size w3 w5 → Calls Try.prog 16 #[.pointer (some ⟨z, 0, none⟩)] w5 fun e w' => ∃ A c, e = .returned (.slice A n2 c) ∧ In w' w'.heap.size A c (Kp) ∧ Below w5.heap.size w5 w' from fun w5 hg => by
                    rw [hn2]; exact sq_load z p g r _ _ w5 (hq3.below hg (Nat.le_refl _)))
                  have HDN := Lib.hid (show ∀ w5, Below w3.heap.size w3 w5 → Calls Try.prog 17 #[.pointer (some ⟨z, 0, none⟩)] w5 fun e w' => e = .returned (.bool gn) ∧ w' = w5 from fun w5 hg => by
                    have h1 := sq_down z p g r _ _ w5 (hq3.below hg (Nat.le_refl _))
                    rw [show ((⟨(N.toNat : Int), s.gone, s.u⟩ : Pw)).gone = gn from ((show Pw.eqv ⟨(N.toNat : Int), s.gone, s.u⟩ ⟨(N.toNat : Int), t.gone, t.u⟩ from ⟨rfl, HT.out.eqv.2⟩)).2.trans hgn.symm] at h1
                    exact h1)
                  have HEND := Lib.hid (show ∀ w5, Below w3.heap.size w3 w5 → B0 ≤ w5.heap.size ∧ Two w z p g q k2 B0 r ((⟨(N.toNat : Int), s.gone, s.u⟩ : Pw)) ((⟨(N.toNat : Int), t.gone, t.u⟩ : Pw)) (Kp) ((i + 1) * 4096) w5 from fun w5 hg => ⟨Nat.le_trans HB0.out (Nat.le_trans HBS.out hg.size), hq3.below hg (Nat.le_refl _), hr3w.below hg (Nat.le_refl _), HB3.out.trans (hg.mono HB3.out.size), (show Pw.eqv ⟨(N.toNat : Int), s.gone, s.u⟩ ⟨(N.toNat : Int), t.gone, t.u⟩ from ⟨rfl, HT.out.eqv.2⟩), (show s.u ≤ _ by have := HT.out.su; omega), (show t.u ≤ _ by have := HT.out.tu; omega)⟩)
                  clear hr3w hr3 hbx how hn2 hσ hgn hq3 hk2or HBS HB3
                  go_wp2
                  rename_i K hK
                  refine Gt.regionA [Gt.Is (.pointer (some ⟨z, 0, none⟩)), LdIs n2 (Kp), Gt.Is (.string σ), Gt.Is (.pointer (some ⟨q, 0, none⟩)), Gt.Is (.pointer (some ⟨q, 0, none⟩)), Gt.Is (.pointer (some ⟨q, 5, none⟩)), Gt.Is (.slice Ak n2 ck), Gt.Is (.string σ), Gt.Is (.bool false), Gt.Is (.bool false), Gt.Is (.pointer (some ⟨z, 0, none⟩)), Gt.Is (.bool gn), Gt.Is (.pointer (some ⟨q, 0, none⟩)), Gt.Is (.pointer (some ⟨q, 0, none⟩)), Gt.Is (.pointer (some ⟨q, 3, none⟩)), Gt.Is (.bool gn), Gt.Is (.bool false), Gt.Is (.bool false)] 94
                    [⟨[], [5], none⟩, ⟨[(0, 75)], [], none⟩, ⟨[(1, 76)], [], none⟩, ⟨[], [6], none⟩, ⟨[(3, 78)], [], none⟩, ⟨[(4, 79)], [], none⟩, ⟨[(5, 80)], [], none⟩, ⟨[(6, 81)], [], none⟩, ⟨[(2, 77), (7, 82)], [], none⟩, ⟨[(8, 83)], [], none⟩, ⟨[(9, 84)], [5], some (84, false)⟩, ⟨[(9, 84), (10, 85)], [], some (84, false)⟩, ⟨[(9, 84)], [6], some (84, false)⟩, ⟨[(9, 84), (12, 87)], [], some (84, false)⟩, ⟨[(9, 84), (13, 88)], [], some (84, false)⟩, ⟨[(9, 84), (14, 89)], [], some (84, false)⟩, ⟨[(9, 84), (11, 86), (15, 90)], [], some (84, false)⟩, ⟨[(9, 84), (16, 91)], [], none⟩]
                    [(0, 75), (1, 76), (2, 77), (3, 78), (4, 79), (5, 80), (6, 81), (7, 82), (8, 83), (9, 84), (10, 85), (11, 86), (12, 87), (13, 88), (14, 89), (15, 90), (16, 91), (17, 92)] (by kernel_rfl) (by kernel_rfl) (by kernel_rfl) (by kernel_rfl) ?_ ?_ ?_
                  · simp only [Gt.Monos]
                    repeat' apply And.intro
                    all_goals (first | exact trivial | exact Gt.Is.mono _ | exact LdIs.mono _ _)
                  · simp only [Gt.Obs]
                    repeat' apply And.intro
                    all_goals try exact trivial
                    all_goals (
                      intro a w5 hg
                      have hg' : Below w3.heap.size w3 w5 := hg
                      simp only [Gt.Pre, Gt.Kept, Gt.Guarded, Gt.tys, List.getD_cons_zero, List.getD_cons_succ, Gt.Is, Nat.zero_add, Nat.reduceAdd]
                      intros
                      try (refine ⟨fun _ => ?_, fun hne => absurd (by assumption) hne⟩))
                    all_goals (first
                      | exact Gt.ok_move rfl (by assumption)
                      | exact Gt.ok_assign rfl (by assumption)
                      | exact Gt.ok_pick rfl (by assumption) (by rw [if_pos rfl]; assumption)
                      | (exact Gt.ok_call (f := 16) rfl #[.pointer (some ⟨z, 0, none⟩)] (by kernel_rfl) (by simp [*]) ((HLD.out w5 hg').mono fun e w6 h => by obtain ⟨A6, c6, h1, h2, h3⟩ := h; exact ⟨_, h1, h3, A6, c6, rfl, h2⟩))
                      | (exact Gt.ok_call (f := 17) rfl #[.pointer (some ⟨z, 0, none⟩)] (by kernel_rfl) (by simp [*]) ((HDN.out w5 hg').mono fun e w6 h => ⟨_, h.1, by rw [h.2]; exact Gt.Gr.refl _, rfl⟩))
                      | (rename_i h6
                         obtain ⟨A6, c6, e6, hI6⟩ := h6
                         have k5 := conv_load hI6 HN2.out
                         rw [← HSG.out] at k5
                         exact Gt.ok_convert rfl e6 k5 rfl)
                      | (exact Gt.ok_convert rfl (by assumption) (HCV.out w5 hg') rfl)
                      | (have g5 : w5.cell? ⟨q, 5, none⟩ = some (.slice Ak n2 ck) := (hg'.cell HQL.out).trans HG5.out
                         have g3 : w5.cell? ⟨q, 3, none⟩ = some (.bool gn) := (hg'.cell HQL.out).trans HG3.out
                         refine Gt.ok_run ?_ rfl
                         simp only [execOp, *]
                         go_simp
                         done))
                  · intro a w5 hg
                    have hg' : Below w3.heap.size w3 w5 := hg
                    simp only [Gt.Pre, Gt.tys, List.getD_cons_zero, List.getD_cons_succ, Gt.Is]
                    intro h0 h1 h2 h3 h4 h5 h6 h7 h8 h9 h10 h11 h12 h13 h14 h15 h16 h17
                    obtain ⟨A6, c6, e1, _⟩ := h1
                    show K _ _
                    refine hK _ _ ?_
                    simp only [Gt.puts, List.foldl_cons, List.foldl_nil, h0, h2, h3, h4, h5, h6, h7, h8, h9, h10, h11, h12, h13, h14, h15, h16, h17, e1]
                    simp only [Act.put, List.setIfInBounds_toArray, List.set_cons_zero, List.set_cons_succ]
                    have hT5 := HEND.out w5 hg'
                    have HT5 := Lib.hid hT5
                    clear hT5
                    go_wp2
                    go_roundw
                    case rel => exact ⟨i + 1, _, _, _, _, by go_num, by omega, HT5.out.1, HT5.out.2⟩
                    case measure => simp [intOf]; omega
                · by_cases k4 : E = 4
                  · subst k4
                    obtain ⟨j, rfl⟩ : ∃ j : Nat, N = (j : Int) := ⟨N.toNat, by omega⟩
                    have HJ := Lib.hid (show j < Kp.length by rw [← HN.out]; omega)
                    have HA := Lib.hid (show Calls Try.prog 11 #[.pointer (some ⟨q, 0, none⟩), .agg #[.int .i64 4, .int .i64 (j : Int), .int .u8 (y : Int), .slice A m c]] wo (DoP wo q k B0 r t ((Kp.set j (co Kp j ^^^ y))) (.int .i64 0)) from doP_k (fslot_turn y A m c wo q k B0 r t Kp j HRS.out HJ.out HY.out))
                    refine HA.out.mono ?_
                    rintro e w2 ⟨rfl, hrr, hk2⟩
                    have hq2 : Sq w2 z p g r s Kp := HSQ.out.k2 hk2 ⟨H4.out.zq, H4.out.pq, H4.out.gq⟩ HKN.out
                    have hob : w2.heap[wr.heap.size]? = wo.heap[wr.heap.size]? := hk2.block _ (by rw [HSO.out]; omega) (by have := HQW.out; omega) (by have := HKW.out; omega)
                    have HB2 := Lib.hid (HWO.out.trans (hk2.below HWO.out.size H4.out.bq HKB.out))
                    have x0 := (cell_heap hob).trans (HOP.out 0 (.int .i64 4) rfl)
                    have x1 := (cell_heap hob).trans (HOP.out 1 (.int .i64 (j : Int)) rfl)
                    have x2 := (cell_heap hob).trans (HOP.out 2 (.int .u8 (y : Int)) rfl)
                    have x3 := (cell_heap hob).trans (HOP.out 3 (.slice A m c) rfl)
                    have HS2 := Lib.hid hk2.size
                    have hI2 : In w2 w.heap.size A c b := HIb.out.below HB2.out
                    have HPC := Lib.hid (show Calls Try.prog 15 #[.pointer (some ⟨z, 0, none⟩), .int .i64 (j : Int), .int .u8 (y : Int)] w2 (SzP w2 z p g r s ((Kp.set j (co Kp j ^^^ y))) (.bool true)) from szP_to (sq_turn z p g r j y Kp s w2 hq2 HJ.out HY.out))
                    clear hI2 hk2 hq2 hob HA
                    go_wp2_with fail
                    refine HPC.out.mono ?_
                    rintro e w3 ⟨rfl, hq3, hk3⟩
                    replace hrr : ∃ k', (k' = k ∨ k' = q ∨ wo.heap.size ≤ k') ∧ Rs w3 q k' B0 r t ((Kp.set j (co Kp j ^^^ y))) := by
                      obtain ⟨k', h1, h2⟩ := hrr
                      exact ⟨k', h1, h2.k3 hk3 ⟨Ne.symm H4.out.zq, Ne.symm H4.out.pq, Ne.symm H4.out.gq⟩ ⟨H4.out.z0, H4.out.p0, H4.out.g0⟩⟩
                    have HB3 := Lib.hid (HB2.out.trans (hk3.below HB2.out.size H4.out.bz H4.out.bp H4.out.bg))
                    have HBS := Lib.hid (show wr.heap.size ≤ w3.heap.size by have := HSO.out; have := HS2.out; have := hk3.size; omega)
                    clear hk3 HB2 HS2 x0 x1 x2 x3
                    obtain ⟨k2, hk2or, hr3⟩ := hrr
                    have hr3w := hr3
                    obtain ⟨dirty, Ak, ck, hbx, how, -⟩ := hr3.box
                    obtain ⟨n2, hn2⟩ : ∃ n2, n2 = ((Kp.set j (co Kp j ^^^ y))).length := ⟨_, rfl⟩
                    obtain ⟨σ, hσ⟩ : ∃ σ, σ = str ((Kp.set j (co Kp j ^^^ y))) := ⟨_, rfl⟩
                    obtain ⟨gn, hgn⟩ : ∃ gn, gn = (t).gone := ⟨_, rfl⟩
                    rw [← hgn, ← hn2] at hbx
                    have HN2 := Lib.hid hn2
                    have HSG := Lib.hid hσ
                    have HQL := Lib.hid (show q < w3.heap.size from hbx.lt)
                    have HG5 := Lib.hid (show w3.cell? ⟨q, 5, none⟩ = some (.slice Ak n2 ck) from hbx.cell 5)
                    have HG3 := Lib.hid (show w3.cell? ⟨q, 3, none⟩ = some (.bool gn) from hbx.cell 3)
                    have HCV := Lib.hid (show ∀ w5, Below w3.heap.size w3 w5 → (convert 28 9 (.slice Ak n2 ck)).run Try.prog w5 = .ok (.string σ) w5 from fun w5 hg => by
                      have h1 := (how.inn).below hg
                      have h2 := conv_sl (P := Try.prog) h1.sl Try.underlying28 Try.underlying5 Try.underlying9 ck
                      rw [← hn2, ← hσ] at h2
                      exact h2)
                    have HLD := Lib.hid (show ∀ w5, Below w3.heap.size w3 w5 → Calls Try.prog 16 #[.pointer (some ⟨z, 0, none⟩)] w5 fun e w' => ∃ A c, e = .returned (.slice A n2 c) ∧ In w' w'.heap.size A c ((Kp.set j (co Kp j ^^^ y))) ∧ Below w5.heap.size w5 w' from fun w5 hg => by
                      rw [hn2]; exact sq_load z p g r _ _ w5 (hq3.below hg (Nat.le_refl _)))
                    have HDN := Lib.hid (show ∀ w5, Below w3.heap.size w3 w5 → Calls Try.prog 17 #[.pointer (some ⟨z, 0, none⟩)] w5 fun e w' => e = .returned (.bool gn) ∧ w' = w5 from fun w5 hg => by
                      have h1 := sq_down z p g r _ _ w5 (hq3.below hg (Nat.le_refl _))
                      rw [show (s).gone = gn from (HT.out.eqv).2.trans hgn.symm] at h1
                      exact h1)
                    have HEND := Lib.hid (show ∀ w5, Below w3.heap.size w3 w5 → B0 ≤ w5.heap.size ∧ Two w z p g q k2 B0 r (s) (t) ((Kp.set j (co Kp j ^^^ y))) ((i + 1) * 4096) w5 from fun w5 hg => ⟨Nat.le_trans HB0.out (Nat.le_trans HBS.out hg.size), hq3.below hg (Nat.le_refl _), hr3w.below hg (Nat.le_refl _), HB3.out.trans (hg.mono HB3.out.size), HT.out.eqv, (by have := HT.out.su; omega), (by have := HT.out.tu; omega)⟩)
                    clear hr3w hr3 hbx how hn2 hσ hgn hq3 hk2or HBS HB3
                    go_wp2
                    rename_i K hK
                    refine Gt.regionA [Gt.Is (.pointer (some ⟨z, 0, none⟩)), LdIs n2 ((Kp.set j (co Kp j ^^^ y))), Gt.Is (.string σ), Gt.Is (.pointer (some ⟨q, 0, none⟩)), Gt.Is (.pointer (some ⟨q, 0, none⟩)), Gt.Is (.pointer (some ⟨q, 5, none⟩)), Gt.Is (.slice Ak n2 ck), Gt.Is (.string σ), Gt.Is (.bool false), Gt.Is (.bool false), Gt.Is (.pointer (some ⟨z, 0, none⟩)), Gt.Is (.bool gn), Gt.Is (.pointer (some ⟨q, 0, none⟩)), Gt.Is (.pointer (some ⟨q, 0, none⟩)), Gt.Is (.pointer (some ⟨q, 3, none⟩)), Gt.Is (.bool gn), Gt.Is (.bool false), Gt.Is (.bool false)] 94
                      [⟨[], [5], none⟩, ⟨[(0, 75)], [], none⟩, ⟨[(1, 76)], [], none⟩, ⟨[], [6], none⟩, ⟨[(3, 78)], [], none⟩, ⟨[(4, 79)], [], none⟩, ⟨[(5, 80)], [], none⟩, ⟨[(6, 81)], [], none⟩, ⟨[(2, 77), (7, 82)], [], none⟩, ⟨[(8, 83)], [], none⟩, ⟨[(9, 84)], [5], some (84, false)⟩, ⟨[(9, 84), (10, 85)], [], some (84, false)⟩, ⟨[(9, 84)], [6], some (84, false)⟩, ⟨[(9, 84), (12, 87)], [], some (84, false)⟩, ⟨[(9, 84), (13, 88)], [], some (84, false)⟩, ⟨[(9, 84), (14, 89)], [], some (84, false)⟩, ⟨[(9, 84), (11, 86), (15, 90)], [], some (84, false)⟩, ⟨[(9, 84), (16, 91)], [], none⟩]
                      [(0, 75), (1, 76), (2, 77), (3, 78), (4, 79), (5, 80), (6, 81), (7, 82), (8, 83), (9, 84), (10, 85), (11, 86), (12, 87), (13, 88), (14, 89), (15, 90), (16, 91), (17, 92)] (by kernel_rfl) (by kernel_rfl) (by kernel_rfl) (by kernel_rfl) ?_ ?_ ?_
                    · simp only [Gt.Monos]
                      repeat' apply And.intro
                      all_goals (first | exact trivial | exact Gt.Is.mono _ | exact LdIs.mono _ _)
                    · simp only [Gt.Obs]
                      repeat' apply And.intro
                      all_goals try exact trivial
                      all_goals (
                        intro a w5 hg
                        have hg' : Below w3.heap.size w3 w5 := hg
                        simp only [Gt.Pre, Gt.Kept, Gt.Guarded, Gt.tys, List.getD_cons_zero, List.getD_cons_succ, Gt.Is, Nat.zero_add, Nat.reduceAdd]
                        intros
                        try (refine ⟨fun _ => ?_, fun hne => absurd (by assumption) hne⟩))
                      all_goals (first
                        | exact Gt.ok_move rfl (by assumption)
                        | exact Gt.ok_assign rfl (by assumption)
                        | exact Gt.ok_pick rfl (by assumption) (by rw [if_pos rfl]; assumption)
                        | (exact Gt.ok_call (f := 16) rfl #[.pointer (some ⟨z, 0, none⟩)] (by kernel_rfl) (by simp [*]) ((HLD.out w5 hg').mono fun e w6 h => by obtain ⟨A6, c6, h1, h2, h3⟩ := h; exact ⟨_, h1, h3, A6, c6, rfl, h2⟩))
                        | (exact Gt.ok_call (f := 17) rfl #[.pointer (some ⟨z, 0, none⟩)] (by kernel_rfl) (by simp [*]) ((HDN.out w5 hg').mono fun e w6 h => ⟨_, h.1, by rw [h.2]; exact Gt.Gr.refl _, rfl⟩))
                        | (rename_i h6
                           obtain ⟨A6, c6, e6, hI6⟩ := h6
                           have k5 := conv_load hI6 HN2.out
                           rw [← HSG.out] at k5
                           exact Gt.ok_convert rfl e6 k5 rfl)
                        | (exact Gt.ok_convert rfl (by assumption) (HCV.out w5 hg') rfl)
                        | (have g5 : w5.cell? ⟨q, 5, none⟩ = some (.slice Ak n2 ck) := (hg'.cell HQL.out).trans HG5.out
                           have g3 : w5.cell? ⟨q, 3, none⟩ = some (.bool gn) := (hg'.cell HQL.out).trans HG3.out
                           refine Gt.ok_run ?_ rfl
                           simp only [execOp, *]
                           go_simp
                           done))
                    · intro a w5 hg
                      have hg' : Below w3.heap.size w3 w5 := hg
                      simp only [Gt.Pre, Gt.tys, List.getD_cons_zero, List.getD_cons_succ, Gt.Is]
                      intro h0 h1 h2 h3 h4 h5 h6 h7 h8 h9 h10 h11 h12 h13 h14 h15 h16 h17
                      obtain ⟨A6, c6, e1, _⟩ := h1
                      show K _ _
                      refine hK _ _ ?_
                      simp only [Gt.puts, List.foldl_cons, List.foldl_nil, h0, h2, h3, h4, h5, h6, h7, h8, h9, h10, h11, h12, h13, h14, h15, h16, h17, e1]
                      simp only [Act.put, List.setIfInBounds_toArray, List.set_cons_zero, List.set_cons_succ]
                      have hT5 := HEND.out w5 hg'
                      have HT5 := Lib.hid hT5
                      clear hT5
                      go_wp2
                      go_roundw
                      case rel => exact ⟨i + 1, _, _, _, _, by go_num, by omega, HT5.out.1, HT5.out.2⟩
                      case measure => simp [intOf]; omega
                  · have e1 : (E == 1) = false := by simpa using k1
                    have e2 : (E == 2) = false := by simpa using k2
                    have e3 : (E == 3) = false := by simpa using k3
                    have e4 : (E == 4) = false := by simpa using k4
                    have HA := Lib.hid (show Calls Try.prog 11 #[.pointer (some ⟨q, 0, none⟩), .agg #[.int .i64 E, .int .i64 N, .int .u8 (y : Int), .slice A m c]] wo (DoP wo q k B0 r t (Kp) (.int .i64 0)) from doP_bel HRS.out (fslot_other y A m c wo q E N ⟨k1, k2, k3, k4⟩))
                    refine HA.out.mono ?_
                    rintro e w2 ⟨rfl, hrr, hk2⟩
                    have hq2 : Sq w2 z p g r s Kp := HSQ.out.k2 hk2 ⟨H4.out.zq, H4.out.pq, H4.out.gq⟩ HKN.out
                    have hob : w2.heap[wr.heap.size]? = wo.heap[wr.heap.size]? := hk2.block _ (by rw [HSO.out]; omega) (by have := HQW.out; omega) (by have := HKW.out; omega)
                    have HB2 := Lib.hid (HWO.out.trans (hk2.below HWO.out.size H4.out.bq HKB.out))
                    have x0 := (cell_heap hob).trans (HOP.out 0 (.int .i64 E) rfl)
                    have x1 := (cell_heap hob).trans (HOP.out 1 (.int .i64 N) rfl)
                    have x2 := (cell_heap hob).trans (HOP.out 2 (.int .u8 (y : Int)) rfl)
                    have x3 := (cell_heap hob).trans (HOP.out 3 (.slice A m c) rfl)
                    have HS2 := Lib.hid hk2.size
                    obtain ⟨w3, rfl⟩ : ∃ w3, w3 = w2 := ⟨_, rfl⟩
                    have hq3 := hq2
                    have HB3 := Lib.hid HB2.out
                    have HBS := Lib.hid (show wr.heap.size ≤ w3.heap.size by have := HSO.out; have := HS2.out; omega)
                    clear hk2 hq2 hob HA HB2 HS2
                    obtain ⟨k2, hk2or, hr3⟩ := hrr
                    have hr3w := hr3
                    obtain ⟨dirty, Ak, ck, hbx, how, -⟩ := hr3.box
                    obtain ⟨n2, hn2⟩ : ∃ n2, n2 = (Kp).length := ⟨_, rfl⟩
                    obtain ⟨σ, hσ⟩ : ∃ σ, σ = str (Kp) := ⟨_, rfl⟩
                    obtain ⟨gn, hgn⟩ : ∃ gn, gn = (t).gone := ⟨_, rfl⟩
                    rw [← hgn, ← hn2] at hbx
                    have HN2 := Lib.hid hn2
                    have HSG := Lib.hid hσ
                    have HQL := Lib.hid (show q < w3.heap.size from hbx.lt)
                    have HG5 := Lib.hid (show w3.cell? ⟨q, 5, none⟩ = some (.slice Ak n2 ck) from hbx.cell 5)
                    have HG3 := Lib.hid (show w3.cell? ⟨q, 3, none⟩ = some (.bool gn) from hbx.cell 3)
                    have HCV := Lib.hid (show ∀ w5, Below w3.heap.size w3 w5 → (convert 28 9 (.slice Ak n2 ck)).run Try.prog w5 = .ok (.string σ) w5 from fun w5 hg => by
                      have h1 := (how.inn).below hg
                      have h2 := conv_sl (P := Try.prog) h1.sl Try.underlying28 Try.underlying5 Try.underlying9 ck
                      rw [← hn2, ← hσ] at h2
                      exact h2)
                    have HLD := Lib.hid (show ∀ w5, Below w3.heap.size w3 w5 → Calls Try.prog 16 #[.pointer (some ⟨z, 0, none⟩)] w5 fun e w' => ∃ A c, e = .returned (.slice A n2 c) ∧ In w' w'.heap.size A c (Kp) ∧ Below w5.heap.size w5 w' from fun w5 hg => by
                      rw [hn2]; exact sq_load z p g r _ _ w5 (hq3.below hg (Nat.le_refl _)))
                    have HDN := Lib.hid (show ∀ w5, Below w3.heap.size w3 w5 → Calls Try.prog 17 #[.pointer (some ⟨z, 0, none⟩)] w5 fun e w' => e = .returned (.bool gn) ∧ w' = w5 from fun w5 hg => by
                      have h1 := sq_down z p g r _ _ w5 (hq3.below hg (Nat.le_refl _))
                      rw [show (s).gone = gn from (HT.out.eqv).2.trans hgn.symm] at h1
                      exact h1)
                    have HEND := Lib.hid (show ∀ w5, Below w3.heap.size w3 w5 → B0 ≤ w5.heap.size ∧ Two w z p g q k2 B0 r (s) (t) (Kp) ((i + 1) * 4096) w5 from fun w5 hg => ⟨Nat.le_trans HB0.out (Nat.le_trans HBS.out hg.size), hq3.below hg (Nat.le_refl _), hr3w.below hg (Nat.le_refl _), HB3.out.trans (hg.mono HB3.out.size), HT.out.eqv, (by have := HT.out.su; omega), (by have := HT.out.tu; omega)⟩)
                    clear hr3w hr3 hbx how hn2 hσ hgn hq3 hk2or HBS HB3
                    go_wp2
                    rename_i K hK
                    refine Gt.regionA [Gt.Is (.pointer (some ⟨z, 0, none⟩)), LdIs n2 (Kp), Gt.Is (.string σ), Gt.Is (.pointer (some ⟨q, 0, none⟩)), Gt.Is (.pointer (some ⟨q, 0, none⟩)), Gt.Is (.pointer (some ⟨q, 5, none⟩)), Gt.Is (.slice Ak n2 ck), Gt.Is (.string σ), Gt.Is (.bool false), Gt.Is (.bool false), Gt.Is (.pointer (some ⟨z, 0, none⟩)), Gt.Is (.bool gn), Gt.Is (.pointer (some ⟨q, 0, none⟩)), Gt.Is (.pointer (some ⟨q, 0, none⟩)), Gt.Is (.pointer (some ⟨q, 3, none⟩)), Gt.Is (.bool gn), Gt.Is (.bool false), Gt.Is (.bool false)] 94
                      [⟨[], [5], none⟩, ⟨[(0, 75)], [], none⟩, ⟨[(1, 76)], [], none⟩, ⟨[], [6], none⟩, ⟨[(3, 78)], [], none⟩, ⟨[(4, 79)], [], none⟩, ⟨[(5, 80)], [], none⟩, ⟨[(6, 81)], [], none⟩, ⟨[(2, 77), (7, 82)], [], none⟩, ⟨[(8, 83)], [], none⟩, ⟨[(9, 84)], [5], some (84, false)⟩, ⟨[(9, 84), (10, 85)], [], some (84, false)⟩, ⟨[(9, 84)], [6], some (84, false)⟩, ⟨[(9, 84), (12, 87)], [], some (84, false)⟩, ⟨[(9, 84), (13, 88)], [], some (84, false)⟩, ⟨[(9, 84), (14, 89)], [], some (84, false)⟩, ⟨[(9, 84), (11, 86), (15, 90)], [], some (84, false)⟩, ⟨[(9, 84), (16, 91)], [], none⟩]
                      [(0, 75), (1, 76), (2, 77), (3, 78), (4, 79), (5, 80), (6, 81), (7, 82), (8, 83), (9, 84), (10, 85), (11, 86), (12, 87), (13, 88), (14, 89), (15, 90), (16, 91), (17, 92)] (by kernel_rfl) (by kernel_rfl) (by kernel_rfl) (by kernel_rfl) ?_ ?_ ?_
                    · simp only [Gt.Monos]
                      repeat' apply And.intro
                      all_goals (first | exact trivial | exact Gt.Is.mono _ | exact LdIs.mono _ _)
                    · simp only [Gt.Obs]
                      repeat' apply And.intro
                      all_goals try exact trivial
                      all_goals (
                        intro a w5 hg
                        have hg' : Below w3.heap.size w3 w5 := hg
                        simp only [Gt.Pre, Gt.Kept, Gt.Guarded, Gt.tys, List.getD_cons_zero, List.getD_cons_succ, Gt.Is, Nat.zero_add, Nat.reduceAdd]
                        intros
                        try (refine ⟨fun _ => ?_, fun hne => absurd (by assumption) hne⟩))
                      all_goals (first
                        | exact Gt.ok_move rfl (by assumption)
                        | exact Gt.ok_assign rfl (by assumption)
                        | exact Gt.ok_pick rfl (by assumption) (by rw [if_pos rfl]; assumption)
                        | (exact Gt.ok_call (f := 16) rfl #[.pointer (some ⟨z, 0, none⟩)] (by kernel_rfl) (by simp [*]) ((HLD.out w5 hg').mono fun e w6 h => by obtain ⟨A6, c6, h1, h2, h3⟩ := h; exact ⟨_, h1, h3, A6, c6, rfl, h2⟩))
                        | (exact Gt.ok_call (f := 17) rfl #[.pointer (some ⟨z, 0, none⟩)] (by kernel_rfl) (by simp [*]) ((HDN.out w5 hg').mono fun e w6 h => ⟨_, h.1, by rw [h.2]; exact Gt.Gr.refl _, rfl⟩))
                        | (rename_i h6
                           obtain ⟨A6, c6, e6, hI6⟩ := h6
                           have k5 := conv_load hI6 HN2.out
                           rw [← HSG.out] at k5
                           exact Gt.ok_convert rfl e6 k5 rfl)
                        | (exact Gt.ok_convert rfl (by assumption) (HCV.out w5 hg') rfl)
                        | (have g5 : w5.cell? ⟨q, 5, none⟩ = some (.slice Ak n2 ck) := (hg'.cell HQL.out).trans HG5.out
                           have g3 : w5.cell? ⟨q, 3, none⟩ = some (.bool gn) := (hg'.cell HQL.out).trans HG3.out
                           refine Gt.ok_run ?_ rfl
                           simp only [execOp, *]
                           go_simp
                           done))
                    · intro a w5 hg
                      have hg' : Below w3.heap.size w3 w5 := hg
                      simp only [Gt.Pre, Gt.tys, List.getD_cons_zero, List.getD_cons_succ, Gt.Is]
                      intro h0 h1 h2 h3 h4 h5 h6 h7 h8 h9 h10 h11 h12 h13 h14 h15 h16 h17
                      obtain ⟨A6, c6, e1, _⟩ := h1
                      show K _ _
                      refine hK _ _ ?_
                      simp only [Gt.puts, List.foldl_cons, List.foldl_nil, h0, h2, h3, h4, h5, h6, h7, h8, h9, h10, h11, h12, h13, h14, h15, h16, h17, e1]
                      simp only [Act.put, List.setIfInBounds_toArray, List.set_cons_zero, List.set_cons_succ]
                      have hT5 := HEND.out w5 hg'
                      have HT5 := Lib.hid hT5
                      clear hT5
                      go_wp2
                      go_roundw
                      case rel => exact ⟨i + 1, _, _, _, _, by go_num, by omega, HT5.out.1, HT5.out.2⟩
                      case measure => simp [intOf]; omega
          · have t1 : decide (N < (n : Int)) = false := decide_eq_false hlt
            go_wp2
            rw [← HWL.out]
            have c5 := HC5.out
            have y0 := HOP0.out 0 (.int .i64 E) rfl
            have y1 := HOP0.out 1 (.int .i64 N) rfl
            have y2 := HOP0.out 2 (.int .u8 (y : Int)) rfl
            have y3 := HOP0.out 3 (.slice A m c) rfl
            go_quiet (fail)
            go_wp2_with fail
            obtain ⟨wq, hwq⟩ : ∃ wq, wq = wo.drewN nq := ⟨_, rfl⟩
            have HOP := Lib.hid (show ∀ j v, (#[.int .i64 E, .int .i64 N, .int .u8 (y : Int), .slice A m c] : Array Value)[j]? = some v → wq.cell? ⟨wr.heap.size, j, none⟩ = some v by rw [hwq]; exact HOP0.out)
            have HWB := Lib.hid (show Below wr.heap.size wr wq by rw [hwq]; exact ⟨HWB0.out.os, HWB0.out.tape, HWB0.out.output, HWB0.out.size, HWB0.out.block⟩)
            have HSO := Lib.hid (show wq.heap.size = wr.heap.size + 1 by rw [hwq]; exact HWS0.out)
            rw [← hwq]
            clear hwq c5 y0 y1 y2 y3 HOP0 HWB0 HWS0 HWL HC5
            obtain ⟨wo, rfl⟩ : ∃ wo, wo = wq := ⟨_, rfl⟩
            have HSQ := Lib.hid (HT.out.sq.below HWB.out (Nat.le_refl _))
            have HRS := Lib.hid (HT.out.rs.below HWB.out (Nat.le_refl _))
            have HWO := Lib.hid (HT.out.bel.trans (HWB.out.mono HT.out.bel.size))
            have HBO := Lib.hid (show B0 ≤ wo.heap.size by have := HB0.out; have := HSO.out; omega)
            have HKN := Lib.hid (show z ≠ k ∧ p ≠ k ∧ g ≠ k by have h1 := HT.out.rs.kb; have h2 := H4.out; have h3 := h2.z0; have h4 := h2.p0; have h5 := h2.g0; have h6 := h2.zq; have h7 := h2.pq; have h8 := h2.gq; omega)
            have HQW := Lib.hid (show q < wr.heap.size by have := HT.out.rs.lt; have := HB0.out; omega)
            have HKW := Lib.hid HT.out.rs.klt
            have HKB := Lib.hid (show w.heap.size ≤ k by have h1 := HT.out.rs.kb; have h2 := H4.out.bq; have h3 := H4.out.bz; have h4 := H4.out.z0; omega)
            have HI0 := Lib.hid (show In wo w.heap.size A c b from HIb.out.below HWO.out)
            by_cases k1 : E = 1
            · subst k1
              by_cases hrt : r < tk m
              · have HA := Lib.hid (show Calls Try.prog 11 #[.pointer (some ⟨q, 0, none⟩), .agg #[.int .i64 1, .int .i64 N, .int .u8 (y : Int), .slice A m c]] wo (DoP wo q k B0 r t (Kp) (.int .i64 7)) from doP_bel HRS.out (fsave_bad y A m c wo q k B0 r t Kp N HRS.out (by omega) (by have := HBL.out; have := HM.out; omega)))
                refine HA.out.mono ?_
                rintro e w2 ⟨rfl, hrr, hk2⟩
                have hq2 : Sq w2 z p g r s Kp := HSQ.out.k2 hk2 ⟨H4.out.zq, H4.out.pq, H4.out.gq⟩ HKN.out
                have hob : w2.heap[wr.heap.size]? = wo.heap[wr.heap.size]? := hk2.block _ (by rw [HSO.out]; omega) (by have := HQW.out; omega) (by have := HKW.out; omega)
                have HB2 := Lib.hid (HWO.out.trans (hk2.below HWO.out.size H4.out.bq HKB.out))
                have x0 := (cell_heap hob).trans (HOP.out 0 (.int .i64 1) rfl)
                have x1 := (cell_heap hob).trans (HOP.out 1 (.int .i64 N) rfl)
                have x2 := (cell_heap hob).trans (HOP.out 2 (.int .u8 (y : Int)) rfl)
                have x3 := (cell_heap hob).trans (HOP.out 3 (.slice A m c) rfl)
                have HS2 := Lib.hid hk2.size
                have hI2 : In w2 w.heap.size A c b := HIb.out.below HB2.out
                have HPC := Lib.hid (show Calls Try.prog 12 #[.pointer (some ⟨z, 0, none⟩), .slice A m c] w2 (SzP w2 z p g r s (Kp) (.int .i64 7)) from szP_bel hq2 (sq_big z p g r Kp s A m c w2 hq2 (by omega) (by have := HBL.out; have := HM.out; omega)))
                clear hI2 hk2 hq2 hob HA
                go_wp2_with fail
                refine HPC.out.mono ?_
                rintro e w3 ⟨rfl, hq3, hk3⟩
                replace hrr : ∃ k', (k' = k ∨ k' = q ∨ wo.heap.size ≤ k') ∧ Rs w3 q k' B0 r t (Kp) := by
                  obtain ⟨k', h1, h2⟩ := hrr
                  exact ⟨k', h1, h2.k3 hk3 ⟨Ne.symm H4.out.zq, Ne.symm H4.out.pq, Ne.symm H4.out.gq⟩ ⟨H4.out.z0, H4.out.p0, H4.out.g0⟩⟩
                have HB3 := Lib.hid (HB2.out.trans (hk3.below HB2.out.size H4.out.bz H4.out.bp H4.out.bg))
                have HBS := Lib.hid (show wr.heap.size ≤ w3.heap.size by have := HSO.out; have := HS2.out; have := hk3.size; omega)
                clear hk3 HB2 HS2 x0 x1 x2 x3
                obtain ⟨k2, hk2or, hr3⟩ := hrr
                have hr3w := hr3
                obtain ⟨dirty, Ak, ck, hbx, how, -⟩ := hr3.box
                obtain ⟨n2, hn2⟩ : ∃ n2, n2 = (Kp).length := ⟨_, rfl⟩
                obtain ⟨σ, hσ⟩ : ∃ σ, σ = str (Kp) := ⟨_, rfl⟩
                obtain ⟨gn, hgn⟩ : ∃ gn, gn = (t).gone := ⟨_, rfl⟩
                rw [← hgn, ← hn2] at hbx
                have HN2 := Lib.hid hn2
                have HSG := Lib.hid hσ
                have HQL := Lib.hid (show q < w3.heap.size from hbx.lt)
                have HG5 := Lib.hid (show w3.cell? ⟨q, 5, none⟩ = some (.slice Ak n2 ck) from hbx.cell 5)
                have HG3 := Lib.hid (show w3.cell? ⟨q, 3, none⟩ = some (.bool gn) from hbx.cell 3)
                have HCV := Lib.hid (show ∀ w5, Below w3.heap.size w3 w5 → (convert 28 9 (.slice Ak n2 ck)).run Try.prog w5 = .ok (.string σ) w5 from fun w5 hg => by
                  have h1 := (how.inn).below hg
                  have h2 := conv_sl (P := Try.prog) h1.sl Try.underlying28 Try.underlying5 Try.underlying9 ck
                  rw [← hn2, ← hσ] at h2
                  exact h2)
                have HLD := Lib.hid (show ∀ w5, Below w3.heap.size w3 w5 → Calls Try.prog 16 #[.pointer (some ⟨z, 0, none⟩)] w5 fun e w' => ∃ A c, e = .returned (.slice A n2 c) ∧ In w' w'.heap.size A c (Kp) ∧ Below w5.heap.size w5 w' from fun w5 hg => by
                  rw [hn2]; exact sq_load z p g r _ _ w5 (hq3.below hg (Nat.le_refl _)))
                have HDN := Lib.hid (show ∀ w5, Below w3.heap.size w3 w5 → Calls Try.prog 17 #[.pointer (some ⟨z, 0, none⟩)] w5 fun e w' => e = .returned (.bool gn) ∧ w' = w5 from fun w5 hg => by
                  have h1 := sq_down z p g r _ _ w5 (hq3.below hg (Nat.le_refl _))
                  rw [show (s).gone = gn from (HT.out.eqv).2.trans hgn.symm] at h1
                  exact h1)
                have HEND := Lib.hid (show ∀ w5, Below w3.heap.size w3 w5 → B0 ≤ w5.heap.size ∧ Two w z p g q k2 B0 r (s) (t) (Kp) ((i + 1) * 4096) w5 from fun w5 hg => ⟨Nat.le_trans HB0.out (Nat.le_trans HBS.out hg.size), hq3.below hg (Nat.le_refl _), hr3w.below hg (Nat.le_refl _), HB3.out.trans (hg.mono HB3.out.size), HT.out.eqv, (by have := HT.out.su; omega), (by have := HT.out.tu; omega)⟩)
                clear hr3w hr3 hbx how hn2 hσ hgn hq3 hk2or HBS HB3
                go_wp2
                rename_i K hK
                refine Gt.regionA [Gt.Is (.pointer (some ⟨z, 0, none⟩)), LdIs n2 (Kp), Gt.Is (.string σ), Gt.Is (.pointer (some ⟨q, 0, none⟩)), Gt.Is (.pointer (some ⟨q, 0, none⟩)), Gt.Is (.pointer (some ⟨q, 5, none⟩)), Gt.Is (.slice Ak n2 ck), Gt.Is (.string σ), Gt.Is (.bool false), Gt.Is (.bool false), Gt.Is (.pointer (some ⟨z, 0, none⟩)), Gt.Is (.bool gn), Gt.Is (.pointer (some ⟨q, 0, none⟩)), Gt.Is (.pointer (some ⟨q, 0, none⟩)), Gt.Is (.pointer (some ⟨q, 3, none⟩)), Gt.Is (.bool gn), Gt.Is (.bool false), Gt.Is (.bool false)] 94
                  [⟨[], [5], none⟩, ⟨[(0, 75)], [], none⟩, ⟨[(1, 76)], [], none⟩, ⟨[], [6], none⟩, ⟨[(3, 78)], [], none⟩, ⟨[(4, 79)], [], none⟩, ⟨[(5, 80)], [], none⟩, ⟨[(6, 81)], [], none⟩, ⟨[(2, 77), (7, 82)], [], none⟩, ⟨[(8, 83)], [], none⟩, ⟨[(9, 84)], [5], some (84, false)⟩, ⟨[(9, 84), (10, 85)], [], some (84, false)⟩, ⟨[(9, 84)], [6], some (84, false)⟩, ⟨[(9, 84), (12, 87)], [], some (84, false)⟩, ⟨[(9, 84), (13, 88)], [], some (84, false)⟩, ⟨[(9, 84), (14, 89)], [], some (84, false)⟩, ⟨[(9, 84), (11, 86), (15, 90)], [], some (84, false)⟩, ⟨[(9, 84), (16, 91)], [], none⟩]
                  [(0, 75), (1, 76), (2, 77), (3, 78), (4, 79), (5, 80), (6, 81), (7, 82), (8, 83), (9, 84), (10, 85), (11, 86), (12, 87), (13, 88), (14, 89), (15, 90), (16, 91), (17, 92)] (by kernel_rfl) (by kernel_rfl) (by kernel_rfl) (by kernel_rfl) ?_ ?_ ?_
                · simp only [Gt.Monos]
                  repeat' apply And.intro
                  all_goals (first | exact trivial | exact Gt.Is.mono _ | exact LdIs.mono _ _)
                · simp only [Gt.Obs]
                  repeat' apply And.intro
                  all_goals try exact trivial
                  all_goals (
                    intro a w5 hg
                    have hg' : Below w3.heap.size w3 w5 := hg
                    simp only [Gt.Pre, Gt.Kept, Gt.Guarded, Gt.tys, List.getD_cons_zero, List.getD_cons_succ, Gt.Is, Nat.zero_add, Nat.reduceAdd]
                    intros
                    try (refine ⟨fun _ => ?_, fun hne => absurd (by assumption) hne⟩))
                  all_goals (first
                    | exact Gt.ok_move rfl (by assumption)
                    | exact Gt.ok_assign rfl (by assumption)
                    | exact Gt.ok_pick rfl (by assumption) (by rw [if_pos rfl]; assumption)
                    | (exact Gt.ok_call (f := 16) rfl #[.pointer (some ⟨z, 0, none⟩)] (by kernel_rfl) (by simp [*]) ((HLD.out w5 hg').mono fun e w6 h => by obtain ⟨A6, c6, h1, h2, h3⟩ := h; exact ⟨_, h1, h3, A6, c6, rfl, h2⟩))
                    | (exact Gt.ok_call (f := 17) rfl #[.pointer (some ⟨z, 0, none⟩)] (by kernel_rfl) (by simp [*]) ((HDN.out w5 hg').mono fun e w6 h => ⟨_, h.1, by rw [h.2]; exact Gt.Gr.refl _, rfl⟩))
                    | (rename_i h6
                       obtain ⟨A6, c6, e6, hI6⟩ := h6
                       have k5 := conv_load hI6 HN2.out
                       rw [← HSG.out] at k5
                       exact Gt.ok_convert rfl e6 k5 rfl)
                    | (exact Gt.ok_convert rfl (by assumption) (HCV.out w5 hg') rfl)
                    | (have g5 : w5.cell? ⟨q, 5, none⟩ = some (.slice Ak n2 ck) := (hg'.cell HQL.out).trans HG5.out
                       have g3 : w5.cell? ⟨q, 3, none⟩ = some (.bool gn) := (hg'.cell HQL.out).trans HG3.out
                       refine Gt.ok_run ?_ rfl
                       simp only [execOp, *]
                       go_simp
                       done))
                · intro a w5 hg
                  have hg' : Below w3.heap.size w3 w5 := hg
                  simp only [Gt.Pre, Gt.tys, List.getD_cons_zero, List.getD_cons_succ, Gt.Is]
                  intro h0 h1 h2 h3 h4 h5 h6 h7 h8 h9 h10 h11 h12 h13 h14 h15 h16 h17
                  obtain ⟨A6, c6, e1, _⟩ := h1
                  show K _ _
                  refine hK _ _ ?_
                  simp only [Gt.puts, List.foldl_cons, List.foldl_nil, h0, h2, h3, h4, h5, h6, h7, h8, h9, h10, h11, h12, h13, h14, h15, h16, h17, e1]
                  simp only [Act.put, List.setIfInBounds_toArray, List.set_cons_zero, List.set_cons_succ]
                  have hT5 := HEND.out w5 hg'
                  have HT5 := Lib.hid hT5
                  clear hT5
                  go_wp2
                  go_roundw
                  case rel => exact ⟨i + 1, _, _, _, _, by go_num, by omega, HT5.out.1, HT5.out.2⟩
                  case measure => simp [intOf]; omega
              · cases hot : Pw.ok (tk b.length + 1) t with
                | false =>
                  have HOT := Lib.hid hot
                  have HOS := Lib.hid ((Pw.eqv_go (tk b.length + 1) HT.out.eqv).2.trans hot)
                  clear hot
                  have HA := Lib.hid (show Calls Try.prog 11 #[.pointer (some ⟨q, 0, none⟩), .agg #[.int .i64 1, .int .i64 N, .int .u8 (y : Int), .slice A m c]] wo (DoP wo q k B0 r (Pw.go (tk b.length + 1) t) (Kp) (.int .i64 3)) from doP_k (fsave_no y A m c wo q k B0 r w.heap.size t Kp b N HRS.out HBO.out HI0.out HM.out (fun o hne => in_no HI0.out H4.out.bq hne o) (by omega) HTS.out.2 HOT.out))
                  refine HA.out.mono ?_
                  rintro e w2 ⟨rfl, hrr, hk2⟩
                  have hq2 : Sq w2 z p g r s Kp := HSQ.out.k2 hk2 ⟨H4.out.zq, H4.out.pq, H4.out.gq⟩ HKN.out
                  have hob : w2.heap[wr.heap.size]? = wo.heap[wr.heap.size]? := hk2.block _ (by rw [HSO.out]; omega) (by have := HQW.out; omega) (by have := HKW.out; omega)
                  have HB2 := Lib.hid (HWO.out.trans (hk2.below HWO.out.size H4.out.bq HKB.out))
                  have x0 := (cell_heap hob).trans (HOP.out 0 (.int .i64 1) rfl)
                  have x1 := (cell_heap hob).trans (HOP.out 1 (.int .i64 N) rfl)
                  have x2 := (cell_heap hob).trans (HOP.out 2 (.int .u8 (y : Int)) rfl)
                  have x3 := (cell_heap hob).trans (HOP.out 3 (.slice A m c) rfl)
                  have HS2 := Lib.hid hk2.size
                  have hI2 : In w2 w.heap.size A c b := HIb.out.below HB2.out
                  have HPC := Lib.hid (show Calls Try.prog 12 #[.pointer (some ⟨z, 0, none⟩), .slice A m c] w2 (SzP w2 z p g r (Pw.go (tk b.length + 1) s) (Kp) (.int .i64 3)) from szP_to (sq_no z p g r w.heap.size Kp b s A m c w2 hq2 hI2 (fun o hne => ⟨in_no hI2 H4.out.bz hne o, in_no hI2 H4.out.bp hne o, in_no hI2 H4.out.bg hne o⟩) HM.out (by omega) HTS.out.1 HOS.out))
                  clear hI2 hk2 hq2 hob HA
                  go_wp2_with fail
                  refine HPC.out.mono ?_
                  rintro e w3 ⟨rfl, hq3, hk3⟩
                  replace hrr : ∃ k', (k' = k ∨ k' = q ∨ wo.heap.size ≤ k') ∧ Rs w3 q k' B0 r (Pw.go (tk b.length + 1) t) (Kp) := by
                    obtain ⟨k', h1, h2⟩ := hrr
                    exact ⟨k', h1, h2.k3 hk3 ⟨Ne.symm H4.out.zq, Ne.symm H4.out.pq, Ne.symm H4.out.gq⟩ ⟨H4.out.z0, H4.out.p0, H4.out.g0⟩⟩
                  have HB3 := Lib.hid (HB2.out.trans (hk3.below HB2.out.size H4.out.bz H4.out.bp H4.out.bg))
                  have HBS := Lib.hid (show wr.heap.size ≤ w3.heap.size by have := HSO.out; have := HS2.out; have := hk3.size; omega)
                  clear hk3 HB2 HS2 x0 x1 x2 x3
                  obtain ⟨k2, hk2or, hr3⟩ := hrr
                  have hr3w := hr3
                  obtain ⟨dirty, Ak, ck, hbx, how, -⟩ := hr3.box
                  obtain ⟨n2, hn2⟩ : ∃ n2, n2 = (Kp).length := ⟨_, rfl⟩
                  obtain ⟨σ, hσ⟩ : ∃ σ, σ = str (Kp) := ⟨_, rfl⟩
                  obtain ⟨gn, hgn⟩ : ∃ gn, gn = ((Pw.go (tk b.length + 1) t)).gone := ⟨_, rfl⟩
                  rw [← hgn, ← hn2] at hbx
                  have HN2 := Lib.hid hn2
                  have HSG := Lib.hid hσ
                  have HQL := Lib.hid (show q < w3.heap.size from hbx.lt)
                  have HG5 := Lib.hid (show w3.cell? ⟨q, 5, none⟩ = some (.slice Ak n2 ck) from hbx.cell 5)
                  have HG3 := Lib.hid (show w3.cell? ⟨q, 3, none⟩ = some (.bool gn) from hbx.cell 3)
                  have HCV := Lib.hid (show ∀ w5, Below w3.heap.size w3 w5 → (convert 28 9 (.slice Ak n2 ck)).run Try.prog w5 = .ok (.string σ) w5 from fun w5 hg => by
                    have h1 := (how.inn).below hg
                    have h2 := conv_sl (P := Try.prog) h1.sl Try.underlying28 Try.underlying5 Try.underlying9 ck
                    rw [← hn2, ← hσ] at h2
                    exact h2)
                  have HLD := Lib.hid (show ∀ w5, Below w3.heap.size w3 w5 → Calls Try.prog 16 #[.pointer (some ⟨z, 0, none⟩)] w5 fun e w' => ∃ A c, e = .returned (.slice A n2 c) ∧ In w' w'.heap.size A c (Kp) ∧ Below w5.heap.size w5 w' from fun w5 hg => by
                    rw [hn2]; exact sq_load z p g r _ _ w5 (hq3.below hg (Nat.le_refl _)))
                  have HDN := Lib.hid (show ∀ w5, Below w3.heap.size w3 w5 → Calls Try.prog 17 #[.pointer (some ⟨z, 0, none⟩)] w5 fun e w' => e = .returned (.bool gn) ∧ w' = w5 from fun w5 hg => by
                    have h1 := sq_down z p g r _ _ w5 (hq3.below hg (Nat.le_refl _))
                    rw [show ((Pw.go (tk b.length + 1) s)).gone = gn from ((Pw.eqv_go _ HT.out.eqv).1).2.trans hgn.symm] at h1
                    exact h1)
                  have HEND := Lib.hid (show ∀ w5, Below w3.heap.size w3 w5 → B0 ≤ w5.heap.size ∧ Two w z p g q k2 B0 r ((Pw.go (tk b.length + 1) s)) ((Pw.go (tk b.length + 1) t)) (Kp) ((i + 1) * 4096) w5 from fun w5 hg => ⟨Nat.le_trans HB0.out (Nat.le_trans HBS.out hg.size), hq3.below hg (Nat.le_refl _), hr3w.below hg (Nat.le_refl _), HB3.out.trans (hg.mono HB3.out.size), (Pw.eqv_go _ HT.out.eqv).1, (pw_max HT.out.su (show tk b.length + 1 ≤ 513 by have := HR5.out; rw [← HM.out]; omega) (show tk Kp.length ≤ 512 by have := HT.out.rs.len; have := HR5.out; omega) rfl).1, (pw_max HT.out.tu (show tk b.length + 1 ≤ 513 by have := HR5.out; rw [← HM.out]; omega) (show tk Kp.length ≤ 512 by have := HT.out.rs.len; have := HR5.out; omega) rfl).1⟩)
                  clear hr3w hr3 hbx how hn2 hσ hgn hq3 hk2or HBS HB3
                  go_wp2
                  rename_i K hK
                  refine Gt.regionA [Gt.Is (.pointer (some ⟨z, 0, none⟩)), LdIs n2 (Kp), Gt.Is (.string σ), Gt.Is (.pointer (some ⟨q, 0, none⟩)), Gt.Is (.pointer (some ⟨q, 0, none⟩)), Gt.Is (.pointer (some ⟨q, 5, none⟩)), Gt.Is (.slice Ak n2 ck), Gt.Is (.string σ), Gt.Is (.bool false), Gt.Is (.bool false), Gt.Is (.pointer (some ⟨z, 0, none⟩)), Gt.Is (.bool gn), Gt.Is (.pointer (some ⟨q, 0, none⟩)), Gt.Is (.pointer (some ⟨q, 0, none⟩)), Gt.Is (.pointer (some ⟨q, 3, none⟩)), Gt.Is (.bool gn), Gt.Is (.bool false), Gt.Is (.bool false)] 94
                    [⟨[], [5], none⟩, ⟨[(0, 75)], [], none⟩, ⟨[(1, 76)], [], none⟩, ⟨[], [6], none⟩, ⟨[(3, 78)], [], none⟩, ⟨[(4, 79)], [], none⟩, ⟨[(5, 80)], [], none⟩, ⟨[(6, 81)], [], none⟩, ⟨[(2, 77), (7, 82)], [], none⟩, ⟨[(8, 83)], [], none⟩, ⟨[(9, 84)], [5], some (84, false)⟩, ⟨[(9, 84), (10, 85)], [], some (84, false)⟩, ⟨[(9, 84)], [6], some (84, false)⟩, ⟨[(9, 84), (12, 87)], [], some (84, false)⟩, ⟨[(9, 84), (13, 88)], [], some (84, false)⟩, ⟨[(9, 84), (14, 89)], [], some (84, false)⟩, ⟨[(9, 84), (11, 86), (15, 90)], [], some (84, false)⟩, ⟨[(9, 84), (16, 91)], [], none⟩]
                    [(0, 75), (1, 76), (2, 77), (3, 78), (4, 79), (5, 80), (6, 81), (7, 82), (8, 83), (9, 84), (10, 85), (11, 86), (12, 87), (13, 88), (14, 89), (15, 90), (16, 91), (17, 92)] (by kernel_rfl) (by kernel_rfl) (by kernel_rfl) (by kernel_rfl) ?_ ?_ ?_
                  · simp only [Gt.Monos]
                    repeat' apply And.intro
                    all_goals (first | exact trivial | exact Gt.Is.mono _ | exact LdIs.mono _ _)
                  · simp only [Gt.Obs]
                    repeat' apply And.intro
                    all_goals try exact trivial
                    all_goals (
                      intro a w5 hg
                      have hg' : Below w3.heap.size w3 w5 := hg
                      simp only [Gt.Pre, Gt.Kept, Gt.Guarded, Gt.tys, List.getD_cons_zero, List.getD_cons_succ, Gt.Is, Nat.zero_add, Nat.reduceAdd]
                      intros
                      try (refine ⟨fun _ => ?_, fun hne => absurd (by assumption) hne⟩))
                    all_goals (first
                      | exact Gt.ok_move rfl (by assumption)
                      | exact Gt.ok_assign rfl (by assumption)
                      | exact Gt.ok_pick rfl (by assumption) (by rw [if_pos rfl]; assumption)
                      | (exact Gt.ok_call (f := 16) rfl #[.pointer (some ⟨z, 0, none⟩)] (by kernel_rfl) (by simp [*]) ((HLD.out w5 hg').mono fun e w6 h => by obtain ⟨A6, c6, h1, h2, h3⟩ := h; exact ⟨_, h1, h3, A6, c6, rfl, h2⟩))
                      | (exact Gt.ok_call (f := 17) rfl #[.pointer (some ⟨z, 0, none⟩)] (by kernel_rfl) (by simp [*]) ((HDN.out w5 hg').mono fun e w6 h => ⟨_, h.1, by rw [h.2]; exact Gt.Gr.refl _, rfl⟩))
                      | (rename_i h6
                         obtain ⟨A6, c6, e6, hI6⟩ := h6
                         have k5 := conv_load hI6 HN2.out
                         rw [← HSG.out] at k5
                         exact Gt.ok_convert rfl e6 k5 rfl)
                      | (exact Gt.ok_convert rfl (by assumption) (HCV.out w5 hg') rfl)
                      | (have g5 : w5.cell? ⟨q, 5, none⟩ = some (.slice Ak n2 ck) := (hg'.cell HQL.out).trans HG5.out
                         have g3 : w5.cell? ⟨q, 3, none⟩ = some (.bool gn) := (hg'.cell HQL.out).trans HG3.out
                         refine Gt.ok_run ?_ rfl
                         simp only [execOp, *]
                         go_simp
                         done))
                  · intro a w5 hg
                    have hg' : Below w3.heap.size w3 w5 := hg
                    simp only [Gt.Pre, Gt.tys, List.getD_cons_zero, List.getD_cons_succ, Gt.Is]
                    intro h0 h1 h2 h3 h4 h5 h6 h7 h8 h9 h10 h11 h12 h13 h14 h15 h16 h17
                    obtain ⟨A6, c6, e1, _⟩ := h1
                    show K _ _
                    refine hK _ _ ?_
                    simp only [Gt.puts, List.foldl_cons, List.foldl_nil, h0, h2, h3, h4, h5, h6, h7, h8, h9, h10, h11, h12, h13, h14, h15, h16, h17, e1]
                    simp only [Act.put, List.setIfInBounds_toArray, List.set_cons_zero, List.set_cons_succ]
                    have hT5 := HEND.out w5 hg'
                    have HT5 := Lib.hid hT5
                    clear hT5
                    go_wp2
                    go_roundw
                    case rel => exact ⟨i + 1, _, _, _, _, by go_num, by omega, HT5.out.1, HT5.out.2⟩
                    case measure => simp [intOf]; omega
                | true =>
                  have HOT := Lib.hid hot
                  have HOS := Lib.hid ((Pw.eqv_go (tk b.length + 1) HT.out.eqv).2.trans hot)
                  clear hot
                  have HA := Lib.hid (show Calls Try.prog 11 #[.pointer (some ⟨q, 0, none⟩), .agg #[.int .i64 1, .int .i64 N, .int .u8 (y : Int), .slice A m c]] wo (DoP wo q k B0 r (Pw.go (tk Kp.length) (Pw.go (tk b.length + 1) t)) (b) (.int .i64 (bif Pw.ok (tk Kp.length) (Pw.go (tk b.length + 1) t) then 0 else 3))) from doP_y (fsave_yes y A m c wo q k B0 r w.heap.size t Kp b N HRS.out HBO.out HI0.out HM.out (fun o hne => in_no HI0.out H4.out.bq hne o) (by omega) HTS.out.2 HOT.out))
                  refine HA.out.mono ?_
                  rintro e w2 ⟨rfl, hrr, hk2⟩
                  have hq2 : Sq w2 z p g r s Kp := HSQ.out.k2 hk2 ⟨H4.out.zq, H4.out.pq, H4.out.gq⟩ HKN.out
                  have hob : w2.heap[wr.heap.size]? = wo.heap[wr.heap.size]? := hk2.block _ (by rw [HSO.out]; omega) (by have := HQW.out; omega) (by have := HKW.out; omega)
                  have HB2 := Lib.hid (HWO.out.trans (hk2.below HWO.out.size H4.out.bq HKB.out))
                  have x0 := (cell_heap hob).trans (HOP.out 0 (.int .i64 1) rfl)
                  have x1 := (cell_heap hob).trans (HOP.out 1 (.int .i64 N) rfl)
                  have x2 := (cell_heap hob).trans (HOP.out 2 (.int .u8 (y : Int)) rfl)
                  have x3 := (cell_heap hob).trans (HOP.out 3 (.slice A m c) rfl)
                  have HS2 := Lib.hid hk2.size
                  have hI2 : In w2 w.heap.size A c b := HIb.out.below HB2.out
                  have HPC := Lib.hid (show Calls Try.prog 12 #[.pointer (some ⟨z, 0, none⟩), .slice A m c] w2 (SzP w2 z p g r (Pw.go (tk Kp.length) (Pw.go (tk b.length + 1) s)) (b) (.int .i64 (bif Pw.ok (tk Kp.length) (Pw.go (tk b.length + 1) t) then 0 else 3))) from szP_to (by rw [← (Pw.eqv_go (tk Kp.length) (Pw.eqv_go (tk b.length + 1) HT.out.eqv).1).2]; exact sq_yes z p g r w.heap.size Kp b s A m c w2 hq2 hI2 (fun o hne => ⟨in_no hI2 H4.out.bz hne o, in_no hI2 H4.out.bp hne o, in_no hI2 H4.out.bg hne o⟩) HM.out (by omega) HTS.out.1 HOS.out))
                  clear hI2 hk2 hq2 hob HA
                  go_wp2_with fail
                  refine HPC.out.mono ?_
                  rintro e w3 ⟨rfl, hq3, hk3⟩
                  replace hrr : ∃ k', (k' = k ∨ k' = q ∨ wo.heap.size ≤ k') ∧ Rs w3 q k' B0 r (Pw.go (tk Kp.length) (Pw.go (tk b.length + 1) t)) (b) := by
                    obtain ⟨k', h1, h2⟩ := hrr
                    exact ⟨k', h1, h2.k3 hk3 ⟨Ne.symm H4.out.zq, Ne.symm H4.out.pq, Ne.symm H4.out.gq⟩ ⟨H4.out.z0, H4.out.p0, H4.out.g0⟩⟩
                  have HB3 := Lib.hid (HB2.out.trans (hk3.below HB2.out.size H4.out.bz H4.out.bp H4.out.bg))
                  have HBS := Lib.hid (show wr.heap.size ≤ w3.heap.size by have := HSO.out; have := HS2.out; have := hk3.size; omega)
                  clear hk3 HB2 HS2 x0 x1 x2 x3
                  obtain ⟨k2, hk2or, hr3⟩ := hrr
                  have hr3w := hr3
                  obtain ⟨dirty, Ak, ck, hbx, how, -⟩ := hr3.box
                  obtain ⟨n2, hn2⟩ : ∃ n2, n2 = (b).length := ⟨_, rfl⟩
                  obtain ⟨σ, hσ⟩ : ∃ σ, σ = str (b) := ⟨_, rfl⟩
                  obtain ⟨gn, hgn⟩ : ∃ gn, gn = ((Pw.go (tk Kp.length) (Pw.go (tk b.length + 1) t))).gone := ⟨_, rfl⟩
                  rw [← hgn, ← hn2] at hbx
                  have HN2 := Lib.hid hn2
                  have HSG := Lib.hid hσ
                  have HQL := Lib.hid (show q < w3.heap.size from hbx.lt)
                  have HG5 := Lib.hid (show w3.cell? ⟨q, 5, none⟩ = some (.slice Ak n2 ck) from hbx.cell 5)
                  have HG3 := Lib.hid (show w3.cell? ⟨q, 3, none⟩ = some (.bool gn) from hbx.cell 3)
                  have HCV := Lib.hid (show ∀ w5, Below w3.heap.size w3 w5 → (convert 28 9 (.slice Ak n2 ck)).run Try.prog w5 = .ok (.string σ) w5 from fun w5 hg => by
                    have h1 := (how.inn).below hg
                    have h2 := conv_sl (P := Try.prog) h1.sl Try.underlying28 Try.underlying5 Try.underlying9 ck
                    rw [← hn2, ← hσ] at h2
                    exact h2)
                  have HLD := Lib.hid (show ∀ w5, Below w3.heap.size w3 w5 → Calls Try.prog 16 #[.pointer (some ⟨z, 0, none⟩)] w5 fun e w' => ∃ A c, e = .returned (.slice A n2 c) ∧ In w' w'.heap.size A c (b) ∧ Below w5.heap.size w5 w' from fun w5 hg => by
                    rw [hn2]; exact sq_load z p g r _ _ w5 (hq3.below hg (Nat.le_refl _)))
                  have HDN := Lib.hid (show ∀ w5, Below w3.heap.size w3 w5 → Calls Try.prog 17 #[.pointer (some ⟨z, 0, none⟩)] w5 fun e w' => e = .returned (.bool gn) ∧ w' = w5 from fun w5 hg => by
                    have h1 := sq_down z p g r _ _ w5 (hq3.below hg (Nat.le_refl _))
                    rw [show ((Pw.go (tk Kp.length) (Pw.go (tk b.length + 1) s))).gone = gn from ((Pw.eqv_go _ (Pw.eqv_go _ HT.out.eqv).1).1).2.trans hgn.symm] at h1
                    exact h1)
                  have HEND := Lib.hid (show ∀ w5, Below w3.heap.size w3 w5 → B0 ≤ w5.heap.size ∧ Two w z p g q k2 B0 r ((Pw.go (tk Kp.length) (Pw.go (tk b.length + 1) s))) ((Pw.go (tk Kp.length) (Pw.go (tk b.length + 1) t))) (b) ((i + 1) * 4096) w5 from fun w5 hg => ⟨Nat.le_trans HB0.out (Nat.le_trans HBS.out hg.size), hq3.below hg (Nat.le_refl _), hr3w.below hg (Nat.le_refl _), HB3.out.trans (hg.mono HB3.out.size), (Pw.eqv_go _ (Pw.eqv_go _ HT.out.eqv).1).1, (pw_max HT.out.su (show tk b.length + 1 ≤ 513 by have := HR5.out; rw [← HM.out]; omega) (show tk Kp.length ≤ 512 by have := HT.out.rs.len; have := HR5.out; omega) rfl).2, (pw_max HT.out.tu (show tk b.length + 1 ≤ 513 by have := HR5.out; rw [← HM.out]; omega) (show tk Kp.length ≤ 512 by have := HT.out.rs.len; have := HR5.out; omega) rfl).2⟩)
                  clear hr3w hr3 hbx how hn2 hσ hgn hq3 hk2or HBS HB3
                  go_wp2
                  rename_i K hK
                  refine Gt.regionA [Gt.Is (.pointer (some ⟨z, 0, none⟩)), LdIs n2 (b), Gt.Is (.string σ), Gt.Is (.pointer (some ⟨q, 0, none⟩)), Gt.Is (.pointer (some ⟨q, 0, none⟩)), Gt.Is (.pointer (some ⟨q, 5, none⟩)), Gt.Is (.slice Ak n2 ck), Gt.Is (.string σ), Gt.Is (.bool false), Gt.Is (.bool false), Gt.Is (.pointer (some ⟨z, 0, none⟩)), Gt.Is (.bool gn), Gt.Is (.pointer (some ⟨q, 0, none⟩)), Gt.Is (.pointer (some ⟨q, 0, none⟩)), Gt.Is (.pointer (some ⟨q, 3, none⟩)), Gt.Is (.bool gn), Gt.Is (.bool false), Gt.Is (.bool false)] 94
                    [⟨[], [5], none⟩, ⟨[(0, 75)], [], none⟩, ⟨[(1, 76)], [], none⟩, ⟨[], [6], none⟩, ⟨[(3, 78)], [], none⟩, ⟨[(4, 79)], [], none⟩, ⟨[(5, 80)], [], none⟩, ⟨[(6, 81)], [], none⟩, ⟨[(2, 77), (7, 82)], [], none⟩, ⟨[(8, 83)], [], none⟩, ⟨[(9, 84)], [5], some (84, false)⟩, ⟨[(9, 84), (10, 85)], [], some (84, false)⟩, ⟨[(9, 84)], [6], some (84, false)⟩, ⟨[(9, 84), (12, 87)], [], some (84, false)⟩, ⟨[(9, 84), (13, 88)], [], some (84, false)⟩, ⟨[(9, 84), (14, 89)], [], some (84, false)⟩, ⟨[(9, 84), (11, 86), (15, 90)], [], some (84, false)⟩, ⟨[(9, 84), (16, 91)], [], none⟩]
                    [(0, 75), (1, 76), (2, 77), (3, 78), (4, 79), (5, 80), (6, 81), (7, 82), (8, 83), (9, 84), (10, 85), (11, 86), (12, 87), (13, 88), (14, 89), (15, 90), (16, 91), (17, 92)] (by kernel_rfl) (by kernel_rfl) (by kernel_rfl) (by kernel_rfl) ?_ ?_ ?_
                  · simp only [Gt.Monos]
                    repeat' apply And.intro
                    all_goals (first | exact trivial | exact Gt.Is.mono _ | exact LdIs.mono _ _)
                  · simp only [Gt.Obs]
                    repeat' apply And.intro
                    all_goals try exact trivial
                    all_goals (
                      intro a w5 hg
                      have hg' : Below w3.heap.size w3 w5 := hg
                      simp only [Gt.Pre, Gt.Kept, Gt.Guarded, Gt.tys, List.getD_cons_zero, List.getD_cons_succ, Gt.Is, Nat.zero_add, Nat.reduceAdd]
                      intros
                      try (refine ⟨fun _ => ?_, fun hne => absurd (by assumption) hne⟩))
                    all_goals (first
                      | exact Gt.ok_move rfl (by assumption)
                      | exact Gt.ok_assign rfl (by assumption)
                      | exact Gt.ok_pick rfl (by assumption) (by rw [if_pos rfl]; assumption)
                      | (exact Gt.ok_call (f := 16) rfl #[.pointer (some ⟨z, 0, none⟩)] (by kernel_rfl) (by simp [*]) ((HLD.out w5 hg').mono fun e w6 h => by obtain ⟨A6, c6, h1, h2, h3⟩ := h; exact ⟨_, h1, h3, A6, c6, rfl, h2⟩))
                      | (exact Gt.ok_call (f := 17) rfl #[.pointer (some ⟨z, 0, none⟩)] (by kernel_rfl) (by simp [*]) ((HDN.out w5 hg').mono fun e w6 h => ⟨_, h.1, by rw [h.2]; exact Gt.Gr.refl _, rfl⟩))
                      | (rename_i h6
                         obtain ⟨A6, c6, e6, hI6⟩ := h6
                         have k5 := conv_load hI6 HN2.out
                         rw [← HSG.out] at k5
                         exact Gt.ok_convert rfl e6 k5 rfl)
                      | (exact Gt.ok_convert rfl (by assumption) (HCV.out w5 hg') rfl)
                      | (have g5 : w5.cell? ⟨q, 5, none⟩ = some (.slice Ak n2 ck) := (hg'.cell HQL.out).trans HG5.out
                         have g3 : w5.cell? ⟨q, 3, none⟩ = some (.bool gn) := (hg'.cell HQL.out).trans HG3.out
                         refine Gt.ok_run ?_ rfl
                         simp only [execOp, *]
                         go_simp
                         done))
                  · intro a w5 hg
                    have hg' : Below w3.heap.size w3 w5 := hg
                    simp only [Gt.Pre, Gt.tys, List.getD_cons_zero, List.getD_cons_succ, Gt.Is]
                    intro h0 h1 h2 h3 h4 h5 h6 h7 h8 h9 h10 h11 h12 h13 h14 h15 h16 h17
                    obtain ⟨A6, c6, e1, _⟩ := h1
                    show K _ _
                    refine hK _ _ ?_
                    simp only [Gt.puts, List.foldl_cons, List.foldl_nil, h0, h2, h3, h4, h5, h6, h7, h8, h9, h10, h11, h12, h13, h14, h15, h16, h17, e1]
                    simp only [Act.put, List.setIfInBounds_toArray, List.set_cons_zero, List.set_cons_succ]
                    have hT5 := HEND.out w5 hg'
                    have HT5 := Lib.hid hT5
                    clear hT5
                    go_wp2
                    go_roundw
                    case rel => exact ⟨i + 1, _, _, _, _, by go_num, by omega, HT5.out.1, HT5.out.2⟩
                    case measure => simp [intOf]; omega
            · by_cases k2 : E = 2
              · subst k2
                have HA := Lib.hid (show Calls Try.prog 11 #[.pointer (some ⟨q, 0, none⟩), .agg #[.int .i64 2, .int .i64 N, .int .u8 (y : Int), .slice A m c]] wo (DoP wo q k B0 r (⟨-1, false, t.u⟩ : Pw) (Kp) (.int .i64 0)) from doP_q (fslot_start y A m c wo q k B0 r t Kp N HRS.out))
                refine HA.out.mono ?_
                rintro e w2 ⟨rfl, hrr, hk2⟩
                have hq2 : Sq w2 z p g r s Kp := HSQ.out.k2 hk2 ⟨H4.out.zq, H4.out.pq, H4.out.gq⟩ HKN.out
                have hob : w2.heap[wr.heap.size]? = wo.heap[wr.heap.size]? := hk2.block _ (by rw [HSO.out]; omega) (by have := HQW.out; omega) (by have := HKW.out; omega)
                have HB2 := Lib.hid (HWO.out.trans (hk2.below HWO.out.size H4.out.bq HKB.out))
                have x0 := (cell_heap hob).trans (HOP.out 0 (.int .i64 2) rfl)
                have x1 := (cell_heap hob).trans (HOP.out 1 (.int .i64 N) rfl)
                have x2 := (cell_heap hob).trans (HOP.out 2 (.int .u8 (y : Int)) rfl)
                have x3 := (cell_heap hob).trans (HOP.out 3 (.slice A m c) rfl)
                have HS2 := Lib.hid hk2.size
                have hI2 : In w2 w.heap.size A c b := HIb.out.below HB2.out
                have HPC := Lib.hid (show Calls Try.prog 13 #[.pointer (some ⟨z, 0, none⟩)] w2 (fun e w' => ∃ u2, e = .returned (.tuple #[]) ∧ Sq w' z p g r ⟨-1, false, u2⟩ Kp ∧ u2 ≤ s.u + r ∧ K3 w2 w' z p g) from sq_start z p g r Kp s w2 hq2 HTS.out.1)
                clear hI2 hk2 hq2 hob HA
                go_wp2_with fail
                refine HPC.out.mono ?_
                rintro e w3 ⟨u2, rfl, hq3, hu2', hk3⟩
                have hu2 : (⟨-1, false, u2⟩ : Pw).u ≤ (i + 1) * 4096 := by show u2 ≤ _; have := HT.out.su; have := HR5.out; omega
                replace hrr : ∃ k', (k' = k ∨ k' = q ∨ wo.heap.size ≤ k') ∧ Rs w3 q k' B0 r (⟨-1, false, t.u⟩ : Pw) (Kp) := by
                  obtain ⟨k', h1, h2⟩ := hrr
                  exact ⟨k', h1, h2.k3 hk3 ⟨Ne.symm H4.out.zq, Ne.symm H4.out.pq, Ne.symm H4.out.gq⟩ ⟨H4.out.z0, H4.out.p0, H4.out.g0⟩⟩
                have HB3 := Lib.hid (HB2.out.trans (hk3.below HB2.out.size H4.out.bz H4.out.bp H4.out.bg))
                have HBS := Lib.hid (show wr.heap.size ≤ w3.heap.size by have := HSO.out; have := HS2.out; have := hk3.size; omega)
                clear hk3 hu2' HB2 HS2 x0 x1 x2 x3
                obtain ⟨k2, hk2or, hr3⟩ := hrr
                have hr3w := hr3
                obtain ⟨dirty, Ak, ck, hbx, how, -⟩ := hr3.box
                obtain ⟨n2, hn2⟩ : ∃ n2, n2 = (Kp).length := ⟨_, rfl⟩
                obtain ⟨σ, hσ⟩ : ∃ σ, σ = str (Kp) := ⟨_, rfl⟩
                obtain ⟨gn, hgn⟩ : ∃ gn, gn = ((⟨-1, false, t.u⟩ : Pw)).gone := ⟨_, rfl⟩
                rw [← hgn, ← hn2] at hbx
                have HN2 := Lib.hid hn2
                have HSG := Lib.hid hσ
                have HQL := Lib.hid (show q < w3.heap.size from hbx.lt)
                have HG5 := Lib.hid (show w3.cell? ⟨q, 5, none⟩ = some (.slice Ak n2 ck) from hbx.cell 5)
                have HG3 := Lib.hid (show w3.cell? ⟨q, 3, none⟩ = some (.bool gn) from hbx.cell 3)
                have HCV := Lib.hid (show ∀ w5, Below w3.heap.size w3 w5 → (convert 28 9 (.slice Ak n2 ck)).run Try.prog w5 = .ok (.string σ) w5 from fun w5 hg => by
                  have h1 := (how.inn).below hg
                  have h2 := conv_sl (P := Try.prog) h1.sl Try.underlying28 Try.underlying5 Try.underlying9 ck
                  rw [← hn2, ← hσ] at h2
                  exact h2)
                have HLD := Lib.hid (show ∀ w5, Below w3.heap.size w3 w5 → Calls Try.prog 16 #[.pointer (some ⟨z, 0, none⟩)] w5 fun e w' => ∃ A c, e = .returned (.slice A n2 c) ∧ In w' w'.heap.size A c (Kp) ∧ Below w5.heap.size w5 w' from fun w5 hg => by
                  rw [hn2]; exact sq_load z p g r _ _ w5 (hq3.below hg (Nat.le_refl _)))
                have HDN := Lib.hid (show ∀ w5, Below w3.heap.size w3 w5 → Calls Try.prog 17 #[.pointer (some ⟨z, 0, none⟩)] w5 fun e w' => e = .returned (.bool gn) ∧ w' = w5 from fun w5 hg => by
                  have h1 := sq_down z p g r _ _ w5 (hq3.below hg (Nat.le_refl _))
                  rw [show ((⟨-1, false, u2⟩ : Pw)).gone = gn from ((show Pw.eqv ⟨-1, false, u2⟩ ⟨-1, false, t.u⟩ from ⟨rfl, rfl⟩)).2.trans hgn.symm] at h1
                  exact h1)
                have HEND := Lib.hid (show ∀ w5, Below w3.heap.size w3 w5 → B0 ≤ w5.heap.size ∧ Two w z p g q k2 B0 r ((⟨-1, false, u2⟩ : Pw)) ((⟨-1, false, t.u⟩ : Pw)) (Kp) ((i + 1) * 4096) w5 from fun w5 hg => ⟨Nat.le_trans HB0.out (Nat.le_trans HBS.out hg.size), hq3.below hg (Nat.le_refl _), hr3w.below hg (Nat.le_refl _), HB3.out.trans (hg.mono HB3.out.size), (show Pw.eqv ⟨-1, false, u2⟩ ⟨-1, false, t.u⟩ from ⟨rfl, rfl⟩), hu2, (show t.u ≤ _ by have := HT.out.tu; omega)⟩)
                clear hr3w hr3 hbx how hn2 hσ hgn hq3 hk2or HBS HB3
                go_wp2
                rename_i K hK
                refine Gt.regionA [Gt.Is (.pointer (some ⟨z, 0, none⟩)), LdIs n2 (Kp), Gt.Is (.string σ), Gt.Is (.pointer (some ⟨q, 0, none⟩)), Gt.Is (.pointer (some ⟨q, 0, none⟩)), Gt.Is (.pointer (some ⟨q, 5, none⟩)), Gt.Is (.slice Ak n2 ck), Gt.Is (.string σ), Gt.Is (.bool false), Gt.Is (.bool false), Gt.Is (.pointer (some ⟨z, 0, none⟩)), Gt.Is (.bool gn), Gt.Is (.pointer (some ⟨q, 0, none⟩)), Gt.Is (.pointer (some ⟨q, 0, none⟩)), Gt.Is (.pointer (some ⟨q, 3, none⟩)), Gt.Is (.bool gn), Gt.Is (.bool false), Gt.Is (.bool false)] 94
                  [⟨[], [5], none⟩, ⟨[(0, 75)], [], none⟩, ⟨[(1, 76)], [], none⟩, ⟨[], [6], none⟩, ⟨[(3, 78)], [], none⟩, ⟨[(4, 79)], [], none⟩, ⟨[(5, 80)], [], none⟩, ⟨[(6, 81)], [], none⟩, ⟨[(2, 77), (7, 82)], [], none⟩, ⟨[(8, 83)], [], none⟩, ⟨[(9, 84)], [5], some (84, false)⟩, ⟨[(9, 84), (10, 85)], [], some (84, false)⟩, ⟨[(9, 84)], [6], some (84, false)⟩, ⟨[(9, 84), (12, 87)], [], some (84, false)⟩, ⟨[(9, 84), (13, 88)], [], some (84, false)⟩, ⟨[(9, 84), (14, 89)], [], some (84, false)⟩, ⟨[(9, 84), (11, 86), (15, 90)], [], some (84, false)⟩, ⟨[(9, 84), (16, 91)], [], none⟩]
                  [(0, 75), (1, 76), (2, 77), (3, 78), (4, 79), (5, 80), (6, 81), (7, 82), (8, 83), (9, 84), (10, 85), (11, 86), (12, 87), (13, 88), (14, 89), (15, 90), (16, 91), (17, 92)] (by kernel_rfl) (by kernel_rfl) (by kernel_rfl) (by kernel_rfl) ?_ ?_ ?_
                · simp only [Gt.Monos]
                  repeat' apply And.intro
                  all_goals (first | exact trivial | exact Gt.Is.mono _ | exact LdIs.mono _ _)
                · simp only [Gt.Obs]
                  repeat' apply And.intro
                  all_goals try exact trivial
                  all_goals (
                    intro a w5 hg
                    have hg' : Below w3.heap.size w3 w5 := hg
                    simp only [Gt.Pre, Gt.Kept, Gt.Guarded, Gt.tys, List.getD_cons_zero, List.getD_cons_succ, Gt.Is, Nat.zero_add, Nat.reduceAdd]
                    intros
                    try (refine ⟨fun _ => ?_, fun hne => absurd (by assumption) hne⟩))
                  all_goals (first
                    | exact Gt.ok_move rfl (by assumption)
                    | exact Gt.ok_assign rfl (by assumption)
                    | exact Gt.ok_pick rfl (by assumption) (by rw [if_pos rfl]; assumption)
                    | (exact Gt.ok_call (f := 16) rfl #[.pointer (some ⟨z, 0, none⟩)] (by kernel_rfl) (by simp [*]) ((HLD.out w5 hg').mono fun e w6 h => by obtain ⟨A6, c6, h1, h2, h3⟩ := h; exact ⟨_, h1, h3, A6, c6, rfl, h2⟩))
                    | (exact Gt.ok_call (f := 17) rfl #[.pointer (some ⟨z, 0, none⟩)] (by kernel_rfl) (by simp [*]) ((HDN.out w5 hg').mono fun e w6 h => ⟨_, h.1, by rw [h.2]; exact Gt.Gr.refl _, rfl⟩))
                    | (rename_i h6
                       obtain ⟨A6, c6, e6, hI6⟩ := h6
                       have k5 := conv_load hI6 HN2.out
                       rw [← HSG.out] at k5
                       exact Gt.ok_convert rfl e6 k5 rfl)
                    | (exact Gt.ok_convert rfl (by assumption) (HCV.out w5 hg') rfl)
                    | (have g5 : w5.cell? ⟨q, 5, none⟩ = some (.slice Ak n2 ck) := (hg'.cell HQL.out).trans HG5.out
                       have g3 : w5.cell? ⟨q, 3, none⟩ = some (.bool gn) := (hg'.cell HQL.out).trans HG3.out
                       refine Gt.ok_run ?_ rfl
                       simp only [execOp, *]
                       go_simp
                       done))
                · intro a w5 hg
                  have hg' : Below w3.heap.size w3 w5 := hg
                  simp only [Gt.Pre, Gt.tys, List.getD_cons_zero, List.getD_cons_succ, Gt.Is]
                  intro h0 h1 h2 h3 h4 h5 h6 h7 h8 h9 h10 h11 h12 h13 h14 h15 h16 h17
                  obtain ⟨A6, c6, e1, _⟩ := h1
                  show K _ _
                  refine hK _ _ ?_
                  simp only [Gt.puts, List.foldl_cons, List.foldl_nil, h0, h2, h3, h4, h5, h6, h7, h8, h9, h10, h11, h12, h13, h14, h15, h16, h17, e1]
                  simp only [Act.put, List.setIfInBounds_toArray, List.set_cons_zero, List.set_cons_succ]
                  have hT5 := HEND.out w5 hg'
                  have HT5 := Lib.hid hT5
                  clear hT5
                  go_wp2
                  go_roundw
                  case rel => exact ⟨i + 1, _, _, _, _, by go_num, by omega, HT5.out.1, HT5.out.2⟩
                  case measure => simp [intOf]; omega
              · by_cases k3 : E = 3
                · subst k3
                  have HA := Lib.hid (show Calls Try.prog 11 #[.pointer (some ⟨q, 0, none⟩), .agg #[.int .i64 3, .int .i64 N, .int .u8 (y : Int), .slice A m c]] wo (DoP wo q k B0 r (⟨(N.toNat : Int), t.gone, t.u⟩ : Pw) (Kp) (.int .i64 0)) from doP_q (fslot_fuse y A m c wo q k B0 r t Kp N (by have := bounds_i64 HNI.out; omega) HRS.out))
                  refine HA.out.mono ?_
                  rintro e w2 ⟨rfl, hrr, hk2⟩
                  have hq2 : Sq w2 z p g r s Kp := HSQ.out.k2 hk2 ⟨H4.out.zq, H4.out.pq, H4.out.gq⟩ HKN.out
                  have hob : w2.heap[wr.heap.size]? = wo.heap[wr.heap.size]? := hk2.block _ (by rw [HSO.out]; omega) (by have := HQW.out; omega) (by have := HKW.out; omega)
                  have HB2 := Lib.hid (HWO.out.trans (hk2.below HWO.out.size H4.out.bq HKB.out))
                  have x0 := (cell_heap hob).trans (HOP.out 0 (.int .i64 3) rfl)
                  have x1 := (cell_heap hob).trans (HOP.out 1 (.int .i64 N) rfl)
                  have x2 := (cell_heap hob).trans (HOP.out 2 (.int .u8 (y : Int)) rfl)
                  have x3 := (cell_heap hob).trans (HOP.out 3 (.slice A m c) rfl)
                  have HS2 := Lib.hid hk2.size
                  have hI2 : In w2 w.heap.size A c b := HIb.out.below HB2.out
                  have HPC := Lib.hid (show Calls Try.prog 14 #[.pointer (some ⟨z, 0, none⟩), .int .i64 N] w2 (SzP w2 z p g r (⟨(N.toNat : Int), s.gone, s.u⟩ : Pw) (Kp) (.tuple #[])) from szP_to (sq_fuse z p g r Kp s N w2 hq2 (by have := bounds_i64 HNI.out; omega)))
                  clear hI2 hk2 hq2 hob HA
                  go_wp2_with fail
                  refine HPC.out.mono ?_
                  rintro e w3 ⟨rfl, hq3, hk3⟩
                  replace hrr : ∃ k', (k' = k ∨ k' = q ∨ wo.heap.size ≤ k') ∧ Rs w3 q k' B0 r (⟨(N.toNat : Int), t.gone, t.u⟩ : Pw) (Kp) := by
                    obtain ⟨k', h1, h2⟩ := hrr
                    exact ⟨k', h1, h2.k3 hk3 ⟨Ne.symm H4.out.zq, Ne.symm H4.out.pq, Ne.symm H4.out.gq⟩ ⟨H4.out.z0, H4.out.p0, H4.out.g0⟩⟩
                  have HB3 := Lib.hid (HB2.out.trans (hk3.below HB2.out.size H4.out.bz H4.out.bp H4.out.bg))
                  have HBS := Lib.hid (show wr.heap.size ≤ w3.heap.size by have := HSO.out; have := HS2.out; have := hk3.size; omega)
                  clear hk3 HB2 HS2 x0 x1 x2 x3
                  obtain ⟨k2, hk2or, hr3⟩ := hrr
                  have hr3w := hr3
                  obtain ⟨dirty, Ak, ck, hbx, how, -⟩ := hr3.box
                  obtain ⟨n2, hn2⟩ : ∃ n2, n2 = (Kp).length := ⟨_, rfl⟩
                  obtain ⟨σ, hσ⟩ : ∃ σ, σ = str (Kp) := ⟨_, rfl⟩
                  obtain ⟨gn, hgn⟩ : ∃ gn, gn = ((⟨(N.toNat : Int), t.gone, t.u⟩ : Pw)).gone := ⟨_, rfl⟩
                  rw [← hgn, ← hn2] at hbx
                  have HN2 := Lib.hid hn2
                  have HSG := Lib.hid hσ
                  have HQL := Lib.hid (show q < w3.heap.size from hbx.lt)
                  have HG5 := Lib.hid (show w3.cell? ⟨q, 5, none⟩ = some (.slice Ak n2 ck) from hbx.cell 5)
                  have HG3 := Lib.hid (show w3.cell? ⟨q, 3, none⟩ = some (.bool gn) from hbx.cell 3)
                  have HCV := Lib.hid (show ∀ w5, Below w3.heap.size w3 w5 → (convert 28 9 (.slice Ak n2 ck)).run Try.prog w5 = .ok (.string σ) w5 from fun w5 hg => by
                    have h1 := (how.inn).below hg
                    have h2 := conv_sl (P := Try.prog) h1.sl Try.underlying28 Try.underlying5 Try.underlying9 ck
                    rw [← hn2, ← hσ] at h2
                    exact h2)
                  have HLD := Lib.hid (show ∀ w5, Below w3.heap.size w3 w5 → Calls Try.prog 16 #[.pointer (some ⟨z, 0, none⟩)] w5 fun e w' => ∃ A c, e = .returned (.slice A n2 c) ∧ In w' w'.heap.size A c (Kp) ∧ Below w5.heap.size w5 w' from fun w5 hg => by
                    rw [hn2]; exact sq_load z p g r _ _ w5 (hq3.below hg (Nat.le_refl _)))
                  have HDN := Lib.hid (show ∀ w5, Below w3.heap.size w3 w5 → Calls Try.prog 17 #[.pointer (some ⟨z, 0, none⟩)] w5 fun e w' => e = .returned (.bool gn) ∧ w' = w5 from fun w5 hg => by
                    have h1 := sq_down z p g r _ _ w5 (hq3.below hg (Nat.le_refl _))
                    rw [show ((⟨(N.toNat : Int), s.gone, s.u⟩ : Pw)).gone = gn from ((show Pw.eqv ⟨(N.toNat : Int), s.gone, s.u⟩ ⟨(N.toNat : Int), t.gone, t.u⟩ from ⟨rfl, HT.out.eqv.2⟩)).2.trans hgn.symm] at h1
                    exact h1)
                  have HEND := Lib.hid (show ∀ w5, Below w3.heap.size w3 w5 → B0 ≤ w5.heap.size ∧ Two w z p g q k2 B0 r ((⟨(N.toNat : Int), s.gone, s.u⟩ : Pw)) ((⟨(N.toNat : Int), t.gone, t.u⟩ : Pw)) (Kp) ((i + 1) * 4096) w5 from fun w5 hg => ⟨Nat.le_trans HB0.out (Nat.le_trans HBS.out hg.size), hq3.below hg (Nat.le_refl _), hr3w.below hg (Nat.le_refl _), HB3.out.trans (hg.mono HB3.out.size), (show Pw.eqv ⟨(N.toNat : Int), s.gone, s.u⟩ ⟨(N.toNat : Int), t.gone, t.u⟩ from ⟨rfl, HT.out.eqv.2⟩), (show s.u ≤ _ by have := HT.out.su; omega), (show t.u ≤ _ by have := HT.out.tu; omega)⟩)
                  clear hr3w hr3 hbx how hn2 hσ hgn hq3 hk2or HBS HB3
                  go_wp2
                  rename_i K hK
                  refine Gt.regionA [Gt.Is (.pointer (some ⟨z, 0, none⟩)), LdIs n2 (Kp), Gt.Is (.string σ), Gt.Is (.pointer (some ⟨q, 0, none⟩)), Gt.Is (.pointer (some ⟨q, 0, none⟩)), Gt.Is (.pointer (some ⟨q, 5, none⟩)), Gt.Is (.slice Ak n2 ck), Gt.Is (.string σ), Gt.Is (.bool false), Gt.Is (.bool false), Gt.Is (.pointer (some ⟨z, 0, none⟩)), Gt.Is (.bool gn), Gt.Is (.pointer (some ⟨q, 0, none⟩)), Gt.Is (.pointer (some ⟨q, 0, none⟩)), Gt.Is (.pointer (some ⟨q, 3, none⟩)), Gt.Is (.bool gn), Gt.Is (.bool false), Gt.Is (.bool false)] 94
                    [⟨[], [5], none⟩, ⟨[(0, 75)], [], none⟩, ⟨[(1, 76)], [], none⟩, ⟨[], [6], none⟩, ⟨[(3, 78)], [], none⟩, ⟨[(4, 79)], [], none⟩, ⟨[(5, 80)], [], none⟩, ⟨[(6, 81)], [], none⟩, ⟨[(2, 77), (7, 82)], [], none⟩, ⟨[(8, 83)], [], none⟩, ⟨[(9, 84)], [5], some (84, false)⟩, ⟨[(9, 84), (10, 85)], [], some (84, false)⟩, ⟨[(9, 84)], [6], some (84, false)⟩, ⟨[(9, 84), (12, 87)], [], some (84, false)⟩, ⟨[(9, 84), (13, 88)], [], some (84, false)⟩, ⟨[(9, 84), (14, 89)], [], some (84, false)⟩, ⟨[(9, 84), (11, 86), (15, 90)], [], some (84, false)⟩, ⟨[(9, 84), (16, 91)], [], none⟩]
                    [(0, 75), (1, 76), (2, 77), (3, 78), (4, 79), (5, 80), (6, 81), (7, 82), (8, 83), (9, 84), (10, 85), (11, 86), (12, 87), (13, 88), (14, 89), (15, 90), (16, 91), (17, 92)] (by kernel_rfl) (by kernel_rfl) (by kernel_rfl) (by kernel_rfl) ?_ ?_ ?_
                  · simp only [Gt.Monos]
                    repeat' apply And.intro
                    all_goals (first | exact trivial | exact Gt.Is.mono _ | exact LdIs.mono _ _)
                  · simp only [Gt.Obs]
                    repeat' apply And.intro
                    all_goals try exact trivial
                    all_goals (
                      intro a w5 hg
                      have hg' : Below w3.heap.size w3 w5 := hg
                      simp only [Gt.Pre, Gt.Kept, Gt.Guarded, Gt.tys, List.getD_cons_zero, List.getD_cons_succ, Gt.Is, Nat.zero_add, Nat.reduceAdd]
                      intros
                      try (refine ⟨fun _ => ?_, fun hne => absurd (by assumption) hne⟩))
                    all_goals (first
                      | exact Gt.ok_move rfl (by assumption)
                      | exact Gt.ok_assign rfl (by assumption)
                      | exact Gt.ok_pick rfl (by assumption) (by rw [if_pos rfl]; assumption)
                      | (exact Gt.ok_call (f := 16) rfl #[.pointer (some ⟨z, 0, none⟩)] (by kernel_rfl) (by simp [*]) ((HLD.out w5 hg').mono fun e w6 h => by obtain ⟨A6, c6, h1, h2, h3⟩ := h; exact ⟨_, h1, h3, A6, c6, rfl, h2⟩))
                      | (exact Gt.ok_call (f := 17) rfl #[.pointer (some ⟨z, 0, none⟩)] (by kernel_rfl) (by simp [*]) ((HDN.out w5 hg').mono fun e w6 h => ⟨_, h.1, by rw [h.2]; exact Gt.Gr.refl _, rfl⟩))
                      | (rename_i h6
                         obtain ⟨A6, c6, e6, hI6⟩ := h6
                         have k5 := conv_load hI6 HN2.out
                         rw [← HSG.out] at k5
                         exact Gt.ok_convert rfl e6 k5 rfl)
                      | (exact Gt.ok_convert rfl (by assumption) (HCV.out w5 hg') rfl)
                      | (have g5 : w5.cell? ⟨q, 5, none⟩ = some (.slice Ak n2 ck) := (hg'.cell HQL.out).trans HG5.out
                         have g3 : w5.cell? ⟨q, 3, none⟩ = some (.bool gn) := (hg'.cell HQL.out).trans HG3.out
                         refine Gt.ok_run ?_ rfl
                         simp only [execOp, *]
                         go_simp
                         done))
                  · intro a w5 hg
                    have hg' : Below w3.heap.size w3 w5 := hg
                    simp only [Gt.Pre, Gt.tys, List.getD_cons_zero, List.getD_cons_succ, Gt.Is]
                    intro h0 h1 h2 h3 h4 h5 h6 h7 h8 h9 h10 h11 h12 h13 h14 h15 h16 h17
                    obtain ⟨A6, c6, e1, _⟩ := h1
                    show K _ _
                    refine hK _ _ ?_
                    simp only [Gt.puts, List.foldl_cons, List.foldl_nil, h0, h2, h3, h4, h5, h6, h7, h8, h9, h10, h11, h12, h13, h14, h15, h16, h17, e1]
                    simp only [Act.put, List.setIfInBounds_toArray, List.set_cons_zero, List.set_cons_succ]
                    have hT5 := HEND.out w5 hg'
                    have HT5 := Lib.hid hT5
                    clear hT5
                    go_wp2
                    go_roundw
                    case rel => exact ⟨i + 1, _, _, _, _, by go_num, by omega, HT5.out.1, HT5.out.2⟩
                    case measure => simp [intOf]; omega
                · by_cases k4 : E = 4
                  · subst k4
                    have HFAR := Lib.hid (show ¬ (0 ≤ N ∧ N < (Kp.length : Int)) by rw [← HN.out]; omega)
                    have HAT := Lib.hid (show at_ Kp N = false by unfold at_; rw [← HN.out, Bool.and_eq_false_iff]; first | (left; exact decide_eq_false (by omega)) | (right; exact decide_eq_false (by omega)))
                    have HA := Lib.hid (show Calls Try.prog 11 #[.pointer (some ⟨q, 0, none⟩), .agg #[.int .i64 4, .int .i64 N, .int .u8 (y : Int), .slice A m c]] wo (DoP wo q k B0 r t (Kp) (.int .i64 0)) from doP_bel HRS.out (fslot_far y A m c wo q k B0 r t Kp N HRS.out HAT.out))
                    refine HA.out.mono ?_
                    rintro e w2 ⟨rfl, hrr, hk2⟩
                    have hq2 : Sq w2 z p g r s Kp := HSQ.out.k2 hk2 ⟨H4.out.zq, H4.out.pq, H4.out.gq⟩ HKN.out
                    have hob : w2.heap[wr.heap.size]? = wo.heap[wr.heap.size]? := hk2.block _ (by rw [HSO.out]; omega) (by have := HQW.out; omega) (by have := HKW.out; omega)
                    have HB2 := Lib.hid (HWO.out.trans (hk2.below HWO.out.size H4.out.bq HKB.out))
                    have x0 := (cell_heap hob).trans (HOP.out 0 (.int .i64 4) rfl)
                    have x1 := (cell_heap hob).trans (HOP.out 1 (.int .i64 N) rfl)
                    have x2 := (cell_heap hob).trans (HOP.out 2 (.int .u8 (y : Int)) rfl)
                    have x3 := (cell_heap hob).trans (HOP.out 3 (.slice A m c) rfl)
                    have HS2 := Lib.hid hk2.size
                    have hI2 : In w2 w.heap.size A c b := HIb.out.below HB2.out
                    have HPC := Lib.hid (show Calls Try.prog 15 #[.pointer (some ⟨z, 0, none⟩), .int .i64 N, .int .u8 (y : Int)] w2 (SzP w2 z p g r s (Kp) (.bool false)) from szP_bel hq2 (sq_far z p g r Kp s N y w2 hq2 HFAR.out))
                    clear hI2 hk2 hq2 hob HA
                    go_wp2_with fail
                    refine HPC.out.mono ?_
                    rintro e w3 ⟨rfl, hq3, hk3⟩
                    replace hrr : ∃ k', (k' = k ∨ k' = q ∨ wo.heap.size ≤ k') ∧ Rs w3 q k' B0 r t (Kp) := by
                      obtain ⟨k', h1, h2⟩ := hrr
                      exact ⟨k', h1, h2.k3 hk3 ⟨Ne.symm H4.out.zq, Ne.symm H4.out.pq, Ne.symm H4.out.gq⟩ ⟨H4.out.z0, H4.out.p0, H4.out.g0⟩⟩
                    have HB3 := Lib.hid (HB2.out.trans (hk3.below HB2.out.size H4.out.bz H4.out.bp H4.out.bg))
                    have HBS := Lib.hid (show wr.heap.size ≤ w3.heap.size by have := HSO.out; have := HS2.out; have := hk3.size; omega)
                    clear hk3 HB2 HS2 x0 x1 x2 x3
                    obtain ⟨k2, hk2or, hr3⟩ := hrr
                    have hr3w := hr3
                    obtain ⟨dirty, Ak, ck, hbx, how, -⟩ := hr3.box
                    obtain ⟨n2, hn2⟩ : ∃ n2, n2 = (Kp).length := ⟨_, rfl⟩
                    obtain ⟨σ, hσ⟩ : ∃ σ, σ = str (Kp) := ⟨_, rfl⟩
                    obtain ⟨gn, hgn⟩ : ∃ gn, gn = (t).gone := ⟨_, rfl⟩
                    rw [← hgn, ← hn2] at hbx
                    have HN2 := Lib.hid hn2
                    have HSG := Lib.hid hσ
                    have HQL := Lib.hid (show q < w3.heap.size from hbx.lt)
                    have HG5 := Lib.hid (show w3.cell? ⟨q, 5, none⟩ = some (.slice Ak n2 ck) from hbx.cell 5)
                    have HG3 := Lib.hid (show w3.cell? ⟨q, 3, none⟩ = some (.bool gn) from hbx.cell 3)
                    have HCV := Lib.hid (show ∀ w5, Below w3.heap.size w3 w5 → (convert 28 9 (.slice Ak n2 ck)).run Try.prog w5 = .ok (.string σ) w5 from fun w5 hg => by
                      have h1 := (how.inn).below hg
                      have h2 := conv_sl (P := Try.prog) h1.sl Try.underlying28 Try.underlying5 Try.underlying9 ck
                      rw [← hn2, ← hσ] at h2
                      exact h2)
                    have HLD := Lib.hid (show ∀ w5, Below w3.heap.size w3 w5 → Calls Try.prog 16 #[.pointer (some ⟨z, 0, none⟩)] w5 fun e w' => ∃ A c, e = .returned (.slice A n2 c) ∧ In w' w'.heap.size A c (Kp) ∧ Below w5.heap.size w5 w' from fun w5 hg => by
                      rw [hn2]; exact sq_load z p g r _ _ w5 (hq3.below hg (Nat.le_refl _)))
                    have HDN := Lib.hid (show ∀ w5, Below w3.heap.size w3 w5 → Calls Try.prog 17 #[.pointer (some ⟨z, 0, none⟩)] w5 fun e w' => e = .returned (.bool gn) ∧ w' = w5 from fun w5 hg => by
                      have h1 := sq_down z p g r _ _ w5 (hq3.below hg (Nat.le_refl _))
                      rw [show (s).gone = gn from (HT.out.eqv).2.trans hgn.symm] at h1
                      exact h1)
                    have HEND := Lib.hid (show ∀ w5, Below w3.heap.size w3 w5 → B0 ≤ w5.heap.size ∧ Two w z p g q k2 B0 r (s) (t) (Kp) ((i + 1) * 4096) w5 from fun w5 hg => ⟨Nat.le_trans HB0.out (Nat.le_trans HBS.out hg.size), hq3.below hg (Nat.le_refl _), hr3w.below hg (Nat.le_refl _), HB3.out.trans (hg.mono HB3.out.size), HT.out.eqv, (by have := HT.out.su; omega), (by have := HT.out.tu; omega)⟩)
                    clear hr3w hr3 hbx how hn2 hσ hgn hq3 hk2or HBS HB3
                    go_wp2
                    rename_i K hK
                    refine Gt.regionA [Gt.Is (.pointer (some ⟨z, 0, none⟩)), LdIs n2 (Kp), Gt.Is (.string σ), Gt.Is (.pointer (some ⟨q, 0, none⟩)), Gt.Is (.pointer (some ⟨q, 0, none⟩)), Gt.Is (.pointer (some ⟨q, 5, none⟩)), Gt.Is (.slice Ak n2 ck), Gt.Is (.string σ), Gt.Is (.bool false), Gt.Is (.bool false), Gt.Is (.pointer (some ⟨z, 0, none⟩)), Gt.Is (.bool gn), Gt.Is (.pointer (some ⟨q, 0, none⟩)), Gt.Is (.pointer (some ⟨q, 0, none⟩)), Gt.Is (.pointer (some ⟨q, 3, none⟩)), Gt.Is (.bool gn), Gt.Is (.bool false), Gt.Is (.bool false)] 94
                      [⟨[], [5], none⟩, ⟨[(0, 75)], [], none⟩, ⟨[(1, 76)], [], none⟩, ⟨[], [6], none⟩, ⟨[(3, 78)], [], none⟩, ⟨[(4, 79)], [], none⟩, ⟨[(5, 80)], [], none⟩, ⟨[(6, 81)], [], none⟩, ⟨[(2, 77), (7, 82)], [], none⟩, ⟨[(8, 83)], [], none⟩, ⟨[(9, 84)], [5], some (84, false)⟩, ⟨[(9, 84), (10, 85)], [], some (84, false)⟩, ⟨[(9, 84)], [6], some (84, false)⟩, ⟨[(9, 84), (12, 87)], [], some (84, false)⟩, ⟨[(9, 84), (13, 88)], [], some (84, false)⟩, ⟨[(9, 84), (14, 89)], [], some (84, false)⟩, ⟨[(9, 84), (11, 86), (15, 90)], [], some (84, false)⟩, ⟨[(9, 84), (16, 91)], [], none⟩]
                      [(0, 75), (1, 76), (2, 77), (3, 78), (4, 79), (5, 80), (6, 81), (7, 82), (8, 83), (9, 84), (10, 85), (11, 86), (12, 87), (13, 88), (14, 89), (15, 90), (16, 91), (17, 92)] (by kernel_rfl) (by kernel_rfl) (by kernel_rfl) (by kernel_rfl) ?_ ?_ ?_
                    · simp only [Gt.Monos]
                      repeat' apply And.intro
                      all_goals (first | exact trivial | exact Gt.Is.mono _ | exact LdIs.mono _ _)
                    · simp only [Gt.Obs]
                      repeat' apply And.intro
                      all_goals try exact trivial
                      all_goals (
                        intro a w5 hg
                        have hg' : Below w3.heap.size w3 w5 := hg
                        simp only [Gt.Pre, Gt.Kept, Gt.Guarded, Gt.tys, List.getD_cons_zero, List.getD_cons_succ, Gt.Is, Nat.zero_add, Nat.reduceAdd]
                        intros
                        try (refine ⟨fun _ => ?_, fun hne => absurd (by assumption) hne⟩))
                      all_goals (first
                        | exact Gt.ok_move rfl (by assumption)
                        | exact Gt.ok_assign rfl (by assumption)
                        | exact Gt.ok_pick rfl (by assumption) (by rw [if_pos rfl]; assumption)
                        | (exact Gt.ok_call (f := 16) rfl #[.pointer (some ⟨z, 0, none⟩)] (by kernel_rfl) (by simp [*]) ((HLD.out w5 hg').mono fun e w6 h => by obtain ⟨A6, c6, h1, h2, h3⟩ := h; exact ⟨_, h1, h3, A6, c6, rfl, h2⟩))
                        | (exact Gt.ok_call (f := 17) rfl #[.pointer (some ⟨z, 0, none⟩)] (by kernel_rfl) (by simp [*]) ((HDN.out w5 hg').mono fun e w6 h => ⟨_, h.1, by rw [h.2]; exact Gt.Gr.refl _, rfl⟩))
                        | (rename_i h6
                           obtain ⟨A6, c6, e6, hI6⟩ := h6
                           have k5 := conv_load hI6 HN2.out
                           rw [← HSG.out] at k5
                           exact Gt.ok_convert rfl e6 k5 rfl)
                        | (exact Gt.ok_convert rfl (by assumption) (HCV.out w5 hg') rfl)
                        | (have g5 : w5.cell? ⟨q, 5, none⟩ = some (.slice Ak n2 ck) := (hg'.cell HQL.out).trans HG5.out
                           have g3 : w5.cell? ⟨q, 3, none⟩ = some (.bool gn) := (hg'.cell HQL.out).trans HG3.out
                           refine Gt.ok_run ?_ rfl
                           simp only [execOp, *]
                           go_simp
                           done))
                    · intro a w5 hg
                      have hg' : Below w3.heap.size w3 w5 := hg
                      simp only [Gt.Pre, Gt.tys, List.getD_cons_zero, List.getD_cons_succ, Gt.Is]
                      intro h0 h1 h2 h3 h4 h5 h6 h7 h8 h9 h10 h11 h12 h13 h14 h15 h16 h17
                      obtain ⟨A6, c6, e1, _⟩ := h1
                      show K _ _
                      refine hK _ _ ?_
                      simp only [Gt.puts, List.foldl_cons, List.foldl_nil, h0, h2, h3, h4, h5, h6, h7, h8, h9, h10, h11, h12, h13, h14, h15, h16, h17, e1]
                      simp only [Act.put, List.setIfInBounds_toArray, List.set_cons_zero, List.set_cons_succ]
                      have hT5 := HEND.out w5 hg'
                      have HT5 := Lib.hid hT5
                      clear hT5
                      go_wp2
                      go_roundw
                      case rel => exact ⟨i + 1, _, _, _, _, by go_num, by omega, HT5.out.1, HT5.out.2⟩
                      case measure => simp [intOf]; omega
                  · have e1 : (E == 1) = false := by simpa using k1
                    have e2 : (E == 2) = false := by simpa using k2
                    have e3 : (E == 3) = false := by simpa using k3
                    have e4 : (E == 4) = false := by simpa using k4
                    have HA := Lib.hid (show Calls Try.prog 11 #[.pointer (some ⟨q, 0, none⟩), .agg #[.int .i64 E, .int .i64 N, .int .u8 (y : Int), .slice A m c]] wo (DoP wo q k B0 r t (Kp) (.int .i64 0)) from doP_bel HRS.out (fslot_other y A m c wo q E N ⟨k1, k2, k3, k4⟩))
                    refine HA.out.mono ?_
                    rintro e w2 ⟨rfl, hrr, hk2⟩
                    have hq2 : Sq w2 z p g r s Kp := HSQ.out.k2 hk2 ⟨H4.out.zq, H4.out.pq, H4.out.gq⟩ HKN.out
                    have hob : w2.heap[wr.heap.size]? = wo.heap[wr.heap.size]? := hk2.block _ (by rw [HSO.out]; omega) (by have := HQW.out; omega) (by have := HKW.out; omega)
                    have HB2 := Lib.hid (HWO.out.trans (hk2.below HWO.out.size H4.out.bq HKB.out))
                    have x0 := (cell_heap hob).trans (HOP.out 0 (.int .i64 E) rfl)
                    have x1 := (cell_heap hob).trans (HOP.out 1 (.int .i64 N) rfl)
                    have x2 := (cell_heap hob).trans (HOP.out 2 (.int .u8 (y : Int)) rfl)
                    have x3 := (cell_heap hob).trans (HOP.out 3 (.slice A m c) rfl)
                    have HS2 := Lib.hid hk2.size
                    obtain ⟨w3, rfl⟩ : ∃ w3, w3 = w2 := ⟨_, rfl⟩
                    have hq3 := hq2
                    have HB3 := Lib.hid HB2.out
                    have HBS := Lib.hid (show wr.heap.size ≤ w3.heap.size by have := HSO.out; have := HS2.out; omega)
                    clear hk2 hq2 hob HA HB2 HS2
                    obtain ⟨k2, hk2or, hr3⟩ := hrr
                    have hr3w := hr3
                    obtain ⟨dirty, Ak, ck, hbx, how, -⟩ := hr3.box
                    obtain ⟨n2, hn2⟩ : ∃ n2, n2 = (Kp).length := ⟨_, rfl⟩
                    obtain ⟨σ, hσ⟩ : ∃ σ, σ = str (Kp) := ⟨_, rfl⟩
                    obtain ⟨gn, hgn⟩ : ∃ gn, gn = (t).gone := ⟨_, rfl⟩
                    rw [← hgn, ← hn2] at hbx
                    have HN2 := Lib.hid hn2
                    have HSG := Lib.hid hσ
                    have HQL := Lib.hid (show q < w3.heap.size from hbx.lt)
                    have HG5 := Lib.hid (show w3.cell? ⟨q, 5, none⟩ = some (.slice Ak n2 ck) from hbx.cell 5)
                    have HG3 := Lib.hid (show w3.cell? ⟨q, 3, none⟩ = some (.bool gn) from hbx.cell 3)
                    have HCV := Lib.hid (show ∀ w5, Below w3.heap.size w3 w5 → (convert 28 9 (.slice Ak n2 ck)).run Try.prog w5 = .ok (.string σ) w5 from fun w5 hg => by
                      have h1 := (how.inn).below hg
                      have h2 := conv_sl (P := Try.prog) h1.sl Try.underlying28 Try.underlying5 Try.underlying9 ck
                      rw [← hn2, ← hσ] at h2
                      exact h2)
                    have HLD := Lib.hid (show ∀ w5, Below w3.heap.size w3 w5 → Calls Try.prog 16 #[.pointer (some ⟨z, 0, none⟩)] w5 fun e w' => ∃ A c, e = .returned (.slice A n2 c) ∧ In w' w'.heap.size A c (Kp) ∧ Below w5.heap.size w5 w' from fun w5 hg => by
                      rw [hn2]; exact sq_load z p g r _ _ w5 (hq3.below hg (Nat.le_refl _)))
                    have HDN := Lib.hid (show ∀ w5, Below w3.heap.size w3 w5 → Calls Try.prog 17 #[.pointer (some ⟨z, 0, none⟩)] w5 fun e w' => e = .returned (.bool gn) ∧ w' = w5 from fun w5 hg => by
                      have h1 := sq_down z p g r _ _ w5 (hq3.below hg (Nat.le_refl _))
                      rw [show (s).gone = gn from (HT.out.eqv).2.trans hgn.symm] at h1
                      exact h1)
                    have HEND := Lib.hid (show ∀ w5, Below w3.heap.size w3 w5 → B0 ≤ w5.heap.size ∧ Two w z p g q k2 B0 r (s) (t) (Kp) ((i + 1) * 4096) w5 from fun w5 hg => ⟨Nat.le_trans HB0.out (Nat.le_trans HBS.out hg.size), hq3.below hg (Nat.le_refl _), hr3w.below hg (Nat.le_refl _), HB3.out.trans (hg.mono HB3.out.size), HT.out.eqv, (by have := HT.out.su; omega), (by have := HT.out.tu; omega)⟩)
                    clear hr3w hr3 hbx how hn2 hσ hgn hq3 hk2or HBS HB3
                    go_wp2
                    rename_i K hK
                    refine Gt.regionA [Gt.Is (.pointer (some ⟨z, 0, none⟩)), LdIs n2 (Kp), Gt.Is (.string σ), Gt.Is (.pointer (some ⟨q, 0, none⟩)), Gt.Is (.pointer (some ⟨q, 0, none⟩)), Gt.Is (.pointer (some ⟨q, 5, none⟩)), Gt.Is (.slice Ak n2 ck), Gt.Is (.string σ), Gt.Is (.bool false), Gt.Is (.bool false), Gt.Is (.pointer (some ⟨z, 0, none⟩)), Gt.Is (.bool gn), Gt.Is (.pointer (some ⟨q, 0, none⟩)), Gt.Is (.pointer (some ⟨q, 0, none⟩)), Gt.Is (.pointer (some ⟨q, 3, none⟩)), Gt.Is (.bool gn), Gt.Is (.bool false), Gt.Is (.bool false)] 94
                      [⟨[], [5], none⟩, ⟨[(0, 75)], [], none⟩, ⟨[(1, 76)], [], none⟩, ⟨[], [6], none⟩, ⟨[(3, 78)], [], none⟩, ⟨[(4, 79)], [], none⟩, ⟨[(5, 80)], [], none⟩, ⟨[(6, 81)], [], none⟩, ⟨[(2, 77), (7, 82)], [], none⟩, ⟨[(8, 83)], [], none⟩, ⟨[(9, 84)], [5], some (84, false)⟩, ⟨[(9, 84), (10, 85)], [], some (84, false)⟩, ⟨[(9, 84)], [6], some (84, false)⟩, ⟨[(9, 84), (12, 87)], [], some (84, false)⟩, ⟨[(9, 84), (13, 88)], [], some (84, false)⟩, ⟨[(9, 84), (14, 89)], [], some (84, false)⟩, ⟨[(9, 84), (11, 86), (15, 90)], [], some (84, false)⟩, ⟨[(9, 84), (16, 91)], [], none⟩]
                      [(0, 75), (1, 76), (2, 77), (3, 78), (4, 79), (5, 80), (6, 81), (7, 82), (8, 83), (9, 84), (10, 85), (11, 86), (12, 87), (13, 88), (14, 89), (15, 90), (16, 91), (17, 92)] (by kernel_rfl) (by kernel_rfl) (by kernel_rfl) (by kernel_rfl) ?_ ?_ ?_
                    · simp only [Gt.Monos]
                      repeat' apply And.intro
                      all_goals (first | exact trivial | exact Gt.Is.mono _ | exact LdIs.mono _ _)
                    · simp only [Gt.Obs]
                      repeat' apply And.intro
                      all_goals try exact trivial
                      all_goals (
                        intro a w5 hg
                        have hg' : Below w3.heap.size w3 w5 := hg
                        simp only [Gt.Pre, Gt.Kept, Gt.Guarded, Gt.tys, List.getD_cons_zero, List.getD_cons_succ, Gt.Is, Nat.zero_add, Nat.reduceAdd]
                        intros
                        try (refine ⟨fun _ => ?_, fun hne => absurd (by assumption) hne⟩))
                      all_goals (first
                        | exact Gt.ok_move rfl (by assumption)
                        | exact Gt.ok_assign rfl (by assumption)
                        | exact Gt.ok_pick rfl (by assumption) (by rw [if_pos rfl]; assumption)
                        | (exact Gt.ok_call (f := 16) rfl #[.pointer (some ⟨z, 0, none⟩)] (by kernel_rfl) (by simp [*]) ((HLD.out w5 hg').mono fun e w6 h => by obtain ⟨A6, c6, h1, h2, h3⟩ := h; exact ⟨_, h1, h3, A6, c6, rfl, h2⟩))
                        | (exact Gt.ok_call (f := 17) rfl #[.pointer (some ⟨z, 0, none⟩)] (by kernel_rfl) (by simp [*]) ((HDN.out w5 hg').mono fun e w6 h => ⟨_, h.1, by rw [h.2]; exact Gt.Gr.refl _, rfl⟩))
                        | (rename_i h6
                           obtain ⟨A6, c6, e6, hI6⟩ := h6
                           have k5 := conv_load hI6 HN2.out
                           rw [← HSG.out] at k5
                           exact Gt.ok_convert rfl e6 k5 rfl)
                        | (exact Gt.ok_convert rfl (by assumption) (HCV.out w5 hg') rfl)
                        | (have g5 : w5.cell? ⟨q, 5, none⟩ = some (.slice Ak n2 ck) := (hg'.cell HQL.out).trans HG5.out
                           have g3 : w5.cell? ⟨q, 3, none⟩ = some (.bool gn) := (hg'.cell HQL.out).trans HG3.out
                           refine Gt.ok_run ?_ rfl
                           simp only [execOp, *]
                           go_simp
                           done))
                    · intro a w5 hg
                      have hg' : Below w3.heap.size w3 w5 := hg
                      simp only [Gt.Pre, Gt.tys, List.getD_cons_zero, List.getD_cons_succ, Gt.Is]
                      intro h0 h1 h2 h3 h4 h5 h6 h7 h8 h9 h10 h11 h12 h13 h14 h15 h16 h17
                      obtain ⟨A6, c6, e1, _⟩ := h1
                      show K _ _
                      refine hK _ _ ?_
                      simp only [Gt.puts, List.foldl_cons, List.foldl_nil, h0, h2, h3, h4, h5, h6, h7, h8, h9, h10, h11, h12, h13, h14, h15, h16, h17, e1]
                      simp only [Act.put, List.setIfInBounds_toArray, List.set_cons_zero, List.set_cons_succ]
                      have hT5 := HEND.out w5 hg'
                      have HT5 := Lib.hid hT5
                      clear hT5
                      go_wp2
                      go_roundw
                      case rel => exact ⟨i + 1, _, _, _, _, by go_num, by omega, HT5.out.1, HT5.out.2⟩
                      case measure => simp [intOf]; omega
        · have t0 : decide (0 ≤ N) = false := decide_eq_false h0
          go_wp2
          rw [← HWL.out]
          have c5 := HC5.out
          have y0 := HOP0.out 0 (.int .i64 E) rfl
          have y1 := HOP0.out 1 (.int .i64 N) rfl
          have y2 := HOP0.out 2 (.int .u8 (y : Int)) rfl
          have y3 := HOP0.out 3 (.slice A m c) rfl
          go_quiet (fail)
          go_wp2_with fail
          obtain ⟨wq, hwq⟩ : ∃ wq, wq = wo.drewN nq := ⟨_, rfl⟩
          have HOP := Lib.hid (show ∀ j v, (#[.int .i64 E, .int .i64 N, .int .u8 (y : Int), .slice A m c] : Array Value)[j]? = some v → wq.cell? ⟨wr.heap.size, j, none⟩ = some v by rw [hwq]; exact HOP0.out)
          have HWB := Lib.hid (show Below wr.heap.size wr wq by rw [hwq]; exact ⟨HWB0.out.os, HWB0.out.tape, HWB0.out.output, HWB0.out.size, HWB0.out.block⟩)
          have HSO := Lib.hid (show wq.heap.size = wr.heap.size + 1 by rw [hwq]; exact HWS0.out)
          rw [← hwq]
          clear hwq c5 y0 y1 y2 y3 HOP0 HWB0 HWS0 HWL HC5
          obtain ⟨wo, rfl⟩ : ∃ wo, wo = wq := ⟨_, rfl⟩
          have HSQ := Lib.hid (HT.out.sq.below HWB.out (Nat.le_refl _))
          have HRS := Lib.hid (HT.out.rs.below HWB.out (Nat.le_refl _))
          have HWO := Lib.hid (HT.out.bel.trans (HWB.out.mono HT.out.bel.size))
          have HBO := Lib.hid (show B0 ≤ wo.heap.size by have := HB0.out; have := HSO.out; omega)
          have HKN := Lib.hid (show z ≠ k ∧ p ≠ k ∧ g ≠ k by have h1 := HT.out.rs.kb; have h2 := H4.out; have h3 := h2.z0; have h4 := h2.p0; have h5 := h2.g0; have h6 := h2.zq; have h7 := h2.pq; have h8 := h2.gq; omega)
          have HQW := Lib.hid (show q < wr.heap.size by have := HT.out.rs.lt; have := HB0.out; omega)
          have HKW := Lib.hid HT.out.rs.klt
          have HKB := Lib.hid (show w.heap.size ≤ k by have h1 := HT.out.rs.kb; have h2 := H4.out.bq; have h3 := H4.out.bz; have h4 := H4.out.z0; omega)
          have HI0 := Lib.hid (show In wo w.heap.size A c b from HIb.out.below HWO.out)
          by_cases k1 : E = 1
          · subst k1
            by_cases hrt : r < tk m
            · have HA := Lib.hid (show Calls Try.prog 11 #[.pointer (some ⟨q, 0, none⟩), .agg #[.int .i64 1, .int .i64 N, .int .u8 (y : Int), .slice A m c]] wo (DoP wo q k B0 r t (Kp) (.int .i64 7)) from doP_bel HRS.out (fsave_bad y A m c wo q k B0 r t Kp N HRS.out (by omega) (by have := HBL.out; have := HM.out; omega)))
              refine HA.out.mono ?_
              rintro e w2 ⟨rfl, hrr, hk2⟩
              have hq2 : Sq w2 z p g r s Kp := HSQ.out.k2 hk2 ⟨H4.out.zq, H4.out.pq, H4.out.gq⟩ HKN.out
              have hob : w2.heap[wr.heap.size]? = wo.heap[wr.heap.size]? := hk2.block _ (by rw [HSO.out]; omega) (by have := HQW.out; omega) (by have := HKW.out; omega)
              have HB2 := Lib.hid (HWO.out.trans (hk2.below HWO.out.size H4.out.bq HKB.out))
              have x0 := (cell_heap hob).trans (HOP.out 0 (.int .i64 1) rfl)
              have x1 := (cell_heap hob).trans (HOP.out 1 (.int .i64 N) rfl)
              have x2 := (cell_heap hob).trans (HOP.out 2 (.int .u8 (y : Int)) rfl)
              have x3 := (cell_heap hob).trans (HOP.out 3 (.slice A m c) rfl)
              have HS2 := Lib.hid hk2.size
              have hI2 : In w2 w.heap.size A c b := HIb.out.below HB2.out
              have HPC := Lib.hid (show Calls Try.prog 12 #[.pointer (some ⟨z, 0, none⟩), .slice A m c] w2 (SzP w2 z p g r s (Kp) (.int .i64 7)) from szP_bel hq2 (sq_big z p g r Kp s A m c w2 hq2 (by omega) (by have := HBL.out; have := HM.out; omega)))
              clear hI2 hk2 hq2 hob HA
              go_wp2_with fail
              refine HPC.out.mono ?_
              rintro e w3 ⟨rfl, hq3, hk3⟩
              replace hrr : ∃ k', (k' = k ∨ k' = q ∨ wo.heap.size ≤ k') ∧ Rs w3 q k' B0 r t (Kp) := by
                obtain ⟨k', h1, h2⟩ := hrr
                exact ⟨k', h1, h2.k3 hk3 ⟨Ne.symm H4.out.zq, Ne.symm H4.out.pq, Ne.symm H4.out.gq⟩ ⟨H4.out.z0, H4.out.p0, H4.out.g0⟩⟩
              have HB3 := Lib.hid (HB2.out.trans (hk3.below HB2.out.size H4.out.bz H4.out.bp H4.out.bg))
              have HBS := Lib.hid (show wr.heap.size ≤ w3.heap.size by have := HSO.out; have := HS2.out; have := hk3.size; omega)
              clear hk3 HB2 HS2 x0 x1 x2 x3
              obtain ⟨k2, hk2or, hr3⟩ := hrr
              have hr3w := hr3
              obtain ⟨dirty, Ak, ck, hbx, how, -⟩ := hr3.box
              obtain ⟨n2, hn2⟩ : ∃ n2, n2 = (Kp).length := ⟨_, rfl⟩
              obtain ⟨σ, hσ⟩ : ∃ σ, σ = str (Kp) := ⟨_, rfl⟩
              obtain ⟨gn, hgn⟩ : ∃ gn, gn = (t).gone := ⟨_, rfl⟩
              rw [← hgn, ← hn2] at hbx
              have HN2 := Lib.hid hn2
              have HSG := Lib.hid hσ
              have HQL := Lib.hid (show q < w3.heap.size from hbx.lt)
              have HG5 := Lib.hid (show w3.cell? ⟨q, 5, none⟩ = some (.slice Ak n2 ck) from hbx.cell 5)
              have HG3 := Lib.hid (show w3.cell? ⟨q, 3, none⟩ = some (.bool gn) from hbx.cell 3)
              have HCV := Lib.hid (show ∀ w5, Below w3.heap.size w3 w5 → (convert 28 9 (.slice Ak n2 ck)).run Try.prog w5 = .ok (.string σ) w5 from fun w5 hg => by
                have h1 := (how.inn).below hg
                have h2 := conv_sl (P := Try.prog) h1.sl Try.underlying28 Try.underlying5 Try.underlying9 ck
                rw [← hn2, ← hσ] at h2
                exact h2)
              have HLD := Lib.hid (show ∀ w5, Below w3.heap.size w3 w5 → Calls Try.prog 16 #[.pointer (some ⟨z, 0, none⟩)] w5 fun e w' => ∃ A c, e = .returned (.slice A n2 c) ∧ In w' w'.heap.size A c (Kp) ∧ Below w5.heap.size w5 w' from fun w5 hg => by
                rw [hn2]; exact sq_load z p g r _ _ w5 (hq3.below hg (Nat.le_refl _)))
              have HDN := Lib.hid (show ∀ w5, Below w3.heap.size w3 w5 → Calls Try.prog 17 #[.pointer (some ⟨z, 0, none⟩)] w5 fun e w' => e = .returned (.bool gn) ∧ w' = w5 from fun w5 hg => by
                have h1 := sq_down z p g r _ _ w5 (hq3.below hg (Nat.le_refl _))
                rw [show (s).gone = gn from (HT.out.eqv).2.trans hgn.symm] at h1
                exact h1)
              have HEND := Lib.hid (show ∀ w5, Below w3.heap.size w3 w5 → B0 ≤ w5.heap.size ∧ Two w z p g q k2 B0 r (s) (t) (Kp) ((i + 1) * 4096) w5 from fun w5 hg => ⟨Nat.le_trans HB0.out (Nat.le_trans HBS.out hg.size), hq3.below hg (Nat.le_refl _), hr3w.below hg (Nat.le_refl _), HB3.out.trans (hg.mono HB3.out.size), HT.out.eqv, (by have := HT.out.su; omega), (by have := HT.out.tu; omega)⟩)
              clear hr3w hr3 hbx how hn2 hσ hgn hq3 hk2or HBS HB3
              go_wp2
              rename_i K hK
              refine Gt.regionA [Gt.Is (.pointer (some ⟨z, 0, none⟩)), LdIs n2 (Kp), Gt.Is (.string σ), Gt.Is (.pointer (some ⟨q, 0, none⟩)), Gt.Is (.pointer (some ⟨q, 0, none⟩)), Gt.Is (.pointer (some ⟨q, 5, none⟩)), Gt.Is (.slice Ak n2 ck), Gt.Is (.string σ), Gt.Is (.bool false), Gt.Is (.bool false), Gt.Is (.pointer (some ⟨z, 0, none⟩)), Gt.Is (.bool gn), Gt.Is (.pointer (some ⟨q, 0, none⟩)), Gt.Is (.pointer (some ⟨q, 0, none⟩)), Gt.Is (.pointer (some ⟨q, 3, none⟩)), Gt.Is (.bool gn), Gt.Is (.bool false), Gt.Is (.bool false)] 94
                [⟨[], [5], none⟩, ⟨[(0, 75)], [], none⟩, ⟨[(1, 76)], [], none⟩, ⟨[], [6], none⟩, ⟨[(3, 78)], [], none⟩, ⟨[(4, 79)], [], none⟩, ⟨[(5, 80)], [], none⟩, ⟨[(6, 81)], [], none⟩, ⟨[(2, 77), (7, 82)], [], none⟩, ⟨[(8, 83)], [], none⟩, ⟨[(9, 84)], [5], some (84, false)⟩, ⟨[(9, 84), (10, 85)], [], some (84, false)⟩, ⟨[(9, 84)], [6], some (84, false)⟩, ⟨[(9, 84), (12, 87)], [], some (84, false)⟩, ⟨[(9, 84), (13, 88)], [], some (84, false)⟩, ⟨[(9, 84), (14, 89)], [], some (84, false)⟩, ⟨[(9, 84), (11, 86), (15, 90)], [], some (84, false)⟩, ⟨[(9, 84), (16, 91)], [], none⟩]
                [(0, 75), (1, 76), (2, 77), (3, 78), (4, 79), (5, 80), (6, 81), (7, 82), (8, 83), (9, 84), (10, 85), (11, 86), (12, 87), (13, 88), (14, 89), (15, 90), (16, 91), (17, 92)] (by kernel_rfl) (by kernel_rfl) (by kernel_rfl) (by kernel_rfl) ?_ ?_ ?_
              · simp only [Gt.Monos]
                repeat' apply And.intro
                all_goals (first | exact trivial | exact Gt.Is.mono _ | exact LdIs.mono _ _)
              · simp only [Gt.Obs]
                repeat' apply And.intro
                all_goals try exact trivial
                all_goals (
                  intro a w5 hg
                  have hg' : Below w3.heap.size w3 w5 := hg
                  simp only [Gt.Pre, Gt.Kept, Gt.Guarded, Gt.tys, List.getD_cons_zero, List.getD_cons_succ, Gt.Is, Nat.zero_add, Nat.reduceAdd]
                  intros
                  try (refine ⟨fun _ => ?_, fun hne => absurd (by assumption) hne⟩))
                all_goals (first
                  | exact Gt.ok_move rfl (by assumption)
                  | exact Gt.ok_assign rfl (by assumption)
                  | exact Gt.ok_pick rfl (by assumption) (by rw [if_pos rfl]; assumption)
                  | (exact Gt.ok_call (f := 16) rfl #[.pointer (some ⟨z, 0, none⟩)] (by kernel_rfl) (by simp [*]) ((HLD.out w5 hg').mono fun e w6 h => by obtain ⟨A6, c6, h1, h2, h3⟩ := h; exact ⟨_, h1, h3, A6, c6, rfl, h2⟩))
                  | (exact Gt.ok_call (f := 17) rfl #[.pointer (some ⟨z, 0, none⟩)] (by kernel_rfl) (by simp [*]) ((HDN.out w5 hg').mono fun e w6 h => ⟨_, h.1, by rw [h.2]; exact Gt.Gr.refl _, rfl⟩))
                  | (rename_i h6
                     obtain ⟨A6, c6, e6, hI6⟩ := h6
                     have k5 := conv_load hI6 HN2.out
                     rw [← HSG.out] at k5
                     exact Gt.ok_convert rfl e6 k5 rfl)
                  | (exact Gt.ok_convert rfl (by assumption) (HCV.out w5 hg') rfl)
                  | (have g5 : w5.cell? ⟨q, 5, none⟩ = some (.slice Ak n2 ck) := (hg'.cell HQL.out).trans HG5.out
                     have g3 : w5.cell? ⟨q, 3, none⟩ = some (.bool gn) := (hg'.cell HQL.out).trans HG3.out
                     refine Gt.ok_run ?_ rfl
                     simp only [execOp, *]
                     go_simp
                     done))
              · intro a w5 hg
                have hg' : Below w3.heap.size w3 w5 := hg
                simp only [Gt.Pre, Gt.tys, List.getD_cons_zero, List.getD_cons_succ, Gt.Is]
                intro h0 h1 h2 h3 h4 h5 h6 h7 h8 h9 h10 h11 h12 h13 h14 h15 h16 h17
                obtain ⟨A6, c6, e1, _⟩ := h1
                show K _ _
                refine hK _ _ ?_
                simp only [Gt.puts, List.foldl_cons, List.foldl_nil, h0, h2, h3, h4, h5, h6, h7, h8, h9, h10, h11, h12, h13, h14, h15, h16, h17, e1]
                simp only [Act.put, List.setIfInBounds_toArray, List.set_cons_zero, List.set_cons_succ]
                have hT5 := HEND.out w5 hg'
                have HT5 := Lib.hid hT5
                clear hT5
                go_wp2
                go_roundw
                case rel => exact ⟨i + 1, _, _, _, _, by go_num, by omega, HT5.out.1, HT5.out.2⟩
                case measure => simp [intOf]; omega
            · cases hot : Pw.ok (tk b.length + 1) t with
              | false =>
                have HOT := Lib.hid hot
                have HOS := Lib.hid ((Pw.eqv_go (tk b.length + 1) HT.out.eqv).2.trans hot)
                clear hot
                have HA := Lib.hid (show Calls Try.prog 11 #[.pointer (some ⟨q, 0, none⟩), .agg #[.int .i64 1, .int .i64 N, .int .u8 (y : Int), .slice A m c]] wo (DoP wo q k B0 r (Pw.go (tk b.length + 1) t) (Kp) (.int .i64 3)) from doP_k (fsave_no y A m c wo q k B0 r w.heap.size t Kp b N HRS.out HBO.out HI0.out HM.out (fun o hne => in_no HI0.out H4.out.bq hne o) (by omega) HTS.out.2 HOT.out))
                refine HA.out.mono ?_
                rintro e w2 ⟨rfl, hrr, hk2⟩
                have hq2 : Sq w2 z p g r s Kp := HSQ.out.k2 hk2 ⟨H4.out.zq, H4.out.pq, H4.out.gq⟩ HKN.out
                have hob : w2.heap[wr.heap.size]? = wo.heap[wr.heap.size]? := hk2.block _ (by rw [HSO.out]; omega) (by have := HQW.out; omega) (by have := HKW.out; omega)
                have HB2 := Lib.hid (HWO.out.trans (hk2.below HWO.out.size H4.out.bq HKB.out))
                have x0 := (cell_heap hob).trans (HOP.out 0 (.int .i64 1) rfl)
                have x1 := (cell_heap hob).trans (HOP.out 1 (.int .i64 N) rfl)
                have x2 := (cell_heap hob).trans (HOP.out 2 (.int .u8 (y : Int)) rfl)
                have x3 := (cell_heap hob).trans (HOP.out 3 (.slice A m c) rfl)
                have HS2 := Lib.hid hk2.size
                have hI2 : In w2 w.heap.size A c b := HIb.out.below HB2.out
                have HPC := Lib.hid (show Calls Try.prog 12 #[.pointer (some ⟨z, 0, none⟩), .slice A m c] w2 (SzP w2 z p g r (Pw.go (tk b.length + 1) s) (Kp) (.int .i64 3)) from szP_to (sq_no z p g r w.heap.size Kp b s A m c w2 hq2 hI2 (fun o hne => ⟨in_no hI2 H4.out.bz hne o, in_no hI2 H4.out.bp hne o, in_no hI2 H4.out.bg hne o⟩) HM.out (by omega) HTS.out.1 HOS.out))
                clear hI2 hk2 hq2 hob HA
                go_wp2_with fail
                refine HPC.out.mono ?_
                rintro e w3 ⟨rfl, hq3, hk3⟩
                replace hrr : ∃ k', (k' = k ∨ k' = q ∨ wo.heap.size ≤ k') ∧ Rs w3 q k' B0 r (Pw.go (tk b.length + 1) t) (Kp) := by
                  obtain ⟨k', h1, h2⟩ := hrr
                  exact ⟨k', h1, h2.k3 hk3 ⟨Ne.symm H4.out.zq, Ne.symm H4.out.pq, Ne.symm H4.out.gq⟩ ⟨H4.out.z0, H4.out.p0, H4.out.g0⟩⟩
                have HB3 := Lib.hid (HB2.out.trans (hk3.below HB2.out.size H4.out.bz H4.out.bp H4.out.bg))
                have HBS := Lib.hid (show wr.heap.size ≤ w3.heap.size by have := HSO.out; have := HS2.out; have := hk3.size; omega)
                clear hk3 HB2 HS2 x0 x1 x2 x3
                obtain ⟨k2, hk2or, hr3⟩ := hrr
                have hr3w := hr3
                obtain ⟨dirty, Ak, ck, hbx, how, -⟩ := hr3.box
                obtain ⟨n2, hn2⟩ : ∃ n2, n2 = (Kp).length := ⟨_, rfl⟩
                obtain ⟨σ, hσ⟩ : ∃ σ, σ = str (Kp) := ⟨_, rfl⟩
                obtain ⟨gn, hgn⟩ : ∃ gn, gn = ((Pw.go (tk b.length + 1) t)).gone := ⟨_, rfl⟩
                rw [← hgn, ← hn2] at hbx
                have HN2 := Lib.hid hn2
                have HSG := Lib.hid hσ
                have HQL := Lib.hid (show q < w3.heap.size from hbx.lt)
                have HG5 := Lib.hid (show w3.cell? ⟨q, 5, none⟩ = some (.slice Ak n2 ck) from hbx.cell 5)
                have HG3 := Lib.hid (show w3.cell? ⟨q, 3, none⟩ = some (.bool gn) from hbx.cell 3)
                have HCV := Lib.hid (show ∀ w5, Below w3.heap.size w3 w5 → (convert 28 9 (.slice Ak n2 ck)).run Try.prog w5 = .ok (.string σ) w5 from fun w5 hg => by
                  have h1 := (how.inn).below hg
                  have h2 := conv_sl (P := Try.prog) h1.sl Try.underlying28 Try.underlying5 Try.underlying9 ck
                  rw [← hn2, ← hσ] at h2
                  exact h2)
                have HLD := Lib.hid (show ∀ w5, Below w3.heap.size w3 w5 → Calls Try.prog 16 #[.pointer (some ⟨z, 0, none⟩)] w5 fun e w' => ∃ A c, e = .returned (.slice A n2 c) ∧ In w' w'.heap.size A c (Kp) ∧ Below w5.heap.size w5 w' from fun w5 hg => by
                  rw [hn2]; exact sq_load z p g r _ _ w5 (hq3.below hg (Nat.le_refl _)))
                have HDN := Lib.hid (show ∀ w5, Below w3.heap.size w3 w5 → Calls Try.prog 17 #[.pointer (some ⟨z, 0, none⟩)] w5 fun e w' => e = .returned (.bool gn) ∧ w' = w5 from fun w5 hg => by
                  have h1 := sq_down z p g r _ _ w5 (hq3.below hg (Nat.le_refl _))
                  rw [show ((Pw.go (tk b.length + 1) s)).gone = gn from ((Pw.eqv_go _ HT.out.eqv).1).2.trans hgn.symm] at h1
                  exact h1)
                have HEND := Lib.hid (show ∀ w5, Below w3.heap.size w3 w5 → B0 ≤ w5.heap.size ∧ Two w z p g q k2 B0 r ((Pw.go (tk b.length + 1) s)) ((Pw.go (tk b.length + 1) t)) (Kp) ((i + 1) * 4096) w5 from fun w5 hg => ⟨Nat.le_trans HB0.out (Nat.le_trans HBS.out hg.size), hq3.below hg (Nat.le_refl _), hr3w.below hg (Nat.le_refl _), HB3.out.trans (hg.mono HB3.out.size), (Pw.eqv_go _ HT.out.eqv).1, (pw_max HT.out.su (show tk b.length + 1 ≤ 513 by have := HR5.out; rw [← HM.out]; omega) (show tk Kp.length ≤ 512 by have := HT.out.rs.len; have := HR5.out; omega) rfl).1, (pw_max HT.out.tu (show tk b.length + 1 ≤ 513 by have := HR5.out; rw [← HM.out]; omega) (show tk Kp.length ≤ 512 by have := HT.out.rs.len; have := HR5.out; omega) rfl).1⟩)
                clear hr3w hr3 hbx how hn2 hσ hgn hq3 hk2or HBS HB3
                go_wp2
                rename_i K hK
                refine Gt.regionA [Gt.Is (.pointer (some ⟨z, 0, none⟩)), LdIs n2 (Kp), Gt.Is (.string σ), Gt.Is (.pointer (some ⟨q, 0, none⟩)), Gt.Is (.pointer (some ⟨q, 0, none⟩)), Gt.Is (.pointer (some ⟨q, 5, none⟩)), Gt.Is (.slice Ak n2 ck), Gt.Is (.string σ), Gt.Is (.bool false), Gt.Is (.bool false), Gt.Is (.pointer (some ⟨z, 0, none⟩)), Gt.Is (.bool gn), Gt.Is (.pointer (some ⟨q, 0, none⟩)), Gt.Is (.pointer (some ⟨q, 0, none⟩)), Gt.Is (.pointer (some ⟨q, 3, none⟩)), Gt.Is (.bool gn), Gt.Is (.bool false), Gt.Is (.bool false)] 94
                  [⟨[], [5], none⟩, ⟨[(0, 75)], [], none⟩, ⟨[(1, 76)], [], none⟩, ⟨[], [6], none⟩, ⟨[(3, 78)], [], none⟩, ⟨[(4, 79)], [], none⟩, ⟨[(5, 80)], [], none⟩, ⟨[(6, 81)], [], none⟩, ⟨[(2, 77), (7, 82)], [], none⟩, ⟨[(8, 83)], [], none⟩, ⟨[(9, 84)], [5], some (84, false)⟩, ⟨[(9, 84), (10, 85)], [], some (84, false)⟩, ⟨[(9, 84)], [6], some (84, false)⟩, ⟨[(9, 84), (12, 87)], [], some (84, false)⟩, ⟨[(9, 84), (13, 88)], [], some (84, false)⟩, ⟨[(9, 84), (14, 89)], [], some (84, false)⟩, ⟨[(9, 84), (11, 86), (15, 90)], [], some (84, false)⟩, ⟨[(9, 84), (16, 91)], [], none⟩]
                  [(0, 75), (1, 76), (2, 77), (3, 78), (4, 79), (5, 80), (6, 81), (7, 82), (8, 83), (9, 84), (10, 85), (11, 86), (12, 87), (13, 88), (14, 89), (15, 90), (16, 91), (17, 92)] (by kernel_rfl) (by kernel_rfl) (by kernel_rfl) (by kernel_rfl) ?_ ?_ ?_
                · simp only [Gt.Monos]
                  repeat' apply And.intro
                  all_goals (first | exact trivial | exact Gt.Is.mono _ | exact LdIs.mono _ _)
                · simp only [Gt.Obs]
                  repeat' apply And.intro
                  all_goals try exact trivial
                  all_goals (
                    intro a w5 hg
                    have hg' : Below w3.heap.size w3 w5 := hg
                    simp only [Gt.Pre, Gt.Kept, Gt.Guarded, Gt.tys, List.getD_cons_zero, List.getD_cons_succ, Gt.Is, Nat.zero_add, Nat.reduceAdd]
                    intros
                    try (refine ⟨fun _ => ?_, fun hne => absurd (by assumption) hne⟩))
                  all_goals (first
                    | exact Gt.ok_move rfl (by assumption)
                    | exact Gt.ok_assign rfl (by assumption)
                    | exact Gt.ok_pick rfl (by assumption) (by rw [if_pos rfl]; assumption)
                    | (exact Gt.ok_call (f := 16) rfl #[.pointer (some ⟨z, 0, none⟩)] (by kernel_rfl) (by simp [*]) ((HLD.out w5 hg').mono fun e w6 h => by obtain ⟨A6, c6, h1, h2, h3⟩ := h; exact ⟨_, h1, h3, A6, c6, rfl, h2⟩))
                    | (exact Gt.ok_call (f := 17) rfl #[.pointer (some ⟨z, 0, none⟩)] (by kernel_rfl) (by simp [*]) ((HDN.out w5 hg').mono fun e w6 h => ⟨_, h.1, by rw [h.2]; exact Gt.Gr.refl _, rfl⟩))
                    | (rename_i h6
                       obtain ⟨A6, c6, e6, hI6⟩ := h6
                       have k5 := conv_load hI6 HN2.out
                       rw [← HSG.out] at k5
                       exact Gt.ok_convert rfl e6 k5 rfl)
                    | (exact Gt.ok_convert rfl (by assumption) (HCV.out w5 hg') rfl)
                    | (have g5 : w5.cell? ⟨q, 5, none⟩ = some (.slice Ak n2 ck) := (hg'.cell HQL.out).trans HG5.out
                       have g3 : w5.cell? ⟨q, 3, none⟩ = some (.bool gn) := (hg'.cell HQL.out).trans HG3.out
                       refine Gt.ok_run ?_ rfl
                       simp only [execOp, *]
                       go_simp
                       done))
                · intro a w5 hg
                  have hg' : Below w3.heap.size w3 w5 := hg
                  simp only [Gt.Pre, Gt.tys, List.getD_cons_zero, List.getD_cons_succ, Gt.Is]
                  intro h0 h1 h2 h3 h4 h5 h6 h7 h8 h9 h10 h11 h12 h13 h14 h15 h16 h17
                  obtain ⟨A6, c6, e1, _⟩ := h1
                  show K _ _
                  refine hK _ _ ?_
                  simp only [Gt.puts, List.foldl_cons, List.foldl_nil, h0, h2, h3, h4, h5, h6, h7, h8, h9, h10, h11, h12, h13, h14, h15, h16, h17, e1]
                  simp only [Act.put, List.setIfInBounds_toArray, List.set_cons_zero, List.set_cons_succ]
                  have hT5 := HEND.out w5 hg'
                  have HT5 := Lib.hid hT5
                  clear hT5
                  go_wp2
                  go_roundw
                  case rel => exact ⟨i + 1, _, _, _, _, by go_num, by omega, HT5.out.1, HT5.out.2⟩
                  case measure => simp [intOf]; omega
              | true =>
                have HOT := Lib.hid hot
                have HOS := Lib.hid ((Pw.eqv_go (tk b.length + 1) HT.out.eqv).2.trans hot)
                clear hot
                have HA := Lib.hid (show Calls Try.prog 11 #[.pointer (some ⟨q, 0, none⟩), .agg #[.int .i64 1, .int .i64 N, .int .u8 (y : Int), .slice A m c]] wo (DoP wo q k B0 r (Pw.go (tk Kp.length) (Pw.go (tk b.length + 1) t)) (b) (.int .i64 (bif Pw.ok (tk Kp.length) (Pw.go (tk b.length + 1) t) then 0 else 3))) from doP_y (fsave_yes y A m c wo q k B0 r w.heap.size t Kp b N HRS.out HBO.out HI0.out HM.out (fun o hne => in_no HI0.out H4.out.bq hne o) (by omega) HTS.out.2 HOT.out))
                refine HA.out.mono ?_
                rintro e w2 ⟨rfl, hrr, hk2⟩
                have hq2 : Sq w2 z p g r s Kp := HSQ.out.k2 hk2 ⟨H4.out.zq, H4.out.pq, H4.out.gq⟩ HKN.out
                have hob : w2.heap[wr.heap.size]? = wo.heap[wr.heap.size]? := hk2.block _ (by rw [HSO.out]; omega) (by have := HQW.out; omega) (by have := HKW.out; omega)
                have HB2 := Lib.hid (HWO.out.trans (hk2.below HWO.out.size H4.out.bq HKB.out))
                have x0 := (cell_heap hob).trans (HOP.out 0 (.int .i64 1) rfl)
                have x1 := (cell_heap hob).trans (HOP.out 1 (.int .i64 N) rfl)
                have x2 := (cell_heap hob).trans (HOP.out 2 (.int .u8 (y : Int)) rfl)
                have x3 := (cell_heap hob).trans (HOP.out 3 (.slice A m c) rfl)
                have HS2 := Lib.hid hk2.size
                have hI2 : In w2 w.heap.size A c b := HIb.out.below HB2.out
                have HPC := Lib.hid (show Calls Try.prog 12 #[.pointer (some ⟨z, 0, none⟩), .slice A m c] w2 (SzP w2 z p g r (Pw.go (tk Kp.length) (Pw.go (tk b.length + 1) s)) (b) (.int .i64 (bif Pw.ok (tk Kp.length) (Pw.go (tk b.length + 1) t) then 0 else 3))) from szP_to (by rw [← (Pw.eqv_go (tk Kp.length) (Pw.eqv_go (tk b.length + 1) HT.out.eqv).1).2]; exact sq_yes z p g r w.heap.size Kp b s A m c w2 hq2 hI2 (fun o hne => ⟨in_no hI2 H4.out.bz hne o, in_no hI2 H4.out.bp hne o, in_no hI2 H4.out.bg hne o⟩) HM.out (by omega) HTS.out.1 HOS.out))
                clear hI2 hk2 hq2 hob HA
                go_wp2_with fail
                refine HPC.out.mono ?_
                rintro e w3 ⟨rfl, hq3, hk3⟩
                replace hrr : ∃ k', (k' = k ∨ k' = q ∨ wo.heap.size ≤ k') ∧ Rs w3 q k' B0 r (Pw.go (tk Kp.length) (Pw.go (tk b.length + 1) t)) (b) := by
                  obtain ⟨k', h1, h2⟩ := hrr
                  exact ⟨k', h1, h2.k3 hk3 ⟨Ne.symm H4.out.zq, Ne.symm H4.out.pq, Ne.symm H4.out.gq⟩ ⟨H4.out.z0, H4.out.p0, H4.out.g0⟩⟩
                have HB3 := Lib.hid (HB2.out.trans (hk3.below HB2.out.size H4.out.bz H4.out.bp H4.out.bg))
                have HBS := Lib.hid (show wr.heap.size ≤ w3.heap.size by have := HSO.out; have := HS2.out; have := hk3.size; omega)
                clear hk3 HB2 HS2 x0 x1 x2 x3
                obtain ⟨k2, hk2or, hr3⟩ := hrr
                have hr3w := hr3
                obtain ⟨dirty, Ak, ck, hbx, how, -⟩ := hr3.box
                obtain ⟨n2, hn2⟩ : ∃ n2, n2 = (b).length := ⟨_, rfl⟩
                obtain ⟨σ, hσ⟩ : ∃ σ, σ = str (b) := ⟨_, rfl⟩
                obtain ⟨gn, hgn⟩ : ∃ gn, gn = ((Pw.go (tk Kp.length) (Pw.go (tk b.length + 1) t))).gone := ⟨_, rfl⟩
                rw [← hgn, ← hn2] at hbx
                have HN2 := Lib.hid hn2
                have HSG := Lib.hid hσ
                have HQL := Lib.hid (show q < w3.heap.size from hbx.lt)
                have HG5 := Lib.hid (show w3.cell? ⟨q, 5, none⟩ = some (.slice Ak n2 ck) from hbx.cell 5)
                have HG3 := Lib.hid (show w3.cell? ⟨q, 3, none⟩ = some (.bool gn) from hbx.cell 3)
                have HCV := Lib.hid (show ∀ w5, Below w3.heap.size w3 w5 → (convert 28 9 (.slice Ak n2 ck)).run Try.prog w5 = .ok (.string σ) w5 from fun w5 hg => by
                  have h1 := (how.inn).below hg
                  have h2 := conv_sl (P := Try.prog) h1.sl Try.underlying28 Try.underlying5 Try.underlying9 ck
                  rw [← hn2, ← hσ] at h2
                  exact h2)
                have HLD := Lib.hid (show ∀ w5, Below w3.heap.size w3 w5 → Calls Try.prog 16 #[.pointer (some ⟨z, 0, none⟩)] w5 fun e w' => ∃ A c, e = .returned (.slice A n2 c) ∧ In w' w'.heap.size A c (b) ∧ Below w5.heap.size w5 w' from fun w5 hg => by
                  rw [hn2]; exact sq_load z p g r _ _ w5 (hq3.below hg (Nat.le_refl _)))
                have HDN := Lib.hid (show ∀ w5, Below w3.heap.size w3 w5 → Calls Try.prog 17 #[.pointer (some ⟨z, 0, none⟩)] w5 fun e w' => e = .returned (.bool gn) ∧ w' = w5 from fun w5 hg => by
                  have h1 := sq_down z p g r _ _ w5 (hq3.below hg (Nat.le_refl _))
                  rw [show ((Pw.go (tk Kp.length) (Pw.go (tk b.length + 1) s))).gone = gn from ((Pw.eqv_go _ (Pw.eqv_go _ HT.out.eqv).1).1).2.trans hgn.symm] at h1
                  exact h1)
                have HEND := Lib.hid (show ∀ w5, Below w3.heap.size w3 w5 → B0 ≤ w5.heap.size ∧ Two w z p g q k2 B0 r ((Pw.go (tk Kp.length) (Pw.go (tk b.length + 1) s))) ((Pw.go (tk Kp.length) (Pw.go (tk b.length + 1) t))) (b) ((i + 1) * 4096) w5 from fun w5 hg => ⟨Nat.le_trans HB0.out (Nat.le_trans HBS.out hg.size), hq3.below hg (Nat.le_refl _), hr3w.below hg (Nat.le_refl _), HB3.out.trans (hg.mono HB3.out.size), (Pw.eqv_go _ (Pw.eqv_go _ HT.out.eqv).1).1, (pw_max HT.out.su (show tk b.length + 1 ≤ 513 by have := HR5.out; rw [← HM.out]; omega) (show tk Kp.length ≤ 512 by have := HT.out.rs.len; have := HR5.out; omega) rfl).2, (pw_max HT.out.tu (show tk b.length + 1 ≤ 513 by have := HR5.out; rw [← HM.out]; omega) (show tk Kp.length ≤ 512 by have := HT.out.rs.len; have := HR5.out; omega) rfl).2⟩)
                clear hr3w hr3 hbx how hn2 hσ hgn hq3 hk2or HBS HB3
                go_wp2
                rename_i K hK
                refine Gt.regionA [Gt.Is (.pointer (some ⟨z, 0, none⟩)), LdIs n2 (b), Gt.Is (.string σ), Gt.Is (.pointer (some ⟨q, 0, none⟩)), Gt.Is (.pointer (some ⟨q, 0, none⟩)), Gt.Is (.pointer (some ⟨q, 5, none⟩)), Gt.Is (.slice Ak n2 ck), Gt.Is (.string σ), Gt.Is (.bool false), Gt.Is (.bool false), Gt.Is (.pointer (some ⟨z, 0, none⟩)), Gt.Is (.bool gn), Gt.Is (.pointer (some ⟨q, 0, none⟩)), Gt.Is (.pointer (some ⟨q, 0, none⟩)), Gt.Is (.pointer (some ⟨q, 3, none⟩)), Gt.Is (.bool gn), Gt.Is (.bool false), Gt.Is (.bool false)] 94
                  [⟨[], [5], none⟩, ⟨[(0, 75)], [], none⟩, ⟨[(1, 76)], [], none⟩, ⟨[], [6], none⟩, ⟨[(3, 78)], [], none⟩, ⟨[(4, 79)], [], none⟩, ⟨[(5, 80)], [], none⟩, ⟨[(6, 81)], [], none⟩, ⟨[(2, 77), (7, 82)], [], none⟩, ⟨[(8, 83)], [], none⟩, ⟨[(9, 84)], [5], some (84, false)⟩, ⟨[(9, 84), (10, 85)], [], some (84, false)⟩, ⟨[(9, 84)], [6], some (84, false)⟩, ⟨[(9, 84), (12, 87)], [], some (84, false)⟩, ⟨[(9, 84), (13, 88)], [], some (84, false)⟩, ⟨[(9, 84), (14, 89)], [], some (84, false)⟩, ⟨[(9, 84), (11, 86), (15, 90)], [], some (84, false)⟩, ⟨[(9, 84), (16, 91)], [], none⟩]
                  [(0, 75), (1, 76), (2, 77), (3, 78), (4, 79), (5, 80), (6, 81), (7, 82), (8, 83), (9, 84), (10, 85), (11, 86), (12, 87), (13, 88), (14, 89), (15, 90), (16, 91), (17, 92)] (by kernel_rfl) (by kernel_rfl) (by kernel_rfl) (by kernel_rfl) ?_ ?_ ?_
                · simp only [Gt.Monos]
                  repeat' apply And.intro
                  all_goals (first | exact trivial | exact Gt.Is.mono _ | exact LdIs.mono _ _)
                · simp only [Gt.Obs]
                  repeat' apply And.intro
                  all_goals try exact trivial
                  all_goals (
                    intro a w5 hg
                    have hg' : Below w3.heap.size w3 w5 := hg
                    simp only [Gt.Pre, Gt.Kept, Gt.Guarded, Gt.tys, List.getD_cons_zero, List.getD_cons_succ, Gt.Is, Nat.zero_add, Nat.reduceAdd]
                    intros
                    try (refine ⟨fun _ => ?_, fun hne => absurd (by assumption) hne⟩))
                  all_goals (first
                    | exact Gt.ok_move rfl (by assumption)
                    | exact Gt.ok_assign rfl (by assumption)
                    | exact Gt.ok_pick rfl (by assumption) (by rw [if_pos rfl]; assumption)
                    | (exact Gt.ok_call (f := 16) rfl #[.pointer (some ⟨z, 0, none⟩)] (by kernel_rfl) (by simp [*]) ((HLD.out w5 hg').mono fun e w6 h => by obtain ⟨A6, c6, h1, h2, h3⟩ := h; exact ⟨_, h1, h3, A6, c6, rfl, h2⟩))
                    | (exact Gt.ok_call (f := 17) rfl #[.pointer (some ⟨z, 0, none⟩)] (by kernel_rfl) (by simp [*]) ((HDN.out w5 hg').mono fun e w6 h => ⟨_, h.1, by rw [h.2]; exact Gt.Gr.refl _, rfl⟩))
                    | (rename_i h6
                       obtain ⟨A6, c6, e6, hI6⟩ := h6
                       have k5 := conv_load hI6 HN2.out
                       rw [← HSG.out] at k5
                       exact Gt.ok_convert rfl e6 k5 rfl)
                    | (exact Gt.ok_convert rfl (by assumption) (HCV.out w5 hg') rfl)
                    | (have g5 : w5.cell? ⟨q, 5, none⟩ = some (.slice Ak n2 ck) := (hg'.cell HQL.out).trans HG5.out
                       have g3 : w5.cell? ⟨q, 3, none⟩ = some (.bool gn) := (hg'.cell HQL.out).trans HG3.out
                       refine Gt.ok_run ?_ rfl
                       simp only [execOp, *]
                       go_simp
                       done))
                · intro a w5 hg
                  have hg' : Below w3.heap.size w3 w5 := hg
                  simp only [Gt.Pre, Gt.tys, List.getD_cons_zero, List.getD_cons_succ, Gt.Is]
                  intro h0 h1 h2 h3 h4 h5 h6 h7 h8 h9 h10 h11 h12 h13 h14 h15 h16 h17
                  obtain ⟨A6, c6, e1, _⟩ := h1
                  show K _ _
                  refine hK _ _ ?_
                  simp only [Gt.puts, List.foldl_cons, List.foldl_nil, h0, h2, h3, h4, h5, h6, h7, h8, h9, h10, h11, h12, h13, h14, h15, h16, h17, e1]
                  simp only [Act.put, List.setIfInBounds_toArray, List.set_cons_zero, List.set_cons_succ]
                  have hT5 := HEND.out w5 hg'
                  have HT5 := Lib.hid hT5
                  clear hT5
                  go_wp2
                  go_roundw
                  case rel => exact ⟨i + 1, _, _, _, _, by go_num, by omega, HT5.out.1, HT5.out.2⟩
                  case measure => simp [intOf]; omega
          · by_cases k2 : E = 2
            · subst k2
              have HA := Lib.hid (show Calls Try.prog 11 #[.pointer (some ⟨q, 0, none⟩), .agg #[.int .i64 2, .int .i64 N, .int .u8 (y : Int), .slice A m c]] wo (DoP wo q k B0 r (⟨-1, false, t.u⟩ : Pw) (Kp) (.int .i64 0)) from doP_q (fslot_start y A m c wo q k B0 r t Kp N HRS.out))
              refine HA.out.mono ?_
              rintro e w2 ⟨rfl, hrr, hk2⟩
              have hq2 : Sq w2 z p g r s Kp := HSQ.out.k2 hk2 ⟨H4.out.zq, H4.out.pq, H4.out.gq⟩ HKN.out
              have hob : w2.heap[wr.heap.size]? = wo.heap[wr.heap.size]? := hk2.block _ (by rw [HSO.out]; omega) (by have := HQW.out; omega) (by have := HKW.out; omega)
              have HB2 := Lib.hid (HWO.out.trans (hk2.below HWO.out.size H4.out.bq HKB.out))
              have x0 := (cell_heap hob).trans (HOP.out 0 (.int .i64 2) rfl)
              have x1 := (cell_heap hob).trans (HOP.out 1 (.int .i64 N) rfl)
              have x2 := (cell_heap hob).trans (HOP.out 2 (.int .u8 (y : Int)) rfl)
              have x3 := (cell_heap hob).trans (HOP.out 3 (.slice A m c) rfl)
              have HS2 := Lib.hid hk2.size
              have hI2 : In w2 w.heap.size A c b := HIb.out.below HB2.out
              have HPC := Lib.hid (show Calls Try.prog 13 #[.pointer (some ⟨z, 0, none⟩)] w2 (fun e w' => ∃ u2, e = .returned (.tuple #[]) ∧ Sq w' z p g r ⟨-1, false, u2⟩ Kp ∧ u2 ≤ s.u + r ∧ K3 w2 w' z p g) from sq_start z p g r Kp s w2 hq2 HTS.out.1)
              clear hI2 hk2 hq2 hob HA
              go_wp2_with fail
              refine HPC.out.mono ?_
              rintro e w3 ⟨u2, rfl, hq3, hu2', hk3⟩
              have hu2 : (⟨-1, false, u2⟩ : Pw).u ≤ (i + 1) * 4096 := by show u2 ≤ _; have := HT.out.su; have := HR5.out; omega
              replace hrr : ∃ k', (k' = k ∨ k' = q ∨ wo.heap.size ≤ k') ∧ Rs w3 q k' B0 r (⟨-1, false, t.u⟩ : Pw) (Kp) := by
                obtain ⟨k', h1, h2⟩ := hrr
                exact ⟨k', h1, h2.k3 hk3 ⟨Ne.symm H4.out.zq, Ne.symm H4.out.pq, Ne.symm H4.out.gq⟩ ⟨H4.out.z0, H4.out.p0, H4.out.g0⟩⟩
              have HB3 := Lib.hid (HB2.out.trans (hk3.below HB2.out.size H4.out.bz H4.out.bp H4.out.bg))
              have HBS := Lib.hid (show wr.heap.size ≤ w3.heap.size by have := HSO.out; have := HS2.out; have := hk3.size; omega)
              clear hk3 hu2' HB2 HS2 x0 x1 x2 x3
              obtain ⟨k2, hk2or, hr3⟩ := hrr
              have hr3w := hr3
              obtain ⟨dirty, Ak, ck, hbx, how, -⟩ := hr3.box
              obtain ⟨n2, hn2⟩ : ∃ n2, n2 = (Kp).length := ⟨_, rfl⟩
              obtain ⟨σ, hσ⟩ : ∃ σ, σ = str (Kp) := ⟨_, rfl⟩
              obtain ⟨gn, hgn⟩ : ∃ gn, gn = ((⟨-1, false, t.u⟩ : Pw)).gone := ⟨_, rfl⟩
              rw [← hgn, ← hn2] at hbx
              have HN2 := Lib.hid hn2
              have HSG := Lib.hid hσ
              have HQL := Lib.hid (show q < w3.heap.size from hbx.lt)
              have HG5 := Lib.hid (show w3.cell? ⟨q, 5, none⟩ = some (.slice Ak n2 ck) from hbx.cell 5)
              have HG3 := Lib.hid (show w3.cell? ⟨q, 3, none⟩ = some (.bool gn) from hbx.cell 3)
              have HCV := Lib.hid (show ∀ w5, Below w3.heap.size w3 w5 → (convert 28 9 (.slice Ak n2 ck)).run Try.prog w5 = .ok (.string σ) w5 from fun w5 hg => by
                have h1 := (how.inn).below hg
                have h2 := conv_sl (P := Try.prog) h1.sl Try.underlying28 Try.underlying5 Try.underlying9 ck
                rw [← hn2, ← hσ] at h2
                exact h2)
              have HLD := Lib.hid (show ∀ w5, Below w3.heap.size w3 w5 → Calls Try.prog 16 #[.pointer (some ⟨z, 0, none⟩)] w5 fun e w' => ∃ A c, e = .returned (.slice A n2 c) ∧ In w' w'.heap.size A c (Kp) ∧ Below w5.heap.size w5 w' from fun w5 hg => by
                rw [hn2]; exact sq_load z p g r _ _ w5 (hq3.below hg (Nat.le_refl _)))
              have HDN := Lib.hid (show ∀ w5, Below w3.heap.size w3 w5 → Calls Try.prog 17 #[.pointer (some ⟨z, 0, none⟩)] w5 fun e w' => e = .returned (.bool gn) ∧ w' = w5 from fun w5 hg => by
                have h1 := sq_down z p g r _ _ w5 (hq3.below hg (Nat.le_refl _))
                rw [show ((⟨-1, false, u2⟩ : Pw)).gone = gn from ((show Pw.eqv ⟨-1, false, u2⟩ ⟨-1, false, t.u⟩ from ⟨rfl, rfl⟩)).2.trans hgn.symm] at h1
                exact h1)
              have HEND := Lib.hid (show ∀ w5, Below w3.heap.size w3 w5 → B0 ≤ w5.heap.size ∧ Two w z p g q k2 B0 r ((⟨-1, false, u2⟩ : Pw)) ((⟨-1, false, t.u⟩ : Pw)) (Kp) ((i + 1) * 4096) w5 from fun w5 hg => ⟨Nat.le_trans HB0.out (Nat.le_trans HBS.out hg.size), hq3.below hg (Nat.le_refl _), hr3w.below hg (Nat.le_refl _), HB3.out.trans (hg.mono HB3.out.size), (show Pw.eqv ⟨-1, false, u2⟩ ⟨-1, false, t.u⟩ from ⟨rfl, rfl⟩), hu2, (show t.u ≤ _ by have := HT.out.tu; omega)⟩)
              clear hr3w hr3 hbx how hn2 hσ hgn hq3 hk2or HBS HB3
              go_wp2
              rename_i K hK
              refine Gt.regionA [Gt.Is (.pointer (some ⟨z, 0, none⟩)), LdIs n2 (Kp), Gt.Is (.string σ), Gt.Is (.pointer (some ⟨q, 0, none⟩)), Gt.Is (.pointer (some ⟨q, 0, none⟩)), Gt.Is (.pointer (some ⟨q, 5, none⟩)), Gt.Is (.slice Ak n2 ck), Gt.Is (.string σ), Gt.Is (.bool false), Gt.Is (.bool false), Gt.Is (.pointer (some ⟨z, 0, none⟩)), Gt.Is (.bool gn), Gt.Is (.pointer (some ⟨q, 0, none⟩)), Gt.Is (.pointer (some ⟨q, 0, none⟩)), Gt.Is (.pointer (some ⟨q, 3, none⟩)), Gt.Is (.bool gn), Gt.Is (.bool false), Gt.Is (.bool false)] 94
                [⟨[], [5], none⟩, ⟨[(0, 75)], [], none⟩, ⟨[(1, 76)], [], none⟩, ⟨[], [6], none⟩, ⟨[(3, 78)], [], none⟩, ⟨[(4, 79)], [], none⟩, ⟨[(5, 80)], [], none⟩, ⟨[(6, 81)], [], none⟩, ⟨[(2, 77), (7, 82)], [], none⟩, ⟨[(8, 83)], [], none⟩, ⟨[(9, 84)], [5], some (84, false)⟩, ⟨[(9, 84), (10, 85)], [], some (84, false)⟩, ⟨[(9, 84)], [6], some (84, false)⟩, ⟨[(9, 84), (12, 87)], [], some (84, false)⟩, ⟨[(9, 84), (13, 88)], [], some (84, false)⟩, ⟨[(9, 84), (14, 89)], [], some (84, false)⟩, ⟨[(9, 84), (11, 86), (15, 90)], [], some (84, false)⟩, ⟨[(9, 84), (16, 91)], [], none⟩]
                [(0, 75), (1, 76), (2, 77), (3, 78), (4, 79), (5, 80), (6, 81), (7, 82), (8, 83), (9, 84), (10, 85), (11, 86), (12, 87), (13, 88), (14, 89), (15, 90), (16, 91), (17, 92)] (by kernel_rfl) (by kernel_rfl) (by kernel_rfl) (by kernel_rfl) ?_ ?_ ?_
              · simp only [Gt.Monos]
                repeat' apply And.intro
                all_goals (first | exact trivial | exact Gt.Is.mono _ | exact LdIs.mono _ _)
              · simp only [Gt.Obs]
                repeat' apply And.intro
                all_goals try exact trivial
                all_goals (
                  intro a w5 hg
                  have hg' : Below w3.heap.size w3 w5 := hg
                  simp only [Gt.Pre, Gt.Kept, Gt.Guarded, Gt.tys, List.getD_cons_zero, List.getD_cons_succ, Gt.Is, Nat.zero_add, Nat.reduceAdd]
                  intros
                  try (refine ⟨fun _ => ?_, fun hne => absurd (by assumption) hne⟩))
                all_goals (first
                  | exact Gt.ok_move rfl (by assumption)
                  | exact Gt.ok_assign rfl (by assumption)
                  | exact Gt.ok_pick rfl (by assumption) (by rw [if_pos rfl]; assumption)
                  | (exact Gt.ok_call (f := 16) rfl #[.pointer (some ⟨z, 0, none⟩)] (by kernel_rfl) (by simp [*]) ((HLD.out w5 hg').mono fun e w6 h => by obtain ⟨A6, c6, h1, h2, h3⟩ := h; exact ⟨_, h1, h3, A6, c6, rfl, h2⟩))
                  | (exact Gt.ok_call (f := 17) rfl #[.pointer (some ⟨z, 0, none⟩)] (by kernel_rfl) (by simp [*]) ((HDN.out w5 hg').mono fun e w6 h => ⟨_, h.1, by rw [h.2]; exact Gt.Gr.refl _, rfl⟩))
                  | (rename_i h6
                     obtain ⟨A6, c6, e6, hI6⟩ := h6
                     have k5 := conv_load hI6 HN2.out
                     rw [← HSG.out] at k5
                     exact Gt.ok_convert rfl e6 k5 rfl)
                  | (exact Gt.ok_convert rfl (by assumption) (HCV.out w5 hg') rfl)
                  | (have g5 : w5.cell? ⟨q, 5, none⟩ = some (.slice Ak n2 ck) := (hg'.cell HQL.out).trans HG5.out
                     have g3 : w5.cell? ⟨q, 3, none⟩ = some (.bool gn) := (hg'.cell HQL.out).trans HG3.out
                     refine Gt.ok_run ?_ rfl
                     simp only [execOp, *]
                     go_simp
                     done))
              · intro a w5 hg
                have hg' : Below w3.heap.size w3 w5 := hg
                simp only [Gt.Pre, Gt.tys, List.getD_cons_zero, List.getD_cons_succ, Gt.Is]
                intro h0 h1 h2 h3 h4 h5 h6 h7 h8 h9 h10 h11 h12 h13 h14 h15 h16 h17
                obtain ⟨A6, c6, e1, _⟩ := h1
                show K _ _
                refine hK _ _ ?_
                simp only [Gt.puts, List.foldl_cons, List.foldl_nil, h0, h2, h3, h4, h5, h6, h7, h8, h9, h10, h11, h12, h13, h14, h15, h16, h17, e1]
                simp only [Act.put, List.setIfInBounds_toArray, List.set_cons_zero, List.set_cons_succ]
                have hT5 := HEND.out w5 hg'
                have HT5 := Lib.hid hT5
                clear hT5
                go_wp2
                go_roundw
                case rel => exact ⟨i + 1, _, _, _, _, by go_num, by omega, HT5.out.1, HT5.out.2⟩
                case measure => simp [intOf]; omega
            · by_cases k3 : E = 3
              · subst k3
                have HA := Lib.hid (show Calls Try.prog 11 #[.pointer (some ⟨q, 0, none⟩), .agg #[.int .i64 3, .int .i64 N, .int .u8 (y : Int), .slice A m c]] wo (DoP wo q k B0 r (⟨(N.toNat : Int), t.gone, t.u⟩ : Pw) (Kp) (.int .i64 0)) from doP_q (fslot_fuse y A m c wo q k B0 r t Kp N (by have := bounds_i64 HNI.out; omega) HRS.out))
                refine HA.out.mono ?_
                rintro e w2 ⟨rfl, hrr, hk2⟩
                have hq2 : Sq w2 z p g r s Kp := HSQ.out.k2 hk2 ⟨H4.out.zq, H4.out.pq, H4.out.gq⟩ HKN.out
                have hob : w2.heap[wr.heap.size]? = wo.heap[wr.heap.size]? := hk2.block _ (by rw [HSO.out]; omega) (by have := HQW.out; omega) (by have := HKW.out; omega)
                have HB2 := Lib.hid (HWO.out.trans (hk2.below HWO.out.size H4.out.bq HKB.out))
                have x0 := (cell_heap hob).trans (HOP.out 0 (.int .i64 3) rfl)
                have x1 := (cell_heap hob).trans (HOP.out 1 (.int .i64 N) rfl)
                have x2 := (cell_heap hob).trans (HOP.out 2 (.int .u8 (y : Int)) rfl)
                have x3 := (cell_heap hob).trans (HOP.out 3 (.slice A m c) rfl)
                have HS2 := Lib.hid hk2.size
                have hI2 : In w2 w.heap.size A c b := HIb.out.below HB2.out
                have HPC := Lib.hid (show Calls Try.prog 14 #[.pointer (some ⟨z, 0, none⟩), .int .i64 N] w2 (SzP w2 z p g r (⟨(N.toNat : Int), s.gone, s.u⟩ : Pw) (Kp) (.tuple #[])) from szP_to (sq_fuse z p g r Kp s N w2 hq2 (by have := bounds_i64 HNI.out; omega)))
                clear hI2 hk2 hq2 hob HA
                go_wp2_with fail
                refine HPC.out.mono ?_
                rintro e w3 ⟨rfl, hq3, hk3⟩
                replace hrr : ∃ k', (k' = k ∨ k' = q ∨ wo.heap.size ≤ k') ∧ Rs w3 q k' B0 r (⟨(N.toNat : Int), t.gone, t.u⟩ : Pw) (Kp) := by
                  obtain ⟨k', h1, h2⟩ := hrr
                  exact ⟨k', h1, h2.k3 hk3 ⟨Ne.symm H4.out.zq, Ne.symm H4.out.pq, Ne.symm H4.out.gq⟩ ⟨H4.out.z0, H4.out.p0, H4.out.g0⟩⟩
                have HB3 := Lib.hid (HB2.out.trans (hk3.below HB2.out.size H4.out.bz H4.out.bp H4.out.bg))
                have HBS := Lib.hid (show wr.heap.size ≤ w3.heap.size by have := HSO.out; have := HS2.out; have := hk3.size; omega)
                clear hk3 HB2 HS2 x0 x1 x2 x3
                obtain ⟨k2, hk2or, hr3⟩ := hrr
                have hr3w := hr3
                obtain ⟨dirty, Ak, ck, hbx, how, -⟩ := hr3.box
                obtain ⟨n2, hn2⟩ : ∃ n2, n2 = (Kp).length := ⟨_, rfl⟩
                obtain ⟨σ, hσ⟩ : ∃ σ, σ = str (Kp) := ⟨_, rfl⟩
                obtain ⟨gn, hgn⟩ : ∃ gn, gn = ((⟨(N.toNat : Int), t.gone, t.u⟩ : Pw)).gone := ⟨_, rfl⟩
                rw [← hgn, ← hn2] at hbx
                have HN2 := Lib.hid hn2
                have HSG := Lib.hid hσ
                have HQL := Lib.hid (show q < w3.heap.size from hbx.lt)
                have HG5 := Lib.hid (show w3.cell? ⟨q, 5, none⟩ = some (.slice Ak n2 ck) from hbx.cell 5)
                have HG3 := Lib.hid (show w3.cell? ⟨q, 3, none⟩ = some (.bool gn) from hbx.cell 3)
                have HCV := Lib.hid (show ∀ w5, Below w3.heap.size w3 w5 → (convert 28 9 (.slice Ak n2 ck)).run Try.prog w5 = .ok (.string σ) w5 from fun w5 hg => by
                  have h1 := (how.inn).below hg
                  have h2 := conv_sl (P := Try.prog) h1.sl Try.underlying28 Try.underlying5 Try.underlying9 ck
                  rw [← hn2, ← hσ] at h2
                  exact h2)
                have HLD := Lib.hid (show ∀ w5, Below w3.heap.size w3 w5 → Calls Try.prog 16 #[.pointer (some ⟨z, 0, none⟩)] w5 fun e w' => ∃ A c, e = .returned (.slice A n2 c) ∧ In w' w'.heap.size A c (Kp) ∧ Below w5.heap.size w5 w' from fun w5 hg => by
                  rw [hn2]; exact sq_load z p g r _ _ w5 (hq3.below hg (Nat.le_refl _)))
                have HDN := Lib.hid (show ∀ w5, Below w3.heap.size w3 w5 → Calls Try.prog 17 #[.pointer (some ⟨z, 0, none⟩)] w5 fun e w' => e = .returned (.bool gn) ∧ w' = w5 from fun w5 hg => by
                  have h1 := sq_down z p g r _ _ w5 (hq3.below hg (Nat.le_refl _))
                  rw [show ((⟨(N.toNat : Int), s.gone, s.u⟩ : Pw)).gone = gn from ((show Pw.eqv ⟨(N.toNat : Int), s.gone, s.u⟩ ⟨(N.toNat : Int), t.gone, t.u⟩ from ⟨rfl, HT.out.eqv.2⟩)).2.trans hgn.symm] at h1
                  exact h1)
                have HEND := Lib.hid (show ∀ w5, Below w3.heap.size w3 w5 → B0 ≤ w5.heap.size ∧ Two w z p g q k2 B0 r ((⟨(N.toNat : Int), s.gone, s.u⟩ : Pw)) ((⟨(N.toNat : Int), t.gone, t.u⟩ : Pw)) (Kp) ((i + 1) * 4096) w5 from fun w5 hg => ⟨Nat.le_trans HB0.out (Nat.le_trans HBS.out hg.size), hq3.below hg (Nat.le_refl _), hr3w.below hg (Nat.le_refl _), HB3.out.trans (hg.mono HB3.out.size), (show Pw.eqv ⟨(N.toNat : Int), s.gone, s.u⟩ ⟨(N.toNat : Int), t.gone, t.u⟩ from ⟨rfl, HT.out.eqv.2⟩), (show s.u ≤ _ by have := HT.out.su; omega), (show t.u ≤ _ by have := HT.out.tu; omega)⟩)
                clear hr3w hr3 hbx how hn2 hσ hgn hq3 hk2or HBS HB3
                go_wp2
                rename_i K hK
                refine Gt.regionA [Gt.Is (.pointer (some ⟨z, 0, none⟩)), LdIs n2 (Kp), Gt.Is (.string σ), Gt.Is (.pointer (some ⟨q, 0, none⟩)), Gt.Is (.pointer (some ⟨q, 0, none⟩)), Gt.Is (.pointer (some ⟨q, 5, none⟩)), Gt.Is (.slice Ak n2 ck), Gt.Is (.string σ), Gt.Is (.bool false), Gt.Is (.bool false), Gt.Is (.pointer (some ⟨z, 0, none⟩)), Gt.Is (.bool gn), Gt.Is (.pointer (some ⟨q, 0, none⟩)), Gt.Is (.pointer (some ⟨q, 0, none⟩)), Gt.Is (.pointer (some ⟨q, 3, none⟩)), Gt.Is (.bool gn), Gt.Is (.bool false), Gt.Is (.bool false)] 94
                  [⟨[], [5], none⟩, ⟨[(0, 75)], [], none⟩, ⟨[(1, 76)], [], none⟩, ⟨[], [6], none⟩, ⟨[(3, 78)], [], none⟩, ⟨[(4, 79)], [], none⟩, ⟨[(5, 80)], [], none⟩, ⟨[(6, 81)], [], none⟩, ⟨[(2, 77), (7, 82)], [], none⟩, ⟨[(8, 83)], [], none⟩, ⟨[(9, 84)], [5], some (84, false)⟩, ⟨[(9, 84), (10, 85)], [], some (84, false)⟩, ⟨[(9, 84)], [6], some (84, false)⟩, ⟨[(9, 84), (12, 87)], [], some (84, false)⟩, ⟨[(9, 84), (13, 88)], [], some (84, false)⟩, ⟨[(9, 84), (14, 89)], [], some (84, false)⟩, ⟨[(9, 84), (11, 86), (15, 90)], [], some (84, false)⟩, ⟨[(9, 84), (16, 91)], [], none⟩]
                  [(0, 75), (1, 76), (2, 77), (3, 78), (4, 79), (5, 80), (6, 81), (7, 82), (8, 83), (9, 84), (10, 85), (11, 86), (12, 87), (13, 88), (14, 89), (15, 90), (16, 91), (17, 92)] (by kernel_rfl) (by kernel_rfl) (by kernel_rfl) (by kernel_rfl) ?_ ?_ ?_
                · simp only [Gt.Monos]
                  repeat' apply And.intro
                  all_goals (first | exact trivial | exact Gt.Is.mono _ | exact LdIs.mono _ _)
                · simp only [Gt.Obs]
                  repeat' apply And.intro
                  all_goals try exact trivial
                  all_goals (
                    intro a w5 hg
                    have hg' : Below w3.heap.size w3 w5 := hg
                    simp only [Gt.Pre, Gt.Kept, Gt.Guarded, Gt.tys, List.getD_cons_zero, List.getD_cons_succ, Gt.Is, Nat.zero_add, Nat.reduceAdd]
                    intros
                    try (refine ⟨fun _ => ?_, fun hne => absurd (by assumption) hne⟩))
                  all_goals (first
                    | exact Gt.ok_move rfl (by assumption)
                    | exact Gt.ok_assign rfl (by assumption)
                    | exact Gt.ok_pick rfl (by assumption) (by rw [if_pos rfl]; assumption)
                    | (exact Gt.ok_call (f := 16) rfl #[.pointer (some ⟨z, 0, none⟩)] (by kernel_rfl) (by simp [*]) ((HLD.out w5 hg').mono fun e w6 h => by obtain ⟨A6, c6, h1, h2, h3⟩ := h; exact ⟨_, h1, h3, A6, c6, rfl, h2⟩))
                    | (exact Gt.ok_call (f := 17) rfl #[.pointer (some ⟨z, 0, none⟩)] (by kernel_rfl) (by simp [*]) ((HDN.out w5 hg').mono fun e w6 h => ⟨_, h.1, by rw [h.2]; exact Gt.Gr.refl _, rfl⟩))
                    | (rename_i h6
                       obtain ⟨A6, c6, e6, hI6⟩ := h6
                       have k5 := conv_load hI6 HN2.out
                       rw [← HSG.out] at k5
                       exact Gt.ok_convert rfl e6 k5 rfl)
                    | (exact Gt.ok_convert rfl (by assumption) (HCV.out w5 hg') rfl)
                    | (have g5 : w5.cell? ⟨q, 5, none⟩ = some (.slice Ak n2 ck) := (hg'.cell HQL.out).trans HG5.out
                       have g3 : w5.cell? ⟨q, 3, none⟩ = some (.bool gn) := (hg'.cell HQL.out).trans HG3.out
                       refine Gt.ok_run ?_ rfl
                       simp only [execOp, *]
                       go_simp
                       done))
                · intro a w5 hg
                  have hg' : Below w3.heap.size w3 w5 := hg
                  simp only [Gt.Pre, Gt.tys, List.getD_cons_zero, List.getD_cons_succ, Gt.Is]
                  intro h0 h1 h2 h3 h4 h5 h6 h7 h8 h9 h10 h11 h12 h13 h14 h15 h16 h17
                  obtain ⟨A6, c6, e1, _⟩ := h1
                  show K _ _
                  refine hK _ _ ?_
                  simp only [Gt.puts, List.foldl_cons, List.foldl_nil, h0, h2, h3, h4, h5, h6, h7, h8, h9, h10, h11, h12, h13, h14, h15, h16, h17, e1]
                  simp only [Act.put, List.setIfInBounds_toArray, List.set_cons_zero, List.set_cons_succ]
                  have hT5 := HEND.out w5 hg'
                  have HT5 := Lib.hid hT5
                  clear hT5
                  go_wp2
                  go_roundw
                  case rel => exact ⟨i + 1, _, _, _, _, by go_num, by omega, HT5.out.1, HT5.out.2⟩
                  case measure => simp [intOf]; omega
              · by_cases k4 : E = 4
                · subst k4
                  have HFAR := Lib.hid (show ¬ (0 ≤ N ∧ N < (Kp.length : Int)) by rw [← HN.out]; omega)
                  have HAT := Lib.hid (show at_ Kp N = false by unfold at_; rw [← HN.out, Bool.and_eq_false_iff]; first | (left; exact decide_eq_false (by omega)) | (right; exact decide_eq_false (by omega)))
                  have HA := Lib.hid (show Calls Try.prog 11 #[.pointer (some ⟨q, 0, none⟩), .agg #[.int .i64 4, .int .i64 N, .int .u8 (y : Int), .slice A m c]] wo (DoP wo q k B0 r t (Kp) (.int .i64 0)) from doP_bel HRS.out (fslot_far y A m c wo q k B0 r t Kp N HRS.out HAT.out))
                  refine HA.out.mono ?_
                  rintro e w2 ⟨rfl, hrr, hk2⟩
                  have hq2 : Sq w2 z p g r s Kp := HSQ.out.k2 hk2 ⟨H4.out.zq, H4.out.pq, H4.out.gq⟩ HKN.out
                  have hob : w2.heap[wr.heap.size]? = wo.heap[wr.heap.size]? := hk2.block _ (by rw [HSO.out]; omega) (by have := HQW.out; omega) (by have := HKW.out; omega)
                  have HB2 := Lib.hid (HWO.out.trans (hk2.below HWO.out.size H4.out.bq HKB.out))
                  have x0 := (cell_heap hob).trans (HOP.out 0 (.int .i64 4) rfl)
                  have x1 := (cell_heap hob).trans (HOP.out 1 (.int .i64 N) rfl)
                  have x2 := (cell_heap hob).trans (HOP.out 2 (.int .u8 (y : Int)) rfl)
                  have x3 := (cell_heap hob).trans (HOP.out 3 (.slice A m c) rfl)
                  have HS2 := Lib.hid hk2.size
                  have hI2 : In w2 w.heap.size A c b := HIb.out.below HB2.out
                  have HPC := Lib.hid (show Calls Try.prog 15 #[.pointer (some ⟨z, 0, none⟩), .int .i64 N, .int .u8 (y : Int)] w2 (SzP w2 z p g r s (Kp) (.bool false)) from szP_bel hq2 (sq_far z p g r Kp s N y w2 hq2 HFAR.out))
                  clear hI2 hk2 hq2 hob HA
                  go_wp2_with fail
                  refine HPC.out.mono ?_
                  rintro e w3 ⟨rfl, hq3, hk3⟩
                  replace hrr : ∃ k', (k' = k ∨ k' = q ∨ wo.heap.size ≤ k') ∧ Rs w3 q k' B0 r t (Kp) := by
                    obtain ⟨k', h1, h2⟩ := hrr
                    exact ⟨k', h1, h2.k3 hk3 ⟨Ne.symm H4.out.zq, Ne.symm H4.out.pq, Ne.symm H4.out.gq⟩ ⟨H4.out.z0, H4.out.p0, H4.out.g0⟩⟩
                  have HB3 := Lib.hid (HB2.out.trans (hk3.below HB2.out.size H4.out.bz H4.out.bp H4.out.bg))
                  have HBS := Lib.hid (show wr.heap.size ≤ w3.heap.size by have := HSO.out; have := HS2.out; have := hk3.size; omega)
                  clear hk3 HB2 HS2 x0 x1 x2 x3
                  obtain ⟨k2, hk2or, hr3⟩ := hrr
                  have hr3w := hr3
                  obtain ⟨dirty, Ak, ck, hbx, how, -⟩ := hr3.box
                  obtain ⟨n2, hn2⟩ : ∃ n2, n2 = (Kp).length := ⟨_, rfl⟩
                  obtain ⟨σ, hσ⟩ : ∃ σ, σ = str (Kp) := ⟨_, rfl⟩
                  obtain ⟨gn, hgn⟩ : ∃ gn, gn = (t).gone := ⟨_, rfl⟩
                  rw [← hgn, ← hn2] at hbx
                  have HN2 := Lib.hid hn2
                  have HSG := Lib.hid hσ
                  have HQL := Lib.hid (show q < w3.heap.size from hbx.lt)
                  have HG5 := Lib.hid (show w3.cell? ⟨q, 5, none⟩ = some (.slice Ak n2 ck) from hbx.cell 5)
                  have HG3 := Lib.hid (show w3.cell? ⟨q, 3, none⟩ = some (.bool gn) from hbx.cell 3)
                  have HCV := Lib.hid (show ∀ w5, Below w3.heap.size w3 w5 → (convert 28 9 (.slice Ak n2 ck)).run Try.prog w5 = .ok (.string σ) w5 from fun w5 hg => by
                    have h1 := (how.inn).below hg
                    have h2 := conv_sl (P := Try.prog) h1.sl Try.underlying28 Try.underlying5 Try.underlying9 ck
                    rw [← hn2, ← hσ] at h2
                    exact h2)
                  have HLD := Lib.hid (show ∀ w5, Below w3.heap.size w3 w5 → Calls Try.prog 16 #[.pointer (some ⟨z, 0, none⟩)] w5 fun e w' => ∃ A c, e = .returned (.slice A n2 c) ∧ In w' w'.heap.size A c (Kp) ∧ Below w5.heap.size w5 w' from fun w5 hg => by
                    rw [hn2]; exact sq_load z p g r _ _ w5 (hq3.below hg (Nat.le_refl _)))
                  have HDN := Lib.hid (show ∀ w5, Below w3.heap.size w3 w5 → Calls Try.prog 17 #[.pointer (some ⟨z, 0, none⟩)] w5 fun e w' => e = .returned (.bool gn) ∧ w' = w5 from fun w5 hg => by
                    have h1 := sq_down z p g r _ _ w5 (hq3.below hg (Nat.le_refl _))
                    rw [show (s).gone = gn from (HT.out.eqv).2.trans hgn.symm] at h1
                    exact h1)
                  have HEND := Lib.hid (show ∀ w5, Below w3.heap.size w3 w5 → B0 ≤ w5.heap.size ∧ Two w z p g q k2 B0 r (s) (t) (Kp) ((i + 1) * 4096) w5 from fun w5 hg => ⟨Nat.le_trans HB0.out (Nat.le_trans HBS.out hg.size), hq3.below hg (Nat.le_refl _), hr3w.below hg (Nat.le_refl _), HB3.out.trans (hg.mono HB3.out.size), HT.out.eqv, (by have := HT.out.su; omega), (by have := HT.out.tu; omega)⟩)
                  clear hr3w hr3 hbx how hn2 hσ hgn hq3 hk2or HBS HB3
                  go_wp2
                  rename_i K hK
                  refine Gt.regionA [Gt.Is (.pointer (some ⟨z, 0, none⟩)), LdIs n2 (Kp), Gt.Is (.string σ), Gt.Is (.pointer (some ⟨q, 0, none⟩)), Gt.Is (.pointer (some ⟨q, 0, none⟩)), Gt.Is (.pointer (some ⟨q, 5, none⟩)), Gt.Is (.slice Ak n2 ck), Gt.Is (.string σ), Gt.Is (.bool false), Gt.Is (.bool false), Gt.Is (.pointer (some ⟨z, 0, none⟩)), Gt.Is (.bool gn), Gt.Is (.pointer (some ⟨q, 0, none⟩)), Gt.Is (.pointer (some ⟨q, 0, none⟩)), Gt.Is (.pointer (some ⟨q, 3, none⟩)), Gt.Is (.bool gn), Gt.Is (.bool false), Gt.Is (.bool false)] 94
                    [⟨[], [5], none⟩, ⟨[(0, 75)], [], none⟩, ⟨[(1, 76)], [], none⟩, ⟨[], [6], none⟩, ⟨[(3, 78)], [], none⟩, ⟨[(4, 79)], [], none⟩, ⟨[(5, 80)], [], none⟩, ⟨[(6, 81)], [], none⟩, ⟨[(2, 77), (7, 82)], [], none⟩, ⟨[(8, 83)], [], none⟩, ⟨[(9, 84)], [5], some (84, false)⟩, ⟨[(9, 84), (10, 85)], [], some (84, false)⟩, ⟨[(9, 84)], [6], some (84, false)⟩, ⟨[(9, 84), (12, 87)], [], some (84, false)⟩, ⟨[(9, 84), (13, 88)], [], some (84, false)⟩, ⟨[(9, 84), (14, 89)], [], some (84, false)⟩, ⟨[(9, 84), (11, 86), (15, 90)], [], some (84, false)⟩, ⟨[(9, 84), (16, 91)], [], none⟩]
                    [(0, 75), (1, 76), (2, 77), (3, 78), (4, 79), (5, 80), (6, 81), (7, 82), (8, 83), (9, 84), (10, 85), (11, 86), (12, 87), (13, 88), (14, 89), (15, 90), (16, 91), (17, 92)] (by kernel_rfl) (by kernel_rfl) (by kernel_rfl) (by kernel_rfl) ?_ ?_ ?_
                  · simp only [Gt.Monos]
                    repeat' apply And.intro
                    all_goals (first | exact trivial | exact Gt.Is.mono _ | exact LdIs.mono _ _)
                  · simp only [Gt.Obs]
                    repeat' apply And.intro
                    all_goals try exact trivial
                    all_goals (
                      intro a w5 hg
                      have hg' : Below w3.heap.size w3 w5 := hg
                      simp only [Gt.Pre, Gt.Kept, Gt.Guarded, Gt.tys, List.getD_cons_zero, List.getD_cons_succ, Gt.Is, Nat.zero_add, Nat.reduceAdd]
                      intros
                      try (refine ⟨fun _ => ?_, fun hne => absurd (by assumption) hne⟩))
                    all_goals (first
                      | exact Gt.ok_move rfl (by assumption)
                      | exact Gt.ok_assign rfl (by assumption)
                      | exact Gt.ok_pick rfl (by assumption) (by rw [if_pos rfl]; assumption)
                      | (exact Gt.ok_call (f := 16) rfl #[.pointer (some ⟨z, 0, none⟩)] (by kernel_rfl) (by simp [*]) ((HLD.out w5 hg').mono fun e w6 h => by obtain ⟨A6, c6, h1, h2, h3⟩ := h; exact ⟨_, h1, h3, A6, c6, rfl, h2⟩))
                      | (exact Gt.ok_call (f := 17) rfl #[.pointer (some ⟨z, 0, none⟩)] (by kernel_rfl) (by simp [*]) ((HDN.out w5 hg').mono fun e w6 h => ⟨_, h.1, by rw [h.2]; exact Gt.Gr.refl _, rfl⟩))
                      | (rename_i h6
                         obtain ⟨A6, c6, e6, hI6⟩ := h6
                         have k5 := conv_load hI6 HN2.out
                         rw [← HSG.out] at k5
                         exact Gt.ok_convert rfl e6 k5 rfl)
                      | (exact Gt.ok_convert rfl (by assumption) (HCV.out w5 hg') rfl)
                      | (have g5 : w5.cell? ⟨q, 5, none⟩ = some (.slice Ak n2 ck) := (hg'.cell HQL.out).trans HG5.out
                         have g3 : w5.cell? ⟨q, 3, none⟩ = some (.bool gn) := (hg'.cell HQL.out).trans HG3.out
                         refine Gt.ok_run ?_ rfl
                         simp only [execOp, *]
                         go_simp
                         done))
                  · intro a w5 hg
                    have hg' : Below w3.heap.size w3 w5 := hg
                    simp only [Gt.Pre, Gt.tys, List.getD_cons_zero, List.getD_cons_succ, Gt.Is]
                    intro h0 h1 h2 h3 h4 h5 h6 h7 h8 h9 h10 h11 h12 h13 h14 h15 h16 h17
                    obtain ⟨A6, c6, e1, _⟩ := h1
                    show K _ _
                    refine hK _ _ ?_
                    simp only [Gt.puts, List.foldl_cons, List.foldl_nil, h0, h2, h3, h4, h5, h6, h7, h8, h9, h10, h11, h12, h13, h14, h15, h16, h17, e1]
                    simp only [Act.put, List.setIfInBounds_toArray, List.set_cons_zero, List.set_cons_succ]
                    have hT5 := HEND.out w5 hg'
                    have HT5 := Lib.hid hT5
                    clear hT5
                    go_wp2
                    go_roundw
                    case rel => exact ⟨i + 1, _, _, _, _, by go_num, by omega, HT5.out.1, HT5.out.2⟩
                    case measure => simp [intOf]; omega
                · have e1 : (E == 1) = false := by simpa using k1
                  have e2 : (E == 2) = false := by simpa using k2
                  have e3 : (E == 3) = false := by simpa using k3
                  have e4 : (E == 4) = false := by simpa using k4
                  have HA := Lib.hid (show Calls Try.prog 11 #[.pointer (some ⟨q, 0, none⟩), .agg #[.int .i64 E, .int .i64 N, .int .u8 (y : Int), .slice A m c]] wo (DoP wo q k B0 r t (Kp) (.int .i64 0)) from doP_bel HRS.out (fslot_other y A m c wo q E N ⟨k1, k2, k3, k4⟩))
                  refine HA.out.mono ?_
                  rintro e w2 ⟨rfl, hrr, hk2⟩
                  have hq2 : Sq w2 z p g r s Kp := HSQ.out.k2 hk2 ⟨H4.out.zq, H4.out.pq, H4.out.gq⟩ HKN.out
                  have hob : w2.heap[wr.heap.size]? = wo.heap[wr.heap.size]? := hk2.block _ (by rw [HSO.out]; omega) (by have := HQW.out; omega) (by have := HKW.out; omega)
                  have HB2 := Lib.hid (HWO.out.trans (hk2.below HWO.out.size H4.out.bq HKB.out))
                  have x0 := (cell_heap hob).trans (HOP.out 0 (.int .i64 E) rfl)
                  have x1 := (cell_heap hob).trans (HOP.out 1 (.int .i64 N) rfl)
                  have x2 := (cell_heap hob).trans (HOP.out 2 (.int .u8 (y : Int)) rfl)
                  have x3 := (cell_heap hob).trans (HOP.out 3 (.slice A m c) rfl)
                  have HS2 := Lib.hid hk2.size
                  obtain ⟨w3, rfl⟩ : ∃ w3, w3 = w2 := ⟨_, rfl⟩
                  have hq3 := hq2
                  have HB3 := Lib.hid HB2.out
                  have HBS := Lib.hid (show wr.heap.size ≤ w3.heap.size by have := HSO.out; have := HS2.out; omega)
                  clear hk2 hq2 hob HA HB2 HS2
                  obtain ⟨k2, hk2or, hr3⟩ := hrr
                  have hr3w := hr3
                  obtain ⟨dirty, Ak, ck, hbx, how, -⟩ := hr3.box
                  obtain ⟨n2, hn2⟩ : ∃ n2, n2 = (Kp).length := ⟨_, rfl⟩
                  obtain ⟨σ, hσ⟩ : ∃ σ, σ = str (Kp) := ⟨_, rfl⟩
                  obtain ⟨gn, hgn⟩ : ∃ gn, gn = (t).gone := ⟨_, rfl⟩
                  rw [← hgn, ← hn2] at hbx
                  have HN2 := Lib.hid hn2
                  have HSG := Lib.hid hσ
                  have HQL := Lib.hid (show q < w3.heap.size from hbx.lt)
                  have HG5 := Lib.hid (show w3.cell? ⟨q, 5, none⟩ = some (.slice Ak n2 ck) from hbx.cell 5)
                  have HG3 := Lib.hid (show w3.cell? ⟨q, 3, none⟩ = some (.bool gn) from hbx.cell 3)
                  have HCV := Lib.hid (show ∀ w5, Below w3.heap.size w3 w5 → (convert 28 9 (.slice Ak n2 ck)).run Try.prog w5 = .ok (.string σ) w5 from fun w5 hg => by
                    have h1 := (how.inn).below hg
                    have h2 := conv_sl (P := Try.prog) h1.sl Try.underlying28 Try.underlying5 Try.underlying9 ck
                    rw [← hn2, ← hσ] at h2
                    exact h2)
                  have HLD := Lib.hid (show ∀ w5, Below w3.heap.size w3 w5 → Calls Try.prog 16 #[.pointer (some ⟨z, 0, none⟩)] w5 fun e w' => ∃ A c, e = .returned (.slice A n2 c) ∧ In w' w'.heap.size A c (Kp) ∧ Below w5.heap.size w5 w' from fun w5 hg => by
                    rw [hn2]; exact sq_load z p g r _ _ w5 (hq3.below hg (Nat.le_refl _)))
                  have HDN := Lib.hid (show ∀ w5, Below w3.heap.size w3 w5 → Calls Try.prog 17 #[.pointer (some ⟨z, 0, none⟩)] w5 fun e w' => e = .returned (.bool gn) ∧ w' = w5 from fun w5 hg => by
                    have h1 := sq_down z p g r _ _ w5 (hq3.below hg (Nat.le_refl _))
                    rw [show (s).gone = gn from (HT.out.eqv).2.trans hgn.symm] at h1
                    exact h1)
                  have HEND := Lib.hid (show ∀ w5, Below w3.heap.size w3 w5 → B0 ≤ w5.heap.size ∧ Two w z p g q k2 B0 r (s) (t) (Kp) ((i + 1) * 4096) w5 from fun w5 hg => ⟨Nat.le_trans HB0.out (Nat.le_trans HBS.out hg.size), hq3.below hg (Nat.le_refl _), hr3w.below hg (Nat.le_refl _), HB3.out.trans (hg.mono HB3.out.size), HT.out.eqv, (by have := HT.out.su; omega), (by have := HT.out.tu; omega)⟩)
                  clear hr3w hr3 hbx how hn2 hσ hgn hq3 hk2or HBS HB3
                  go_wp2
                  rename_i K hK
                  refine Gt.regionA [Gt.Is (.pointer (some ⟨z, 0, none⟩)), LdIs n2 (Kp), Gt.Is (.string σ), Gt.Is (.pointer (some ⟨q, 0, none⟩)), Gt.Is (.pointer (some ⟨q, 0, none⟩)), Gt.Is (.pointer (some ⟨q, 5, none⟩)), Gt.Is (.slice Ak n2 ck), Gt.Is (.string σ), Gt.Is (.bool false), Gt.Is (.bool false), Gt.Is (.pointer (some ⟨z, 0, none⟩)), Gt.Is (.bool gn), Gt.Is (.pointer (some ⟨q, 0, none⟩)), Gt.Is (.pointer (some ⟨q, 0, none⟩)), Gt.Is (.pointer (some ⟨q, 3, none⟩)), Gt.Is (.bool gn), Gt.Is (.bool false), Gt.Is (.bool false)] 94
                    [⟨[], [5], none⟩, ⟨[(0, 75)], [], none⟩, ⟨[(1, 76)], [], none⟩, ⟨[], [6], none⟩, ⟨[(3, 78)], [], none⟩, ⟨[(4, 79)], [], none⟩, ⟨[(5, 80)], [], none⟩, ⟨[(6, 81)], [], none⟩, ⟨[(2, 77), (7, 82)], [], none⟩, ⟨[(8, 83)], [], none⟩, ⟨[(9, 84)], [5], some (84, false)⟩, ⟨[(9, 84), (10, 85)], [], some (84, false)⟩, ⟨[(9, 84)], [6], some (84, false)⟩, ⟨[(9, 84), (12, 87)], [], some (84, false)⟩, ⟨[(9, 84), (13, 88)], [], some (84, false)⟩, ⟨[(9, 84), (14, 89)], [], some (84, false)⟩, ⟨[(9, 84), (11, 86), (15, 90)], [], some (84, false)⟩, ⟨[(9, 84), (16, 91)], [], none⟩]
                    [(0, 75), (1, 76), (2, 77), (3, 78), (4, 79), (5, 80), (6, 81), (7, 82), (8, 83), (9, 84), (10, 85), (11, 86), (12, 87), (13, 88), (14, 89), (15, 90), (16, 91), (17, 92)] (by kernel_rfl) (by kernel_rfl) (by kernel_rfl) (by kernel_rfl) ?_ ?_ ?_
                  · simp only [Gt.Monos]
                    repeat' apply And.intro
                    all_goals (first | exact trivial | exact Gt.Is.mono _ | exact LdIs.mono _ _)
                  · simp only [Gt.Obs]
                    repeat' apply And.intro
                    all_goals try exact trivial
                    all_goals (
                      intro a w5 hg
                      have hg' : Below w3.heap.size w3 w5 := hg
                      simp only [Gt.Pre, Gt.Kept, Gt.Guarded, Gt.tys, List.getD_cons_zero, List.getD_cons_succ, Gt.Is, Nat.zero_add, Nat.reduceAdd]
                      intros
                      try (refine ⟨fun _ => ?_, fun hne => absurd (by assumption) hne⟩))
                    all_goals (first
                      | exact Gt.ok_move rfl (by assumption)
                      | exact Gt.ok_assign rfl (by assumption)
                      | exact Gt.ok_pick rfl (by assumption) (by rw [if_pos rfl]; assumption)
                      | (exact Gt.ok_call (f := 16) rfl #[.pointer (some ⟨z, 0, none⟩)] (by kernel_rfl) (by simp [*]) ((HLD.out w5 hg').mono fun e w6 h => by obtain ⟨A6, c6, h1, h2, h3⟩ := h; exact ⟨_, h1, h3, A6, c6, rfl, h2⟩))
                      | (exact Gt.ok_call (f := 17) rfl #[.pointer (some ⟨z, 0, none⟩)] (by kernel_rfl) (by simp [*]) ((HDN.out w5 hg').mono fun e w6 h => ⟨_, h.1, by rw [h.2]; exact Gt.Gr.refl _, rfl⟩))
                      | (rename_i h6
                         obtain ⟨A6, c6, e6, hI6⟩ := h6
                         have k5 := conv_load hI6 HN2.out
                         rw [← HSG.out] at k5
                         exact Gt.ok_convert rfl e6 k5 rfl)
                      | (exact Gt.ok_convert rfl (by assumption) (HCV.out w5 hg') rfl)
                      | (have g5 : w5.cell? ⟨q, 5, none⟩ = some (.slice Ak n2 ck) := (hg'.cell HQL.out).trans HG5.out
                         have g3 : w5.cell? ⟨q, 3, none⟩ = some (.bool gn) := (hg'.cell HQL.out).trans HG3.out
                         refine Gt.ok_run ?_ rfl
                         simp only [execOp, *]
                         go_simp
                         done))
                  · intro a w5 hg
                    have hg' : Below w3.heap.size w3 w5 := hg
                    simp only [Gt.Pre, Gt.tys, List.getD_cons_zero, List.getD_cons_succ, Gt.Is]
                    intro h0 h1 h2 h3 h4 h5 h6 h7 h8 h9 h10 h11 h12 h13 h14 h15 h16 h17
                    obtain ⟨A6, c6, e1, _⟩ := h1
                    show K _ _
                    refine hK _ _ ?_
                    simp only [Gt.puts, List.foldl_cons, List.foldl_nil, h0, h2, h3, h4, h5, h6, h7, h8, h9, h10, h11, h12, h13, h14, h15, h16, h17, e1]
                    simp only [Act.put, List.setIfInBounds_toArray, List.set_cons_zero, List.set_cons_succ]
                    have hT5 := HEND.out w5 hg'
                    have HT5 := Lib.hid hT5
                    clear hT5
                    go_wp2
                    go_roundw
                    case rel => exact ⟨i + 1, _, _, _, _, by go_num, by omega, HT5.out.1, HT5.out.2⟩
                    case measure => simp [intOf]; omega
      · obtain rfl : i = R := by omega
        have hge : ¬ (i : Int) < (i : Int) := by omega
        clear hiR hi HO HLE
        go_wp2_with fail
        refine (answers_any _).mono ?_
        rintro e w4 ⟨rfl, hb4⟩
        have HB4 := Lib.hid (HT.out.bel.trans (hb4.mono HT.out.bel.size))
        clear hb4
        go_wp2
        go_ret
        exact ⟨rfl, HB4.out⟩

set_option maxRecDepth 100000 in
theorem lifted (os : Os) (started : os.Started) (H : Type) (enc : TypeId × Value → H) :
    ReturnsInHanded {} Try.checked os 3 .any (Rows.slotPlaysSpec.pre6 enc Try.prog Try.f3 Rows.slotPlaysRow.domain false) (Rows.slotPlaysSpec.post enc Try.prog Try.f3 false true false false) := by
  refine returnsInHanded_of_change_sized (C := Try.checked) own started (by kernel_rfl) Try.func3
    (ChangeSpec.witness6 (enc := enc) (C := Try.checked) false ⟨#[], #[.int .i64 0, .slice none 0 0], []⟩ 8 (by kernel_rfl) (by kernel_rfl) (by kernel_rfl) (by kernel_rfl)) ?_
  intro W base args ds gs before hval0 hW _hcnd hsz0 _
  have hval : ∀ (j : Nat) t v, Try.f3.params[j]? = some t → args[j]? = some v → Value.okWide Try.prog W .any base t v := hval0
  have hW' := hW
  obtain ⟨p, q, hA0, hV, rfl, _hfz, _hnd⟩ := hW
  have hA : DataW.TrodAll enc Try.prog W 0 (fun _ => true) true Try.f3.params.toList args.toList ds p := hA0
  have hsz : (DataW.weightsEach Try.prog (Try.f3.params.toList ++ Rows.slotPlaysSpec.plain.varTypes Try.prog) (ds ++ gs)).all (· ≤ reachBytes) = true := hsz0
  rw [Try.params3] at hA hval hsz
  obtain ⟨v0, vs0, d0, ds0, p0, q0, hargs, rfl, rfl, h0, r0⟩ := trodAll_cons hA
  obtain ⟨v1, vs1, d1, ds1, p1, q1, rfl, rfl, rfl, h1, r1⟩ := trodAll_cons r0
  obtain ⟨rfl, rfl, rfl⟩ := trodAll_nil r1
  obtain rfl : args = #[v0, v1] := by cases args; simp_all
  obtain ⟨rfl, rfl⟩ := trodVars_none hV
  obtain ⟨a0, rfl, rfl, rfl, w0⟩ := open_int Try.underlying3 (hval 0 3 v0 rfl rfl) h0
  have k1 := h1
  have lt1 : ∀ x ∈ p1, x.block < W.heap.size := by obtain ⟨m, hm⟩ := k1; exact DataW.trod_lt m _ _ _ hm
  obtain ⟨A1, c1, R1, K1, N1, Y1, Q1, C1, l1, rfl, w1, sh1⟩ := open_ops4 Try.underlying22 Try.underlying30 (by kernel_rfl) rfl (by kernel_rfl) Try.underlying3 Try.underlying3 Try.underlying5 Try.underlying28 Try.underlying5 (by kernel_rfl) (hval 1 22 v1 rfl rfl) h1
  have s1 := sized_ops4 hsz (j := 1) (t := 22) (e := 30) rfl rfl Try.underlying22 Try.underlying30 Try.underlying28 (by kernel_rfl) sh1
  clear hA0 hval0 hsz0 hsz
  refine (walk a0 A1 c1 R1 K1 N1 Y1 Q1 C1 l1 W w0 w1 s1).mono fun e W' ⟨he, bel⟩ => ?_
  subst he
  exact ⟨_, rfl, _, _, _, [], _, [], hW', trodAll_mk1 (shut_bool Try.underlying4 _), (trodAll_cons_mk (shut_int Try.underlying3 w0) (trodAll_cons_mk (Below.trod laidOut (by kernel_rfl) (of_decide_eq_true (by kernel_rfl)) k1 bel lt1) trodAll_mk0)), rfl, bel.frame _, fun h => by cases h⟩

theorem over : Rows.slotPlaysRow.holds Try.pinned (OpenSpec.ofChange Rows.slotPlaysSpec) :=
  OpenClaim.holds_of_wide 3 Try.f3 rfl rfl rfl rfl rfl rfl rfl ⟨rfl, rfl, rfl, rfl, rfl⟩ rfl rfl rfl rfl rfl (by kernel_rfl) Try.func3 (by kernel_rfl)
    (of_decide_eq_true (by kernel_rfl)) (by unfold Func.isWrapper; first | (rw [if_pos (by decide +kernel)]; kernel_rfl) | (rw [if_neg (by decide +kernel)]; exact ⟨rfl, rfl⟩))
    (fun os started H enc _ => lifted os started H enc)

end Go.Proofs.Ytijbpafmokbnaaa.slotPlays
namespace Go.Proofs.Ytijbpafmokbnaaa
/-- The statement. -/
theorem slotPlays_holds : Rows.SlotPlaysSaid := slotPlays.over
#print axioms slotPlays_holds
end Go.Proofs.Ytijbpafmokbnaaa

