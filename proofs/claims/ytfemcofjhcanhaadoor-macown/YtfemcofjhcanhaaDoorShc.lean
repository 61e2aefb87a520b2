/- What sha's mix does: the eight words behind a block. -/
import Derived.Test.YtfemcofjhcanhaaDoorShb
namespace Go.Proofs.YtfemcofjhcanhaaDoor
open Go.RowKit Go.Shelf Gw Pol Sh

/-- The table of constants reads as it should. -/
def KT (w : World) : Prop := ∀ t, t < 64 → w.cell? ⟨0, t, none⟩ = some (.int .u32 (co kk t : Int))
theorem KT.pos {w : World} (h : KT w) : 0 < w.heap.size := cell_lt (h 0 (by omega))
theorem KT.below {w w' : World} {B : Nat} (h : KT w) (hb : Below B w w') (hB : 0 < B) : KT w' := fun t ht => (hb.cell (p := ⟨0, t, none⟩) hB).trans (h t ht)
theorem KT.to {w w' : World} (h : KT w) (hb : Below w.heap.size w w') : KT w' := h.below hb h.pos
theorem KT.drewN {w : World} (h : KT w) (n : Nat) : KT (w.drewN n) := h
theorem drewN_add (w : World) (a b : Nat) : (w.drewN a).drewN b = w.drewN (a + b) := by simp [World.drewN, Nat.add_assoc]
theorem not_u32 (e : Nat) (he : e < 4294967296) : bits .xor .u32 (if IntKind.u32.signed = true then -1 else IntKind.u32.max) (e : Int) = ((4294967295 - e : Nat) : Int) := by
  have h1 : (if IntKind.u32.signed = true then -1 else IntKind.u32.max) = ((4294967295 : Nat) : Int) := by decide
  rw [h1, u32_xor_nat _ _ (by omega) he]
  congr 1
  have h2 := congrArg BitVec.toNat (BitVec.allOnes_xor (x := BitVec.ofNat 32 e))
  rw [BitVec.toNat_xor, BitVec.toNat_not, BitVec.toNat_ofNat, BitVec.toNat_allOnes, Nat.mod_eq_of_lt (by omega)] at h2
  exact h2
theorem vu {x y : Int} (h : x = y) : Value.int .u32 x = .int .u32 y := by rw [h]
theorem zero8 (w : World) : (zeroValue 36).run Tryd.prog w = .ok (.agg (u32v (List.replicate 8 0))) w := by kernel_rfl
theorem S1_same (x : Nat) (hx : x < 4294967296) (w : World) : Calls Tryd.prog 22 #[.int .u32 (x : Int)] w fun e w' => e = .returned (.int .u32 (S1 x : Int)) ∧ w' = w :=
  (S1_any x hx w).mono fun _ _ h => ⟨h.1, h.2.symm⟩

/-- The eight words, and what is round them. -/
def MxRel (w3 : World) (W : List Nat) (s : St) (va vb vc vd ve vf vg vh i : Value) (wr : World) : Prop :=
  ∃ t n : Nat, t ≤ 64 ∧ i = .int .i64 (t : Int) ∧ wr = w3.drewN n ∧
    va = .int .u32 ((rds W s t).a : Int) ∧ vb = .int .u32 ((rds W s t).b : Int) ∧ vc = .int .u32 ((rds W s t).c : Int) ∧ vd = .int .u32 ((rds W s t).d : Int) ∧
    ve = .int .u32 ((rds W s t).e : Int) ∧ vf = .int .u32 ((rds W s t).f : Int) ∧ vg = .int .u32 ((rds W s t).g : Int) ∧ vh = .int .u32 ((rds W s t).h : Int)
set_option maxRecDepth 100000 in
set_option maxHeartbeats 2000000 in
theorem mix_any (s : St) (hs : s.Ok) (W : List Nat) (hW : W.length = 64) (hWb : ∀ x ∈ W, x < 4294967296) (w : World) (hK : KT w) :
    Calls Tryd.prog 20 #[.agg (u32v s.l), .agg (u32v W)] w fun e w' => e = .returned (.agg (u32v (plus s (rds W s 64)).l)) ∧ Below w.heap.size w w' := by
  have hz8 := zero8
  go_enter Tryd.func20, Tryd.ntmps20
  go_wp2
  clear hz8
  obtain ⟨w3, hw3⟩ : ∃ w3, w3 = ((w.alloc (.cells (u32v s.l) 36)).alloc (.cells (u32v W) 42)).alloc (.cells (u32v [0, 0, 0, 0, 0, 0, 0, 0]) 36) := ⟨_, rfl⟩
  rw [← hw3]
  have r0 : Wa w3 w.heap.size 36 s.l := by rw [hw3]; exact ((Wa.new w 36 s.l).alloc _).alloc _
  have r1 : Wa w3 (w.heap.size + 1) 42 W := by
    have := (Wa.new (w.alloc (.cells (u32v s.l) 36)) 42 W).alloc (.cells (u32v [0, 0, 0, 0, 0, 0, 0, 0]) 36)
    rw [World.size_alloc] at this; rw [hw3]; exact this
  have r2 : Wa w3 (w.heap.size + 1 + 1) 36 [0, 0, 0, 0, 0, 0, 0, 0] := by
    have := Wa.new ((w.alloc (.cells (u32v s.l) 36)).alloc (.cells (u32v W) 42)) 36 [0, 0, 0, 0, 0, 0, 0, 0]
    rw [World.size_alloc, World.size_alloc] at this; rw [hw3]; exact this
  have hb3 : Below w.heap.size w w3 := by rw [hw3]; exact (((Below.refl _ w).alloc (Nat.le_refl _) _).alloc (by simp) _).alloc (by simp; omega) _
  have hK3 := hK.to hb3
  clear hw3 hK
  have c0 : w3.cell? ⟨w.heap.size, 0, none⟩ = some (.int .u32 (s.a : Int)) := r0.cell (k := 0) (by show 0 < 8; omega)
  have c1 : w3.cell? ⟨w.heap.size, 1, none⟩ = some (.int .u32 (s.b : Int)) := r0.cell (k := 1) (by show 1 < 8; omega)
  have c2 : w3.cell? ⟨w.heap.size, 2, none⟩ = some (.int .u32 (s.c : Int)) := r0.cell (k := 2) (by show 2 < 8; omega)
  have c3 : w3.cell? ⟨w.heap.size, 3, none⟩ = some (.int .u32 (s.d : Int)) := r0.cell (k := 3) (by show 3 < 8; omega)
  have c4 : w3.cell? ⟨w.heap.size, 4, none⟩ = some (.int .u32 (s.e : Int)) := r0.cell (k := 4) (by show 4 < 8; omega)
  have c5 : w3.cell? ⟨w.heap.size, 5, none⟩ = some (.int .u32 (s.f : Int)) := r0.cell (k := 5) (by show 5 < 8; omega)
  have c6 : w3.cell? ⟨w.heap.size, 6, none⟩ = some (.int .u32 (s.g : Int)) := r0.cell (k := 6) (by show 6 < 8; omega)
  have c7 : w3.cell? ⟨w.heap.size, 7, none⟩ = some (.int .u32 (s.h : Int)) := r0.cell (k := 7) (by show 7 < 8; omega)
  go_quiet (fail)
  go_wp2
  go_quiet (fail)
  go_wp2
  go_loopw [5, 6, 7, 8, 9, 10, 11, 12, 32] (MxRel w3 W s) (fun _ _ _ _ _ _ _ _ i _ => 64 - (intOf i).toNat)
  case atStart => exact ⟨0, _, by omega, rfl, drewN_add _ _ _, rfl, rfl, rfl, rfl, rfl, rfl, rfl, rfl⟩
  case round =>
    obtain ⟨t, n, ht, rfl, hwr, rfl, rfl, rfl, rfl, rfl, rfl, rfl, rfl⟩ := hrel
    have hok := rds_ok W hs t
    by_cases ht64 : t < 64
    · have HR := Lib.hid (show rds W s (t + 1) = rd (co kk t) (co W t) (rds W s t) from rfl)
      obtain ⟨r, hr⟩ : ∃ r, r = rds W s t := ⟨_, rfl⟩
      rw [← hr] at hok HR ⊢
      have HWR := Lib.hid hwr
      obtain ⟨a, b, c, d, e, f, g, h⟩ := r
      obtain ⟨ba, bb, bc, bd, be_, bf, bg, bh⟩ := hok
      dsimp only at ba bb bc bd be_ bf bg bh HR ⊢
      have ck : wr.cell? ⟨0, t, none⟩ = some (.int .u32 (co kk t : Int)) := by rw [hwr]; exact hK3 t ht64
      have cw : wr.cell? ⟨w.heap.size + 1, t, none⟩ = some (.int .u32 (co W t : Int)) := by rw [hwr]; exact r1.cell (by omega)
      have lt : (t : Int) < 64 := by omega
      have bk := kk_lt t
      have bw := co_lt' hWb t
      obtain ⟨k, hk⟩ : ∃ k, k = co kk t := ⟨_, rfl⟩
      obtain ⟨v, hv⟩ : ∃ v, v = co W t := ⟨_, rfl⟩
      rw [← hk] at ck bk HR
      rw [← hv] at cw bw HR
      have bS1 := Sh.S1_lt be_
      have bS0 := Sh.S0_lt ba
      have bch := Sh.ch_lt (f := f) (g := g) be_
      have bmj := Sh.mj_lt (c := c) ba bb
      have g1 : bits .and .u32 (e : Int) (f : Int) = ((e &&& f : Nat) : Int) := u32_and_nat _ _ be_ bf
      have HKK := Lib.hid hk
      have HVV := Lib.hid hv
      obtain ⟨ne, hne⟩ : ∃ ne, ne = 4294967295 - e := ⟨_, rfl⟩
      have g0 := not_u32 e be_
      rw [← hne] at g0
      have g2 : bits .and .u32 (ne : Int) (g : Int) = ((ne &&& g : Nat) : Int) := u32_and_nat _ _ (by omega) bg
      have g3 : bits .xor .u32 ((e &&& f : Nat) : Int) ((ne &&& g : Nat) : Int) = (ch e f g : Int) := by rw [hne]; exact u32_xor_nat _ _ (and_lt be_) (and_lt (by omega))
      have m1 : bits .and .u32 (a : Int) (b : Int) = ((a &&& b : Nat) : Int) := u32_and_nat _ _ ba bb
      have m2 : bits .and .u32 (a : Int) (c : Int) = ((a &&& c : Nat) : Int) := u32_and_nat _ _ ba bc
      have m3 : bits .and .u32 (b : Int) (c : Int) = ((b &&& c : Nat) : Int) := u32_and_nat _ _ bb bc
      have m4 : bits .xor .u32 ((a &&& b : Nat) : Int) ((a &&& c : Nat) : Int) = (((a &&& b) ^^^ (a &&& c) : Nat) : Int) := u32_xor_nat _ _ (and_lt ba) (and_lt ba)
      have m5 : bits .xor .u32 (((a &&& b) ^^^ (a &&& c) : Nat) : Int) ((b &&& c : Nat) : Int) = (mj a b c : Int) := u32_xor_nat _ _ (xor_lt (and_lt ba) (and_lt ba)) (and_lt bb)
      clear hk hv hne
      clear hwr hr c0 c1 c2 c3 c4 c5 c6 c7
      go_wp2
      go_quiet ((go_at_call 22; exact Calls.quiet_of_same (S1_same e be_ _)))
      go_wp2_with fail
      refine (S0_any a ba _).mono ?_
      rintro e' w' ⟨rfl, rfl⟩
      go_wp2
      go_roundw
      case rel => exact ⟨t + 1, n + nq, by omega, by go_num, by rw [HWR.out, drewN_add], by rw [HR.out]; refine vu ?_; simp only [rd, xx, yy]; omega, by rw [HR.out]; rfl, by rw [HR.out]; rfl, by rw [HR.out]; rfl, by rw [HR.out]; refine vu ?_; simp only [rd, xx]; omega, by rw [HR.out]; rfl, by rw [HR.out]; rfl, by rw [HR.out]; rfl⟩
      case measure => simp [intOf]; omega
    · obtain rfl : t = 64 := by omega
      obtain ⟨r, hr⟩ : ∃ r, r = rds W s 64 := ⟨_, rfl⟩
      rw [← hr] at hok ⊢
      have HRR := Lib.hid hr
      clear hr
      have d0 : wr.cell? ⟨w.heap.size, 0, none⟩ = some (.int .u32 (s.a : Int)) := by rw [hwr]; exact c0
      obtain ⟨pa, hpa⟩ : ∃ p, p = (s.a + r.a) % 4294967296 := ⟨_, rfl⟩
      have qa : ((s.a : Int) + (r.a : Int)) % 4294967296 = (pa : Int) := by rw [hpa]; simp
      have d1 : wr.cell? ⟨w.heap.size, 1, none⟩ = some (.int .u32 (s.b : Int)) := by rw [hwr]; exact c1
      obtain ⟨pb, hpb⟩ : ∃ p, p = (s.b + r.b) % 4294967296 := ⟨_, rfl⟩
      have qb : ((s.b : Int) + (r.b : Int)) % 4294967296 = (pb : Int) := by rw [hpb]; simp
      have d2 : wr.cell? ⟨w.heap.size, 2, none⟩ = some (.int .u32 (s.c : Int)) := by rw [hwr]; exact c2
      obtain ⟨pc, hpc⟩ : ∃ p, p = (s.c + r.c) % 4294967296 := ⟨_, rfl⟩
      have qc : ((s.c : Int) + (r.c : Int)) % 4294967296 = (pc : Int) := by rw [hpc]; simp
      have d3 : wr.cell? ⟨w.heap.size, 3, none⟩ = some (.int .u32 (s.d : Int)) := by rw [hwr]; exact c3
      obtain ⟨pd, hpd⟩ : ∃ p, p = (s.d + r.d) % 4294967296 := ⟨_, rfl⟩
      have qd : ((s.d : Int) + (r.d : Int)) % 4294967296 = (pd : Int) := by rw [hpd]; simp
      have d4 : wr.cell? ⟨w.heap.size, 4, none⟩ = some (.int .u32 (s.e : Int)) := by rw [hwr]; exact c4
      obtain ⟨pe, hpe⟩ : ∃ p, p = (s.e + r.e) % 4294967296 := ⟨_, rfl⟩
      have qe : ((s.e : Int) + (r.e : Int)) % 4294967296 = (pe : Int) := by rw [hpe]; simp
      have d5 : wr.cell? ⟨w.heap.size, 5, none⟩ = some (.int .u32 (s.f : Int)) := by rw [hwr]; exact c5
      obtain ⟨pf, hpf⟩ : ∃ p, p = (s.f + r.f) % 4294967296 := ⟨_, rfl⟩
      have qf : ((s.f : Int) + (r.f : Int)) % 4294967296 = (pf : Int) := by rw [hpf]; simp
      have d6 : wr.cell? ⟨w.heap.size, 6, none⟩ = some (.int .u32 (s.g : Int)) := by rw [hwr]; exact c6
      obtain ⟨pg, hpg⟩ : ∃ p, p = (s.g + r.g) % 4294967296 := ⟨_, rfl⟩
      have qg : ((s.g : Int) + (r.g : Int)) % 4294967296 = (pg : Int) := by rw [hpg]; simp
      have d7 : wr.cell? ⟨w.heap.size, 7, none⟩ = some (.int .u32 (s.h : Int)) := by rw [hwr]; exact c7
      obtain ⟨ph, hph⟩ : ∃ p, p = (s.h + r.h) % 4294967296 := ⟨_, rfl⟩
      have qh : ((s.h : Int) + (r.h : Int)) % 4294967296 = (ph : Int) := by rw [hph]; simp
      have HP := Lib.hid (show (plus s r).l = [pa, pb, pc, pd, pe, pf, pg, ph] by rw [hpa, hpb, hpc, hpd, hpe, hpf, hpg, hph]; rfl)
      have HRS := Lib.hid (show Wa wr (w.heap.size + 1 + 1) 36 [0, 0, 0, 0, 0, 0, 0, 0] by rw [hwr]; exact r2)
      have HR := Lib.hid (setRow_heap wr (w.heap.size + 1 + 1) (u32v [0, 0, 0, 0, 0, 0, 0, 0]) (u32v [pa, pb, pc, pd, pe, pf, pg, ph]) 36 (0, 0) HRS.out)
      have HB := Lib.hid (below_setRow (g := w.heap.size + 1 + 1) (show Below w.heap.size w wr by rw [hwr]; exact Gw.Below.drewN hb3 n) (by omega) (u32v [pa, pb, pc, pd, pe, pf, pg, ph]))
      clear hpa hpb hpc hpd hpe hpf hpg hph hok hwr c0 c1 c2 c3 c4 c5 c6 c7
      go_wp2_with (first | (refine wpList_store_row rfl 36 (.tmp 4) (.tmp 115) rfl _ (u32v [pa, pb, pc, pd, pe, pf, pg, ph]) rfl rfl _ _ HRS.out arr8_info rfl (u32v_one _) ?_) | fail)
      refine bodyPost_ret (results_cell_row rfl _ _ _ _ _ _ _ rfl HR.out Tryd.underlying36 rfl arr8_info) rfl ?_
      exact ⟨by rw [← HP.out, HRR.out], HB.out⟩
end Go.Proofs.YtfemcofjhcanhaaDoor
