/- What sha's spread does: a block's sixteen words, and the 48 that are made of them. -/
import Derived.Test.YtfemcofjhcanhaaDoorShw
import Derived.Test.YtfemcofjhcanhaaDoorSha
namespace Go.Proofs.YtfemcofjhcanhaaDoor
open Go.RowKit Go.Shelf Gw Pol Sh

theorem arr64_info : (Tryd.prog.info? 42).map (·.size) = some 64 := by kernel_rfl
theorem arr8_info : (Tryd.prog.info? 36).map (·.size) = some 8 := by kernel_rfl
theorem zero64 (w : World) : (zeroValue 42).run Tryd.prog w = .ok (.agg (u32v (wl []))) w := by kernel_rfl
theorem s0_still (x : Nat) (hx : x < 4294967296) (w : World) : Calls Tryd.prog 25 #[.int .u32 (x : Int)] w fun e w' => e = .returned (.int .u32 (s0 x : Int)) ∧ w' = w :=
  (s0_any x hx w).mono fun _ _ h => ⟨h.1, h.2.symm⟩
theorem s1_still (x : Nat) (hx : x < 4294967296) (w : World) : Calls Tryd.prog 24 #[.int .u32 (x : Int)] w fun e w' => e = .returned (.int .u32 (s1 x : Int)) ∧ w' = w :=
  (s1_any x hx w).mono fun _ _ h => ⟨h.1, h.2.symm⟩

/-- What the world is like while the words are laid: the array L in its own block, the result's block as it was made. -/
structure SpW (w : World) (L : List Nat) (W : World) : Prop where
  row : Wa W (w.heap.size + 1) 42 L
  res : Wa W w.heap.size 42 (wl [])
  bel : Below w.heap.size w W
theorem SpW.put {w W : World} {L : List Nat} (h : SpW w L W) (k y : Nat) : SpW w (L.set k y) (W.setCell ⟨w.heap.size + 1, k, none⟩ (.int .u32 (y : Int))) :=
  ⟨h.row.put k y, h.res.set_other (by show w.heap.size + 1 ≠ w.heap.size; omega) _, h.bel.setCell (p := ⟨w.heap.size + 1, k, none⟩) (by show w.heap.size ≤ w.heap.size + 1; omega) _⟩
theorem SpW.drewN {w W : World} {L : List Nat} (h : SpW w L W) (n : Nat) : SpW w L (W.drewN n) := ⟨h.row, h.res, Gw.Below.drewN h.bel n⟩
def SpO (w : World) (m : Nat → Nat) (i : Value) (wr : World) : Prop := ∃ t : Nat, t ≤ 16 ∧ i = .int .i64 (t : Int) ∧ SpW w (wl (sc m t)) wr
def SpI (w : World) (m : Nat → Nat) (t : Nat) (i : Value) (wr : World) : Prop := ∃ j : Nat, j ≤ 4 ∧ i = .int .i64 (j : Int) ∧ SpW w (wl (sc m t ++ [be m (4 * t) j])) wr
def SpH (w : World) (m : Nat → Nat) (i : Value) (wr : World) : Prop := ∃ t : Nat, 16 ≤ t ∧ t ≤ 64 ∧ i = .int .i64 (t : Int) ∧ SpW w (wl (sc m t)) wr
theorem or_byte {z x : Nat} (hz : z < 16777216) (hx : x < 256) : bits .or .u32 ((z : Int) * 256) (x : Int) = ((z * 256 + x : Nat) : Int) := by
  have e : (z : Int) * 256 = ((z * 256 : Nat) : Int) := by simp
  rw [e, u32_or_nat _ _ (by omega) (by omega), Nat.mul_comm z 256, show (256 : Nat) = 2 ^ 8 from rfl, ← Nat.two_pow_add_eq_or_of_lt (show x < 2 ^ 8 from hx)]
set_option maxRecDepth 100000 in
set_option maxHeartbeats 2000000 in
theorem spread_any (A : Option Addr) (c : Nat) (l : List Nat) (w : World) (hI : In w w.heap.size A c l) (hl : l.length = 64) :
    Calls Tryd.prog 21 #[.slice A 64 c] w fun e w' => e = .returned (.agg (u32v (sc (co l) 64))) ∧ Below w.heap.size w w' := by
  obtain ⟨x0, b, off, _, _, rfl, hb, _⟩ := hI.sl.at_ (k := 0) (by omega)
  have hc := hI.cap
  rw [hl] at hc
  have HL := Lib.hid hl
  clear hl
  obtain ⟨m, hm⟩ : ∃ m, m = co l := ⟨_, rfl⟩
  have hm8 : ∀ i, m i < 256 := fun i => by rw [hm]; exact hI.bb.co i
  have HM := Lib.hid hm
  rw [← hm]
  clear hm
  have hzz := zero64
  have hst : SpW w (wl []) ((w.alloc (.cells (u32v (wl [])) 42)).alloc (.cells (u32v (wl [])) 42)) :=
    ⟨by have := Wa.new (w.alloc (.cells (u32v (wl [])) 42)) 42 (wl []); rwa [World.size_alloc] at this, (Wa.new w 42 (wl [])).alloc _, ((Below.refl _ w).alloc (Nat.le_refl _) _).alloc (by simp) _⟩
  go_enter Tryd.func21, Tryd.ntmps21
  go_wp2
  clear hzz
  go_loopw [8] (SpO w m) (fun i _ => 16 - (intOf i).toNat)
  case atStart => exact ⟨0, by omega, rfl, hst⟩
  case round =>
    clear hst
    obtain ⟨t, ht, rfl, hS⟩ := hrel
    by_cases ht16 : t < 16
    · obtain ⟨q, hq⟩ : ∃ q, q = 4 * t := ⟨_, rfl⟩
      have e4 : (4 : Int) * (t : Int) = (q : Int) := by omega
      have hq60 : q ≤ 60 := by omega
      have HQ := Lib.hid hq
      have HS := Lib.hid hS
      clear hq hS
      go_wp2
      go_loopw [19] (SpI w m t) (fun i _ => 4 - (intOf i).toNat)
      case atStart => exact ⟨0, by omega, rfl, by rw [be, wl_zero (by rw [sc_len]; omega)]; exact HS.out⟩
      case round =>
        clear HS
        obtain ⟨j, hj, rfl, hS⟩ := hrel
        by_cases hj4 : j < 4
        · obtain ⟨x, b', off', hx, hxb, hA, _, hcx⟩ := (hI.below hS.bel).sl.at_ (k := q + j) (by rw [HL.out]; omega)
          injection hA with hA
          injection hA with hA1 hA2
          subst hA1 hA2
          rw [← Nat.add_assoc] at hcx
          have hz := Sh.be_lt hm8 (4 * t) j
          have hz24 : be m (4 * t) j < 16777216 := Nat.lt_of_lt_of_le hz (Nat.pow_le_pow_right (n := 256) (by omega) (show j ≤ 3 by omega))
          have HNX := Lib.hid (show be m (4 * t) (j + 1) = be m (4 * t) j * 256 + x by rw [be, HM.out, ← HQ.out, co_of' hx])
          obtain ⟨z, hzz⟩ : ∃ z, z = be m (4 * t) j := ⟨_, rfl⟩
          rw [← hzz] at hS hz24 HNX
          clear hz hzz hx
          have hor := or_byte hz24 hxb
          have hcw := hS.row.cell (k := t) (by rw [wl_len (by simp [sc_len]; omega)]; omega)
          rw [wl_at (sc_len m t).symm] at hcw
          have hfz := hS.row.frozen t
          have HP := Lib.hid (hS.put t (z * 256 + x))
          rw [wl_put (sc_len m t).symm] at HP
          clear hS
          go_wp2
          go_roundw
          case rel => exact ⟨j + 1, by omega, by go_num, by rw [HNX.out]; exact HP.out⟩
          case measure => simp [intOf]; omega
        · obtain rfl : j = 4 := by omega
          have HE := Lib.hid (sc_lo m ht16)
          rw [← HE.out] at hS
          go_wp2
          go_roundw
          case rel => exact ⟨t + 1, by omega, by go_num, hS⟩
          case measure => simp [intOf]; omega
    · obtain rfl : t = 16 := by omega
      go_wp2
      go_loopw [7] (SpH w m) (fun i _ => 64 - (intOf i).toNat)
      case atStart => exact ⟨16, by omega, by omega, rfl, hS⟩
      case round =>
        clear hS
        obtain ⟨t, ht1, ht2, rfl, hS⟩ := hrel
        by_cases ht64 : t < 64
        · have hlen := sc_len m t
          have hall := Sh.sc_lt hm8 t
          have HE := Lib.hid (sc_hi m ht1)
          have HLW := Lib.hid (wl_len (L := sc m t) (by omega))
          obtain ⟨p2, hp2⟩ : ∃ p, p = t - 2 := ⟨_, rfl⟩
          obtain ⟨p7, hp7⟩ : ∃ p, p = t - 7 := ⟨_, rfl⟩
          obtain ⟨p15, hp15⟩ : ∃ p, p = t - 15 := ⟨_, rfl⟩
          obtain ⟨p16, hp16⟩ : ∃ p, p = t - 16 := ⟨_, rfl⟩
          have e2 : IntKind.i64.wrap ((t : Int) - 2) = (p2 : Int) := by rw [IntKind.wrap_i64]; omega
          have e7 : IntKind.i64.wrap ((t : Int) - 7) = (p7 : Int) := by rw [IntKind.wrap_i64]; omega
          have e15 : IntKind.i64.wrap ((t : Int) - 15) = (p15 : Int) := by rw [IntKind.wrap_i64]; omega
          have e16 : IntKind.i64.wrap ((t : Int) - 16) = (p16 : Int) := by rw [IntKind.wrap_i64]; omega
          have l2 : (p2 : Int) < 64 := by omega
          have l7 : (p7 : Int) < 64 := by omega
          have l15 : (p15 : Int) < 64 := by omega
          have lt : (t : Int) < 64 := by omega
          have l16 : (p16 : Int) < 64 := by omega
          have c2 := hS.row.cell (k := p2) (by rw [HLW.out]; omega)
          have c7 := hS.row.cell (k := p7) (by rw [HLW.out]; omega)
          have c15 := hS.row.cell (k := p15) (by rw [HLW.out]; omega)
          have c16 := hS.row.cell (k := p16) (by rw [HLW.out]; omega)
          have ct := hS.row.cell (k := t) (by rw [HLW.out]; omega)
          rw [wl_co (by omega)] at c2 c7 c15 c16
          have hft := hS.row.frozen t
          rw [← hp2, ← hp7, ← hp15, ← hp16] at HE
          obtain ⟨v2, hv2⟩ : ∃ v, v = co (sc m t) p2 := ⟨_, rfl⟩
          obtain ⟨v7, hv7⟩ : ∃ v, v = co (sc m t) p7 := ⟨_, rfl⟩
          obtain ⟨v15, hv15⟩ : ∃ v, v = co (sc m t) p15 := ⟨_, rfl⟩
          obtain ⟨v16, hv16⟩ : ∃ v, v = co (sc m t) p16 := ⟨_, rfl⟩
          have b2 : v2 < 4294967296 := by rw [hv2]; exact co_lt' hall _
          have b7 : v7 < 4294967296 := by rw [hv7]; exact co_lt' hall _
          have b15 : v15 < 4294967296 := by rw [hv15]; exact co_lt' hall _
          have b16 : v16 < 4294967296 := by rw [hv16]; exact co_lt' hall _
          rw [← hv2] at c2 HE
          rw [← hv7] at c7 HE
          rw [← hv15] at c15 HE
          rw [← hv16] at c16 HE
          obtain ⟨zt, hzt⟩ : ∃ v, v = co (wl (sc m t)) t := ⟨_, rfl⟩
          rw [← hzt] at ct
          have bs1 := Sh.s1_lt b2
          have bs0 := Sh.s0_lt b15
          obtain ⟨y1, hy1⟩ : ∃ y, y = (s1 v2 + v7) % 4294967296 := ⟨_, rfl⟩
          obtain ⟨y2, hy2⟩ : ∃ y, y = (y1 + s0 v15) % 4294967296 := ⟨_, rfl⟩
          obtain ⟨y3, hy3⟩ : ∃ y, y = (y2 + v16) % 4294967296 := ⟨_, rfl⟩
          have a1 : IntKind.u32.wrap ((s1 v2 : Int) + (v7 : Int)) = (y1 : Int) := by rw [IntKind.wrap_u32']; omega
          have a2 : IntKind.u32.wrap ((y1 : Int) + (s0 v15 : Int)) = (y2 : Int) := by rw [IntKind.wrap_u32']; omega
          have a3 : IntKind.u32.wrap ((y2 : Int) + (v16 : Int)) = (y3 : Int) := by rw [IntKind.wrap_u32']; omega
          have HY := Lib.hid (show y3 = (s1 v2 + v7 + s0 v15 + v16) % 4294967296 by omega)
          have HP := Lib.hid ((hS.drewN 1).put t y3)
          have hset : (wl (sc m t)).set t y3 = wl (sc m (t + 1)) := by
            rw [HE.out, ← HY.out, ← wl_zero (by omega)]
            exact wl_put hlen.symm
          rw [hset] at HP
          clear hset hp2 hp7 hp15 hp16 hv2 hv7 hv15 hv16 hzt hy1 hy2 hy3 hall hlen HE HY HLW hS
          go_wp2
          go_still_tail 23, (by kernel_rfl)
          still_call (s1_still v2 b2 _)
          repeat still_step
          still_call (s0_still v15 b15 _)
          repeat still_step
          refine wpStill_nil ?_
          change wpList _ _ _ _ _ wr.drew
          go_wp2
          go_roundw
          case rel => exact ⟨_, _, _, _, _, _, _, _, _, _, _, _, _, _, _, _, _, _, _, _, _, _, _, _, _, _, _, _, ⟨t + 1, by omega, by omega, by go_num, HP.out⟩, rfl⟩
          case measure => simp [intOf]; omega
        · obtain rfl : t = 64 := by omega
          have HLN := Lib.hid (sc_len m 64)
          rw [wl_full HLN.out] at hS
          have HI64 := Lib.hid (show (Tryd.prog.info? 42).map (·.size) = some (u32v (sc m 64)).size by rw [u32v_size, HLN.out]; exact arr64_info)
          have HSZ := Lib.hid (show (u32v (wl [])).size = (u32v (sc m 64)).size by rw [u32v_size, u32v_size, HLN.out]; rfl)
          have HR := Lib.hid (setRow_heap wr w.heap.size (u32v (wl [])) (u32v (sc m 64)) 42 (0, 0) hS.res)
          have HB := Lib.hid (below_setRow hS.bel (Nat.le_refl _) (u32v (sc m 64)))
          have HRW := Lib.hid hS.row
          have HRS := Lib.hid hS.res
          clear hS
          go_wp2_with (first | (refine wpList_load_row rfl 42 (.tmp 3) rfl _ rfl _ _ _ _ HRW.out Tryd.underlying42 rfl HI64.out ?_) | (refine wpList_store_row rfl 42 (.tmp 2) (.tmp 61) rfl _ _ rfl rfl _ _ HRS.out HI64.out HSZ.out (u32v_one _) ?_) | fail)
          refine bodyPost_ret (results_cell_row rfl _ _ _ _ _ _ _ rfl HR.out Tryd.underlying42 rfl HI64.out) rfl ?_
          exact ⟨rfl, HB.out⟩
end Go.Proofs.YtfemcofjhcanhaaDoor
