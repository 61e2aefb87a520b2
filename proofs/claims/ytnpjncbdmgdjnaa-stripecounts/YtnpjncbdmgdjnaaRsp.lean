/- What the definition's own Split (package shamrockref06) does: columns, in memory of its own. -/
import Derived.Test.YtnpjncbdmgdjnaaGrw
import Derived.Test.YtnpjncbdmgdjnaaSpm
import Derived.Test.YtnpjncbdmgdjnaaPby
namespace Go.Proofs.Ytnpjncbdmgdjnaa
open Go.RowKit Go.Shelf Gw Pol
theorem srow_info : (Try.prog.info? 22).map (fun i => (i.zero, i.size, i.bytes)) = some (some (.slice none 0 0), 1, 24) := by kernel_rfl
def RspRel (w : World) (N k : Nat) (d : List Nat) (v i : Value) (wr : World) : Prop :=
  ∃ (q a : Nat) (pa : Nat → Option Addr) (cp : Nat → Nat), i = .int .i64 (a : Int) ∧ a = q * k ∧ q ≤ Sp.cnt N k ∧ Grow w wr 22 5 v k q pa cp (Sp.col d k)

set_option maxRecDepth 100000 in
set_option maxHeartbeats 2000000 in
theorem rsplit_any (A : Option Addr) (c N k : Nat) (d : List Nat) (w : World) (hN : N = d.length) (hI : In w w.heap.size A c d) (hk : 0 < k) (hk2 : k ≤ 1048576) (hNb : N ≤ 1048576) :
    Calls Try.prog 13 #[.slice A N c, .int .i64 (k : Int)] w fun e w' => ∃ v pa cp, e = .returned v ∧ Grow w w' 22 5 v k (Sp.cnt N k) pa cp (Sp.col d k) := by
  obtain ⟨i1, hj0, hj1, hj2, hj3⟩ := info_parts srow_info
  have hmk := run_make_row' (P := Try.prog) 22 5 (.int .u8 0) 1 Try.underlying22 pbyte_info rfl .i64 .i64 k (by omega) (by omega)
  have HN := Lib.hid hN
  clear hN
  have hle := Sp.cnt_le N k
  go_enter Try.func13, Try.ntmps13
  go_wp2
  go_loopw [5, 6] (RspRel w N k d) (fun _ i _ => N - (intOf i).toNat)
  case atStart => exact ⟨0, 0, _, _, rfl, by simp, Nat.zero_le _, Grow.start _ _ _ _ _⟩
  case round =>
    obtain ⟨q, a, pa, cp, rfl, ha, hq, hG⟩ := hrel
    have hs := hG.bel.size
    by_cases hlt : a < N
    · have hq1 : q < Sp.cnt N k := (Sp.cnt_lt hk).2 (by rw [← ha]; exact hlt)
      have HA := Lib.hid ha
      have HG := Lib.hid hG
      clear hG ha
      obtain ⟨w0, rfl⟩ : ∃ w0, w0 = wr := ⟨_, rfl⟩
      have hm0 := Own.made w0 5 k (by omega)
      rw [← Sp.pre_zero d k q] at hm0
      have hb0 : Below w0.heap.size w0 (w0.alloc (.cells (madeCells #[.int .u8 0] k) 5)) := (Below.refl _ _).alloc (Nat.le_refl _) _
      have HI := Lib.hid (hI.below HG.out.bel)
      go_wp2
      go_loopw [8] (fun i wi => ∃ j : Nat, i = .int .i64 (j : Int) ∧ j ≤ k ∧ a + j ≤ N ∧ Gw.Own wi w0.heap.size 5 (some ⟨w0.heap.size, 0, none⟩) k (Sp.pre d k q j) ∧ Below w0.heap.size w0 wi) (fun i _ => k - (intOf i).toNat)
      case atStart => exact ⟨0, rfl, Nat.zero_le _, by omega, hm0, hb0⟩
      case round =>
        obtain ⟨j, rfl, hj, hjN, hown, hb⟩ := hrel
        have hsb := hb.size
        clear hm0 hb0
        obtain ⟨t, ht⟩ : ∃ t, t = a + j := ⟨_, rfl⟩
        have hwt : IntKind.i64.wrap ((a : Int) + (j : Int)) = (t : Int) := by rw [IntKind.wrap_i64]; omega
        by_cases hjk : j < k
        · by_cases htN : t < N
          · obtain ⟨x, b, off, hx, hxb, rfl, hbo, hcell⟩ := (HI.out.below (hb.mono hs)).sl.at_ (k := t) (by rw [← HN.out]; exact htN)
            have hcap := HI.out.cap
            rw [← HN.out] at hcap
            have H1 := Lib.hid (hown.put (k := j) (by rw [Sp.pre_len]; exact hjk) hxb)
            have HX := Lib.hid (show co d (q * k + j) = x by rw [← HA.out, ← ht]; exact co_of' hx)
            have H2 := Lib.hid (hb.setCell (p := ⟨w0.heap.size, j, none⟩) (by show w0.heap.size ≤ w0.heap.size; exact Nat.le_refl _) (.int .u8 (x : Int)))
            have hfr := hown.frozen j
            have hc0 := hown.cell (k := j) (by rw [Sp.pre_len]; exact hjk)
            have HT := Lib.hid ht
            clear hx hown hb ht
            go_wp2
            go_roundw
            case rel => exact ⟨j + 1, by go_num, by omega, by have := HT.out; omega, by have h3 := H1.out; rw [← HX.out, Sp.pre_set] at h3; rw [← HX.out]; exact h3, H2.out⟩
            case measure => simp [intOf]; omega
          · have H1 := Lib.hid (show Gw.Own wr w0.heap.size 5 (some ⟨w0.heap.size, 0, none⟩) k (Sp.col d k q) by rw [← Sp.pre_done (d := d) (k := k) (q := q) (i := j) (by rw [← HA.out, ← HN.out]; omega)]; exact hown)
            have HB := Lib.hid hb
            have H3 := Lib.hid (show a + k = (q + 1) * k by rw [HA.out, Nat.succ_mul])
            clear hown hb ht
            go_wp2_with (first
              | (at_builtin; refine wpList_append_own _ rfl (.tmp 40) (.tmp 42) 24 rfl w.heap.size 22 i1 (.slice none 0 0) 1 24 Try.underlying24 hj0 hj1 hj2 hj3 rfl (by decide) _ q (rvs pa cp k q) rfl ((HG.out.own2 HB.out).alloc _) ⟨wr.heap.size, 0, none⟩ 1 1 [.slice (some ⟨w0.heap.size, 0, none⟩) k k] rfl rfl (fun j u hj => by
                    match j, hj with
                    | 0, hj => simp at hj; subst hj; exact cell_new wr _ _) (fun u hu => by simp at hu; subst hu; rfl) (by simp only [maxLen]; omega) (by omega) (by rw [World.size_alloc]; omega) ?_; intro v' w3 hown3 hgr3 _)
              | fail)
            have HS := Lib.hid (HG.out.step (by decide) HB.out H1.out _ hown3 hgr3)
            clear hown3 hgr3
            go_roundw
            case rel => exact ⟨q + 1, a + k, _, _, by go_num, H3.out, by omega, HS.out⟩
            case measure => simp [intOf]; omega
        · have H1 := Lib.hid (show Gw.Own wr w0.heap.size 5 (some ⟨w0.heap.size, 0, none⟩) k (Sp.col d k q) by rw [← Sp.pre_done (d := d) (k := k) (q := q) (i := j) (by rw [← HA.out, ← HN.out]; omega)]; exact hown)
          have HB := Lib.hid hb
          have H3 := Lib.hid (show a + k = (q + 1) * k by rw [HA.out, Nat.succ_mul])
          clear hown hb ht
          go_wp2_with (first
            | (at_builtin; refine wpList_append_own _ rfl (.tmp 40) (.tmp 42) 24 rfl w.heap.size 22 i1 (.slice none 0 0) 1 24 Try.underlying24 hj0 hj1 hj2 hj3 rfl (by decide) _ q (rvs pa cp k q) rfl ((HG.out.own2 HB.out).alloc _) ⟨wr.heap.size, 0, none⟩ 1 1 [.slice (some ⟨w0.heap.size, 0, none⟩) k k] rfl rfl (fun j u hj => by
                  match j, hj with
                  | 0, hj => simp at hj; subst hj; exact cell_new wr _ _) (fun u hu => by simp at hu; subst hu; rfl) (by simp only [maxLen]; omega) (by omega) (by rw [World.size_alloc]; omega) ?_; intro v' w3 hown3 hgr3 _)
            | fail)
          have HS := Lib.hid (HG.out.step (by decide) HB.out H1.out _ hown3 hgr3)
          clear hown3 hgr3
          go_roundw
          case rel => exact ⟨q + 1, a + k, _, _, by go_num, H3.out, by omega, HS.out⟩
          case measure => simp [intOf]; omega
    · have hqe : q = Sp.cnt N k := by
        have := (Sp.cnt_lt (n := N) (i := q) hk)
        rw [← ha] at this
        omega
      obtain rfl := hqe
      have HG := Lib.hid hG
      have HA := Lib.hid ha
      clear hG ha
      go_wp2
      go_ret
      exact ⟨_, pa, cp, rfl, HG.out⟩
end Go.Proofs.Ytnpjncbdmgdjnaa
