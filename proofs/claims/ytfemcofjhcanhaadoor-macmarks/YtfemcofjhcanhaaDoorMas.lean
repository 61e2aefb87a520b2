/- What mac's Same does: it is true where the bytes are the same. -/
import Derived.Test.YtfemcofjhcanhaaDoorMam
import Derived.Test.YtfemcofjhcanhaaDoorByi
import Derived.Test.YtfemcofjhcanhaaDoorByt
import Derived.Laws.BitsAllLaws
import Derived.BigQuiet
namespace Go.Proofs.YtfemcofjhcanhaaDoor
open Go.RowKit Go.Shelf Gw Pol Sh
def SmRel (w : World) (l m : List Nat) (u i : Value) (wr : World) : Prop := ∃ k n : Nat, k ≤ l.length ∧ i = .int .i64 (k : Int) ∧ u = .int .u8 (ox l m k : Int) ∧ wr = w.drewN n
set_option maxRecDepth 100000 in
set_option maxHeartbeats 2000000 in
theorem msame_any (A : Option Addr) (c : Nat) (l : List Nat) (A' : Option Addr) (c' : Nat) (m : List Nat) (w : World) (B : Nat) (hL : In w B A c l) (hM : In w B A' c' m) (hcm : l.length ≤ 140737488355328) :
    Calls Tryd.prog 11 #[.slice A l.length c, .slice A' m.length c'] w fun e w' => e = .returned (.bool (decide (l = m))) ∧ ∃ n, w' = w.drewN n := by
  by_cases hlen : l.length = m.length
  · have hb : (((l.length : Int)) != ((m.length : Int))) = false := by rw [bne_eq_false_iff_eq]; omega
    have HLEN := Lib.hid hlen
    have HEND := Lib.hid (ox_same hlen)
    clear hlen
    go_enter Tryd.func11, Tryd.ntmps11
    go_wp2
    go_loopw [5, 14] (SmRel w l m) (fun _ i _ => l.length - (intOf i).toNat)
    case atStart => exact ⟨0, 0, Nat.zero_le _, rfl, rfl, rfl⟩
    case round =>
      obtain ⟨k, n, hk, rfl, rfl, hwr⟩ := hrel
      have hL' : In wr B A c l := by rw [hwr]; exact hL.drewN n
      have hM' : In wr B A' c' m := by rw [hwr]; exact hM.drewN n
      have HW := Lib.hid hwr
      have hu := ox_lt hL.bb hM.bb k
      clear hwr hL hM
      by_cases hkp : k < l.length
      · obtain ⟨x, b, off, hx1, hxb, rfl, _, hcell⟩ := hL'.sl.at_ hkp
        obtain ⟨y, b2, off2, hy1, hyb, rfl, _, hcell2⟩ := hM'.sl.at_ (k := k) (by rw [← HLEN.out]; exact hkp)
        have hkM : k < m.length := by rw [← HLEN.out]; exact hkp
        have HS := Lib.hid (show ox l m (k + 1) = ox l m k ||| (x ^^^ y) by rw [ox, co_of' hx1, co_of' hy1])
        obtain ⟨u, hu'⟩ : ∃ u, u = ox l m k := ⟨_, rfl⟩
        rw [← hu'] at hu HS ⊢
        have e1 : bits .xor .u8 (x : Int) (y : Int) = ((x ^^^ y : Nat) : Int) := u8_xor_nat _ _ hxb hyb
        have e2 : bits .or .u8 (u : Int) ((x ^^^ y : Nat) : Int) = ((u ||| (x ^^^ y) : Nat) : Int) := u8_or_nat _ _ hu (Nat.xor_lt_two_pow (n := 8) hxb hyb)
        obtain ⟨q, hq⟩ : ∃ q, q = x ^^^ y := ⟨_, rfl⟩
        rw [← hq] at e1 e2 HS
        obtain ⟨v, hv⟩ : ∃ v, v = u ||| q := ⟨_, rfl⟩
        rw [← hv] at e2 HS
        clear hx1 hy1 hL' hM' hu' hq hv
        go_wp2
        go_quiet (fail)
        go_wp2
        go_roundw
        case rel => exact ⟨k + 1, n + nq, by omega, by go_num, by rw [HS.out], by rw [HW.out, World.drewN_drewN]⟩
        case measure => simp [intOf]; omega
      · obtain rfl : k = l.length := by omega
        by_cases h0 : ox l m l.length = 0
        · have HY := Lib.hid (show decide (l = m) = true from decide_eq_true (HEND.out.1 h0))
          rw [h0]
          go_wp2
          go_ret
          exact ⟨by rw [HY.out]; rfl, n, HW.out⟩
        · have HY := Lib.hid (show decide (l = m) = false from decide_eq_false (fun e => h0 (HEND.out.2 e)))
          have hne : ((ox l m l.length : Int) == 0) = false := beq_eq_false_iff_ne.2 (by omega)
          go_wp2
          go_ret
          exact ⟨by rw [HY.out]; rfl, n, HW.out⟩
  · have hb : (((l.length : Int)) != ((m.length : Int))) = true := by rw [bne_iff_ne]; omega
    have HN := Lib.hid (show decide (l = m) = false from decide_eq_false (fun e => hlen (by rw [e])))
    clear hlen
    go_enter Tryd.func11, Tryd.ntmps11
    go_wp2
    go_ret
    exact ⟨by rw [HN.out]; rfl, 0, rfl⟩
end Go.Proofs.YtfemcofjhcanhaaDoor
