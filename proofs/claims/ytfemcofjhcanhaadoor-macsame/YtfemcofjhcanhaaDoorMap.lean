/- What mac's padded does: the sum of a block, each byte xor one, and of bytes behind it. -/
import Derived.Test.YtfemcofjhcanhaaDoorMak
import Derived.Laws.BitsAllLaws
namespace Go.Proofs.YtfemcofjhcanhaaDoor
open Go.RowKit Go.Shelf Gw Pol Sh
theorem run_indexB (L : List Nat) (k x : Nat) (hk : k < 64) (hx : (bys L)[k]? = some (.int .u8 (x : Int))) (w : World) : (Instr.index 28 (.agg (bys L).toArray) (.int .i64 (k : Int))).run Tryd.prog w = .ok (.int .u8 (x : Int)) w := by
  simp [Instr.index, run_underlying Tryd.underlying28, asIntOf, part, Tryd.isAgg5, Tryd.sizeOf5, hx, go_sem]
  intro h; omega
def PaRel (w : World) (M : List Nat) (v i : Value) (wr : World) : Prop := ∃ (k n c : Nat) (A : Option Addr), k ≤ 64 ∧ i = .int .i64 (k : Int) ∧ v = .slice A n c ∧ n = (M.take k).length ∧ Gw.Own wr w.heap.size 5 A c (M.take k) ∧ Below w.heap.size w wr
set_option maxRecDepth 100000 in
set_option maxHeartbeats 2000000 in
theorem padded_any (K : List Nat) (hK64 : K.length = 64) (hKb : BB K) (x : Nat) (hx : x < 256) (A : Option Addr) (c n : Nat) (b : List Nat) (w : World) (hn : n = b.length) (hI : In w w.heap.size A c b) (hcm : b.length ≤ 140737488355264) (hT : KT w) :
    Calls Tryd.prog 13 #[.agg (bys K).toArray, .int .u8 (x : Int), .slice A n c] w fun e w' => ∃ A2 c2, e = .returned (.slice A2 32 c2) ∧ Gw.Own w' w.heap.size 5 A2 c2 (sum (mp K x ++ b)) ∧ Below w.heap.size w w' := by
  obtain ⟨i0, hi0, hz0, hz1, hz2⟩ := info_parts byte_info
  have HW := Lib.hid (Ba.new w 28 K)
  have HIA := Lib.hid (show (Tryd.prog.info? 28).map (·.size) = some (bys K).toArray.size by rw [bysA_size, hK64]; exact arrB_info)
  obtain ⟨N, hN⟩ : ∃ N, N = 64 + n := ⟨_, rfl⟩
  have eN : (64 : Int) + (n : Int) = (N : Int) := by omega
  have hNb : N ≤ 140737488355328 := by omega
  obtain ⟨M, hM⟩ : ∃ M, M = mp K x := ⟨_, rfl⟩
  have HM := Lib.hid hM
  have HML := Lib.hid (show M.length = 64 by rw [hM, mp_len, hK64])
  have HMB := Lib.hid (show BB M by rw [hM]; exact mp_bb hKb hx)
  have HMS := Lib.hid (show ∀ k, k < 64 → M.take (k + 1) = M.take k ++ [co K k ^^^ x] from fun k hk => by rw [hM]; exact mp_step (by omega))
  have HK64 := Lib.hid hK64
  have HI := Lib.hid hI
  have HN := Lib.hid hn
  have HT := Lib.hid hT
  rw [← hM]
  clear hM hI hn hN hT hK64
  go_enter Tryd.func13, Tryd.ntmps13
  go_wp2_with (first | (at_make; refine wpList_make_own _ rfl _ _ 22 rfl w.heap.size 5 i0 _ 1 Tryd.underlying22 hi0 hz0 hz1 _ _ _ N rfl rfl (by omega) (by rw [hz2]; omega) (by simp only [maxLen]; omega) (by simp) ?_; intro w1 hown hgr) | (refine wpList_load_row rfl 28 (.tmp 3) rfl w.heap.size rfl 28 (bys K).toArray (0, 0) _ (HW.out.by_ hgr (by intro h; cases h)) Tryd.underlying28 rfl HIA.out ?_) | fail)
  rw [World.size_alloc] at hown
  have hO0 : Gw.Own w1 w.heap.size 5 (some ⟨w.heap.size + 1, 0, none⟩) N [] := ⟨hown, BB.nil⟩
  have hB0 : Below w.heap.size w w1 := ((Below.refl _ w).alloc (Nat.le_refl _) _).grown hgr (by simp) (fun k hk => by cases hk)
  clear hown hgr HW
  go_loopw [7, 15] (PaRel w M) (fun _ i _ => 64 - (intOf i).toNat)
  case atStart => exact ⟨0, 0, N, some ⟨w.heap.size + 1, 0, none⟩, by omega, rfl, rfl, rfl, hO0, hB0⟩
  case round =>
    clear hO0 hB0
    obtain ⟨k, m, c1, A1, hk, rfl, rfl, hm, hown, hbel⟩ := hrel
    by_cases hk8 : k < 64
    · have HO := Lib.hid (HMS.out k hk8)
      have hyb := hKb.co k
      have hget : (bys K)[k]? = some (.int .u8 (co K k : Int)) := bys_at (by rw [List.getElem?_eq_getElem (by rw [HK64.out]; omega), co_get (by rw [HK64.out]; omega)])
      obtain ⟨y, hy⟩ : ∃ y, y = co K k := ⟨_, rfl⟩
      rw [← hy] at HO hyb hget
      have hidx := run_indexB K k y hk8 hget
      have e1 : bits .xor .u8 (y : Int) (x : Int) = ((y ^^^ x : Nat) : Int) := u8_xor_nat _ _ hyb hx
      have hqb : y ^^^ x < 256 := Nat.xor_lt_two_pow (n := 8) hyb hx
      obtain ⟨q, hq⟩ : ∃ q, q = y ^^^ x := ⟨_, rfl⟩
      rw [← hq] at e1 HO hqb
      have HLE := Lib.hid (show (M.take k).length = k by rw [List.length_take, HML.out]; omega)
      have HM1 := Lib.hid hm
      have HOW := Lib.hid (hown.alloc (.cells #[.int .u8 (q : Int)] 5))
      have HSL := Lib.hid (Sl.one wr 5 q hqb)
      have HOWN := Lib.hid hown
      clear hq hy hget hm hown hyb
      go_wp2_with (first | (at_builtin; refine wpList_app rfl (.tmp 18) (.tmp 22) 22 rfl w.heap.size 5 i0 _ Tryd.underlying22 hi0 hz0 hz1 hz2 rfl A1 m c1 (M.take k) rfl HM1.out HOW.out (wr.heap.size + 1) (some ⟨wr.heap.size, 0, none⟩) 1 1 [q] rfl rfl (fun h => by cases h) HSL.out (by rw [HLE.out]; simp; omega) (by rw [World.size_alloc]; exact Nat.le_succ_of_le hbel.size) ?_; intro A2 c2 w2 hown2 hgr2) | fail)
      have hb2 := Lib.hid (below_app hbel hbel.size HOWN.out hgr2)
      rw [← HO.out] at hown2
      have HO2 := Lib.hid hown2
      clear hown2 hgr2
      go_roundw
      case rel => exact ⟨k + 1, _, c2, A2, by omega, by go_num, rfl, by rw [HO.out, List.length_append]; simp, HO2.out, hb2.out⟩
      case measure => simp [intOf]; omega
    · obtain rfl : k = 64 := by omega
      have e64 : M.take 64 = M := List.take_of_length_le (by rw [HML.out]; omega)
      rw [e64] at hm hown
      have HM1 := Lib.hid hm
      have HOWN := Lib.hid hown
      have HSL := Lib.hid ((HI.out.below hbel).sl)
      have HN0 := Lib.hid HI.out.none_
      have HLN := Lib.hid (show M.length + b.length ≤ 140737488355328 by rw [HML.out]; omega)
      have hs := hbel.size
      clear hm hown e64
      go_wp2_with (first | (at_builtin; refine wpList_app rfl (.tmp 25) (.tmp 26) 22 rfl w.heap.size 5 i0 _ Tryd.underlying22 hi0 hz0 hz1 hz2 rfl A1 m c1 M rfl HM1.out HOWN.out w.heap.size A n c b rfl HN.out HN0.out HSL.out HLN.out hs ?_; intro A2 c2 w2 hown2 hgr2) | fail)
      have hb2 := below_app0 hbel hbel.size HOWN.out hgr2
      refine (sum_any A2 c2 (M.length + b.length) (M ++ b) _ (by rw [List.length_append]) hown2.inn (by rw [List.length_append]; exact HLN.out) (HT.out.to hb2)).mono ?_
      rintro e w3 ⟨A3, c3, rfl, hown3, hB3⟩
      have HO3 := Lib.hid (hown3.base hb2.size)
      have HB3 := Lib.hid (hb2.trans (hB3.mono hb2.size))
      clear hown3 hB3 hown2 hgr2 hb2
      go_wp2
      go_ret
      exact ⟨A3, c3, rfl, HO3.out, HB3.out⟩
end Go.Proofs.YtfemcofjhcanhaaDoor
