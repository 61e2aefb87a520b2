/- What poly's Add and Mul do: the sum and the product, without noughts at the end, in memory of their own. -/
import Derived.Test.YtmcfkgjkfceomaaPby
import Derived.Test.YtmcfkgjkfceomaaPpa
import Derived.Laws.CopyOwn
namespace Go.Proofs.Ytmcfkgjkfceomaa
open Go.RowKit Go.Shelf Gw Pol

theorem co_pad (p : List Nat) (n j : Nat) : co (p ++ List.replicate n 0) j = co p j := by
  by_cases h : j < p.length
  · exact co_append_left h
  · rw [co_append_right (by omega), co_far (p := p) (by omega)]
    unfold co
    rw [List.getD_eq_getElem?_getD, List.getElem?_replicate]
    split <;> rfl
theorem padd_tr {p q L : List Nat} (hq : BB q) (hL : ∀ j, co L j = co p j) (hn : q.length ≤ L.length) : tr (addAt L 0 1 q) = tr (add p q) := tr_ext fun j => by
  rw [co_addAt 1 (by omega), co_add, hL, if_pos (Nat.zero_le _), Nat.sub_zero, Gf.gm_one_left (hq.co j)]

def PaRel (w : World) (n : Nat) (L q : List Nat) (i : Value) (wr : World) : Prop :=
  ∃ k : Nat, k ≤ q.length ∧ i = .int .i64 (k : Int) ∧ Gw.Own wr w.heap.size 5 (some ⟨w.heap.size, 0, none⟩) n (addAt L 0 1 (q.take k)) ∧ Below w.heap.size w wr
set_option maxRecDepth 100000 in
set_option maxHeartbeats 1000000 in
theorem padd_any (A A' : Option Addr) (c c' : Nat) (p q : List Nat) (w : World) (hp : In w w.heap.size A c p) (hq : In w w.heap.size A' c' q) (hcm : p.length + q.length ≤ 140737488355328) :
    Calls Try.prog 52 #[.slice A p.length c, .slice A' q.length c'] w fun e w' => ∃ A2 c2, e = .returned (.slice A2 (tr (add p q)).length c2) ∧ Gw.Own w' w.heap.size 5 A2 c2 (tr (add p q)) ∧ Below w.heap.size w w' := by
  have hu := Try.underlying22
  obtain ⟨n, hn⟩ : ∃ n, n = max p.length q.length := ⟨_, rfl⟩
  have hpn : p.length ≤ n := by omega
  have hqn : q.length ≤ n := by omega
  have hnb : n ≤ 140737488355328 := by omega
  have hmk := run_make_row' (P := Try.prog) 22 5 (.int .u8 0) 1 Try.underlying22 pbyte_info rfl .i64 .i64 n (by omega) (by omega)
  obtain ⟨L, hL⟩ : ∃ L, L = p ++ List.replicate (n - p.length) 0 := ⟨_, rfl⟩
  have HL := Lib.hid (show L.length = n by rw [hL]; simp; omega)
  have HC := Lib.hid (show ∀ j, co L j = co p j by rw [hL]; exact co_pad p _)
  have hpq : (p.length < q.length ∧ n = q.length) ∨ (¬ p.length < q.length ∧ n = p.length) := by omega
  clear hn
  rcases hpq with ⟨hpq, hn⟩ | ⟨hpq, hn⟩
  all_goals (
    obtain ⟨w2, hcp, hown0, hB2⟩ := run_copied (P := Try.prog) (w := w) 22 3 5 Try.underlying22 pbyte_size n p.length c hp.sl (Nat.le_refl _) rfl hpn hnb
    rw [← hL] at hown0
    clear hL
    have HN := Lib.hid hn
    rw [hn] at hmk hcp
    clear hn
    go_enter Try.func52, Try.ntmps52
    go_wp2
    clear hmk hcp
    go_loopw [19] (PaRel w n L q) (fun i _ => q.length - (intOf i).toNat)
    case atStart => exact ⟨0, Nat.zero_le _, rfl, by rw [List.take_zero, addAt_nil]; exact hown0, hB2⟩
    case round =>
      obtain ⟨k, hk, rfl, hown', hbel⟩ := hrel
      by_cases hlt : k < q.length
      · obtain ⟨x, b, off, hx, hxb, rfl, hb, hcell⟩ := (hq.below hbel).sl.at_ hlt
        have hkl : 0 + k < (addAt L 0 1 (q.take k)).length := by rw [addAt_len, HL.out]; omega
        have hfitl : 0 + q.length ≤ L.length := by rw [HL.out]; omega
        have hcg := hown'.cell hkl
        have hfr := Own.frozen hown' (0 + k)
        have hvl := hown'.2.co (0 + k)
        obtain ⟨v, hv⟩ : ∃ v, v = co (addAt L 0 1 (q.take k)) (0 + k) := ⟨_, rfl⟩
        rw [← hv] at hcg hvl
        have hxor : bits .xor .u8 (v : Int) (x : Int) = ((v ^^^ x : Nat) : Int) := u8_xor_nat _ _ hvl hxb
        have hset := hown'.put hkl (Gf.xor_lt hvl (Gf.gm_lt 1 x))
        rw [hv, addAt_snoc hfitl hx, ← hv, Gf.gm_one_left hxb] at hset
        rw [Nat.zero_add] at hset hcg hfr
        have HS := Lib.hid hset
        have HG := Lib.hid (hbel.setCell (p := ⟨w.heap.size, k, none⟩) (Nat.le_refl _) (.int .u8 ((v ^^^ x : Nat) : Int)))
        have hkn : k < n := by omega
        have hkn2 := hkn
        rw [HN.out] at hkn2
        clear hset hx hv hown' hkl hfitl
        go_wp2
        go_roundw
        case rel => exact ⟨k + 1, by omega, by go_num, HS.out, HG.out⟩
        case measure => simp [intOf]; omega
      · obtain rfl : k = q.length := by omega
        rw [List.take_length] at hown'
        have hin := hown'.inn
        rw [HN.out] at hin
        have HI := Lib.hid hin
        have HO := Lib.hid hown'.tr
        clear hin hown'
        go_wp2_with fail
        refine (ptrim' (some ⟨w.heap.size, 0, none⟩) _ _ _ _ _ (by rw [← HN.out, addAt_len, HL.out]) HI.out (by rw [addAt_len, HL.out]; exact hnb)).mono ?_
        rintro e w' ⟨rfl, rfl⟩
        go_wp2
        go_ret
        have ho := HO.out
        rw [padd_tr hq.bb HC.out (by rw [HL.out]; exact hqn)] at ho
        refine ⟨_, n, ?_, ho, hbel⟩
        rw [← HN.out, padd_tr hq.bb HC.out (by rw [HL.out]; exact hqn)]; rfl)
theorem padd' (A A' : Option Addr) (c c' n m : Nat) (p q : List Nat) (w : World) (hn : n = p.length) (hm : m = q.length) (hp : In w w.heap.size A c p) (hq : In w w.heap.size A' c' q) (hcm : p.length + q.length ≤ 140737488355328) :
    Calls Try.prog 52 #[.slice A n c, .slice A' m c'] w fun e w' => ∃ A2 c2, e = .returned (.slice A2 (tr (add p q)).length c2) ∧ Gw.Own w' w.heap.size 5 A2 c2 (tr (add p q)) ∧ Below w.heap.size w w' := by
  subst hn hm; exact padd_any A A' c c' p q w hp hq hcm
end Go.Proofs.Ytmcfkgjkfceomaa
