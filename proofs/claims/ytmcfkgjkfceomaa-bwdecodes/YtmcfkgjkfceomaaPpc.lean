/- What poly's Mul does: the product, without noughts at the end, in memory of its own. -/
import Derived.Test.YtmcfkgjkfceomaaPby
import Derived.Test.YtmcfkgjkfceomaaPpa
import Derived.Laws.CopyOwn
namespace Go.Proofs.Ytmcfkgjkfceomaa
open Go.RowKit Go.Shelf Gw Pol

/-- The product's row when k powers of p are through. -/
def mulTo (p q : List Nat) (k : Nat) : List Nat := (List.range (p.length + q.length - 1)).map (co (mul (p.take k) q))
theorem mulTo_len (p q : List Nat) (k : Nat) : (mulTo p q k).length = p.length + q.length - 1 := by simp [mulTo]
theorem co_mulTo {p q : List Nat} {k j : Nat} (h : j < p.length + q.length - 1) : co (mulTo p q k) j = co (mul (p.take k) q) j := by
  rw [co_get (by rw [mulTo_len]; exact h)]; simp [mulTo]
theorem mulTo_zero (p q : List Nat) : mulTo p q 0 = List.replicate (p.length + q.length - 1) 0 := by
  refine ext_co (by rw [mulTo_len, List.length_replicate]) fun i hi => ?_
  rw [mulTo_len] at hi
  rw [co_mulTo hi]
  unfold co
  simp [mul, hi]
theorem mulTo_all (p q : List Nat) : mulTo p q p.length = pl p q := by unfold mulTo pl; rw [List.take_length]
theorem mulTo_step {p q : List Nat} {k x : Nat} (hx : p[k]? = some x) : addAt (mulTo p q k) k x q = mulTo p q (k + 1) := by
  have hk : k < p.length := (List.getElem?_eq_some_iff.1 hx).1
  have hlt : (p.take k).length = k := by rw [List.length_take]; omega
  refine ext_co (by rw [addAt_len, mulTo_len, mulTo_len]) fun i hi => ?_
  rw [addAt_len, mulTo_len] at hi
  rw [co_addAt x (by rw [mulTo_len]; omega), co_mulTo hi, co_mulTo hi, ← take_snoc hx, co_mul_snoc, hlt]

def PmRel (w : World) (p q : List Nat) (s : Nat) (i : Value) (wr : World) : Prop :=
  ∃ k : Nat, k ≤ p.length ∧ i = .int .i64 (k : Int) ∧ Gw.Own wr w.heap.size 5 (some ⟨w.heap.size, 0, none⟩) s (mulTo p q k) ∧ Below w.heap.size w wr
set_option maxRecDepth 100000 in
set_option maxHeartbeats 1000000 in
theorem pmul_any (bf : Nat) (A A' : Option Addr) (c c' : Nat) (p q : List Nat) (w : World) (hF : IsField w bf) (hp : In w w.heap.size A c p) (hq : In w w.heap.size A' c' q) (hcm : p.length + q.length ≤ 140737488355328) :
    Calls Try.prog 46 #[.pointer (some ⟨bf, 0, none⟩), .slice A p.length c, .slice A' q.length c'] w fun e w' => ∃ A2 c2, e = .returned (.slice A2 (tr (mul p q)).length c2) ∧ Gw.Own w' w.heap.size 5 A2 c2 (tr (mul p q)) ∧ Below w.heap.size w w' := by
  have T1 := Lib.hid (ptrim_any A c p w w.heap.size hp (by omega))
  have T2 := Lib.hid (ptrim_any A' c' q w w.heap.size hq (by omega))
  have hlf := hF.lt
  have hP := hp.tr
  have hQ := hq.tr
  have l1 := tr_len p
  have l2 := tr_len q
  have HN1 := Lib.hid (fun h => pl_nil_left (p := p) q h)
  have HN2 := Lib.hid (fun h => pl_nil_right p (q := q) h)
  have HPL := Lib.hid (fun h1 h2 => pl_tr (p := p) (q := q) h1 h2)
  obtain ⟨P, hPe⟩ : ∃ P, P = tr p := ⟨_, rfl⟩
  obtain ⟨Q, hQe⟩ : ∃ Q, Q = tr q := ⟨_, rfl⟩
  rw [← hPe] at T1 hP l1 HN1 HPL
  rw [← hQe] at T2 hQ l2 HN2 HPL
  clear hp hq hPe hQe
  obtain ⟨n, hn⟩ : ∃ n, n = P.length := ⟨_, rfl⟩
  obtain ⟨m, hm⟩ : ∃ m, m = Q.length := ⟨_, rfl⟩
  rw [← hn] at T1 l1
  rw [← hm] at T2 l2
  have HN := Lib.hid hn
  have HM := Lib.hid hm
  clear hn hm
  by_cases n0 : n = 0
  · subst n0
    have hP0 : P = [] := List.eq_nil_of_length_eq_zero HN.out.symm
    have HZ := Lib.hid (HN1.out hP0)
    clear hP0
    go_enter Try.func46, Try.ntmps46
    go_wp2_with fail
    refine T1.out.mono ?_
    rintro e w' ⟨rfl, rfl⟩
    go_wp2_with fail
    refine T2.out.mono ?_
    rintro e w' ⟨rfl, rfl⟩
    go_wp2
    go_ret
    exact ⟨none, 0, by rw [HZ.out]; rfl, by rw [HZ.out]; exact Own.none_ _ _ _, Below.refl _ _⟩
  · have hn0 : ((n : Int) == 0) = false := beq_eq_false_iff_ne.2 (by omega)
    by_cases m0 : m = 0
    · subst m0
      have hQ0 : Q = [] := List.eq_nil_of_length_eq_zero HM.out.symm
      have HZ := Lib.hid (HN2.out hQ0)
      clear hQ0
      go_enter Try.func46, Try.ntmps46
      go_wp2_with fail
      refine T1.out.mono ?_
      rintro e w' ⟨rfl, rfl⟩
      go_wp2_with fail
      refine T2.out.mono ?_
      rintro e w' ⟨rfl, rfl⟩
      go_wp2
      go_ret
      exact ⟨none, 0, by rw [HZ.out]; rfl, by rw [HZ.out]; exact Own.none_ _ _ _, Below.refl _ _⟩
    · have hm0 : ((m : Int) == 0) = false := beq_eq_false_iff_ne.2 (by omega)
      obtain ⟨s, hs⟩ : ∃ s, s = n + m - 1 := ⟨_, rfl⟩
      have hsb : s ≤ 140737488355328 := by omega
      have hs1 : (n : Int) + (m : Int) - 1 = (s : Int) := by omega
      have hmk := run_make_row' (P := Try.prog) 22 5 (.int .u8 0) 1 Try.underlying22 pbyte_info rfl .i64 .i64 s (by omega) (by omega)
      have HS := Lib.hid (show P.length + Q.length - 1 = s by rw [← HN.out, ← HM.out, hs])
      have hns : n ≤ s := by omega
      have hnms : n + m ≤ s + 1 := by omega
      clear hs
      have HR := Lib.hid (HPL.out (fun e => n0 (by rw [HN.out, e]; rfl)) (fun e => m0 (by rw [HM.out, e]; rfl)))
      clear HN1 HN2 HPL
      go_enter Try.func46, Try.ntmps46
      go_wp2_with fail
      refine T1.out.mono ?_
      rintro e w' ⟨rfl, rfl⟩
      go_wp2_with fail
      refine T2.out.mono ?_
      rintro e w' ⟨rfl, rfl⟩
      go_wp2
      clear hmk hs1
      go_loopw [31] (PmRel w P Q s) (fun i _ => n - (intOf i).toNat)
      case atStart =>
        refine ⟨0, Nat.zero_le _, rfl, ?_, (Below.refl _ _).alloc (Nat.le_refl _) _⟩
        rw [mulTo_zero, HS.out]
        exact Own.made w _ s hsb
      case round =>
        obtain ⟨k, hk, rfl, hown, hbel⟩ := hrel
        rw [← HN.out] at hk
        by_cases hlt : k < n
        · obtain ⟨x, b, off, hx, hxb, rfl, hb, hcell⟩ := (hP.below hbel).sl.at_ (k := k) (by rw [← HN.out]; exact hlt)
          have hF' := hF.below hbel hlf
          have hks : k < s := by omega
          have HC := Lib.hid (addTimes_any bf w.heap.size k (s - k) (s - k) w.heap.size s (mulTo P Q k) A' c' Q x hxb wr hF' (by omega) hown (by rw [mulTo_len, HS.out, ← HM.out]; omega) (by rw [← HM.out]; omega) ((hQ.below hbel).sl.away (Nat.le_refl _)) (by rw [mulTo_len, HS.out]; exact hsb))
          rw [mulTo_step hx, ← HM.out] at HC
          clear hx hown hF'
          go_wp2_with fail
          refine HC.out.mono ?_
          rintro e w2 ⟨rfl, hown2, hg2⟩
          have HB := Lib.hid (hbel.trans (Gw.Below.by hg2 hbel.size (Nat.le_refl _)))
          have HO := Lib.hid hown2
          clear hown2 hg2
          go_wp2
          go_roundw
          case rel => exact ⟨k + 1, by rw [← HN.out]; omega, by go_num, HO.out, HB.out⟩
          case measure => simp [intOf]; omega
        · obtain rfl : k = n := by omega
          have ho := hown
          rw [HN.out, mulTo_all, ← HR.out] at ho
          have HL := Lib.hid (show (tr (mul p q)).length = s by rw [HR.out, pl_len, HS.out])
          have HO := Lib.hid ho
          clear ho hown
          go_wp2
          go_ret
          exact ⟨_, s, by rw [HL.out]; rfl, HO.out, hbel⟩
theorem pmul' (bf : Nat) (A A' : Option Addr) (c c' n m : Nat) (p q : List Nat) (w : World) (hn : n = p.length) (hm : m = q.length) (hF : IsField w bf) (hp : In w w.heap.size A c p) (hq : In w w.heap.size A' c' q) (hcm : p.length + q.length ≤ 140737488355328) :
    Calls Try.prog 46 #[.pointer (some ⟨bf, 0, none⟩), .slice A n c, .slice A' m c'] w fun e w' => ∃ A2 c2, e = .returned (.slice A2 (tr (mul p q)).length c2) ∧ Gw.Own w' w.heap.size 5 A2 c2 (tr (mul p q)) ∧ Below w.heap.size w w' := by
  subst hn hm; exact pmul_any bf A A' c c' p q w hF hp hq hcm
end Go.Proofs.Ytmcfkgjkfceomaa
