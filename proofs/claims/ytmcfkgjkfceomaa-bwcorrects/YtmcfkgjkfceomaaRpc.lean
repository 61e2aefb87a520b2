/- What the definition's own Times (package shamrockref01) does: the product, without noughts at its end, in memory of its own. -/
import Derived.Deep.OwnRows
import Derived.Test.YtmcfkgjkfceomaaRpb
namespace Go.Proofs.Ytmcfkgjkfceomaa
open Go.RowKit Go.Shelf Gw Pol

/-- What stands at k when i powers of p are through, and j of q in the next one. -/
def tF (p q : List Nat) (i j k : Nat) : Nat := co (mul (p.take i) q) k ^^^ (if i ≤ k ∧ k < i + j then Gf.gm (co p i) (co q (k - i)) else 0)
def tRow (p q : List Nat) (i j : Nat) (k : Nat) : Value := .int .u8 (tF p q i j k : Int)
theorem tF_lt (p q : List Nat) (i j k : Nat) : tF p q i j k < 256 := by
  unfold tF
  refine Gf.xor_lt ((mul_bb _ _).co k) ?_
  split
  · exact Gf.gm_lt _ _
  · omega
theorem tF_zero (p q : List Nat) (i k : Nat) : tF p q i 0 k = co (mul (p.take i) q) k := by unfold tF; rw [if_neg (by omega), Nat.xor_zero]
theorem tF_all (p q : List Nat) (i k : Nat) (hi : i < p.length) : tF p q i q.length k = tF p q (i + 1) 0 k := by
  rw [tF_zero, ← take_snoc (List.getElem?_eq_getElem hi), co_mul_snoc, ← co_get hi, List.length_take, Nat.min_eq_left (by omega)]
  unfold tF
  congr 1
  by_cases h : i ≤ k
  · rw [if_pos h]
    by_cases h2 : k < i + q.length
    · rw [if_pos ⟨h, h2⟩]
    · rw [if_neg (by omega), co_far (p := q) (by omega), Gf.gm_zero_right]
  · rw [if_neg h, if_neg (by omega)]
theorem tF_step (p q : List Nat) (i j k : Nat) : (if k = i + j then Value.int .u8 ((tF p q i j (i + j) ^^^ Gf.gm (co p i) (co q j) : Nat) : Int) else tRow p q i j k) = tRow p q i (j + 1) k := by
  unfold tRow
  by_cases h : k = i + j
  · subst h
    rw [if_pos rfl]
    congr 2
    unfold tF
    rw [if_neg (by omega), if_pos (by omega), Nat.xor_zero, show i + j - i = j from by omega]
  · rw [if_neg h]
    congr 2
    unfold tF
    by_cases h2 : i ≤ k ∧ k < i + j
    · rw [if_pos h2, if_pos (by omega)]
    · rw [if_neg h2, if_neg (by omega)]

theorem rmul_still (a b : Nat) (ha : a < 256) (hb : b < 256) (w : World) : Calls Try.prog 26 #[.int .u8 (a : Int), .int .u8 (b : Int)] w fun e w' => e = .returned (.int .u8 (Gf.gm a b : Int)) ∧ w' = w :=
  (rmul_any a b ha hb w).mono fun _ _ h => ⟨h.1, h.2.symm⟩
def TOut (w : World) (p q : List Nat) (i : Value) (wr : World) : Prop :=
  ∃ k : Nat, k ≤ p.length ∧ i = .int .i64 (k : Int) ∧ Row wr w.heap.size (p.length + q.length) (tRow p q k 0) ∧ Below w.heap.size w wr ∧ w.heap.size < wr.heap.size
def TIn (w : World) (p q : List Nat) (i : Nat) (j : Value) (wr : World) : Prop :=
  ∃ k : Nat, k ≤ q.length ∧ j = .int .i64 (k : Int) ∧ Row wr w.heap.size (p.length + q.length) (tRow p q i k) ∧ Below w.heap.size w wr ∧ w.heap.size < wr.heap.size

theorem times_set {p q : List Nat} {w wr : World} {i j s x y : Nat} (hrow : Row wr w.heap.size (p.length + q.length) (tRow p q i j)) (hs2 : s < p.length + q.length) (hs : s = i + j) (hx : co p i = x) (hy : co q j = y) :
    Row (wr.setCell ⟨w.heap.size, s, none⟩ (.int .u8 ((tF p q i j s ^^^ Gf.gm x y : Nat) : Int))) w.heap.size (p.length + q.length) (tRow p q i (j + 1)) := by
  subst hs hx hy
  exact (hrow.set hs2 _).congr (fun k _ => tF_step p q i j k)
/-- The row, as a slice. -/
def tList (p q : List Nat) : List Nat := (List.range (p.length + q.length)).map (co (mul p q))
theorem tList_len (p q : List Nat) : (tList p q).length = p.length + q.length := by simp [tList]
theorem tList_tr (p q : List Nat) : tr (tList p q) = tr (mul p q) := tr_ext (fun i => by
  by_cases h : i < p.length + q.length
  · rw [co_get (by rw [tList_len]; exact h)]; simp [tList]
  · rw [co_far (by rw [tList_len]; omega), co_far (by have := mul_len p q; omega)])
theorem times_in {p q : List Nat} {w wo : World} (hrow : Row wo w.heap.size (p.length + q.length) (tRow p q p.length 0)) (hlt : w.heap.size < wo.heap.size) :
    In wo wo.heap.size (some ⟨w.heap.size, 0, none⟩) (p.length + q.length) (tList p q) := by
  refine ⟨fun i x hx => ?_, by rw [tList_len]; exact Nat.le_refl _, fun h => by cases h⟩
  have hi : i < p.length + q.length := by rw [← tList_len p q]; exact (List.getElem?_eq_some_iff.1 hx).1
  have e : x = co (mul p q) i := by simp [tList, hi] at hx; exact hx.symm
  subst e
  refine ⟨(mul_bb p q).co i, w.heap.size, 0, rfl, hlt, ?_⟩
  have := (hrow i hi).1
  unfold tRow at this
  rw [tF_zero, List.take_length] at this
  rw [Nat.zero_add]; exact this

theorem times_trim {p q : List Nat} {w wo : World} (hin : In wo wo.heap.size (some ⟨w.heap.size, 0, none⟩) (p.length + q.length) (tList p q)) (hcm : p.length + q.length ≤ 140737488355328) :
    Calls Try.prog 17 #[.slice (some ⟨w.heap.size, 0, none⟩) (p.length + q.length) (p.length + q.length)] wo fun e w' => ∃ A' c', e = .returned (.slice A' (tr (mul p q)).length c') ∧ Gw.Own w' wo.heap.size 5 A' c' (tr (mul p q)) ∧ Below wo.heap.size wo w' := by
  have h := trim_any _ _ _ _ _ hin (Nat.le_refl _) (by rw [tList_len]; exact hcm)
  rw [tList_len, tList_tr] at h
  exact h

set_option maxRecDepth 100000 in
set_option maxHeartbeats 1000000 in
theorem rtimes_any (A A' : Option Addr) (c c' : Nat) (p q : List Nat) (w : World) (hp : In w w.heap.size A c p) (hq : In w w.heap.size A' c' q) (hcm : p.length + q.length ≤ 140737488355328) :
    Calls Try.prog 38 #[.slice A p.length c, .slice A' q.length c'] w fun e w' => ∃ A2 c2, e = .returned (.slice A2 (tr (mul p q)).length c2) ∧ Gw.Own w' w.heap.size 5 A2 c2 (tr (mul p q)) ∧ Below w.heap.size w w' := by
  have hmk := run_make_row' (P := Try.prog) 22 5 (.int .u8 0) 1 Try.underlying22 byte_info rfl .i64 .i64 (p.length + q.length) (by omega) (by omega)
  have ec : ((p.length + q.length : Nat) : Int) = (p.length : Int) + (q.length : Int) := by omega
  rw [ec] at hmk
  clear ec
  go_enter Try.func38, Try.ntmps38
  go_wp2
  clear hmk
  go_loopw [6] (TOut w p q) (fun i _ => p.length - (intOf i).toNat)
  case atStart =>
    refine ⟨0, Nat.zero_le _, rfl, Row.new w _ 5 _ _ (fun o ho => ?_), (Below.refl _ _).alloc (Nat.le_refl _) _, by simp⟩
    have e : tF p q 0 0 o = 0 := by rw [tF_zero]; simp [mul, co_nil]
    unfold tRow; rw [e]; simp [madeCells, ho, Nat.mod_one]
  case round =>
    obtain ⟨i, hi, rfl, hrow, hbel, hlt⟩ := hrel
    obtain ⟨wo, rfl⟩ : ∃ wo : World, wo = wr := ⟨_, rfl⟩
    have hP := (hp.below hbel).sl
    by_cases hip : i < p.length
    · obtain ⟨x, b, off, hx, hxb, rfl, hb, hcell⟩ := hP.at_ hip
      go_wp2
      go_loopw [7] (TIn w p q i) (fun j _ => q.length - (intOf j).toNat)
      case atStart => exact ⟨0, Nat.zero_le _, rfl, hrow, hbel, hlt⟩
      case round =>
        obtain ⟨j, hj, rfl, hrow2, hbel2, hlt2⟩ := hrel
        by_cases hjq : j < q.length
        · obtain ⟨y, b2, off2, hy, hyb, rfl, hb2, hcell2⟩ := (hq.below hbel2).sl.at_ hjq
          have hcellx : wr.cell? ⟨b, off + i, none⟩ = some (.int .u8 (x : Int)) := by
            obtain ⟨x', b', off', hx', _, e', _, hc'⟩ := (hp.below hbel2).sl.at_ hip
            rw [hx] at hx'; injection hx' with hx'; subst hx'
            injection e' with e'; injection e' with e1 e2; subst e1 e2; exact hc'
          obtain ⟨s, hs⟩ : ∃ s : Nat, s = i + j := ⟨_, rfl⟩
          have hs1 : IntKind.i64.wrap ((i : Int) + (j : Int)) = (s : Int) := by rw [IntKind.wrap_i64]; omega
          have hs2 : s < p.length + q.length := by omega
          have hs3 : (s : Int) < (p.length : Int) + (q.length : Int) := by omega
          have ho := hrow2 s hs2
          have HX := Lib.hid (co_of hx)
          have HY := Lib.hid (co_of hy)
          have HS := Lib.hid hs
          have hxor : bits .xor .u8 (tF p q i j s : Int) (Gf.gm x y : Int) = ((tF p q i j s ^^^ Gf.gm x y : Nat) : Int) := u8_xor_nat _ _ (tF_lt _ _ _ _ _) (Gf.gm_lt _ _)
          clear hs hx hy
          have ho1 := ho.1
          have ho2 := ho.2
          unfold tRow at ho1
          clear ho
          go_wp2
          go_still_tail 21, (by kernel_rfl)
          still_call (rmul_still x y hxb hyb _)
          repeat still_step
          refine wpStill_nil ?_
          change wpList _ _ _ _ _ wr.drew
          have hset := Lib.hid (times_set hrow2 hs2 HS.out HX.out HY.out)
          have hbel3 := Lib.hid (hbel2.setCell (p := ⟨w.heap.size, s, none⟩) (Nat.le_refl _) (.int .u8 ((tF p q i j s ^^^ Gf.gm x y : Nat) : Int)))
          clear hs1 hrow2
          go_wp2
          go_roundw
          case rel => exact ⟨j + 1, by omega, by go_num, hset.out, ⟨hbel3.out.os, hbel3.out.tape, hbel3.out.output, hbel3.out.size, hbel3.out.block⟩, by simpa using hlt2⟩
          case measure => simp [intOf]; omega
        · obtain rfl : j = q.length := by omega
          have hrow3 := Lib.hid (hrow2.congr (g := tRow p q (i + 1) 0) (fun k _ => by unfold tRow; rw [tF_all p q i k hip]))
          clear hrow2
          go_wp2
          go_roundw
          case rel => exact ⟨i + 1, by omega, by go_num, hrow3.out, hbel2, hlt2⟩
          case measure => simp [intOf]; omega
    · obtain rfl : i = p.length := by omega
      have hT := times_trim (times_in hrow hlt) hcm
      have HT := Lib.hid hT
      clear hP hT
      go_wp2_with fail
      refine HT.out.mono ?_
      rintro e w' ⟨A2, c2, rfl, hown2, hb2⟩
      go_wp2
      go_ret
      exact ⟨A2, c2, rfl, hown2.base (by omega), hbel.trans (hb2.mono (by omega))⟩
end Go.Proofs.Ytmcfkgjkfceomaa
