import Derived.Shelf.Sort.Plain
import Derived.Shelf.Slices.Turned
import Derived.Shelf.Slices.CompactI
import Derived.Shelf.Slices.In.SortNone
import Derived.Sort.OwnSortedInts
import Derived.Lib.RowBridge
import Derived.Test.YtgikgnhpplmljaaProg
import Derived.Test.YtgikgnhpplmljaaJ4
import Derived.Test.YtgikgnhpplmljaaJ6
import Derived.Test.YtgikgnhpplmljaaJ10
import Derived.Test.YtgikgnhpplmljaaJ11
section
/- The contracts of slices that lie in the library, at this program. -/
namespace Go.Proofs.Ytgikgnhpplmljaa
open Go.Shelf
def shl189_ren : Go.Shelf.Ren := ⟨fun | 189 => 28 | 125 => 56 | 257 => 55 | 128 => 85 | 129 => 86 | 294 => 76 | 295 => 77 | 296 => 78 | 297 => 79 | 298 => 80 | 299 => 81 | 216 => 82 | 300 => 83 | 301 => 84 | 328 => 97 | 329 => 98 | 330 => 99 | 331 => 100 | 332 => 101 | 215 => 102 | 343 => 106 | n => n, fun | 28 => 24 | 3 => 3 | 46 => 84 | 0 => 0 | 51 => 117 | 53 => 119 | 4 => 4 | 183 => 109 | 182 => 108 | 131 => 114 | 5 => 5 | 9 => 9 | 218 => 128 | 222 => 132 | 228 => 135 | 229 => 136 | n => n, fun | n => n⟩
theorem shl189 : Go.Proofs.Lays.n189 Try.prog shl189_ren := {
  mixed := by kernel_rfl
  f125 := Try.func56.trans (congrArg some (by kernel_rfl))
  f128 := Try.func85.trans (congrArg some (by kernel_rfl))
  f129 := Try.func86.trans (congrArg some (by kernel_rfl))
  f189 := Try.func28.trans (congrArg some (by kernel_rfl))
  f215 := Try.func102.trans (congrArg some (by kernel_rfl))
  f216 := Try.func82.trans (congrArg some (by kernel_rfl))
  f257 := Try.func55.trans (congrArg some (by kernel_rfl))
  f294 := Try.func76.trans (congrArg some (by kernel_rfl))
  f295 := Try.func77.trans (congrArg some (by kernel_rfl))
  f296 := Try.func78.trans (congrArg some (by kernel_rfl))
  f297 := Try.func79.trans (congrArg some (by kernel_rfl))
  f298 := Try.func80.trans (congrArg some (by kernel_rfl))
  f299 := Try.func81.trans (congrArg some (by kernel_rfl))
  f300 := Try.func83.trans (congrArg some (by kernel_rfl))
  f301 := Try.func84.trans (congrArg some (by kernel_rfl))
  f328 := Try.func97.trans (congrArg some (by kernel_rfl))
  f329 := Try.func98.trans (congrArg some (by kernel_rfl))
  f330 := Try.func99.trans (congrArg some (by kernel_rfl))
  f331 := Try.func100.trans (congrArg some (by kernel_rfl))
  f332 := Try.func101.trans (congrArg some (by kernel_rfl))
  f343 := Try.func106.trans (congrArg some (by kernel_rfl))
  t0 := Try.underlying0
  a0 := Try.isAgg0
  z0 := Try.sizeOf0
  v0 := Try.zeroValue0
  t3 := Try.underlying3
  a3 := Try.isAgg3
  z3 := Try.sizeOf3
  v3 := Try.zeroValue3
  t4 := Try.underlying4
  a4 := Try.isAgg4
  z4 := Try.sizeOf4
  v4 := Try.zeroValue4
  t5 := Try.underlying5
  a5 := Try.isAgg5
  z5 := Try.sizeOf5
  v5 := Try.zeroValue5
  t9 := Try.underlying9
  a9 := Try.isAgg9
  z9 := Try.sizeOf9
  v9 := Try.zeroValue9
  t28 := Try.underlying24
  a28 := Try.isAgg24
  z28 := Try.sizeOf24
  v28 := Try.zeroValue24
  t46 := Try.underlying84
  a46 := Try.isAgg84
  z46 := Try.sizeOf84
  v46 := Try.zeroValue84
  t51 := Try.underlying117
  a51 := Try.isAgg117
  z51 := Try.sizeOf117
  v51 := Try.zeroValue117
  t53 := Try.underlying119
  a53 := Try.isAgg119
  z53 := Try.sizeOf119
  v53 := Try.zeroValue119
  t131 := Try.underlying114
  a131 := Try.isAgg114
  z131 := Try.sizeOf114
  v131 := Try.zeroValue114
  t182 := Try.underlying108
  a182 := Try.isAgg108
  z182 := Try.sizeOf108
  v182 := Try.zeroValue108
  t183 := Try.underlying109
  a183 := Try.isAgg109
  z183 := Try.sizeOf109
  v183 := Try.zeroValue109
  t218 := Try.underlying128
  a218 := Try.isAgg128
  z218 := Try.sizeOf128
  v218 := Try.zeroValue128
  t222 := Try.underlying132
  a222 := Try.isAgg132
  z222 := Try.sizeOf132
  v222 := Try.zeroValue132
  t228 := Try.underlying135
  a228 := Try.isAgg135
  z228 := Try.sizeOf135
  v228 := Try.zeroValue135
  t229 := Try.underlying136
  a229 := Try.isAgg136
  z229 := Try.sizeOf136
  v229 := Try.zeroValue136 }
open Go.Sort Go.RowKit in
theorem slices_Sort_int (blk off cap : Nat) (zs : List Int) (w : World) (hH : Holds (Value.int .i64) w blk off zs.toArray) (hblk : blk < w.heap.size) (hsz : zs.length < 4611686018427387904) :
    Calls Try.prog 28 #[.slice (some ⟨blk, off, none⟩) zs.length cap] w fun e w' =>
      e = .returned (.tuple #[]) ∧ ∃ n os, w' = grow (putRow (Value.int .i64) (Sort.ahead w n) blk off (zs.mergeSort fun x y => decide (x ≤ y)).toArray) os := Any.slices_Sort_int shl189 blk off cap zs w hH hblk hsz
def shl107_ren : Go.Shelf.Ren := ⟨fun | 107 => 50 | 108 => 69 | n => n, fun | 28 => 24 | 3 => 3 | 4 => 4 | 0 => 0 | n => n, fun | n => n⟩
theorem shl107 : Go.Proofs.Lays.n107 Try.prog shl107_ren := {
  mixed := by kernel_rfl
  f107 := Try.func50.trans (congrArg some (by kernel_rfl))
  f108 := Try.func69.trans (congrArg some (by kernel_rfl))
  t0 := Try.underlying0
  a0 := Try.isAgg0
  z0 := Try.sizeOf0
  v0 := Try.zeroValue0
  t3 := Try.underlying3
  a3 := Try.isAgg3
  z3 := Try.sizeOf3
  v3 := Try.zeroValue3
  t4 := Try.underlying4
  a4 := Try.isAgg4
  z4 := Try.sizeOf4
  v4 := Try.zeroValue4
  t28 := Try.underlying24
  a28 := Try.isAgg24
  z28 := Try.sizeOf24
  v28 := Try.zeroValue24 }
open Go.Lib in
theorem slices_Contains_int (b off n c : Nat) (zs : List Int) (x : Int) (w : World) (hz : n ≤ zs.length) (hbig : n ≤ 9223372036854775807) (hc : ∀ j, j < zs.length → w.cell? ⟨b, off + j, none⟩ = some (.int .i64 (zs.getD j 0))) :
    Calls Try.prog 50 #[.slice (some ⟨b, off, none⟩) n c, .int .i64 x] w fun e w' => e = .returned (.bool ((zs.take n).contains x)) ∧ w' = w := Any.slices_Contains_int shl107 b off n c zs x w hz hbig hc
open Go.Lib in
theorem slices_Contains_int_empty (a : Option Addr) (c : Nat) (x : Int) (w : World) :
    Calls Try.prog 50 #[.slice a 0 c, .int .i64 x] w fun e w' => e = .returned (.bool false) ∧ w' = w := Any.slices_Contains_int_empty shl107 a c x w
def shlNm220_ren : Go.Shelf.Ren := ⟨fun | 20 => 29 | n => n, fun | 22 => 24 | 3 => 3 | 4 => 4 | 0 => 0 | n => n, fun | n => n⟩
theorem shlNm220 : Go.Proofs.Lays2.n20 Try.prog shlNm220_ren := {
  mixed := by kernel_rfl
  f20 := Try.func29.trans (congrArg some (by kernel_rfl))
  t0 := Try.underlying0
  a0 := Try.isAgg0
  z0 := Try.sizeOf0
  v0 := Try.zeroValue0
  t3 := Try.underlying3
  a3 := Try.isAgg3
  z3 := Try.sizeOf3
  v3 := Try.zeroValue3
  t4 := Try.underlying4
  a4 := Try.isAgg4
  z4 := Try.sizeOf4
  v4 := Try.zeroValue4
  t22 := Try.underlying24
  a22 := Try.isAgg24
  z22 := Try.sizeOf24
  v22 := Try.zeroValue24
  i3 := by kernel_rfl }
open Go.RowKit Go.Lib Go.Sort in
theorem slices_Compact_int (blk off cap : Nat) (zs : List Int) (w : World) (hH : Holds (Value.int .i64) w blk off zs.toArray) (hsz : zs.length ≤ 9223372036854775807) (hcap : zs.length ≤ cap) :
    Calls Try.prog 29 #[.slice (some ⟨blk, off, none⟩) zs.length cap] w fun e w' => e = .returned (.slice (some ⟨blk, off, none⟩) (Lib.compact zs).length cap) ∧ ∃ q, w' = putRow (Value.int .i64) (Sort.ahead w q) blk off (Lib.compact zs ++ List.replicate (zs.length - (Lib.compact zs).length) 0).toArray := Any.slices_Compact_int shlNm220 blk off cap zs w hH hsz hcap
open Go.RowKit Go.Lib Go.Sort in
theorem slices_Compact_int_empty (a : Option Addr) (cap : Nat) (w : World) :
    Calls Try.prog 29 #[.slice a 0 cap] w fun e w' => e = .returned (.slice a 0 cap) ∧ w' = w := Any.slices_Compact_int_empty shlNm220 a cap w
open Go.RowKit Go.Sort in
theorem slices_Sort_int_none (p : Option Addr) (cap : Nat) (w : World) :
    Calls Try.prog 28 #[.slice p 0 cap] w fun e w' => e = .returned (.tuple #[]) ∧ w' = w := Any.slices_Sort_int_none shl189 p cap w
end Go.Proofs.Ytgikgnhpplmljaa
end
section
/- open: holds, enough, column. -/
namespace Go.Proofs.Ytgikgnhpplmljaa
open Go.RowKit Go.Shelf Gw Pol
theorem oholds_any (N T K E R x : Int) (b : Bool) (hb : b = decide (0 ≤ x ∧ x < N)) (w : World) :
    Calls Try.prog 40 #[pv N T K E R, .int .i64 x] w fun e w' => e = .returned (.bool b) ∧ Below w.heap.size w w' := by
  have hb1 : Below w.heap.size w (w.alloc (.cells #[.int .i64 N, .int .i64 T, .int .i64 K, .int .i64 E, .int .i64 R] 23)) := (Below.refl _ w).alloc (Nat.le_refl _) _
  by_cases h0 : 0 ≤ x
  · have d0 : decide (0 ≤ x) = true := decide_eq_true h0
    by_cases h1 : x < N
    · have HB := Lib.hid (show b = true by rw [hb]; exact decide_eq_true ⟨h0, h1⟩)
      have d1 : decide (x < N) = true := decide_eq_true h1
      clear hb
      go_enter Try.func40, Try.ntmps40
      go_wp2
      go_ret
      exact ⟨by rw [HB.out]; rfl, hb1⟩
    · have HB := Lib.hid (show b = false by rw [hb]; exact decide_eq_false (by omega))
      have d1 : decide (x < N) = false := decide_eq_false h1
      clear hb
      go_enter Try.func40, Try.ntmps40
      go_wp2
      go_ret
      exact ⟨by rw [HB.out]; rfl, hb1⟩
  · have HB := Lib.hid (show b = false by rw [hb]; exact decide_eq_false (by omega))
    have d0 : decide (0 ≤ x) = false := decide_eq_false h0
    clear hb
    go_enter Try.func40, Try.ntmps40
    go_wp2
    go_ret
    exact ⟨by rw [HB.out]; rfl, hb1⟩
def EpO (w1 : World) (n : Nat) (C : Int) (z : List Int) (l : Nat → List Nat) (i : Value) (wr : World) : Prop := ∃ q : Nat, q ≤ z.length ∧ i = .int .i64 (q : Int) ∧ EnTo n C z l q ∧ Below w1.heap.size w1 wr
set_option maxRecDepth 100000 in
set_option maxHeartbeats 4000000 in
theorem oenough_any (n t k e R : Nat) (Q : Int) (htk : t + k ≤ 255) (he : e ≤ 255) (C : Int) (hC0 : 0 ≤ C) (A A' : Option Addr) (cA cR N : Nat) (z : List Int) (hN : N = z.length) (pa : Nat → Option Addr) (cp : Nat → Nat) (l : Nat → List Nat) (w : World) (hI : InZ w w.heap.size A cA z) (hM : MIn w w.heap.size A' cR R pa cp l) (hNb : N ≤ 17592186043904) (hRb : R ≤ 17592186043904) :
    Calls Try.prog 24 #[pv (n : Int) (t : Int) (k : Int) (e : Int) Q, .int .i64 C, .slice A N cA, .slice A' R cR] w (EnAns n t k e R C z l w) := by
  obtain ⟨w1, hw1⟩ : ∃ w1, w1 = w.alloc (.cells #[.int .i64 (n : Int), .int .i64 (t : Int), .int .i64 (k : Int), .int .i64 (e : Int), .int .i64 Q] 23) := ⟨_, rfl⟩
  have hb1 : Below w.heap.size w w1 := by rw [hw1]; exact (Below.refl _ w).alloc (Nat.le_refl _) _
  have HPB : Hid (Pbx w1 w.heap.size n t k e Q) := Lib.hid (by rw [hw1]; exact Pbx.new w _ _ _ _ _ _)
  have HB1 := Lib.hid hb1
  have HN := Lib.hid hN
  clear hb1
  by_cases hlen : N = R
  rotate_left
  · have hne : ((N : Int) != (R : Int)) = true := by simp; omega
    have HF := Lib.hid (show ¬ Eno n t k e C z R l from fun h => hlen (by rw [HN.out]; exact h.len))
    clear hlen hN
    go_enter Try.func24, Try.ntmps24
    go_wp2
    rw [← hw1]
    go_ret
    exact ⟨false, rfl, ⟨fun h => (by cases h), fun h => absurd h HF.out⟩, HB1.out⟩
  subst hlen
  obtain ⟨s, hs⟩ : ∃ s, s = t + k := ⟨_, rfl⟩
  obtain ⟨m, hm⟩ : ∃ m, m = s + e := ⟨_, rfl⟩
  have e1 : (t : Int) + (k : Int) = (s : Int) := by omega
  have e2 : (s : Int) + (e : Int) = (m : Int) := by omega
  by_cases hmany : N < m
  · have HF := Lib.hid (show ¬ Eno n t k e C z N l from fun h => by have := h.many; omega)
    have hmi : (N : Int) < (m : Int) := by omega
    obtain ⟨c0, c1, c2, c3, c4⟩ := HPB.out
    rw [hw1] at c0 c1 c2 c3 c4
    clear hN hs hm hmany
    go_enter Try.func24, Try.ntmps24
    go_wp2
    rw [← hw1]
    go_ret
    exact ⟨false, rfl, ⟨fun h => (by cases h), fun h => absurd h HF.out⟩, HB1.out⟩
  have hmi : ¬ ((N : Int) < (m : Int)) := by omega
  obtain ⟨c0, c1, c2, c3, c4⟩ := HPB.out
  rw [hw1] at c0 c1 c2 c3 c4
  have HMANY := Lib.hid (show t + k + e ≤ N by omega)
  have hcapA := hI.cap
  rw [← hN] at hcapA
  have hcapR := hM.cap
  have HI := Lib.hid hI
  have HM := Lib.hid hM
  clear hN hs hm hmany hI hM
  go_enter Try.func24, Try.ntmps24
  go_wp2
  rw [← hw1]
  clear c0 c1 c2 c3 c4 hw1
  go_loopw [31] (EpO w1 n C z l) (fun i _ => N - (intOf i).toNat)
  case atStart => exact ⟨0, Nat.zero_le _, rfl, fun i h => absurd h (by omega), Below.refl _ _⟩
  case round =>
    obtain ⟨q, hq, rfl, hto, hbr⟩ := hrel
    rw [← HN.out] at hq
    have HBR := Lib.hid (HB1.out.trans (hbr.mono HB1.out.size))
    have HB := Lib.hid hbr
    by_cases hlt : q < N
    · have hqz : q < z.length := by rw [← HN.out]; exact hlt
      obtain ⟨hwf, b, off, hA, hb, hcell⟩ := (HI.out.below HBR.out).sl q z[q] (List.getElem?_eq_getElem hqz)
      obtain ⟨b2, off2, hA2, hb2, hcell2, hrow⟩ := (HM.out.below HBR.out).rd q hlt
      subst hA hA2
      have hgd : z.getD q 0 = z[q] := by simp [hqz]
      obtain ⟨x, hx⟩ : ∃ x, x = z[q] := ⟨_, rfl⟩
      rw [← hx] at hcell hgd hwf
      obtain ⟨nl, hnl⟩ : ∃ nl, nl = (l q).length := ⟨_, rfl⟩
      rw [← hnl] at hcell2
      have HPR := Lib.hid (HPB.out.below HB.out HPB.out.lt)
      obtain ⟨p0, p1, p2, p3, p4⟩ := HPR.out
      have hqi : (q : Int) < (N : Int) := by omega
      have hqc : q ≤ cA := by omega
      have HTO := Lib.hid hto
      have HGD := Lib.hid hgd
      have HNL := Lib.hid hnl
      have HBX := Lib.hid hb
      have HB2X := Lib.hid hb2
      have HX := Lib.hid hx
      clear hto hgd hx hnl hrow hbr
      by_cases h0 : 0 ≤ x ∧ x < (n : Int)
      rotate_left
      · have HF := Lib.hid (show ¬ Eno n t k e C z N l from fun h => by have h1 := (h.at_ q hlt).1; have h2 := (h.at_ q hlt).2.1; rw [HGD.out] at h1 h2; exact h0 ⟨h1, h2⟩)
        have HH := Lib.hid (oholds_any n t k e Q x false (decide_eq_false h0).symm wr)
        clear h0
        go_wp2_with fail
        refine HH.out.mono ?_
        rintro en w2 ⟨rfl, hb2⟩
        have HB2 := Lib.hid (HBR.out.trans (hb2.mono HBR.out.size))
        clear hb2 HH p0 p1 p2 p3 p4 hcell hcell2
        go_wp2
        go_ret
        exact ⟨false, rfl, ⟨fun h => (by cases h), fun h => absurd h HF.out⟩, HB2.out⟩
      have H0 := Lib.hid h0
      have HH := Lib.hid (oholds_any n t k e Q x true (decide_eq_true h0).symm wr)
      clear h0
      go_wp2_with fail
      refine HH.out.mono ?_
      rintro en w2 ⟨rfl, hbb⟩
      have HB2 := Lib.hid (HBR.out.trans (hbb.mono HBR.out.size))
      have HB12 := Lib.hid (HB.out.trans (hbb.mono HB.out.size))
      have hcell3 := (hbb.cell (p := ⟨b2, off2 + q, none⟩) (cell_lt hcell2)).trans hcell2
      have HCT := Lib.hid (slices_Contains_int b off q cA z x w2 (by omega) (by omega) (fun j hj => by
        obtain ⟨_, b', off', hA', _, hc'⟩ := (HI.out.below HB2.out).sl j z[j] (List.getElem?_eq_getElem hj)
        injection hA' with hA'
        injection hA' with e1 e2
        subst e1 e2
        rw [hc', show z.getD j 0 = z[j] by simp [hj]]))
      clear hbb HH p0 p1 p2 p3 p4 hcell hcell2
      by_cases hct : (z.take q).contains x = true
      · rw [hct] at HCT
        have HF := Lib.hid (show ¬ Eno n t k e C z N l from fun h => by
          have h1 := List.elem_iff.1 hct
          obtain ⟨j, hj, e'⟩ := List.getElem_of_mem h1
          have hj' : j < q := by simp at hj; omega
          have h2 := (h.at_ q hlt).2.2.2 j hj'
          rw [HGD.out] at h2
          simp at e'
          exact h2 (by simp [show j < z.length by omega, e']))
        clear hct
        go_wp2_with fail
        refine HCT.out.mono ?_
        rintro en _ ⟨rfl, rfl⟩
        go_wp2
        go_ret
        exact ⟨false, rfl, ⟨fun h => (by cases h), fun h => absurd h HF.out⟩, HB2.out⟩
      have hct' : (z.take q).contains x = false := by simpa using hct
      rw [hct'] at HCT
      have HUN := Lib.hid (show ∀ j, j < q → z.getD j 0 ≠ z.getD q 0 from fun j hj e' => hct (List.elem_iff.2 (by
        rw [HGD.out] at e'
        rw [← e', List.mem_take_iff_getElem]
        exact ⟨j, by omega, by simp [show j < z.length by omega]⟩)))
      clear hct hct'
      by_cases h2 : (nl : Int) = C
      rotate_left
      · have HF := Lib.hid (show ¬ Eno n t k e C z N l from fun h => by have := (h.at_ q hlt).2.2.1; rw [← HNL.out] at this; exact h2 this)
        have hne : ((nl : Int) != C) = true := by simp [h2]
        clear h2
        go_wp2_with fail
        refine HCT.out.mono ?_
        rintro en _ ⟨rfl, rfl⟩
        go_wp2
        go_ret
        exact ⟨false, rfl, ⟨fun h => (by cases h), fun h => absurd h HF.out⟩, HB2.out⟩
      have hne : ((nl : Int) != C) = false := by simp [h2]
      have H2 := Lib.hid h2
      clear h2
      go_wp2_with fail
      refine HCT.out.mono ?_
      rintro en _ ⟨rfl, rfl⟩
      go_wp2
      go_roundw
      case rel => exact ⟨q + 1, by rw [← HN.out]; omega, by go_num, fun i hi => by
        by_cases e' : i = q
        · subst e'; exact ⟨by rw [HGD.out]; exact H0.out.1, by rw [HGD.out]; exact H0.out.2, by rw [← HNL.out]; exact H2.out, HUN.out⟩
        · exact HTO.out i (by omega), HB12.out⟩
      case measure => simp [intOf]; omega
    · obtain rfl : q = N := by omega
      have HE : Hid (Eno n t k e C z q l) := Lib.hid (by
        have h1 : EnTo n C z l z.length := by rw [← HN.out]; exact hto
        exact h1.eno HN.out.symm (by rw [← HN.out]; exact HMANY.out) hC0)
      clear hto
      go_wp2
      go_ret
      exact ⟨true, rfl, ⟨fun _ => HE.out, fun _ => rfl⟩, HBR.out⟩
/-- Column c of some rows. -/
def OcI (w : World) (R c : Nat) (l : Nat → List Nat) (i : Value) (wr : World) : Prop :=
  ∃ q : Nat, q ≤ R ∧ i = .int .i64 (q : Int) ∧ Gw.Own wr w.heap.size 5 (some ⟨w.heap.size, 0, none⟩) R (fp (fun j => co (l j) c) R q) ∧ Below w.heap.size w wr
set_option maxRecDepth 100000 in
set_option maxHeartbeats 1000000 in
theorem ocolumn_any (A : Option Addr) (cR R c : Nat) (pa : Nat → Option Addr) (cp : Nat → Nat) (l : Nat → List Nat) (w : World) (hM : MIn w w.heap.size A cR R pa cp l) (hl : ∀ i, i < R → c < (l i).length) (hRb : R ≤ 17592186043904) :
    Calls Try.prog 27 #[.slice A R cR, .int .i64 (c : Int)] w fun en w' => ∃ A2 c2, en = .returned (.slice A2 R c2) ∧ Gw.Own w' w.heap.size 5 A2 c2 (colR l R c) ∧ Below w.heap.size w w' := by
  have hmk := run_make_row' (P := Try.prog) 36 5 (.int .u8 0) 1 Try.underlying36 pbyte_info rfl .i64 .i64 R (by omega) (by omega)
  have hO := Own.made w 5 R (by omega)
  rw [← fp_zero (fun j => co (l j) c) R] at hO
  have hB : Below w.heap.size w (w.alloc (.cells (madeCells #[.int .u8 0] R) 5)) := (Below.refl _ _).alloc (Nat.le_refl _) _
  have hcap := hM.cap
  have HM := Lib.hid hM
  have HL := Lib.hid hl
  clear hM hl
  go_enter Try.func27, Try.ntmps27
  go_wp2
  clear hmk
  go_loopw [13] (OcI w R c l) (fun i _ => R - (intOf i).toNat)
  case atStart => exact ⟨0, Nat.zero_le _, rfl, hO, hB⟩
  case round =>
    clear hO hB
    obtain ⟨q, hq, rfl, hown, hbr⟩ := hrel
    by_cases hlt : q < R
    · have hc := hown.cell (k := q) (by rw [fp_len]; exact hlt)
      have hf := hown.frozen q
      obtain ⟨b2, off2, hA2, hb2, hcell2, hrow⟩ := (HM.out.below hbr).rd q hlt
      subst hA2
      have hlc := HL.out q hlt
      obtain ⟨hy, b3, off3, hA3, hb3, hcell3⟩ := hrow.sl c (l q)[c] (List.getElem?_eq_getElem hlc)
      rw [hA3] at hcell2
      have hcap3 := hrow.cap
      obtain ⟨y, hye⟩ : ∃ y, y = (l q)[c] := ⟨_, rfl⟩
      obtain ⟨nl, hnl⟩ : ∃ nl, nl = (l q).length := ⟨_, rfl⟩
      rw [← hye] at hcell3 hy
      rw [← hnl] at hcell2 hlc hcap3
      have hci : (c : Int) < (nl : Int) := by omega
      have HO := Lib.hid (hown.put (k := q) (by rw [fp_len]; exact hlt) (y := y) hy)
      rw [fp_set (f := fun j => co (l j) c) (by show y = co (l q) c; rw [hye]; simp [co, HL.out q hlt])] at HO
      have HB := Lib.hid (hbr.setCell (p := ⟨w.heap.size, q, none⟩) (Nat.le_refl _) (.int .u8 (y : Int)))
      clear hown hrow hye hnl hA3
      go_wp2
      go_roundw
      case rel => exact ⟨q + 1, by omega, by go_num, HO.out, HB.out⟩
      case measure => simp [intOf]; omega
    · obtain rfl : q = R := by omega
      rw [fp_all] at hown
      have HO := Lib.hid hown
      clear hown
      go_wp2
      go_ret
      exact ⟨_, _, rfl, HO.out, hbr⟩
end Go.Proofs.Ytgikgnhpplmljaa
end
section
/- slices.Sort and slices.Compact at a row of ints of the call's own. -/
namespace Gw
open Go Go.RowKit Go.Shelf
theorem GrowL.by {w wr W : World} {te tb : TypeId} {v : Value} {k : Nat} {pa : Nat → Option Addr} {cp : Nat → Nat} {l : Nat → List Nat} {row : Option Nat} (h : GrowL w wr te tb v k pa cp l) (hg : wr.grownBy W row) (hr : ∀ r, row = some r → w.heap.size ≤ r ∧ ∃ cs e', wr.heap[r]? = some (.cells cs e' (0, 0)) ∧ e' ≠ te ∧ e' ≠ tb) : GrowL w W te tb v k pa cp l := by
  have hne : ∀ {u : Value} {n base : Nat} {e : TypeId} {xs : List Value}, (e = te ∨ e = tb) → wr.ownsRow base e 1 u n xs → ∀ r, row = some r → u.ownBlock ≠ some r := fun {u n base e xs} he ho r e1 hb => by
    obtain ⟨_, cs, e', h1, h2, h3⟩ := hr r e1
    obtain ⟨_, _, cs', h4⟩ := owns_blk ho hb
    rw [h1] at h4
    injection h4 with h4
    injection h4 with _ h4
    rcases he with rfl | rfl
    · exact h2 h4
    · exact h3 h4
  exact ⟨owns_by h.own hg (hne (.inl rfl) h.own), fun i hi => ⟨owns_by (h.row i hi).1 hg (hne (.inr rfl) (h.row i hi).1), (h.row i hi).2⟩, h.dis, h.bel.grown hg h.bel.size fun r e1 => (hr r e1).1⟩
/-- A row of whatever ints of the call's own. -/
def OwnZ (w : World) (base : Nat) (e : TypeId) (A : Option Addr) (c : Nat) (M : List Int) : Prop := w.ownsRow base e 1 (.slice A M.length c) M.length (M.map (Value.int .i64))
end Gw
namespace Pol
theorem ints_intv (L : List Nat) : (ints L).map (Go.Value.int .i64) = Gw.intv L := by simp [ints, Gw.intv]
end Pol
namespace Go.Proofs.Ytgikgnhpplmljaa
open Go.RowKit Go.Shelf Gw Pol Go.Lib Go.Sort
theorem grow_none (w : World) : grow w #[] = w := by simp [grow]
theorem sort_own (A : Option Addr) (c n : Nat) (L : List Nat) (base : Nat) (w : World) (h : OwnJ w base 3 A c L) (hn : n = L.length) (hl : L.length < 4611686018427387904) :
    Calls Try.prog 28 #[.slice A n c] w fun en w' => en = .returned (.tuple #[]) ∧ OwnZ w' base 3 A c ((ints L).mergeSort fun x y => decide (x ≤ y)) ∧ w.grownBy w' (Value.slice A n c).ownBlock := by
  subst hn
  have hl2 : ((ints L).mergeSort fun x y => decide (x ≤ y)).length = L.length := by rw [List.length_mergeSort, ints_len]
  rcases h.2 with ⟨hv, h0⟩ | ⟨g, cap, cur, hv, hb, hg, h1, h2, h3, h4⟩
  · have hL : L = [] := List.length_eq_zero_iff.1 h0
    subst hL
    refine (slices_Sort_int_none A c w).mono ?_
    rintro en _ ⟨rfl, rfl⟩
    refine ⟨rfl, ?_, ⟨rfl, rfl, rfl, Nat.le_refl _, fun _ _ _ => rfl⟩⟩
    unfold OwnZ
    simp [ints]
    simpa [OwnJ, intv] using h
  · injection hv with hA _ hc
    subst hA hc
    have hz : (ints L).length = L.length := ints_len L
    have ht : cur.toList.take (ints L).length = (ints L).map (Value.int .i64) := by
      rw [hz, ints_intv, ← h4, Nat.mul_one]
    have hgl := (Array.getElem?_eq_some_iff.1 hg).1
    have hS := slices_Sort_int g 0 c (ints L) w (holds_of_blockI hg ht) hgl (by rw [hz]; exact hl)
    rw [hz] at hS
    refine hS.mono ?_
    rintro en _ ⟨rfl, m, os, rfl⟩
    refine ⟨rfl, ?_, grownBy_sortedI _⟩
    have hO := ownsRow_sortedI (w := w) (base := base) (g := g) (cap := c) (n := m) (e := 3) (os := os) (cur := cur) (ss := ints L) (ts := (ints L).mergeSort fun x y => decide (x ≤ y)) (by rw [List.length_mergeSort]) hb hg (by rw [hz]; exact h1) h2 h3
    unfold OwnZ
    rw [hl2]
    rw [hz] at hO
    exact hO
theorem compact_own (A : Option Addr) (c n m : Nat) (M : List Int) (K : List Nat) (base : Nat) (w : World) (h : OwnZ w base 3 A c M) (hn : n = M.length) (hK : compact M = ints K) (hm : m = K.length) :
    Calls Try.prog 29 #[.slice A n c] w fun en w' => en = .returned (.slice A m c) ∧ InJ w' A c K ∧ w.grownBy w' (Value.slice A n c).ownBlock := by
  subst hn
  have hKl : (compact M).length = K.length := by rw [hK, ints_len]
  rcases h.2 with ⟨hv, h0⟩ | ⟨g, cap, cur, hv, hb, hg, h1, h2, h3, h4⟩
  · have hM : M = [] := List.length_eq_zero_iff.1 h0
    subst hM
    have hK0 : K = [] := List.length_eq_zero_iff.1 (by rw [← hKl]; rfl)
    subst hK0 hm
    refine (slices_Compact_int_empty A c w).mono ?_
    rintro en _ ⟨rfl, rfl⟩
    refine ⟨rfl, ⟨fun i x hx => (by simp at hx), Nat.zero_le _, fun hA => ?_⟩, ⟨rfl, rfl, rfl, Nat.le_refl _, fun _ _ _ => rfl⟩⟩
    injection hv
  · injection hv with hA _ hc
    subst hA hc
    have hle := compact_length_le M
    have hC := slices_Compact_int g 0 c M w (holds_of_blockI hg (by rw [← h4, Nat.mul_one])) (by simp only [maxLen] at h2; omega) h1
    rw [hKl] at hC hle
    rw [← hm] at hC
    refine hC.mono ?_
    rintro en _ ⟨rfl, q, rfl⟩
    obtain ⟨T, hT⟩ : ∃ T, T = compact M ++ List.replicate (M.length - K.length) 0 := ⟨_, rfl⟩
    have hTl : T.length = M.length := by rw [hT, List.length_append, List.length_replicate, hKl]; omega
    rw [show (M.length - m) = M.length - K.length by rw [hm], ← hT, ← grow_none (putRow _ _ _ _ _)]
    refine ⟨rfl, ?_, grownBy_sortedI _⟩
    have hO := ownsRow_sortedI (w := w) (base := base) (g := g) (cap := c) (n := q) (e := 3) (os := #[]) (cur := cur) (ss := M) (ts := T) hTl hb hg h1 h2 h3
    refine ⟨fun i x hx => ⟨g, 0, rfl, ?_⟩, by omega, fun hA => by cases hA⟩
    have hi : i < K.length := (List.getElem?_eq_some_iff.1 hx).1
    rw [Nat.zero_add, hO.cellAt i (by omega)]
    have : T[i]? = some (x : Int) := by
      rw [hT, hK, List.getElem?_append_left (by rw [ints_len]; exact hi)]
      simp [ints, hx]
    simp [this]
end Go.Proofs.Ytgikgnhpplmljaa
end
section
/- What open's Find does: each column's polynomial, and who has something else; or nothing. -/
namespace Go.Proofs.Ytgikgnhpplmljaa
open Go.RowKit Go.Shelf Gw Pol
theorem wal_nil (L0 : List Nat) (z : List Int) : L0 ++ wal z [] = L0 := by simp [wal]
def WIs (B n : Nat) (L : List Nat) : Value → World → Prop := fun v w => ∃ A c, v = .slice A n c ∧ OwnJ w B 3 A c L
theorem WIs.mono (B n : Nat) (L : List Nat) : Gt.Mono (WIs B n L) := by
  rintro v w w' ⟨A, c, h1, h2⟩ hg
  exact ⟨A, c, h1, h2.kept hg⟩
def D3Is (B np nw : Nat) (p L : List Nat) : Value → World → Prop := fun v w => ∃ A c A' c', v = .tuple #[.slice A np c, .slice A' nw c', .bool true] ∧ Gw.Own w B 5 A c p ∧ OwnJ w B 3 A' c' L
theorem D3Is.mono (B np nw : Nat) (p L : List Nat) : Gt.Mono (D3Is B np nw p L) := by
  rintro v w w' ⟨A, c, A', c', h1, h2, h3⟩ hg
  exact ⟨A, c, A', c', h1, h2.kept hg, h3.kept hg⟩
def FpO (w3 : World) (t k e C : Nat) (z : List Int) (R : Nat) (l P : Nat → List Nat) (v10 v11 i : Value) (wr : World) : Prop :=
  ∃ (q : Nat) (pa : Nat → Option Addr) (cp : Nat → Nat) (A : Option Addr) (c : Nat), q ≤ C ∧ i = .int .i64 (q : Int) ∧ (∀ c, c < q → Agc t k e z R l c (P c)) ∧ v11 = .slice A (appL z R l P q).length c ∧ GrowL w3 wr 36 5 v10 q pa cp P ∧ OwnJ wr w3.heap.size 3 A c (appL z R l P q)
def FpI (w3 : World) (v10 : Value) (q1 : Nat) (pa : Nat → Option Addr) (cp : Nat → Nat) (P : Nat → List Nat) (z : List Int) (L0 W : List Nat) (A5 : Option Addr) (c5 : Nat) (v11 i : Value) (wr : World) : Prop :=
  ∃ (j : Nat) (A : Option Addr) (c : Nat) (M : List Nat), j ≤ W.length ∧ i = .int .i64 (j : Int) ∧ M = L0 ++ wal z (W.take j) ∧ v11 = .slice A M.length c ∧ GrowL w3 wr 36 5 v10 q1 pa cp P ∧ OwnJ wr w3.heap.size 3 A c M ∧ OwnJ wr w3.heap.size 3 A5 c5 W ∧
    ∀ g, (Value.slice A M.length c).ownBlock = some g → (Value.slice A5 W.length c5).ownBlock ≠ some g
set_option maxRecDepth 100000 in
set_option maxHeartbeats 4000000 in
theorem ofind_in (n t k e R C : Nat) (r : Int) (hn : n ≤ 254) (ht : 1 ≤ t) (hk : 1 ≤ k) (htk : t + k ≤ 255) (he : e ≤ 255) (bf : Nat) (A A' : Option Addr) (cA cR N : Nat) (z : List Int) (hN : N = z.length) (pa0 : Nat → Option Addr) (cp0 : Nat → Nat) (l : Nat → List Nat) (w : World) (hF : IsField w bf) (hI : InZ w w.heap.size A cA z) (hM : MIn w w.heap.size A' cR R pa0 cp0 l) (hC : C ≤ 4096) (hNb : N ≤ 17592186043904) (hRb : R ≤ 5864062014634) :
    Calls Try.prog 10 #[.pointer (some ⟨bf, 0, none⟩), pv (n : Int) (t : Int) (k : Int) (e : Int) (r : Int), .int .i64 (C : Int), .slice A N cA, .slice A' R cR] w (FdAns n t k e C z R l w) := by
  obtain ⟨i0, hi0, hz0, hz1, hz2⟩ := info_parts pint_info
  obtain ⟨i1, hj0, hj1, hj2, hj3⟩ := info_parts srow_info
  obtain ⟨P, hP⟩ := agc_pick t k e z R l
  obtain ⟨w1, hw1⟩ : ∃ w1, w1 = w.alloc (.cells #[.int .i64 (n : Int), .int .i64 (t : Int), .int .i64 (k : Int), .int .i64 (e : Int), .int .i64 r] 23) := ⟨_, rfl⟩
  have hb1 : Below w.heap.size w w1 := by rw [hw1]; exact (Below.refl _ w).alloc (Nat.le_refl _) _
  have HPB : Hid (Pbx w1 w.heap.size n t k e r) := Lib.hid (by rw [hw1]; exact Pbx.new w _ _ _ _ _ _)
  have HB1 := Lib.hid hb1
  have HN := Lib.hid hN
  have HI := Lib.hid hI
  have HMI := Lib.hid hM
  have HP := Lib.hid hP
  have HFL := Lib.hid hF
  have HBB := Lib.hid (show ∀ i, i < R → BB (l i) from fun i hi => hM.bb hi)
  have HEN := Lib.hid (oenough_any n t k e R r htk he (C : Int) (by omega) A A' cA cR N z hN pa0 cp0 l w1 ((hI.below hb1).more hb1.size) ((hM.below hb1).more hb1.size) hNb (by omega))
  have hcapA := hI.cap
  have hcapR := hM.cap
  rw [← hN] at hcapA
  obtain ⟨D, hD⟩ : ∃ D, t + k = D + 1 := ⟨t + k - 1, by omega⟩
  obtain ⟨s, hs⟩ : ∃ s, s = t + k := ⟨_, rfl⟩
  have f1 : IntKind.i64.wrap ((t : Int) + (k : Int)) = (s : Int) := by rw [IntKind.wrap_i64]; omega
  have f2 : IntKind.i64.wrap ((s : Int) - 1) = (D : Int) := by rw [IntKind.wrap_i64]; omega
  have HD := Lib.hid (show (t : Int) + (k : Int) - 1 = (D : Int) by omega)
  obtain ⟨p0, p1, p2, p3, p4⟩ := HPB.out
  rw [hw1] at p0 p1 p2 p3 p4
  clear hb1 hN hI hM hP hD hs hF
  go_enter Try.func10, Try.ntmps10
  go_wp2_with fail
  rw [← hw1]
  refine HEN.out.mono ?_
  rintro en w2 ⟨b, rfl, hiff, hb2⟩
  have HB2 := Lib.hid (HB1.out.trans (hb2.mono HB1.out.size))
  have HP2 := Lib.hid (HPB.out.below hb2 HPB.out.lt)
  clear p0 p1 p2 p3 p4 hb2 hw1 HEN
  cases b with
  | false =>
    have HFN := Lib.hid (show Fno n t k e (C : Int) z R l from .inl fun h => by have := hiff.2 h; cases this)
    clear hiff
    go_wp2
    go_ret3
    exact ⟨.inr ⟨HFN.out, _, _, _, _, rfl⟩, HB2.out⟩
  | true =>
    have HENO := Lib.hid (hiff.1 rfl)
    have hNR : N = R := by rw [HN.out]; exact HENO.out.len
    clear hiff
    subst hNR
    have hN4 : N ≤ 254 := by
      have h1 := HENO.out.xs_un hn
      have h2 := HENO.out.un
      have h3 : (ints (List.range n)).length = n := by simp [ints]
      rw [HN.out]
      have := List.Nodup.length_le_of_subset h2 (l₂ := ints (List.range n)) (fun x hx => by
        have := HENO.out.inn x hx
        rw [ints_mem, List.mem_range]
        omega)
      omega
    have HXL := Lib.hid (show (xsL z).length = N by rw [xsL_len, ← HN.out])
    have HXS := Lib.hid (dpoints_in A cA N z HN.out n t k e r w2 ((HI.out.below HB2.out).more HB2.out.size) (fun x hx => by have := HENO.out.inn x hx; omega) hNb)
    obtain ⟨p0, p1, p2, p3, p4⟩ := HP2.out
    go_wp2_with fail
    refine HXS.out.mono ?_
    rintro en w3 ⟨A3, c3, rfl, hx3, hb3⟩
    have HB3 := Lib.hid (HB2.out.trans (hb3.mono HB2.out.size))
    have HP3 := Lib.hid (HP2.out.below hb3 HP2.out.lt)
    have HX3 := Lib.hid hx3
    have hl3 := HP3.out.lt
    clear p0 p1 p2 p3 p4 hb3 hx3 HXS
    go_wp2
    go_loopw [10, 11, 30] (FpO w3 t k e C z N l P) (fun _ _ i _ => C - (intOf i).toNat)
    case atStart => exact ⟨0, fun _ => none, fun _ => 0, none, 0, Nat.zero_le _, rfl, fun c h => absurd h (by omega), rfl, GrowL.start _ _ _ _, OwnJ.nil _ _ _⟩
    case round =>
      obtain ⟨q, pa, cp, Aj, cj, hq, rfl, hagq, rfl, hG, hJ⟩ := hrel
      obtain ⟨Av, cv, rfl, hcv, hcv0⟩ := hG.shape
      have HG := Lib.hid hG
      have HJ := Lib.hid hJ
      have HAGQ := Lib.hid hagq
      have HBR := Lib.hid (HB3.out.trans (hG.bel.mono HB3.out.size))
      have HPR := Lib.hid (HP3.out.below hG.bel hl3)
      have HPL := Lib.hid HPR.out.lt
      clear hG hJ hagq
      by_cases hlt : q < C
      · have hqi : (q : Int) < (C : Int) := by omega
        have HMR := Lib.hid ((HMI.out.below HBR.out).more HBR.out.size)
        have HLEN := Lib.hid (show ∀ i, i < N → q < (l i).length from fun i hi => by have := HENO.out.rows i hi; omega)
        by_cases hag : ∃ p, Agc t k e z N l q p
        · obtain ⟨p, hp⟩ := hag
          obtain rfl := HP.out q p hp
          have HAG := Lib.hid hp
          obtain ⟨np, hnp⟩ : ∃ np, np = (P q).length := ⟨_, rfl⟩
          have hnpb : np ≤ 256 := by have := hp.deg; omega
          obtain ⟨W, hW⟩ : ∃ W, W = wrTo (P q) (xsL z) (colR l N q) (xsL z).length := ⟨_, rfl⟩
          obtain ⟨nw, hnw⟩ : ∃ nw, nw = W.length := ⟨_, rfl⟩
          have hnwb : nw ≤ 254 := by rw [hnw, hW]; have := wrTo_agr (P q) (xsL z) (colR l N q) (xsL z).length; rw [HXL.out] at this ⊢; omega
          have HWL := Lib.hid (show ∀ x ∈ W, x < N from fun x hx => by rw [hW] at hx; have := wrTo_lt _ _ _ _ x hx; rw [HXL.out] at this; exact this)
          have HNP := Lib.hid hnp
          have HNW := Lib.hid hnw
          have HW := Lib.hid hW
          have HDEC : Hid (∀ A6 c6 W5, Below wr.heap.size wr W5 → Gw.Own W5 wr.heap.size 5 A6 c6 (colR l N q) → Calls Try.prog 26 #[.pointer (some ⟨bf, 0, none⟩), .slice A3 N c3, .slice A6 N c6, .int .i64 (D : Int), .int .i64 (e : Int)] W5 fun en w' => ∃ v, en = .returned v ∧ D3Is wr.heap.size np nw (P q) W v w' ∧ Below W5.heap.size W5 w') := Lib.hid fun A6 c6 W5 h5 h6 => by
            have h7 := bdecode_any bf A3 A6 c3 c6 (xsL z) (colR l N q) (D : Int) (e : Int) W5 ((HFL.out.below HBR.out HFL.out.lt).below h5 (Nat.lt_of_lt_of_le HFL.out.lt HBR.out.size)) ((HX3.out.below (HG.out.bel.trans (h5.mono HG.out.bel.size))).more (Nat.le_trans HG.out.bel.size h5.size)) h6.inn
            rw [HXL.out, colR_len] at h7
            refine h7.mono ?_
            rintro en w' (⟨p, A7, A8, c7, c8, rfl, h8, h9, h10, h11⟩ | ⟨_, h8⟩)
            · have e8 : p = P q := HP.out q p (by unfold Agc; rw [HD.out]; exact h8)
              subst e8
              rw [HXL.out, ← HXL.out, ← HW.out] at *
              exact ⟨_, rfl, ⟨A7, c7, A8, c8, by rw [HNP.out, HNW.out], h9.base h5.size, h10.rebase h5.size⟩, h11⟩
            · exact absurd (by have := HAG.out; unfold Agc at this; rw [HD.out] at this; exact this) (h8 (P q))
          clear hp hnp hW hnw
          go_wp2
          rename_i KK hKK
          refine Gt.regionA [Gt.Is (.pointer (some ⟨bf, 0, none⟩)), Gt.Is (.slice A3 N c3), Gt.Is (.slice A' N cR), Gt.Is (.int .i64 (q : Int)), OIs wr.heap.size N (colR l N q), Gt.Is (.pointer (some ⟨w.heap.size, 1, none⟩)), Gt.Is (.int .i64 (t : Int)), Gt.Is (.pointer (some ⟨w.heap.size, 2, none⟩)), Gt.Is (.int .i64 (k : Int)), Gt.Is (.int .i64 (s : Int)), Gt.Is (.int .i64 (D : Int)), Gt.Is (.pointer (some ⟨w.heap.size, 3, none⟩)), Gt.Is (.int .i64 (e : Int)), D3Is wr.heap.size np nw (P q) W, D3Is wr.heap.size np nw (P q) W, OIs wr.heap.size np (P q), WIs wr.heap.size nw W, Gt.Is (.bool true), OIs wr.heap.size np (P q), WIs wr.heap.size nw W, Gt.Is (.bool true)] 77
            [⟨[], [0], none⟩, ⟨[], [13], none⟩, ⟨[], [4], none⟩, ⟨[], [14], none⟩, ⟨[(2, 36), (3, 37)], [], none⟩, ⟨[], [6], none⟩, ⟨[(5, 39)], [], none⟩, ⟨[], [6], none⟩, ⟨[(7, 41)], [], none⟩, ⟨[(6, 40), (8, 42)], [], none⟩, ⟨[(9, 43)], [], none⟩, ⟨[], [6], none⟩, ⟨[(11, 45)], [], none⟩, ⟨[(0, 34), (1, 35), (4, 38), (10, 44), (12, 46)], [], none⟩, ⟨[(13, 47)], [], none⟩, ⟨[(14, 33)], [], none⟩, ⟨[(14, 33)], [], none⟩, ⟨[(14, 33)], [], none⟩, ⟨[(15, 48)], [], none⟩, ⟨[(16, 49)], [], none⟩, ⟨[(17, 50)], [], none⟩]
            [(0, 34), (1, 35), (2, 36), (3, 37), (4, 38), (5, 39), (6, 40), (7, 41), (8, 42), (9, 43), (10, 44), (11, 45), (12, 46), (13, 47), (14, 33), (15, 48), (16, 49), (17, 50), (18, 15), (19, 16), (20, 17)] (by kernel_rfl) (by kernel_rfl) (by kernel_rfl) (by kernel_rfl) ?_ ?_ ?_
          · simp only [Gt.Monos]
            repeat' apply And.intro
            all_goals (first | exact trivial | exact Gt.Is.mono _ | exact OIs.mono _ _ _ | exact WIs.mono _ _ _ | exact D3Is.mono _ _ _ _ _)
          · simp only [Gt.Obs]
            repeat' apply And.intro
            all_goals try exact trivial
            all_goals (
              intro a w5 hg
              have hg' : Below wr.heap.size wr w5 := hg
              simp only [Gt.Pre, Gt.Kept, Gt.Guarded, Gt.tys, List.getD_cons_zero, List.getD_cons_succ, Gt.Is, Nat.zero_add, Nat.reduceAdd]
              intros
              try (refine ⟨fun _ => ?_, fun hne => absurd (by assumption) hne⟩))
            all_goals (first
              | exact Gt.ok_move rfl (by assumption)
              | exact Gt.ok_assign rfl (by assumption)
              | exact Gt.ok_pick rfl (by assumption) (by rw [if_pos rfl]; assumption)
              | (refine Gt.ok_call (f := 27) rfl #[.slice A' N cR, .int .i64 (q : Int)] (by kernel_rfl) (by simp [*] <;> rfl) ((ocolumn_any A' cR N q pa0 cp0 l w5 ((HMR.out.below hg').more hg'.size) HLEN.out (by omega)).mono ?_)
                 rintro en w6 ⟨A6, c6, rfl, h6, h7⟩
                 exact ⟨_, rfl, h7, A6, c6, rfl, h6.base hg'.size⟩)
              | (obtain ⟨A6, c6, hv6, hO6⟩ : OIs wr.heap.size N (colR l N q) (a.eval (.tmp 38)) w5 := by assumption
                 refine Gt.ok_call (f := 26) rfl #[.pointer (some ⟨bf, 0, none⟩), .slice A3 N c3, .slice A6 N c6, .int .i64 (D : Int), .int .i64 (e : Int)] (by kernel_rfl) (by simp [*] <;> rfl) ((HDEC.out A6 c6 w5 hg' hO6).mono ?_)
                 rintro en w6 ⟨v, rfl, h8, h9⟩
                 exact ⟨v, rfl, h9, h8⟩)
              | (have k5 := (HPR.out.below hg' HPL.out).c1
                 refine Gt.ok_run ?_ rfl
                 simp only [execOp, *]
                 go_simp
                 done)
              | (have k5 := (HPR.out.below hg' HPL.out).c2
                 refine Gt.ok_run ?_ rfl
                 simp only [execOp, *]
                 go_simp
                 done)
              | (have k5 := (HPR.out.below hg' HPL.out).c3
                 refine Gt.ok_run ?_ rfl
                 simp only [execOp, *]
                 go_simp
                 done)
              | (refine Gt.ok_run ?_ rfl
                 simp only [execOp, *]
                 go_simp
                 done)
              | (obtain ⟨A6, c6, A7, c7, hv6, hO6, hJ6⟩ : D3Is wr.heap.size np nw (P q) W (a.eval (.tmp 33)) w5 := by assumption
                 refine Gt.ok_run (v := .slice A6 np c6) ?_ ⟨A6, c6, rfl, hO6⟩
                 simp only [execOp, hv6]
                 go_simp
                 done)
              | (obtain ⟨A6, c6, A7, c7, hv6, hO6, hJ6⟩ : D3Is wr.heap.size np nw (P q) W (a.eval (.tmp 33)) w5 := by assumption
                 refine Gt.ok_run (v := .slice A7 nw c7) ?_ ⟨A7, c7, rfl, hJ6⟩
                 simp only [execOp, hv6]
                 go_simp
                 done)
              | (obtain ⟨A6, c6, A7, c7, hv6, hO6, hJ6⟩ : D3Is wr.heap.size np nw (P q) W (a.eval (.tmp 33)) w5 := by assumption
                 refine Gt.ok_run (v := .bool true) ?_ rfl
                 simp only [execOp, hv6]
                 go_simp
                 done))
          · intro a w5 hg
            have hg' : Below wr.heap.size wr w5 := hg
            simp only [Gt.Pre, Gt.tys, List.getD_cons_zero, List.getD_cons_succ, Gt.Is]
            intro h0 h1 h2 h3 h4 h5 h6 h7 h8 h9 h10 h11 h12 h13 h14 h15 h16 h17 h18 h19 h20
            show KK _ _
            refine hKK _ _ ?_
            obtain ⟨_, _, h4, _⟩ := h4
            obtain ⟨_, _, _, _, h13, _⟩ := h13
            obtain ⟨_, _, _, _, h14, _⟩ := h14
            obtain ⟨_, _, h15, _⟩ := h15
            obtain ⟨_, _, h16, _⟩ := h16
            obtain ⟨Ap, cq, h18, hOp⟩ := h18
            obtain ⟨A5, c5, h19, hOw⟩ := h19
            simp only [Gt.puts, List.foldl_cons, List.foldl_nil, h0, h1, h2, h3, h4, h5, h6, h7, h8, h9, h10, h11, h12, h13, h14, h15, h16, h17, h18, h19, h20]
            simp only [Act.put, List.setIfInBounds_toArray, List.set_cons_zero, List.set_cons_succ]
            have HB5 := Lib.hid hg'
            have HOP := Lib.hid hOp
            have HOW := Lib.hid hOw
            have hcap5 := hOw.inn.cap
            rw [← HNW.out] at hcap5
            clear h0 h1 h2 h3 h4 h5 h6 h7 h8 h9 h10 h11 h12 h13 h14 h15 h16 h17 h18 h19 h20 hOp hOw hg
            obtain ⟨w6, hw6⟩ : ∃ w6, w6 = w5 := ⟨_, rfl⟩
            rw [← hw6] at HB5 HOP HOW ⊢
            clear hw6 hg'
            have hs5 := HB5.out.size
            have hs3 := HG.out.bel.size
            have hGW := HG.out.own2 HB5.out
            go_wp2_with (first
              | (at_builtin; refine wpList_append_own _ rfl (.tmp 53) (.tmp 55) 25 rfl w3.heap.size 36 i1 (.slice none 0 0) 1 24 Try.underlying25 hj0 hj1 hj2 hj3 rfl (by decide) (.slice Av q cv) q (rvl pa cp P q) rfl (hGW.alloc _) ⟨w6.heap.size, 0, none⟩ 1 1 [.slice Ap np cq] rfl rfl (fun j u hj => by
                  match j, hj with
                  | 0, hj => simp at hj; subst hj; exact cell_new w6 _ _) (fun u hu => by simp at hu; subst hu; rfl) (by simp only [maxLen]; omega) (by omega) (by rw [World.size_alloc]; omega) ?_; intro v' w7 hown7 hgr7 _)
              | fail)
            rw [HNP.out] at hown7
            have HS := Lib.hid (HG.out.step (by decide) HB5.out HOP.out _ hown7 hgr7)
            have HJ7 := Lib.hid (owns_other (((HJ.out.kept HB5.out).alloc (.cells #[.slice Ap np cq] 36))) (hGW.alloc _) (by decide) hgr7)
            have HW7 : Hid (OwnJ w7 w3.heap.size 3 A5 c5 W) := Lib.hid (OwnJ.rebase (base := wr.heap.size) (owns_other ((HOW.out.alloc (.cells #[.slice Ap np cq] 36))) (hGW.alloc _) (by decide) hgr7) hs3)
            have HDIS : Hid (∀ g, (Value.slice Aj (appL z N l P q).length cj).ownBlock = some g → (Value.slice A5 W.length c5).ownBlock ≠ some g) := Lib.hid (fun g h1 h2 => by
              have := (owns_blk HJ.out h1).2.1
              have := (owns_blk HOW.out h2).1
              omega)
            clear hown7 hgr7 hGW
            obtain ⟨Av2, cv2, rfl, hcv2, _⟩ := HS.out.shape
            go_wp2
            go_loopw [11, 59] (FpI w3 (.slice Av2 (q + 1) cv2) (q + 1) (fun i => if i = q then Ap else pa i) (fun i => if i = q then cq else cp i) P z (appL z N l P q) W A5 c5) (fun _ i _ => nw - (intOf i).toNat)
            case atStart => exact ⟨0, Aj, cj, appL z N l P q, Nat.zero_le _, rfl, by rw [List.take_zero, wal_nil], rfl, HS.out, HJ7.out, HW7.out, HDIS.out⟩
            case round =>
              obtain ⟨j, Ai, ci, M, hj, rfl, hM, rfl, hG2, hJ2, hW2, hdis⟩ := hrel
              rw [← HNW.out] at hj
              have HG2 := Lib.hid hG2
              have HJ2 := Lib.hid hJ2
              have HW2 := Lib.hid hW2
              have HD2 := Lib.hid hdis
              have HM := Lib.hid hM
              have hlab : M.length ≤ 4096 * 254 + 254 := by
                have h1 := appL_len (z := z) (R := N) (l := l) (P := P) q
                have h2 : q * z.length ≤ 4096 * 254 := Nat.mul_le_mul (by omega) (by rw [← HN.out]; exact hN4)
                have h3 := List.length_take_le j W
                rw [hM, List.length_append, wal_len]
                omega
              have hs2 := hG2.bel.size
              clear hG2 hJ2 hW2 hdis hM
              by_cases hjw : j < nw
              · have hjW : j < W.length := by rw [← HNW.out]; exact hjw
                obtain ⟨x, hx⟩ : ∃ x, W[j]? = some x := ⟨W[j], List.getElem?_eq_getElem hjW⟩
                obtain ⟨g5, hA5, hg5, hcell5⟩ := HW2.out.at_ hx
                have hxN : x < N := HWL.out x (List.mem_of_getElem? hx)
                have hxz : x < z.length := by rw [← HN.out]; exact hxN
                have hin := HENO.out.inn z[x] (List.getElem_mem hxz)
                obtain ⟨_, b6, off6, hA6, hb6', hcell6⟩ := (HI.out.below (HB3.out.trans (HG2.out.bel.mono HB3.out.size))).sl x z[x] (List.getElem?_eq_getElem hxz)
                obtain ⟨g2, hg2⟩ : ∃ g2 : Nat, z[x] = (g2 : Int) := ⟨z[x].toNat, by omega⟩
                rw [hg2] at hcell6
                have hxi : (x : Int) < (N : Int) := by omega
                have hji : (j : Int) < (nw : Int) := by omega
                have HTK : Hid (M ++ [g2] = appL z N l P q ++ wal z (W.take (j + 1))) := Lib.hid (by
                  rw [← take_snoc hx, wal_one, ← List.append_assoc, show z.getD x 0 = z[x] by simp [hxz], hg2, ← HM.out]
                  rfl)
                subst hA5 hA6
                clear hx hin hg2 hb6'
                go_wp2_with (first
                  | (at_builtin; refine wpList_append_own_at _ rfl (.tmp 63) (.tmp 68) 24 rfl w3.heap.size 3 i0 (.int .i64 0) 1 8 Try.underlying24 hi0 hz0 hz1 hz2 rfl (by decide) (.slice Ai M.length ci) M.length (intv M) rfl (HJ2.out.alloc _) ⟨wr.heap.size, 0, none⟩ 1 1 [.int .i64 (g2 : Int)] rfl rfl (fun j u hj => by
                      match j, hj with
                      | 0, hj => simp at hj; subst hj; exact cell_new wr _ _) (fun u hu => by simp at hu; subst hu; rfl) (by simp only [maxLen]; omega) (by omega) (by rw [World.size_alloc]; omega) ?_; intro v' w9 hown9 hgr9 _ hat9)
                  | fail)
                obtain ⟨A9, c9, rfl, hO9⟩ := OwnJ.mk' (L := M ++ [g2]) (by rw [intv_app]; exact hown9)
                have hJA := HJ2.out.alloc (.cells #[.int .i64 (g2 : Int)] 3)
                have HG9 := Lib.hid ((HG2.out.more ((Below.refl _ wr).alloc (Nat.le_refl _) (.cells #[.int .i64 (g2 : Int)] 3))).by hgr9 (fun b hb => by
                  obtain ⟨h1, _, cs, h2⟩ := owns_blk hJA hb
                  exact ⟨h1, cs, _, h2, by decide, by decide⟩))
                have HW9 : Hid (OwnJ w9 w3.heap.size 3 (some ⟨g5, 0, none⟩) c5 W) := Lib.hid (owns_by (HW2.out.alloc _) hgr9 (fun b hb => HD2.out b hb))
                have HD9 : Hid (∀ g, (Value.slice A9 (M ++ [g2]).length c9).ownBlock = some g → (Value.slice (some ⟨g5, 0, none⟩) W.length c5).ownBlock ≠ some g) := Lib.hid (fun g h1 h2 => by
                  rcases hat9 with h3 | h3
                  · rw [h1] at h3; exact HD2.out g h3.symm h2
                  · rw [h1] at h3; injection h3 with h3
                    have := (owns_blk HW2.out h2).2.1
                    rw [World.size_alloc] at h3
                    omega)
                have H9 := Lib.hid hO9
                clear hown9 hgr9 hat9 hO9 hJA
                go_roundw
                case rel => exact ⟨j + 1, A9, c9, M ++ [g2], by rw [← HNW.out]; omega, by go_num, HTK.out, rfl, HG9.out, H9.out, HW9.out, HD9.out⟩
                case measure => simp [intOf]; omega
              · obtain rfl : j = nw := by omega
                have hMe : M = appL z N l P (q + 1) := by rw [HM.out, HNW.out, List.take_length, HW.out]; rfl
                subst hMe
                go_wp2
                go_roundw
                case rel => exact ⟨q + 1, _, _, _, _, by omega, by go_num, fun c hc => by
                  by_cases e' : c = q
                  · subst e'; exact HAG.out
                  · exact HAGQ.out c (by omega), rfl, HG2.out, HJ2.out⟩
                case measure => simp [intOf]; omega
            
        · have HF := Lib.hid (show Fno n t k e (C : Int) z N l from .inr ⟨q, by omega, fun p hp => hag ⟨p, hp⟩⟩)
          have HDEC : Hid (∀ A6 c6 W5, Below wr.heap.size wr W5 → Gw.Own W5 wr.heap.size 5 A6 c6 (colR l N q) → Calls Try.prog 26 #[.pointer (some ⟨bf, 0, none⟩), .slice A3 N c3, .slice A6 N c6, .int .i64 (D : Int), .int .i64 (e : Int)] W5 fun en w' => ∃ v, en = .returned v ∧ v = .tuple #[.slice none 0 0, .slice none 0 0, .bool false] ∧ Below W5.heap.size W5 w') := Lib.hid fun A6 c6 W5 h5 h6 => by
            have h7 := bdecode_any bf A3 A6 c3 c6 (xsL z) (colR l N q) (D : Int) (e : Int) W5 ((HFL.out.below HBR.out HFL.out.lt).below h5 (Nat.lt_of_lt_of_le HFL.out.lt HBR.out.size)) ((HX3.out.below (HG.out.bel.trans (h5.mono HG.out.bel.size))).more (Nat.le_trans HG.out.bel.size h5.size)) h6.inn
            rw [HXL.out, colR_len] at h7
            refine h7.mono ?_
            rintro en w' (⟨p, A7, A8, c7, c8, rfl, h8, h9, h10, h11⟩ | ⟨⟨rfl, h8⟩, _⟩)
            · exact absurd ⟨p, by unfold Agc; rw [HD.out]; exact h8⟩ hag
            · exact ⟨_, rfl, rfl, h8⟩
          clear hag
          go_wp2
          rename_i KK hKK
          refine Gt.regionA [Gt.Is (.pointer (some ⟨bf, 0, none⟩)), Gt.Is (.slice A3 N c3), Gt.Is (.slice A' N cR), Gt.Is (.int .i64 (q : Int)), OIs wr.heap.size N (colR l N q), Gt.Is (.pointer (some ⟨w.heap.size, 1, none⟩)), Gt.Is (.int .i64 (t : Int)), Gt.Is (.pointer (some ⟨w.heap.size, 2, none⟩)), Gt.Is (.int .i64 (k : Int)), Gt.Is (.int .i64 (s : Int)), Gt.Is (.int .i64 (D : Int)), Gt.Is (.pointer (some ⟨w.heap.size, 3, none⟩)), Gt.Is (.int .i64 (e : Int)), Gt.Is (.tuple #[.slice none 0 0, .slice none 0 0, .bool false]), Gt.Is (.tuple #[.slice none 0 0, .slice none 0 0, .bool false]), Gt.Is (.slice none 0 0), Gt.Is (.slice none 0 0), Gt.Is (.bool false), Gt.Is (.slice none 0 0), Gt.Is (.slice none 0 0), Gt.Is (.bool false)] 77
            [⟨[], [0], none⟩, ⟨[], [13], none⟩, ⟨[], [4], none⟩, ⟨[], [14], none⟩, ⟨[(2, 36), (3, 37)], [], none⟩, ⟨[], [6], none⟩, ⟨[(5, 39)], [], none⟩, ⟨[], [6], none⟩, ⟨[(7, 41)], [], none⟩, ⟨[(6, 40), (8, 42)], [], none⟩, ⟨[(9, 43)], [], none⟩, ⟨[], [6], none⟩, ⟨[(11, 45)], [], none⟩, ⟨[(0, 34), (1, 35), (4, 38), (10, 44), (12, 46)], [], none⟩, ⟨[(13, 47)], [], none⟩, ⟨[(14, 33)], [], none⟩, ⟨[(14, 33)], [], none⟩, ⟨[(14, 33)], [], none⟩, ⟨[(15, 48)], [], none⟩, ⟨[(16, 49)], [], none⟩, ⟨[(17, 50)], [], none⟩]
            [(0, 34), (1, 35), (2, 36), (3, 37), (4, 38), (5, 39), (6, 40), (7, 41), (8, 42), (9, 43), (10, 44), (11, 45), (12, 46), (13, 47), (14, 33), (15, 48), (16, 49), (17, 50), (18, 15), (19, 16), (20, 17)] (by kernel_rfl) (by kernel_rfl) (by kernel_rfl) (by kernel_rfl) ?_ ?_ ?_
          · simp only [Gt.Monos]
            repeat' apply And.intro
            all_goals (first | exact trivial | exact Gt.Is.mono _ | exact OIs.mono _ _ _ | exact WIs.mono _ _ _ | exact D3Is.mono _ _ _ _ _)
          · simp only [Gt.Obs]
            repeat' apply And.intro
            all_goals try exact trivial
            all_goals (
              intro a w5 hg
              have hg' : Below wr.heap.size wr w5 := hg
              simp only [Gt.Pre, Gt.Kept, Gt.Guarded, Gt.tys, List.getD_cons_zero, List.getD_cons_succ, Gt.Is, Nat.zero_add, Nat.reduceAdd]
              intros
              try (refine ⟨fun _ => ?_, fun hne => absurd (by assumption) hne⟩))
            all_goals (first
              | exact Gt.ok_move rfl (by assumption)
              | exact Gt.ok_assign rfl (by assumption)
              | exact Gt.ok_pick rfl (by assumption) (by rw [if_pos rfl]; assumption)
              | (refine Gt.ok_call (f := 27) rfl #[.slice A' N cR, .int .i64 (q : Int)] (by kernel_rfl) (by simp [*] <;> rfl) ((ocolumn_any A' cR N q pa0 cp0 l w5 ((HMR.out.below hg').more hg'.size) HLEN.out (by omega)).mono ?_)
                 rintro en w6 ⟨A6, c6, rfl, h6, h7⟩
                 exact ⟨_, rfl, h7, A6, c6, rfl, h6.base hg'.size⟩)
              | (obtain ⟨A6, c6, hv6, hO6⟩ : OIs wr.heap.size N (colR l N q) (a.eval (.tmp 38)) w5 := by assumption
                 refine Gt.ok_call (f := 26) rfl #[.pointer (some ⟨bf, 0, none⟩), .slice A3 N c3, .slice A6 N c6, .int .i64 (D : Int), .int .i64 (e : Int)] (by kernel_rfl) (by simp [*] <;> rfl) ((HDEC.out A6 c6 w5 hg' hO6).mono ?_)
                 rintro en w6 ⟨v, rfl, h8, h9⟩
                 exact ⟨v, rfl, h9, h8⟩)
              | (have k5 := (HPR.out.below hg' HPL.out).c1
                 refine Gt.ok_run ?_ rfl
                 simp only [execOp, *]
                 go_simp
                 done)
              | (have k5 := (HPR.out.below hg' HPL.out).c2
                 refine Gt.ok_run ?_ rfl
                 simp only [execOp, *]
                 go_simp
                 done)
              | (have k5 := (HPR.out.below hg' HPL.out).c3
                 refine Gt.ok_run ?_ rfl
                 simp only [execOp, *]
                 go_simp
                 done)
              | (refine Gt.ok_run ?_ rfl
                 simp only [execOp, *]
                 go_simp
                 done))
          · intro a w5 hg
            have hg' : Below wr.heap.size wr w5 := hg
            simp only [Gt.Pre, Gt.tys, List.getD_cons_zero, List.getD_cons_succ, Gt.Is]
            intro h0 h1 h2 h3 h4 h5 h6 h7 h8 h9 h10 h11 h12 h13 h14 h15 h16 h17 h18 h19 h20
            show KK _ _
            refine hKK _ _ ?_
            obtain ⟨_, _, h4, _⟩ := h4
            simp only [Gt.puts, List.foldl_cons, List.foldl_nil, h0, h1, h2, h3, h4, h5, h6, h7, h8, h9, h10, h11, h12, h13, h14, h15, h16, h17, h18, h19, h20]
            simp only [Act.put, List.setIfInBounds_toArray, List.set_cons_zero, List.set_cons_succ]
            have HB5 := Lib.hid (HBR.out.trans (hg'.mono HBR.out.size))
            clear h0 h1 h2 h3 h4 h5 h6 h7 h8 h9 h10 h11 h12 h13 h14 h15 h16 h17 h18 h19 h20 hg
            go_wp2
            go_ret3
            exact ⟨.inr ⟨HF.out, _, _, _, _, rfl⟩, HB5.out⟩
            
      · obtain rfl : q = C := by omega
        have hlab : (appL z N l P q).length ≤ 4096 * 254 := Nat.le_trans (appL_len q) (Nat.mul_le_mul hC (by rw [← HN.out]; exact hN4))
        have HCW := Lib.hid (compact_wrong (n := n) (R := N) (l := l) (P := P) HN.out.symm HENO.out.inn q)
        have HSO := Lib.hid (sort_own Aj cj (appL z N l P q).length (appL z N l P q) w3.heap.size wr HJ.out rfl (by omega))
        obtain ⟨na, hna⟩ : ∃ na, na = (appL z N l P q).length := ⟨_, rfl⟩
        rw [← hna] at HSO
        have HNA := Lib.hid hna
        rw [← hna]
        clear hna
        go_wp2_with fail
        refine HSO.out.mono ?_
        rintro en w7 ⟨rfl, hz7, hgr7⟩
        have HG7 := Lib.hid (HG.out.by hgr7 (fun b hb => by
          rw [HNA.out] at hb
          obtain ⟨h1, _, cs, h2⟩ := owns_blk HJ.out hb
          exact ⟨h1, cs, _, h2, by decide, by decide⟩))
        have HZ7 := Lib.hid hz7
        have hnm : na = ((ints (appL z N l P q)).mergeSort fun x y => decide (x ≤ y)).length := by rw [List.length_mergeSort, ints_len, HNA.out]
        have HNM := Lib.hid hnm
        obtain ⟨nw, hnw⟩ : ∃ nw, nw = (wrongL n z N l P q).length := ⟨_, rfl⟩
        have HNW := Lib.hid hnw
        have HCO := Lib.hid (compact_own Aj cj na nw _ (wrongL n z N l P q) w3.heap.size w7 hz7 hnm HCW.out hnw)
        clear hz7 hgr7 hnm hnw HSO
        go_wp2_with fail
        refine HCO.out.mono ?_
        rintro en w8 ⟨rfl, hj8, hgr8⟩
        obtain ⟨A8, c8, hv8, hM8⟩ := (HG7.out.by hgr8 (fun b hb => by
          rw [HNM.out] at hb
          obtain ⟨h1, _, cs, h2⟩ := owns_blk HZ7.out hb
          exact ⟨h1, cs, _, h2, by decide, by decide⟩)).min
        have HB8 := Lib.hid (HB3.out.trans ((HG7.out.by hgr8 (fun b hb => by
          rw [HNM.out] at hb
          obtain ⟨h1, _, cs, h2⟩ := owns_blk HZ7.out hb
          exact ⟨h1, cs, _, h2, by decide, by decide⟩)).bel.mono HB3.out.size))
        injection hv8 with hv8 _ hv9
        subst hv8 hv9
        have HFIN := Lib.hid hM8
        have HJ8 := Lib.hid hj8
        clear hM8 hj8 hgr8 HCO
        go_wp2
        go_ret3
        exact ⟨.inl ⟨P, _, _, _, _, _, _, by rw [← HNW.out]; rfl, ⟨HENO.out, HAGQ.out⟩, HFIN.out, HJ8.out⟩, HB8.out⟩
end Go.Proofs.Ytgikgnhpplmljaa
end
