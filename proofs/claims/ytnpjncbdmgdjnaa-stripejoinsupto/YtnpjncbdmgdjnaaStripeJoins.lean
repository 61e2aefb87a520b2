/- For every input StripeJoins returns true, and every argument reads behind the call as it did before, where what comes in is of bulk at most 1048576. -/
import Derived.Test.YtnpjncbdmgdjnaaRows
import Derived.ProofKit
import Derived.OpenShut
import Derived.SizedLaws
import Derived.ChangeOld
import Derived.Carry
import Derived.Test.YtnpjncbdmgdjnaaLawb
import Derived.Test.YtnpjncbdmgdjnaaBulk
import Derived.JoinedCond
import Derived.Test.YtnpjncbdmgdjnaaLawm
import Derived.Test.YtnpjncbdmgdjnaaSta
import Derived.Test.YtnpjncbdmgdjnaaSsm
import Derived.Test.YtnpjncbdmgdjnaaSlx
import Derived.Test.YtnpjncbdmgdjnaaGty
import Derived.Test.YtnpjncbdmgdjnaaRsp
namespace Go.Proofs.Ytnpjncbdmgdjnaa.stripeJoins
open Go.ChangeShapes Go.WideShapes Go.ChangeAt Go.RowKit Go.Shelf Gw Pol

theorem own : ownKnob Try.prog.godebug = none := by kernel_rfl
theorem laidOut : laidOutB Try.prog = true := by kernel_rfl
theorem cat_tot (l : Nat → List Nat) (k : Nat) : (Sp.cat l k).length = tot l k := by
  induction k with
  | zero => rfl
  | succ k ih => rw [Sp.cat, List.length_append, ih]; rfl
/-- What a round has made. -/
def JnRel (w w1 : World) (R K : Nat) (l : Nat → List Nat) (a b c : Value) (wr : World) : Prop :=
  ∃ (i n : Nat) (t : Bool) (A : Option Addr) (cc : Nat), a = .bool t ∧ b = .slice A n cc ∧ c = .int .i64 (i : Int) ∧ n = (Sp.cat l i).length ∧ i ≤ R ∧ (t = true ↔ ∀ j, j < i → (l j).length = K) ∧ Gw.Own wr w1.heap.size 5 A cc (Sp.cat l i) ∧ Below w.heap.size w wr ∧ Below w1.heap.size w1 wr
set_option maxRecDepth 100000 in
set_option maxHeartbeats 4000000 in
theorem walk_not (A0 : Option Addr) (c0 R0 : Nat) (P0 : Nat → Option Addr) (n0 : Nat → Nat) (l0 : Nat → List Nat) (a1 a2 : Int) (w : World) (w0 : MIn w w.heap.size A0 c0 R0 P0 n0 l0) (t0 : tot l0 R0 + R0 ≤ 1048576) (w1 : (Lit.int .i64 a1).wf = true) (w2 : (Lit.int .i64 a2).wf = true) (hno : a1 < 0 ∨ a2 < 1 ∨ (R0 : Int) ≠ Sp.colsZ a1 a2) :
    Calls Try.prog 5 #[.slice A0 R0 c0, .int .i64 a1, .int .i64 a2] w fun e w' => e = .returned (.bool true) ∧ Below w.heap.size w w' := by
  have hb1 : -9223372036854775808 ≤ a1 ∧ a1 ≤ 9223372036854775807 := by simpa [Lit.wf, IntKind.min, IntKind.max, IntKind.signed, IntKind.bits] using w1
  have hb2 : -9223372036854775808 ≤ a2 ∧ a2 ≤ 9223372036854775807 := by simpa [Lit.wf, IntKind.min, IntKind.max, IntKind.signed, IntKind.bits] using w2
  have HJ := Lib.hid (sjoin_no A0 c0 R0 a1 a2 P0 n0 l0 w w0 w1 w2 t0 (by rcases hno with h | h | h; exact .inl h; exact .inr (.inl h); exact .inr (.inr (.inl h))))
  have hRb : R0 ≤ 1048576 := by omega
  clear w1 w2 w0 t0
  by_cases h1 : a1 < 0
  · have h1z : (a1 == 0) = false := beq_eq_false_iff_ne.2 (by omega)
    clear hno
    go_enter Try.func5, Try.ntmps5
    go_wp2_with fail
    refine HJ.out.mono ?_
    rintro e w1 ⟨A2, c2, rfl, hb⟩
    have hBa : Below w.heap.size w (w1.alloc (.cells #[] 5)) := hb.alloc hb.size _
    go_wp2
    go_loopw [9, 10, 11] (fun a b c wr => a = .bool false ∧ b = .slice (some ⟨w1.heap.size, 0, none⟩) 0 0 ∧ c = .int .i64 0 ∧ Below w.heap.size w wr) (fun _ _ _ _ => 0)
    case atStart => exact ⟨rfl, rfl, rfl, hBa⟩
    case round =>
      obtain ⟨rfl, rfl, rfl, hbw⟩ := hrel
      by_cases hR0 : 0 < R0
      · go_wp2_with fail
        refine (answers_any wr).mono ?_
        rintro e w2 ⟨rfl, hb2⟩
        go_wp2
        go_ret
        exact ⟨rfl, hbw.trans (hb2.mono hbw.size)⟩
      · obtain rfl : R0 = 0 := by omega
        go_wp2_with fail
        refine (answers_any wr).mono ?_
        rintro e w2 ⟨rfl, hb2⟩
        go_wp2
        go_ret
        exact ⟨rfl, hbw.trans (hb2.mono hbw.size)⟩
  by_cases h2 : a2 < 1
  · clear hno
    by_cases h1z : a1 = 0
    · subst h1z
      go_enter Try.func5, Try.ntmps5
      go_wp2_with fail
      refine HJ.out.mono ?_
      rintro e w1 ⟨A2, c2, rfl, hb⟩
      have hBa : Below w.heap.size w (w1.alloc (.cells #[] 5)) := hb.alloc hb.size _
      go_wp2
      go_loopw [9, 10, 11] (fun a b c wr => a = .bool false ∧ b = .slice (some ⟨w1.heap.size, 0, none⟩) 0 0 ∧ c = .int .i64 0 ∧ Below w.heap.size w wr) (fun _ _ _ _ => 0)
      case atStart => exact ⟨rfl, rfl, rfl, hBa⟩
      case round =>
        obtain ⟨rfl, rfl, rfl, hbw⟩ := hrel
        by_cases hR0 : 0 < R0
        · go_wp2_with fail
          refine (answers_any wr).mono ?_
          rintro e w2 ⟨rfl, hb2⟩
          go_wp2
          go_ret
          exact ⟨rfl, hbw.trans (hb2.mono hbw.size)⟩
        · obtain rfl : R0 = 0 := by omega
          go_wp2_with fail
          refine (answers_any wr).mono ?_
          rintro e w2 ⟨rfl, hb2⟩
          go_wp2
          go_ret
          exact ⟨rfl, hbw.trans (hb2.mono hbw.size)⟩
    · have h1z' : (a1 == 0) = false := beq_eq_false_iff_ne.2 h1z
      have h1p : 0 < a1 := by omega
      clear h1z
      go_enter Try.func5, Try.ntmps5
      go_wp2_with fail
      refine HJ.out.mono ?_
      rintro e w1 ⟨A2, c2, rfl, hb⟩
      have hBa : Below w.heap.size w (w1.alloc (.cells #[] 5)) := hb.alloc hb.size _
      go_wp2
      go_loopw [9, 10, 11] (fun a b c wr => a = .bool false ∧ b = .slice (some ⟨w1.heap.size, 0, none⟩) 0 0 ∧ c = .int .i64 0 ∧ Below w.heap.size w wr) (fun _ _ _ _ => 0)
      case atStart => exact ⟨rfl, rfl, rfl, hBa⟩
      case round =>
        obtain ⟨rfl, rfl, rfl, hbw⟩ := hrel
        by_cases hR0 : 0 < R0
        · go_wp2_with fail
          refine (answers_any wr).mono ?_
          rintro e w2 ⟨rfl, hb2⟩
          go_wp2
          go_ret
          exact ⟨rfl, hbw.trans (hb2.mono hbw.size)⟩
        · obtain rfl : R0 = 0 := by omega
          go_wp2_with fail
          refine (answers_any wr).mono ?_
          rintro e w2 ⟨rfl, hb2⟩
          go_wp2
          go_ret
          exact ⟨rfl, hbw.trans (hb2.mono hbw.size)⟩
  obtain ⟨S, rfl⟩ : ∃ S : Nat, a1 = S := ⟨a1.toNat, by omega⟩
  obtain ⟨K, rfl⟩ : ∃ K : Nat, a2 = K := ⟨a2.toNat, by omega⟩
  have hne : R0 ≠ Sp.cnt S K := by
    rcases hno with h | h | h
    · omega
    · omega
    · rw [Sp.colsZ_nat] at h; omega
  clear hno
  have hK1 : 1 ≤ K := by omega
  by_cases hS : S = 0
  · subst hS
    have hRp : 0 < R0 := by simp [Sp.cnt] at hne; omega
    have hRz : ((R0 : Int) == 0) = false := beq_eq_false_iff_ne.2 (by omega)
    clear hne
    go_enter Try.func5, Try.ntmps5
    go_wp2_with fail
    refine HJ.out.mono ?_
    rintro e w1 ⟨A2, c2, rfl, hb⟩
    have hBa : Below w.heap.size w (w1.alloc (.cells #[] 5)) := hb.alloc hb.size _
    go_wp2
    go_loopw [9, 10, 11] (fun a b c wr => a = .bool false ∧ b = .slice (some ⟨w1.heap.size, 0, none⟩) 0 0 ∧ c = .int .i64 0 ∧ Below w.heap.size w wr) (fun _ _ _ _ => 0)
    case atStart => exact ⟨rfl, rfl, rfl, hBa⟩
    case round =>
      obtain ⟨rfl, rfl, rfl, hbw⟩ := hrel
      by_cases hR0 : 0 < R0
      · go_wp2_with fail
        refine (answers_any wr).mono ?_
        rintro e w2 ⟨rfl, hb2⟩
        go_wp2
        go_ret
        exact ⟨rfl, hbw.trans (hb2.mono hbw.size)⟩
      · obtain rfl : R0 = 0 := by omega
        go_wp2_with fail
        refine (answers_any wr).mono ?_
        rintro e w2 ⟨rfl, hb2⟩
        go_wp2
        go_ret
        exact ⟨rfl, hbw.trans (hb2.mono hbw.size)⟩
  · obtain ⟨U, hU⟩ : ∃ U, U = S - 1 := ⟨_, rfl⟩
    obtain ⟨q, hq⟩ : ∃ q, q = U / K := ⟨_, rfl⟩
    have hqn : R0 ≠ q + 1 := by rw [hq, hU]; unfold Sp.cnt at hne; rw [if_neg (by omega)] at hne; exact hne
    have hqT : q ≤ U := by rw [hq]; exact Nat.div_le_self _ _
    have hwT : IntKind.i64.wrap ((S : Int) - 1) = (U : Int) := by rw [IntKind.wrap_i64]; omega
    have htd : ((U : Int)).tdiv (K : Int) = (q : Int) := by rw [hq, Int.tdiv_eq_ediv_of_nonneg (by omega)]; simp
    have hwq : IntKind.i64.wrap (q : Int) = (q : Int) := by rw [IntKind.wrap_i64]; omega
    obtain ⟨r1, hr1⟩ : ∃ r1 : Int, r1 = (R0 : Int) - 1 := ⟨_, rfl⟩
    have hwr : IntKind.i64.wrap ((R0 : Int) - 1) = r1 := by rw [IntKind.wrap_i64]; omega
    have hrq : (r1 == (q : Int)) = false := beq_eq_false_iff_ne.2 (by omega)
    have hK0 : ((K : Int) == 0) = false := beq_eq_false_iff_ne.2 (by omega)
    have hS0 : 0 < S := by omega
    have hSz : ((S : Int) == 0) = false := beq_eq_false_iff_ne.2 (by omega)
    clear hne hU hq hqn hqT hr1 hS
    go_enter Try.func5, Try.ntmps5
    go_wp2_with fail
    refine HJ.out.mono ?_
    rintro e w1 ⟨A2, c2, rfl, hb⟩
    have hBa : Below w.heap.size w (w1.alloc (.cells #[] 5)) := hb.alloc hb.size _
    go_wp2
    go_loopw [9, 10, 11] (fun a b c wr => a = .bool false ∧ b = .slice (some ⟨w1.heap.size, 0, none⟩) 0 0 ∧ c = .int .i64 0 ∧ Below w.heap.size w wr) (fun _ _ _ _ => 0)
    case atStart => exact ⟨rfl, rfl, rfl, hBa⟩
    case round =>
      obtain ⟨rfl, rfl, rfl, hbw⟩ := hrel
      by_cases hR0 : 0 < R0
      · go_wp2_with fail
        refine (answers_any wr).mono ?_
        rintro e w2 ⟨rfl, hb2⟩
        go_wp2
        go_ret
        exact ⟨rfl, hbw.trans (hb2.mono hbw.size)⟩
      · obtain rfl : R0 = 0 := by omega
        go_wp2_with fail
        refine (answers_any wr).mono ?_
        rintro e w2 ⟨rfl, hb2⟩
        go_wp2
        go_ret
        exact ⟨rfl, hbw.trans (hb2.mono hbw.size)⟩
set_option maxRecDepth 100000 in
set_option maxHeartbeats 4000000 in
theorem walk_bad (A0 : Option Addr) (c0 R0 : Nat) (P0 : Nat → Option Addr) (n0 : Nat → Nat) (l0 : Nat → List Nat) (S K : Nat) (w : World) (w0 : MIn w w.heap.size A0 c0 R0 P0 n0 l0) (t0 : tot l0 R0 + R0 ≤ 1048576) (hSb : S ≤ 9223372036854775807) (hKb : K ≤ 9223372036854775807) (hS0 : 0 < S) (hK1 : 1 ≤ K) (hR : R0 = Sp.cnt S K) (hno : ¬ ∀ i, i < R0 → (l0 i).length = K) :
    Calls Try.prog 5 #[.slice A0 R0 c0, .int .i64 (S : Int), .int .i64 (K : Int)] w fun e w' => e = .returned (.bool true) ∧ Below w.heap.size w w' := by
  have HJ := Lib.hid (sjoin_no A0 c0 R0 (S : Int) (K : Int) P0 n0 l0 w w0 (by simp [Lit.wf, IntKind.min, IntKind.max, IntKind.signed, IntKind.bits]; omega) (by simp [Lit.wf, IntKind.min, IntKind.max, IntKind.signed, IntKind.bits]; omega) t0 (by
    refine .inr (.inr (.inr (Classical.byContradiction fun h => hno fun i hi => Classical.byContradiction fun hne => h ⟨i, hi, by omega⟩)))))
  have HNALL := Lib.hid hno
  clear hno
  obtain ⟨i0, hi0, hz0, hz1, hz2⟩ := info_parts pbyte_info
  obtain ⟨U, hU⟩ : ∃ U, U = S - 1 := ⟨_, rfl⟩
  obtain ⟨q, hq⟩ : ∃ q, q = U / K := ⟨_, rfl⟩
  have hqn : R0 = q + 1 := by rw [hq, hU, hR]; unfold Sp.cnt; rw [if_neg (by omega)]
  have hqT : q ≤ U := by rw [hq]; exact Nat.div_le_self _ _
  have hwT : IntKind.i64.wrap ((S : Int) - 1) = (U : Int) := by rw [IntKind.wrap_i64]; omega
  have htd : ((U : Int)).tdiv (K : Int) = (q : Int) := by rw [hq, Int.tdiv_eq_ediv_of_nonneg (by omega)]; simp
  have hwq : IntKind.i64.wrap (q : Int) = (q : Int) := by rw [IntKind.wrap_i64]; omega
  have hwr : IntKind.i64.wrap ((R0 : Int) - 1) = (q : Int) := by rw [IntKind.wrap_i64]; omega
  have hK0 : ((K : Int) == 0) = false := beq_eq_false_iff_ne.2 (by omega)
  have hSz : ((S : Int) == 0) = false := beq_eq_false_iff_ne.2 (by omega)
  clear hU hq hqn hqT hR
  go_enter Try.func5, Try.ntmps5
  go_wp2_with fail
  refine HJ.out.mono ?_
  rintro e w1 ⟨A2, c2, rfl, hb⟩
  have hBa : Below w.heap.size w (w1.alloc (.cells #[] 5)) := hb.alloc hb.size _
  go_wp2
  go_loopw [9, 10, 11] (JnRel w w1 R0 K l0) (fun _ _ i _ => R0 - (intOf i).toNat)
  case atStart => exact ⟨0, 0, true, _, 0, rfl, rfl, rfl, rfl, Nat.zero_le _, by simp, Own.lit0 w1 w1.heap.size 5 (Nat.le_refl _), hBa, (Below.refl _ _).alloc (Nat.le_refl _) _⟩
  case round =>
    obtain ⟨i, n, t, A, cc, rfl, rfl, rfl, hnc, hi0', hT, hown, hbw, hbw1'⟩ := hrel
    have HNC := Lib.hid hnc
    have hbw1 := Lib.hid hbw1'
    clear hnc hbw1'
    cases t with
    | false =>
      have hbad : ¬ ∀ j, j < i → (l0 j).length = K := fun h => by have := hT.2 h; cases this
      clear hT hown
      by_cases hi : i < R0
      · go_wp2_with fail
        refine (answers_any wr).mono ?_
        rintro e w2 ⟨rfl, hb2⟩
        go_wp2
        go_ret
        exact ⟨rfl, hbw.trans (hb2.mono hbw.size)⟩
      · have hir : ¬ i < R0 := hi
        go_wp2_with fail
        refine (answers_any wr).mono ?_
        rintro e w2 ⟨rfl, hb2⟩
        go_wp2
        go_ret
        exact ⟨rfl, hbw.trans (hb2.mono hbw.size)⟩
    | true =>
      have HT := Lib.hid (hT.1 rfl)
      clear hT
      by_cases hi : i < R0
      · obtain ⟨b, off, hA0, hbl, hc, hI⟩ := (w0.below hbw).rd i hi
        subst hA0
        obtain ⟨q1, hq1⟩ : ∃ q, q = P0 i := ⟨_, rfl⟩
        obtain ⟨cq, hcq⟩ : ∃ q, q = n0 i := ⟨_, rfl⟩
        obtain ⟨m, hm⟩ : ∃ m, m = (l0 i).length := ⟨_, rfl⟩
        rw [← hm, ← hq1, ← hcq] at hc
        rw [← hq1, ← hcq] at hI
        obtain ⟨t', ht'⟩ : ∃ t', t' = ((m : Int) == (K : Int)) := ⟨_, rfl⟩
        have ht2 : t' = true ↔ ∀ j, j < i + 1 → (l0 j).length = K := by
          rw [ht', beq_iff_eq]
          constructor
          · intro h j hj
            by_cases hji : j = i
            · subst hji; omega
            · exact HT.out j (by omega)
          · intro h
            have := h i (by omega)
            omega
        have htt := tot_mono (l := l0) (show i + 1 ≤ R0 from hi)
        have htl : tot l0 (i + 1) = n + m := by rw [hm, HNC.out, cat_tot]; rfl
        have ht3 : ((m : Int) == (K : Int)) = t' := ht'.symm
        obtain ⟨n2, hn2⟩ : ∃ n2, n2 = (Sp.cat l0 (i + 1)).length := ⟨_, rfl⟩
        have HT2 := Lib.hid ht2
        have HM := Lib.hid hm
        have HSLI := Lib.hid hI.sl
        have hnil := hI.none_
        have HN2 := Lib.hid hn2
        have HCAT := Lib.hid (show Sp.cat l0 i ++ l0 i = Sp.cat l0 (i + 1) from rfl)
        have HOW := Lib.hid hown
        clear ht' ht2 hm hI hq1 hcq hn2 hown
        go_wp2_with (first
          | (at_builtin; refine wpList_app rfl (.tmp 65) (.tmp 69) 22 rfl w1.heap.size 5 i0 _ Try.underlying22 hi0 hz0 hz1 hz2 rfl A n cc (Sp.cat l0 i) rfl HNC.out HOW.out w.heap.size q1 m cq (l0 i) rfl HM.out hnil HSLI.out (by rw [← HNC.out, ← HM.out]; omega) hbw1.out.size ?_
             intro A3 c3 w3 hown3 hgr3
             rw [HCAT.out] at hown3
             rw [HCAT.out, ← HN2.out]
             have hB31 := below_app0 hbw1.out hbw1.out.size HOW.out hgr3
             have hB3 := below_app0 hbw hbw.size (HOW.out.base hb.size) hgr3
             clear hgr3)
          | fail)
        go_roundw
        case rel => exact ⟨i + 1, n2, t', A3, c3, rfl, rfl, by go_num, HN2.out, by omega, HT2.out, hown3, hB3, hB31⟩
        case measure => simp [intOf]; omega
      · obtain rfl : R0 = i := by omega
        exact absurd HT.out HNALL.out
set_option maxRecDepth 100000 in
set_option maxHeartbeats 4000000 in
theorem walk_yes (A0 : Option Addr) (c0 R0 : Nat) (P0 : Nat → Option Addr) (n0 : Nat → Nat) (l0 : Nat → List Nat) (S K : Nat) (w : World) (w0 : MIn w w.heap.size A0 c0 R0 P0 n0 l0) (t0 : tot l0 R0 + R0 ≤ 1048576) (hSb : S ≤ 9223372036854775807) (hKb : K ≤ 9223372036854775807) (hS0 : 0 < S) (hK1 : 1 ≤ K) (hR : R0 = Sp.cnt S K) (hall : ∀ i, i < R0 → (l0 i).length = K) :
    Calls Try.prog 5 #[.slice A0 R0 c0, .int .i64 (S : Int), .int .i64 (K : Int)] w fun e w' => e = .returned (.bool true) ∧ Below w.heap.size w w' := by
  have htk : R0 * K ≤ 1048576 := by rw [← Sp.cat_len hall, cat_tot]; omega
  have hRp : 0 < R0 := by rw [hR]; exact (Sp.cnt_lt hK1).2 (by omega)
  have hKs : K ≤ 1048576 := Nat.le_trans (Nat.le_mul_of_pos_left K hRp) htk
  have HJ := Lib.hid (sjoin_yes A0 c0 R0 K S P0 n0 l0 w w0 hR hK1 (by omega) hall (by omega))
  have HALL := Lib.hid hall
  have HRS := Lib.hid (show S ≤ R0 * K by rw [hR]; exact Sp.cnt_all hK1)
  have HSL := Lib.hid (show S = ((Sp.cat l0 R0).take S).length by rw [List.length_take, Sp.cat_len hall]; have := HRS.out; omega)
  obtain ⟨σ, hσ⟩ : ∃ σ, σ = str ((Sp.cat l0 R0).take S) := ⟨_, rfl⟩
  have HSG := Lib.hid hσ
  clear hall hσ
  obtain ⟨i0, hi0, hz0, hz1, hz2⟩ := info_parts pbyte_info
  obtain ⟨U, hU⟩ : ∃ U, U = S - 1 := ⟨_, rfl⟩
  obtain ⟨q, hq⟩ : ∃ q, q = U / K := ⟨_, rfl⟩
  have hqn : R0 = q + 1 := by rw [hq, hU, hR]; unfold Sp.cnt; rw [if_neg (by omega)]
  have hqT : q ≤ U := by rw [hq]; exact Nat.div_le_self _ _
  have hwT : IntKind.i64.wrap ((S : Int) - 1) = (U : Int) := by rw [IntKind.wrap_i64]; omega
  have htd : ((U : Int)).tdiv (K : Int) = (q : Int) := by rw [hq, Int.tdiv_eq_ediv_of_nonneg (by omega)]; simp
  have hwq : IntKind.i64.wrap (q : Int) = (q : Int) := by rw [IntKind.wrap_i64]; omega
  have hwr : IntKind.i64.wrap ((R0 : Int) - 1) = (q : Int) := by rw [IntKind.wrap_i64]; omega
  have hK0 : ((K : Int) == 0) = false := beq_eq_false_iff_ne.2 (by omega)
  have hSz : ((S : Int) == 0) = false := beq_eq_false_iff_ne.2 (by omega)
  clear hU hq hqn hqT hR
  go_enter Try.func5, Try.ntmps5
  go_wp2_with fail
  refine HJ.out.mono ?_
  rintro e w1 ⟨A2, c2, rfl, hI1', hb⟩
  have HI1 := Lib.hid hI1'
  have hBa : Below w.heap.size w (w1.alloc (.cells #[] 5)) := hb.alloc hb.size _
  clear hI1'
  go_wp2
  go_loopw [9, 10, 11] (JnRel w w1 R0 K l0) (fun _ _ i _ => R0 - (intOf i).toNat)
  case atStart => exact ⟨0, 0, true, _, 0, rfl, rfl, rfl, rfl, Nat.zero_le _, by simp, Own.lit0 w1 w1.heap.size 5 (Nat.le_refl _), hBa, (Below.refl _ _).alloc (Nat.le_refl _) _⟩
  case round =>
    obtain ⟨i, n, t, A, cc, rfl, rfl, rfl, hnc, hi0', hT, hown, hbw, hbw1'⟩ := hrel
    have HNC := Lib.hid hnc
    have hbw1 := Lib.hid hbw1'
    clear hnc hbw1'
    cases t with
    | false =>
      exact absurd (hT.2 (fun j hj => HALL.out j (by omega))) (by decide)
    | true =>
      have HT := Lib.hid (hT.1 rfl)
      clear hT
      by_cases hi : i < R0
      · obtain ⟨b, off, hA0, hbl, hc, hI⟩ := (w0.below hbw).rd i hi
        subst hA0
        obtain ⟨q1, hq1⟩ : ∃ q, q = P0 i := ⟨_, rfl⟩
        obtain ⟨cq, hcq⟩ : ∃ q, q = n0 i := ⟨_, rfl⟩
        obtain ⟨m, hm⟩ : ∃ m, m = (l0 i).length := ⟨_, rfl⟩
        rw [← hm, ← hq1, ← hcq] at hc
        rw [← hq1, ← hcq] at hI
        obtain ⟨t', ht'⟩ : ∃ t', t' = ((m : Int) == (K : Int)) := ⟨_, rfl⟩
        have ht2 : t' = true ↔ ∀ j, j < i + 1 → (l0 j).length = K := by
          rw [ht', beq_iff_eq]
          constructor
          · intro h j hj
            by_cases hji : j = i
            · subst hji; omega
            · exact HT.out j (by omega)
          · intro h
            have := h i (by omega)
            omega
        have htt := tot_mono (l := l0) (show i + 1 ≤ R0 from hi)
        have htl : tot l0 (i + 1) = n + m := by rw [hm, HNC.out, cat_tot]; rfl
        have ht3 : ((m : Int) == (K : Int)) = t' := ht'.symm
        obtain ⟨n2, hn2⟩ : ∃ n2, n2 = (Sp.cat l0 (i + 1)).length := ⟨_, rfl⟩
        have HT2 := Lib.hid ht2
        have HM := Lib.hid hm
        have HSLI := Lib.hid hI.sl
        have hnil := hI.none_
        have HN2 := Lib.hid hn2
        have HCAT := Lib.hid (show Sp.cat l0 i ++ l0 i = Sp.cat l0 (i + 1) from rfl)
        have HOW := Lib.hid hown
        clear ht' ht2 hm hI hq1 hcq hn2 hown
        go_wp2_with (first
          | (at_builtin; refine wpList_app rfl (.tmp 65) (.tmp 69) 22 rfl w1.heap.size 5 i0 _ Try.underlying22 hi0 hz0 hz1 hz2 rfl A n cc (Sp.cat l0 i) rfl HNC.out HOW.out w.heap.size q1 m cq (l0 i) rfl HM.out hnil HSLI.out (by rw [← HNC.out, ← HM.out]; omega) hbw1.out.size ?_
             intro A3 c3 w3 hown3 hgr3
             rw [HCAT.out] at hown3
             rw [HCAT.out, ← HN2.out]
             have hB31 := below_app0 hbw1.out hbw1.out.size HOW.out hgr3
             have hB3 := below_app0 hbw hbw.size (HOW.out.base hb.size) hgr3
             clear hgr3)
          | fail)
        go_roundw
        case rel => exact ⟨i + 1, n2, t', A3, c3, rfl, rfl, by go_num, HN2.out, by omega, HT2.out, hown3, hB3, hB31⟩
        case measure => simp [intOf]; omega
      · obtain rfl : R0 = i := by omega
        have hlen : (Sp.cat l0 R0).length = R0 * K := Sp.cat_len HALL.out
        obtain ⟨AT, cT, hsa, hst⟩ := slice_h_any hown.inn HNC.out (show S ≤ n by rw [HNC.out, hlen]; exact HRS.out)
        have HSA := Lib.hid hsa
        have HST := Lib.hid hst
        have HI2 := Lib.hid ((HI1.out.below (hbw1.out)).more hbw1.out.size)
        have HBW := Lib.hid hbw
        clear hsa hst hlen hown hbw
        go_wp2
        rename_i K' hK
        refine Gt.regionA [Gt.Is (.bool true), Gt.Is (.bool true), Gt.Is (.bool true), Gt.Is (.bool true), Gt.Is (.bool true), Gt.Is (.slice A2 S c2), Gt.Is (.string σ), Gt.Is (.slice A n cc), Gt.Is (.int .i64 (S : Int)), Gt.Is (.slice AT S cT), Gt.Is (.string σ), Gt.Is (.bool true), Gt.Is (.bool true), Gt.Is (.bool true)] 96
          [⟨[], [], none⟩, ⟨[(0, 83)], [], none⟩, ⟨[(1, 84)], [8], some (84, true)⟩, ⟨[(1, 84), (2, 85)], [], none⟩, ⟨[(3, 86)], [], none⟩, ⟨[(4, 87)], [7], some (87, true)⟩, ⟨[(4, 87), (5, 88)], [], some (87, true)⟩, ⟨[(4, 87)], [10], some (87, true)⟩, ⟨[(4, 87)], [1], some (87, true)⟩, ⟨[(4, 87), (7, 90), (8, 91)], [], some (87, true)⟩, ⟨[(4, 87), (9, 92)], [], some (87, true)⟩, ⟨[(4, 87), (6, 89), (10, 93)], [], some (87, true)⟩, ⟨[(4, 87), (11, 94)], [], none⟩, ⟨[(12, 95)], [], none⟩]
          [(0, 83), (1, 84), (2, 85), (3, 86), (4, 87), (5, 88), (6, 89), (7, 90), (8, 91), (9, 92), (10, 93), (11, 94), (12, 95), (13, 6)] (by kernel_rfl) (by kernel_rfl) (by kernel_rfl) (by kernel_rfl) ?_ ?_ ?_
        · simp only [Gt.Monos]
          repeat' apply And.intro
          all_goals (first | exact trivial | exact Gt.Is.mono _)
        · simp only [Gt.Obs]
          repeat' apply And.intro
          all_goals try exact trivial
          all_goals (
            intro a w5 hg
            have hg' : Below wr.heap.size wr w5 := hg
            simp only [Gt.Pre, Gt.Kept, Gt.Guarded, Gt.tys, List.getD_cons_zero, List.getD_cons_succ, Gt.Is, Nat.zero_add, Nat.reduceAdd]
            intros
            try (refine ⟨fun _ => ?_, fun hne => absurd (by assumption) hne⟩))
          all_goals (first
            | exact Gt.ok_move rfl (by assumption)
            | exact Gt.ok_assign rfl (by assumption)
            | exact Gt.ok_pick rfl (by assumption) (by rw [if_pos rfl]; assumption)
            | (exact Gt.ok_call (f := 8) rfl #[] (by kernel_rfl) (by simp) ((answers_any _).mono fun e w6 h => ⟨_, h.1, h.2, rfl⟩))
            | (have k5 := conv_sl (P := Try.prog) (HI2.out.below hg').sl Try.underlying22 Try.underlying5 Try.underlying9 c2
               rw [← HSL.out, ← HSG.out] at k5
               exact Gt.ok_convert rfl (by assumption) k5 rfl)
            | (have k5 := conv_sl (P := Try.prog) (HST.out.below hg').sl Try.underlying22 Try.underlying5 Try.underlying9 cT
               rw [← HSL.out, ← HSG.out] at k5
               exact Gt.ok_convert rfl (by assumption) k5 rfl)
            | (refine Gt.ok_run ?_ rfl
               simp only [execOp, Option.map_some, Option.map_none, *]
               have k5 := HSA.out w5
               simp only [Sem.run_bind, k5, Result.andThen_ok, Sem.run_pure]
               done)
            | (refine Gt.ok_run ?_ rfl
               simp only [execOp, *]
               go_simp
               done))
        · intro a w5 hg
          have hg' : Below wr.heap.size wr w5 := hg
          simp only [Gt.Pre, Gt.tys, List.getD_cons_zero, List.getD_cons_succ, Gt.Is]
          intro h0 h1 h2 h3 h4 h5 h6 h7 h8 h9 h10 h11 h12 h13
          show K' _ _
          refine hK _ _ ?_
          simp only [Gt.puts, List.foldl_cons, List.foldl_nil, h0, h1, h2, h3, h4, h5, h6, h7, h8, h9, h10, h11, h12, h13]
          simp only [Act.put, List.setIfInBounds_toArray, List.set_cons_zero, List.set_cons_succ]
          go_wp2
          go_ret
          exact ⟨rfl, HBW.out.trans (hg'.mono HBW.out.size)⟩
set_option maxRecDepth 100000 in
set_option maxHeartbeats 4000000 in
theorem walk_nil (A0 : Option Addr) (c0 : Nat) (K : Nat) (w : World) (hKb : K ≤ 9223372036854775807) (hK1 : 1 ≤ K) (HJ : Calls Try.prog 11 #[.slice A0 0 c0, .int .i64 0, .int .i64 (K : Int)] w fun e w' => ∃ A2 c2, e = .returned (.tuple #[.slice A2 0 c2, .bool true]) ∧ In w' w'.heap.size A2 c2 [] ∧ Below w.heap.size w w') :
    Calls Try.prog 5 #[.slice A0 0 c0, .int .i64 0, .int .i64 (K : Int)] w fun e w' => e = .returned (.bool true) ∧ Below w.heap.size w w' := by
  obtain ⟨σ, hσ⟩ : ∃ σ, σ = str [] := ⟨_, rfl⟩
  have HSG := Lib.hid hσ
  clear hσ
  go_enter Try.func5, Try.ntmps5
  go_wp2_with fail
  refine HJ.mono ?_
  rintro e w1 ⟨A2, c2, rfl, _, hb⟩
  have hBa : Below w.heap.size w (w1.alloc (.cells #[] 5)) := hb.alloc hb.size _
  clear HJ
  go_wp2
  go_loopw [9, 10, 11] (fun a b c wr => a = .bool true ∧ b = .slice (some ⟨w1.heap.size, 0, none⟩) 0 0 ∧ c = .int .i64 0 ∧ Below w.heap.size w wr) (fun _ _ _ _ => 0)
  case atStart => exact ⟨rfl, rfl, rfl, hBa⟩
  case round =>
    obtain ⟨rfl, rfl, rfl, hbw⟩ := hrel
    have HBW := Lib.hid hbw
    clear hbw
    go_wp2
    rename_i K' hK
    refine Gt.regionA [Gt.Is (.bool true), Gt.Is (.bool true), Gt.Is (.bool true), Gt.Is (.bool true), Gt.Is (.bool true), Gt.Is (.slice A2 0 c2), Gt.Is (.string σ), Gt.Is (.slice (some ⟨w1.heap.size, 0, none⟩) 0 0), Gt.Is (.int .i64 0), Gt.Is (.slice (some ⟨w1.heap.size, 0, none⟩) 0 0), Gt.Is (.string σ), Gt.Is (.bool true), Gt.Is (.bool true), Gt.Is (.bool true)] 96
      [⟨[], [], none⟩, ⟨[(0, 83)], [], none⟩, ⟨[(1, 84)], [8], some (84, true)⟩, ⟨[(1, 84), (2, 85)], [], none⟩, ⟨[(3, 86)], [], none⟩, ⟨[(4, 87)], [7], some (87, true)⟩, ⟨[(4, 87), (5, 88)], [], some (87, true)⟩, ⟨[(4, 87)], [10], some (87, true)⟩, ⟨[(4, 87)], [1], some (87, true)⟩, ⟨[(4, 87), (7, 90), (8, 91)], [], some (87, true)⟩, ⟨[(4, 87), (9, 92)], [], some (87, true)⟩, ⟨[(4, 87), (6, 89), (10, 93)], [], some (87, true)⟩, ⟨[(4, 87), (11, 94)], [], none⟩, ⟨[(12, 95)], [], none⟩]
      [(0, 83), (1, 84), (2, 85), (3, 86), (4, 87), (5, 88), (6, 89), (7, 90), (8, 91), (9, 92), (10, 93), (11, 94), (12, 95), (13, 6)] (by kernel_rfl) (by kernel_rfl) (by kernel_rfl) (by kernel_rfl) ?_ ?_ ?_
    · simp only [Gt.Monos]
      repeat' apply And.intro
      all_goals (first | exact trivial | exact Gt.Is.mono _)
    · simp only [Gt.Obs]
      repeat' apply And.intro
      all_goals try exact trivial
      all_goals (
        intro a w5 hg
        have hg' : Below wr.heap.size wr w5 := hg
        simp only [Gt.Pre, Gt.Kept, Gt.Guarded, Gt.tys, List.getD_cons_zero, List.getD_cons_succ, Gt.Is, Nat.zero_add, Nat.reduceAdd]
        intros
        try (refine ⟨fun _ => ?_, fun hne => absurd (by assumption) hne⟩))
      all_goals (first
        | exact Gt.ok_move rfl (by assumption)
        | exact Gt.ok_assign rfl (by assumption)
        | exact Gt.ok_pick rfl (by assumption) (by rw [if_pos rfl]; assumption)
        | (exact Gt.ok_call (f := 8) rfl #[] (by kernel_rfl) (by simp) ((answers_any _).mono fun e w6 h => ⟨_, h.1, h.2, rfl⟩))
        | (have k5 := conv_sl (P := Try.prog) (w := w5) (B := 0) (A := A2) (l := []) Sl.nil Try.underlying22 Try.underlying5 Try.underlying9 c2
           rw [← HSG.out] at k5
           exact Gt.ok_convert rfl (by assumption) k5 rfl)
        | (have k5 := conv_sl (P := Try.prog) (w := w5) (B := 0) (A := some ⟨w1.heap.size, 0, none⟩) (l := []) Sl.nil Try.underlying22 Try.underlying5 Try.underlying9 0
           rw [← HSG.out] at k5
           exact Gt.ok_convert rfl (by assumption) k5 rfl)
        | (refine Gt.ok_run ?_ rfl
           simp only [execOp, Option.map_some, Option.map_none, *]
           go_simp
           done)
        | (refine Gt.ok_run ?_ rfl
           simp only [execOp, *]
           go_simp
           done))
    · intro a w5 hg
      have hg' : Below wr.heap.size wr w5 := hg
      simp only [Gt.Pre, Gt.tys, List.getD_cons_zero, List.getD_cons_succ, Gt.Is]
      intro h0 h1 h2 h3 h4 h5 h6 h7 h8 h9 h10 h11 h12 h13
      show K' _ _
      refine hK _ _ ?_
      simp only [Gt.puts, List.foldl_cons, List.foldl_nil, h0, h1, h2, h3, h4, h5, h6, h7, h8, h9, h10, h11, h12, h13]
      simp only [Act.put, List.setIfInBounds_toArray, List.set_cons_zero, List.set_cons_succ]
      go_wp2
      go_ret
      exact ⟨rfl, HBW.out.trans (hg'.mono HBW.out.size)⟩
set_option maxRecDepth 100000 in
set_option maxHeartbeats 4000000 in
theorem walk (A0 : Option Addr) (c0 R0 : Nat) (P0 : Nat → Option Addr) (n0 : Nat → Nat) (l0 : Nat → List Nat) (a1 a2 : Int) (w : World) (w0 : MIn w w.heap.size A0 c0 R0 P0 n0 l0) (_s0 : c0 ≤ 1048576) (_b0 : ∀ i, BB (l0 i)) (t0 : tot l0 R0 + R0 ≤ 1048576) (w1 : (Lit.int .i64 a1).wf = true) (w2 : (Lit.int .i64 a2).wf = true) :
    Calls Try.prog 5 #[.slice A0 R0 c0, .int .i64 a1, .int .i64 a2] w fun e w' => e = .returned (.bool true) ∧ Below w.heap.size w w' := by
  by_cases hno : a1 < 0 ∨ a2 < 1 ∨ (R0 : Int) ≠ Sp.colsZ a1 a2
  · exact walk_not A0 c0 R0 P0 n0 l0 a1 a2 w w0 t0 w1 w2 hno
  have hb1 : -9223372036854775808 ≤ a1 ∧ a1 ≤ 9223372036854775807 := by simpa [Lit.wf, IntKind.min, IntKind.max, IntKind.signed, IntKind.bits] using w1
  have hb2 : -9223372036854775808 ≤ a2 ∧ a2 ≤ 9223372036854775807 := by simpa [Lit.wf, IntKind.min, IntKind.max, IntKind.signed, IntKind.bits] using w2
  have h1 : ¬ a1 < 0 := fun h => hno (.inl h)
  have h2 : ¬ a2 < 1 := fun h => hno (.inr (.inl h))
  have h3 : (R0 : Int) = Sp.colsZ a1 a2 := Classical.byContradiction fun h => hno (.inr (.inr h))
  obtain ⟨S, rfl⟩ : ∃ S : Nat, a1 = S := ⟨a1.toNat, by omega⟩
  obtain ⟨K, rfl⟩ : ∃ K : Nat, a2 = K := ⟨a2.toNat, by omega⟩
  rw [Sp.colsZ_nat] at h3
  have hR : R0 = Sp.cnt S K := by omega
  by_cases hS : S = 0
  · subst hS
    obtain rfl : R0 = 0 := by rw [hR]; simp [Sp.cnt]
    exact walk_nil A0 c0 K w (by omega) (by omega) (sjoin_yes A0 c0 0 K 0 P0 n0 l0 w w0 hR (by omega) (by omega) (fun i hi => by omega) (by omega))
  by_cases hall : ∀ i, i < R0 → (l0 i).length = K
  · exact walk_yes A0 c0 R0 P0 n0 l0 S K w w0 t0 (by omega) (by omega) (by omega) (by omega) hR hall
  · exact walk_bad A0 c0 R0 P0 n0 l0 S K w w0 t0 (by omega) (by omega) (by omega) (by omega) hR hall

theorem contract (H : Type) (enc : TypeId × Value → H) (W : World) (base : Nat) (args : Array Value) (ds gs : List (DataW H)) (before : List MemPlace)
    (hval : ∀ (j : Nat) t v, Try.f5.params[j]? = some t → args[j]? = some v → Value.okWide Try.prog W .any base t v)
    (hW : DataW.Whole enc Try.prog Try.f5.params.toList Rows.stripeJoinsSpec.vars false W args.toList ds gs before) (hk : Rows.uptoSmall H (ds ++ gs) = true) :
    Calls Try.prog 5 args W fun e W' => ∃ v, e = .returned v ∧ Rows.stripeJoinsSpec.post enc Try.prog Try.f5 false true false false W args v W' := by
  have hW' := hW
  obtain ⟨p, q, hA0, hV, rfl, _hfz, _hnd⟩ := hW
  have hA : DataW.TrodAll enc Try.prog W 0 (fun _ => true) true Try.f5.params.toList args.toList ds p := hA0
  rw [Try.params5] at hA hval
  obtain ⟨v0, vs0, d0, ds0, p0, q0, hargs, rfl, rfl, h0, r0⟩ := trodAll_cons hA
  obtain ⟨v1, vs1, d1, ds1, p1, q1, rfl, rfl, rfl, h1, r1⟩ := trodAll_cons r0
  obtain ⟨v2, vs2, d2, ds2, p2, q2, rfl, rfl, rfl, h2, r2⟩ := trodAll_cons r1
  obtain ⟨rfl, rfl, rfl⟩ := trodAll_nil r2
  obtain rfl : args = #[v0, v1, v2] := by cases args; simp_all
  obtain ⟨rfl, rfl⟩ := trodVars_none hV
  simp only [List.append_nil] at hk
  have k0 := h0
  have lt0 : ∀ x ∈ p0, x.block < W.heap.size := by obtain ⟨m, hm⟩ := k0; exact DataW.trod_lt m _ _ _ hm
  obtain ⟨A0, c0, R0, P0, n0, l0, rfl, w0, b0, sz0, sh0⟩ := open_rows Try.underlying24 Try.underlying22 Try.underlying5 (by kernel_rfl) (by kernel_rfl) (hval 0 24 v0 rfl rfl) h0
  have s0 := bulks.bytes_small (bulks.part hk (j := 0) rfl) sz0
  have t0 := bulks.rows_small (bulks.part hk (j := 0) rfl) sh0
  obtain ⟨a1, rfl, rfl, rfl, w1⟩ := open_int Try.underlying3 (hval 1 3 v1 rfl rfl) h1
  obtain ⟨a2, rfl, rfl, rfl, w2⟩ := open_int Try.underlying3 (hval 2 3 v2 rfl rfl) h2
  clear hA0
  refine (walk A0 c0 R0 P0 n0 l0 a1 a2 W w0 s0 b0 t0 w1 w2).mono fun e W' ⟨he, bel⟩ => ?_
  subst he
  exact ⟨_, rfl, _, _, _, [], _, [], hW', trodAll_mk1 (shut_bool Try.underlying4 _), (trodAll_cons_mk (Below.trod laidOut (by kernel_rfl) (of_decide_eq_true (by kernel_rfl)) k0 bel lt0) (trodAll_cons_mk (shut_int Try.underlying3 w1) (trodAll_cons_mk (shut_int Try.underlying3 w2) trodAll_mk0))), rfl, bel.frame _, fun h => by cases h⟩

set_option maxRecDepth 100000 in
theorem lifted (os : Os) (started : os.Started) (H : Type) (enc : TypeId × Value → H) (F : Stop.Interp) :
    ReturnsInHanded {} Try.checked os 5 .any ((Rows.OpenSpec.upto Rows.stripeJoinsSpec).pre6 enc Try.prog Try.f5 Rows.stripeJoinsUptoRow.domain false) (((Rows.OpenSpec.upto Rows.stripeJoinsSpec).at F).post enc Try.prog Try.f5 false true false false) := by
  refine returnsInHanded_of_cond (C := Try.checked) (s := Rows.OpenSpec.upto Rows.stripeJoinsSpec) (k := Rows.uptoSmall) rfl own started (by kernel_rfl) Try.func5
    (OpenSpec.witness (enc := enc) (C := Try.checked) (s := Rows.OpenSpec.upto Rows.stripeJoinsSpec) (k := Rows.uptoSmall) rfl false ⟨#[], #[.slice none 0 0, .int .i64 0, .int .i64 0], []⟩ 8 (by kernel_rfl) (by kernel_rfl) (by kernel_rfl)
      (x := ([.nil, .lit (.int .i64 0), .lit (.int .i64 0)], [], [])) (by kernel_rfl) rfl (by kernel_rfl)) ?_
  intro W base args ds gs before hval hW _ hk _
  exact contract H enc W base args ds gs before hval hW hk

theorem over : Rows.stripeJoinsUptoRow.holds Try.pinned (Rows.OpenSpec.upto Rows.stripeJoinsSpec) :=
  OpenClaim.holds_of_cond 5 Try.f5 rfl rfl rfl rfl rfl rfl rfl ⟨rfl, rfl, rfl, rfl, rfl⟩ rfl rfl rfl rfl rfl (by kernel_rfl) Try.func5 (by kernel_rfl)
    (of_decide_eq_true (by kernel_rfl)) (by unfold Func.isWrapper; first | (rw [if_pos (by decide +kernel)]; kernel_rfl) | (rw [if_neg (by decide +kernel)]; exact ⟨rfl, rfl⟩))
    (fun os started H enc _ F => lifted os started H enc F)

end Go.Proofs.Ytnpjncbdmgdjnaa.stripeJoins
namespace Go.Proofs.Ytnpjncbdmgdjnaa
/-- The statement. -/
theorem stripeJoins_holds : Rows.StripeJoinsUptoSaid := stripeJoins.over
#print axioms stripeJoins_holds
end Go.Proofs.Ytnpjncbdmgdjnaa

