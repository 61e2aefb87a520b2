/- For every input PolyThrough returns true, and every argument reads behind the call as it did before: no condition. -/
import Derived.Test.YtiefcfjepcgklaaRows
import Derived.ProofKit
import Derived.OpenShut
import Derived.SizedLaws
import Derived.ChangeOld
import Derived.Carry
import Derived.Test.YtiefcfjepcgklaaLawb
import Derived.Test.YtiefcfjepcgklaaPlw
namespace Go.Proofs.Ytiefcfjepcgklaa.polyThrough
open Go.ChangeShapes Go.WideShapes Go.ChangeAt Go.RowKit Go.Shelf Gw Pol

theorem own : ownKnob Try.prog.godebug = none := by kernel_rfl
theorem laidOut : laidOutB Try.prog = true := by kernel_rfl
theorem agr_all {p xs ys : List Nat} : ∀ k : Nat, (∀ j, j < k → ev (co xs j) p = co ys j) → agrTo p xs ys k = k := by
  intro k
  induction k with
  | zero => intro _; rfl
  | succ k ih => intro h; rw [agrTo, if_pos (h k (by omega)), ih (fun j hj => h j (by omega))]
set_option maxRecDepth 100000 in
set_option maxHeartbeats 1000000 in
theorem walk_long (A0 : Option Addr) (c0 : Nat) (l0 : List Nat) (A1 : Option Addr) (c1 : Nat) (l1 : List Nat) (w : World) (hno : shB [l0.length, l1.length] = false ∨ (shB [l0.length, l1.length] = true ∧ 20 < l0.length)) :
    Calls Try.prog 6 #[.slice A0 l0.length c0, .slice A1 l1.length c1] w fun e w' => e = .returned (.bool true) ∧ Below w.heap.size w w' := by
  have HS := Lib.hid (short_any w.heap.size 2 [l0.length, l1.length] _ (slRow_two w 22 A0 A1 l0.length c0 l1.length c1) (by simp))
  have hBa := (Below.refl w.heap.size w).alloc (Nat.le_refl _) (.cells #[.slice A0 l0.length c0, .slice A1 l1.length c1] 22)
  rcases hno with hsh | ⟨hsh, h20⟩
  all_goals (
    rw [hsh] at HS
    clear hsh
    go_enter Try.func6, Try.ntmps6
    go_wp2_with fail
    refine HS.out.mono ?_
    rintro e w2 ⟨rfl, rfl⟩
    clear HS
    go_wp2_with fail
    refine (answers_any _).mono ?_
    rintro e w3 ⟨rfl, hB⟩
    go_wp2
    go_ret
    exact ⟨rfl, hBa.trans (hB.mono hBa.size)⟩)
set_option maxRecDepth 100000 in
set_option maxHeartbeats 1000000 in
theorem walk_none (A0 : Option Addr) (c0 : Nat) (l0 : List Nat) (A1 : Option Addr) (c1 : Nat) (l1 : List Nat) (w : World) (w0 : In w w.heap.size A0 c0 l0) (hsh : shB [l0.length, l1.length] = true) (h20 : l0.length ≤ 20)
    (hno : l0.length ≠ l1.length ∨ (l0.length = l1.length ∧ unB l0 = false)) :
    Calls Try.prog 6 #[.slice A0 l0.length c0, .slice A1 l1.length c1] w fun e w' => e = .returned (.bool true) ∧ Below w.heap.size w w' := by
  have HS := Lib.hid (short_any w.heap.size 2 [l0.length, l1.length] _ (slRow_two w 22 A0 A1 l0.length c0 l1.length c1) (by simp))
  have hBa := (Below.refl w.heap.size w).alloc (Nat.le_refl _) (.cells #[.slice A0 l0.length c0, .slice A1 l1.length c1] 22)
  rw [hsh] at HS
  clear hsh
  go_enter Try.func6, Try.ntmps6
  go_wp2_with fail
  refine HS.out.mono ?_
  rintro e w2 ⟨rfl, rfl⟩
  clear HS
  go_wp2_with fail
  refine (new_any _).mono ?_
  rintro e w3 ⟨rfl, hF, hB⟩
  have hB3 := hBa.trans (hB.mono hBa.size)
  rw [World.size_alloc] at hF
  clear hB hBa
  have hlf := hF.lt
  have p3 := (w0.below hB3).more hB3.size
  have HT := Lib.hid (show Calls Try.prog 22 #[.pointer (some ⟨w.heap.size + 1, 0, none⟩), .slice A0 l0.length c0, .slice A1 l1.length c1] w3 fun e w' => e = .returned (.tuple #[.slice none 0 0, .bool false]) ∧ Below w3.heap.size w3 w' by
    rcases hno with h | ⟨h, h2⟩
    · exact pthr_lens _ A0 A1 c0 c1 l0 l1 w3 h
    · exact pthr_twice _ A0 A1 c0 c1 l0 l1 w3 p3 (by omega) h h2)
  go_wp2_with fail
  refine HT.out.mono ?_
  rintro e w4 ⟨rfl, hb4⟩
  have hB4 := hB3.trans (hb4.mono hB3.size)
  have hF4 := hF.below hb4 hlf
  clear HT hb4 p3
  go_wp2_with fail
  refine (proots_any _ A0 c0 l0 w4 hF4 ((w0.below hB4).more hB4.size) (by omega)).mono ?_
  rintro e w5 ⟨A5, c5, rfl, ho5, hb5⟩
  have hB5 := hB4.trans (hb5.mono hB4.size)
  clear hb5
  go_wp2_with fail
  refine (rroots_any A0 c0 l0 w5 ((w0.below hB5).more hB5.size) (by omega)).mono ?_
  rintro e w6 ⟨A6, c6, rfl, ho6, hb6⟩
  have hB6 := hB5.trans (hb6.mono hB5.size)
  have HSM := Lib.hid (same_any A5 A6 c5 c6 _ _ w6 _ _ (ho5.kept hb6).inn ho6.inn)
  rw [decide_eq_true (rfl : rt l0 = rt l0)] at HSM
  clear hb6 ho5 ho6
  go_wp2_with fail
  refine HSM.out.mono ?_
  rintro e w7 ⟨rfl, rfl⟩
  clear HSM
  rcases hno with h | ⟨h, h2⟩
  · have hq : ((l0.length : Int) == (l1.length : Int)) = false := beq_eq_false_iff_ne.2 (by omega)
    go_wp2_with fail
    refine (answers_any _).mono ?_
    rintro e w8 ⟨rfl, hb8⟩
    go_wp2
    go_ret
    exact ⟨rfl, hB6.trans (hb8.mono hB6.size)⟩
  · have hq : ((l0.length : Int) == (l1.length : Int)) = true := by rw [beq_iff_eq]; omega
    have HU := Lib.hid (unlike_any A0 c0 l0 w6 _ (w0.below hB6) (by omega))
    rw [h2] at HU
    clear h h2
    go_wp2_with fail
    refine HU.out.mono ?_
    rintro e w7 ⟨rfl, m, rfl⟩
    go_wp2_with fail
    refine (answers_any _).mono ?_
    rintro e w8 ⟨rfl, hb8⟩
    go_wp2
    go_ret
    exact ⟨rfl, hB6.trans ((drewN_below hb8).mono hB6.size)⟩
set_option maxRecDepth 100000 in
set_option maxHeartbeats 1000000 in
theorem walk_some (A0 : Option Addr) (c0 : Nat) (l0 : List Nat) (A1 : Option Addr) (c1 : Nat) (l1 : List Nat) (w : World) (w0 : In w w.heap.size A0 c0 l0) (w1 : In w w.heap.size A1 c1 l1) (hsh : shB [l0.length, l1.length] = true) (h20 : l0.length ≤ 20)
    (hlen : l0.length = l1.length) (hun : unB l0 = true) :
    Calls Try.prog 6 #[.slice A0 l0.length c0, .slice A1 l1.length c1] w fun e w' => e = .returned (.bool true) ∧ Below w.heap.size w w' := by
  have HS := Lib.hid (short_any w.heap.size 2 [l0.length, l1.length] _ (slRow_two w 22 A0 A1 l0.length c0 l1.length c1) (by simp))
  have hBa := (Below.refl w.heap.size w).alloc (Nat.le_refl _) (.cells #[.slice A0 l0.length c0, .slice A1 l1.length c1] 22)
  rw [hsh] at HS
  clear hsh
  have HL := Lib.hid hlen
  have HUN := Lib.hid hun
  have hq : ((l0.length : Int) == (l1.length : Int)) = true := by rw [beq_iff_eq]; omega
  have hll := thr_len l0 l1
  have HAG := Lib.hid (agr_all (p := thr l0 l1) (xs := l0) (ys := l1) l0.length (fun j hj => by rw [co_get hj]; exact thr_at w0.bb w1.bb (of_decide_eq_true hun) hj))
  clear hlen hun
  go_enter Try.func6, Try.ntmps6
  go_wp2_with fail
  refine HS.out.mono ?_
  rintro e w2 ⟨rfl, rfl⟩
  clear HS
  go_wp2_with fail
  refine (new_any _).mono ?_
  rintro e w3 ⟨rfl, hF, hB⟩
  have hB3 := hBa.trans (hB.mono hBa.size)
  rw [World.size_alloc] at hF
  clear hB hBa
  have hlf := hF.lt
  have p3 := (w0.below hB3).more hB3.size
  have q3 := (w1.below hB3).more hB3.size
  go_wp2_with fail
  refine (pthr_any _ A0 A1 c0 c1 l0 l1 w3 hF p3 q3 (by omega) HL.out HUN.out).mono ?_
  rintro e w4 ⟨A4, c4, rfl, ho4, hb4⟩
  have hB4 := hB3.trans (hb4.mono hB3.size)
  have hF4 := hF.below hb4 hlf
  clear hb4 p3 q3
  go_wp2_with fail
  refine (proots_any _ A0 c0 l0 w4 hF4 ((w0.below hB4).more hB4.size) (by omega)).mono ?_
  rintro e w5 ⟨A5, c5, rfl, ho5, hb5⟩
  have hB5 := hB4.trans (hb5.mono hB4.size)
  have h45 := ho4.kept hb5
  clear hb5 ho4
  go_wp2_with fail
  refine (rroots_any A0 c0 l0 w5 ((w0.below hB5).more hB5.size) (by omega)).mono ?_
  rintro e w6 ⟨A6, c6, rfl, ho6, hb6⟩
  have hB6 := hB5.trans (hb6.mono hB5.size)
  have h46 := h45.kept hb6
  have HSM := Lib.hid (same_any A5 A6 c5 c6 _ _ w6 _ _ (ho5.kept hb6).inn ho6.inn)
  rw [decide_eq_true (rfl : rt l0 = rt l0)] at HSM
  clear hb6 ho5 ho6 h45
  go_wp2_with fail
  refine HSM.out.mono ?_
  rintro e w7 ⟨rfl, rfl⟩
  clear HSM
  have HU := Lib.hid (unlike_any A0 c0 l0 w6 _ (w0.below hB6) (by omega))
  rw [HUN.out] at HU
  go_wp2_with fail
  refine HU.out.mono ?_
  rintro e w7 ⟨rfl, m, rfl⟩
  clear HU
  go_wp2_with fail
  refine (answers_any _).mono ?_
  rintro e w8 ⟨rfl, hb8⟩
  have hb8' := drewN_below hb8
  have hB8 := hB6.trans (hb8'.mono hB6.size)
  have h48 := h46.kept hb8'
  clear hb8 hb8' h46
  go_wp2_with fail
  refine (rthrough_any A0 A1 c0 c1 l0 l1 w8 ((w0.below hB8).more hB8.size) ((w1.below hB8).more hB8.size) (Nat.le_of_eq HL.out) (by omega)).mono ?_
  rintro e w9 ⟨A9, c9, rfl, ho9, hb9⟩
  have hB9 := hB8.trans (hb9.mono hB8.size)
  have h49 := h48.kept hb9
  have HSM := Lib.hid (same_any A4 A9 c4 c9 _ _ w9 _ _ h49.inn ho9.inn)
  rw [decide_eq_true (rfl : thr l0 l1 = thr l0 l1)] at HSM
  clear hb9 ho9 h48
  go_wp2_with fail
  refine HSM.out.mono ?_
  rintro e w10 ⟨rfl, rfl⟩
  clear HSM
  have HA := Lib.hid (agrees_any A4 A0 A1 c4 c0 c1 (thr l0 l1) l0 l1 w9 _ h49.inn ((w0.below hB9).more hB9.size) ((w1.below hB9).more hB9.size) (Nat.le_of_eq HL.out) (by omega) (by omega))
  rw [HAG.out] at HA
  clear h49
  go_wp2_with fail
  refine HA.out.mono ?_
  rintro e w11 ⟨rfl, m2, rfl⟩
  go_wp2
  go_ret
  exact ⟨rfl, Gw.Below.drewN hB9 m2⟩
theorem walk (A0 : Option Addr) (c0 : Nat) (l0 : List Nat) (A1 : Option Addr) (c1 : Nat) (l1 : List Nat) (w : World) (w0 : In w w.heap.size A0 c0 l0) (_s0 : c0 ≤ 140737488351232) (w1 : In w w.heap.size A1 c1 l1) (_s1 : c1 ≤ 140737488351232) :
    Calls Try.prog 6 #[.slice A0 l0.length c0, .slice A1 l1.length c1] w fun e w' => e = .returned (.bool true) ∧ Below w.heap.size w w' := by
  cases hsh : shB [l0.length, l1.length] with
  | false => exact walk_long A0 c0 l0 A1 c1 l1 w (.inl hsh)
  | true =>
    by_cases h20 : 20 < l0.length
    · exact walk_long A0 c0 l0 A1 c1 l1 w (.inr ⟨hsh, h20⟩)
    · by_cases hl : l0.length = l1.length
      · cases hu : unB l0 with
        | false => exact walk_none A0 c0 l0 A1 c1 l1 w w0 hsh (by omega) (.inr ⟨hl, hu⟩)
        | true => exact walk_some A0 c0 l0 A1 c1 l1 w w0 w1 hsh (by omega) hl hu
      · exact walk_none A0 c0 l0 A1 c1 l1 w w0 hsh (by omega) (.inl hl)

set_option maxRecDepth 100000 in
theorem lifted (os : Os) (started : os.Started) (H : Type) (enc : TypeId × Value → H) :
    ReturnsInHanded {} Try.checked os 6 .any (Rows.polyThroughSpec.pre6 enc Try.prog Try.f6 Rows.polyThroughRow.domain false) (Rows.polyThroughSpec.post enc Try.prog Try.f6 false true false false) := by
  refine returnsInHanded_of_change_sized (C := Try.checked) own started (by kernel_rfl) Try.func6
    (ChangeSpec.witness6 (enc := enc) (C := Try.checked) false ⟨#[], #[.slice none 0 0, .slice none 0 0], []⟩ 8 (by kernel_rfl) (by kernel_rfl) (by kernel_rfl) (by kernel_rfl)) ?_
  intro W base args ds gs before hval0 hW _hcnd hsz0 _
  have hval : ∀ (j : Nat) t v, Try.f6.params[j]? = some t → args[j]? = some v → Value.okWide Try.prog W .any base t v := hval0
  have hW' := hW
  obtain ⟨p, q, hA0, hV, rfl, _hfz, _hnd⟩ := hW
  have hA : DataW.TrodAll enc Try.prog W 0 (fun _ => true) true Try.f6.params.toList args.toList ds p := hA0
  have hsz : (DataW.weightsEach Try.prog (Try.f6.params.toList ++ Rows.polyThroughSpec.plain.varTypes Try.prog) (ds ++ gs)).all (· ≤ reachBytes) = true := hsz0
  rw [Try.params6] at hA hval hsz
  obtain ⟨v0, vs0, d0, ds0, p0, q0, hargs, rfl, rfl, h0, r0⟩ := trodAll_cons hA
  obtain ⟨v1, vs1, d1, ds1, p1, q1, rfl, rfl, rfl, h1, r1⟩ := trodAll_cons r0
  obtain ⟨rfl, rfl, rfl⟩ := trodAll_nil r1
  obtain rfl : args = #[v0, v1] := by cases args; simp_all
  obtain ⟨rfl, rfl⟩ := trodVars_none hV
  have k0 := h0
  have lt0 : ∀ x ∈ p0, x.block < W.heap.size := by obtain ⟨m, hm⟩ := k0; exact DataW.trod_lt m _ _ _ hm
  obtain ⟨A0, c0, l0, rfl, w0, sz0⟩ := open_bytes Try.underlying22 Try.underlying5 (by kernel_rfl) (hval 0 22 v0 rfl rfl) h0
  have s0 := sized_bytes hsz (j := 0) (t := 22) (e := 5) rfl rfl Try.underlying22 (by kernel_rfl) sz0
  have k1 := h1
  have lt1 : ∀ x ∈ p1, x.block < W.heap.size := by obtain ⟨m, hm⟩ := k1; exact DataW.trod_lt m _ _ _ hm
  obtain ⟨A1, c1, l1, rfl, w1, sz1⟩ := open_bytes Try.underlying22 Try.underlying5 (by kernel_rfl) (hval 1 22 v1 rfl rfl) h1
  have s1 := sized_bytes hsz (j := 1) (t := 22) (e := 5) rfl rfl Try.underlying22 (by kernel_rfl) sz1
  clear hA0 hval0 hsz0 hsz
  refine (walk A0 c0 l0 A1 c1 l1 W w0 s0 w1 s1).mono fun e W' ⟨he, bel⟩ => ?_
  subst he
  exact ⟨_, rfl, _, _, _, [], _, [], hW', trodAll_mk1 (shut_bool Try.underlying4 _), (trodAll_cons_mk (Below.trod laidOut (by kernel_rfl) (of_decide_eq_true (by kernel_rfl)) k0 bel lt0) (trodAll_cons_mk (Below.trod laidOut (by kernel_rfl) (of_decide_eq_true (by kernel_rfl)) k1 bel lt1) trodAll_mk0)), rfl, bel.frame _, fun h => by cases h⟩

theorem over : Rows.polyThroughRow.holds Try.pinned (OpenSpec.ofChange Rows.polyThroughSpec) :=
  OpenClaim.holds_of_wide 6 Try.f6 rfl rfl rfl rfl rfl rfl rfl ⟨rfl, rfl, rfl, rfl, rfl⟩ rfl rfl rfl rfl rfl (by kernel_rfl) Try.func6 (by kernel_rfl)
    (of_decide_eq_true (by kernel_rfl)) (by unfold Func.isWrapper; first | (rw [if_pos (by decide +kernel)]; kernel_rfl) | (rw [if_neg (by decide +kernel)]; exact ⟨rfl, rfl⟩))
    (fun os started H enc _ => lifted os started H enc)

end Go.Proofs.Ytiefcfjepcgklaa.polyThrough
namespace Go.Proofs.Ytiefcfjepcgklaa
/-- The statement. -/
theorem polyThrough_holds : Rows.PolyThroughSaid := polyThrough.over
#print axioms polyThrough_holds
end Go.Proofs.Ytiefcfjepcgklaa

