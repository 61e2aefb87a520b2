/- For every input RsAdds returns true, and every argument reads behind the call as it did before: no condition. -/
import Derived.Test.YtndieloekmibjaaRows
import Derived.ProofKit
import Derived.OpenShut
import Derived.SizedLaws
import Derived.ChangeOld
import Derived.Carry
import Derived.Test.YtndieloekmibjaaLawb
import Derived.Test.YtndieloekmibjaaRsc
import Derived.Test.YtndieloekmibjaaRpe
namespace Go.Proofs.Ytndieloekmibjaa.rsAdds
open Go.ChangeShapes Go.WideShapes Go.ChangeAt Go.RowKit Go.Shelf Gw Pol

theorem own : ownKnob Try.prog.godebug = none := by kernel_rfl
theorem laidOut : laidOutB Try.prog = true := by kernel_rfl
set_option maxRecDepth 100000 in
set_option maxHeartbeats 1000000 in
theorem walk_long (A0 : Option Addr) (c0 : Nat) (l0 : List Nat) (A1 : Option Addr) (c1 : Nat) (l1 : List Nat) (A2 : Option Addr) (c2 : Nat) (l2 : List Nat) (w : World)
    (h : 100 < l0.length ∨ (¬ 100 < l0.length ∧ 100 < l1.length) ∨ (¬ 100 < l0.length ∧ ¬ 100 < l1.length ∧ 300 < l2.length)) :
    Calls Try.prog 7 #[.slice A0 l0.length c0, .slice A1 l1.length c1, .slice A2 l2.length c2] w fun e w' => e = .returned (.bool true) ∧ Below w.heap.size w w' := by
  rcases h with h | ⟨h, h1⟩ | ⟨h, h1, h2⟩
  all_goals (
    go_enter Try.func7, Try.ntmps7
    go_wp2_with fail
    refine (answers_any _).mono ?_
    rintro e w3 ⟨rfl, hB⟩
    go_wp2
    go_ret
    exact ⟨rfl, hB⟩)
/-- Between two rounds. -/
def AdRel (n : Nat) (w : World) (i : Value) (wr : World) : Prop := ∃ k m : Nat, k ≤ n ∧ i = .int .i64 (k : Int) ∧ wr = w.drewN m
set_option maxRecDepth 100000 in
set_option maxHeartbeats 1000000 in
theorem walk_some (A0 : Option Addr) (c0 : Nat) (l0 : List Nat) (A1 : Option Addr) (c1 : Nat) (l1 : List Nat) (A2 : Option Addr) (c2 : Nat) (l2 : List Nat) (w : World) (w0 : In w w.heap.size A0 c0 l0) (w1 : In w w.heap.size A1 c1 l1) (w2 : In w w.heap.size A2 c2 l2)
    (h0 : ¬ 100 < l0.length) (h1 : ¬ 100 < l1.length) (h2 : ¬ 300 < l2.length) :
    Calls Try.prog 7 #[.slice A0 l0.length c0, .slice A1 l1.length c1, .slice A2 l2.length c2] w fun e w' => e = .returned (.bool true) ∧ Below w.heap.size w w' := by
  have HL0 := Lib.hid (enc_len l0 l2)
  have HL1 := Lib.hid (enc_len l1 l2)
  have HL2 := Lib.hid (enc_len (tr (add l0 l1)) l2)
  have hal : (tr (add l0 l1)).length ≤ 100 := Nat.le_trans (tr_len _) (by rw [add_len]; omega)
  go_enter Try.func7, Try.ntmps7
  go_wp2_with fail
  refine (new_any _).mono ?_
  rintro e w7 ⟨rfl, hF, hB7⟩
  have HE := Lib.hid (encode_any _ A0 A2 c0 c2 l0 l2 w7 hF ((w0.below hB7).more hB7.size) ((w2.below hB7).more hB7.size) (by omega) (by omega))
  go_wp2_with fail
  refine HE.out.mono ?_
  rintro e w8 ⟨A8, c8, rfl, ho8, hb8⟩
  rw [HL0.out]
  have hB8 := hB7.trans (hb8.mono hB7.size)
  have hF8 := hF.below hb8 hF.lt
  clear HE hb8 hF
  have HE := Lib.hid (encode_any _ A1 A2 c1 c2 l1 l2 w8 hF8 ((w1.below hB8).more hB8.size) ((w2.below hB8).more hB8.size) (by omega) (by omega))
  go_wp2_with fail
  refine HE.out.mono ?_
  rintro e w9 ⟨A9, c9, rfl, ho9, hb9⟩
  rw [HL1.out]
  have hB9 := hB8.trans (hb9.mono hB8.size)
  have hF9 := hF8.below hb9 hF8.lt
  have ho89 := ho8.kept hb9
  clear HE hb9 hF8 ho8
  have HR := Lib.hid (radd_any A0 A1 c0 c1 l0 l1 w9 ((w0.below hB9).more hB9.size) ((w1.below hB9).more hB9.size) (by omega))
  go_wp2_with fail
  refine HR.out.mono ?_
  rintro e w10 ⟨A10, c10, rfl, ho10, hb10⟩
  have hB10 := hB9.trans (hb10.mono hB9.size)
  have hF10 := hF9.below hb10 hF9.lt
  have ho8a := ho89.kept hb10
  have ho9a := ho9.kept hb10
  clear HR hb10 hF9 ho89 ho9
  have HE := Lib.hid (encode_any _ A10 A2 c10 c2 (tr (add l0 l1)) l2 w10 hF10 ho10.inn ((w2.below hB10).more hB10.size) (by omega) (by omega))
  go_wp2_with fail
  refine HE.out.mono ?_
  rintro e w11 ⟨A11, c11, rfl, ho11, hb11⟩
  rw [HL2.out]
  have hB11 := hB10.trans (hb11.mono hB10.size)
  have ho8b := ho8a.kept hb11
  have ho9b := ho9a.kept hb11
  clear HE hb11 hF10 ho8a ho9a ho10
  go_wp2
  go_loopw [11] (AdRel l2.length w11) (fun i _ => l2.length - (intOf i).toNat)
  case atStart => exact ⟨0, 0, Nat.zero_le _, rfl, rfl⟩
  case round =>
    obtain ⟨k, m11, hk, rfl, hwr⟩ := hrel
    have ho8r : Gw.Own wr w7.heap.size 5 A8 c8 (enc l0 l2) := by rw [hwr]; exact ho8b.drewN m11
    have ho9r : Gw.Own wr w8.heap.size 5 A9 c9 (enc l1 l2) := by rw [hwr]; exact ho9b.drewN m11
    have ho11r : Gw.Own wr w10.heap.size 5 A11 c11 (enc (tr (add l0 l1)) l2) := by rw [hwr]; exact ho11.drewN m11
    have hBr : Below w.heap.size w wr := by rw [hwr]; exact Gw.Below.drewN hB11 m11
    have HW := Lib.hid hwr
    clear hwr ho8b ho9b ho11 hB11
    by_cases hlt : k < l2.length
    · obtain ⟨x, b, off, hx, hxb, rfl, hb, hcx⟩ := ho8r.sl.at_ (show k < (enc l0 l2).length by rw [HL0.out]; exact hlt)
      obtain ⟨y, b', off', hy, hyb, rfl, hb', hcy⟩ := ho9r.sl.at_ (show k < (enc l1 l2).length by rw [HL1.out]; exact hlt)
      obtain ⟨z, b'', off'', hz, hzb, rfl, hb'', hcz⟩ := ho11r.sl.at_ (show k < (enc (tr (add l0 l1)) l2).length by rw [HL2.out]; exact hlt)
      have hxyz : z = x ^^^ y := by
        have hp := List.getElem?_eq_getElem hlt
        rw [enc_get hp] at hx hy hz
        injection hx with hx
        injection hy with hy
        injection hz with hz
        rw [← hx, ← hy, ← hz]
        exact enc_add w0.bb w1.bb w2.bb hp
      have hxor : bits .xor .u8 (x : Int) (y : Int) = ((x ^^^ y : Nat) : Int) := u8_xor_nat _ _ hxb hyb
      rw [← hxyz] at hxor
      have hq : ((z : Int) != (z : Int)) = false := by simp
      clear hx hy hz hxyz
      go_wp2
      go_quiet (fail)
      go_wp2
      go_roundw
      case rel => exact ⟨k + 1, m11 + nq, by omega, by go_num, by rw [HW.out, World.drewN_drewN]⟩
      case measure => simp [intOf]; omega
    · obtain rfl : k = l2.length := by omega
      go_wp2_with fail
      refine (answers_any _).mono ?_
      rintro e w12 ⟨rfl, hb12⟩
      go_wp2
      go_ret
      exact ⟨rfl, hBr.trans (hb12.mono hBr.size)⟩
theorem walk (A0 : Option Addr) (c0 : Nat) (l0 : List Nat) (A1 : Option Addr) (c1 : Nat) (l1 : List Nat) (A2 : Option Addr) (c2 : Nat) (l2 : List Nat) (w : World) (w0 : In w w.heap.size A0 c0 l0) (_s0 : c0 ≤ 140737488351232) (w1 : In w w.heap.size A1 c1 l1) (_s1 : c1 ≤ 140737488351232)
    (w2 : In w w.heap.size A2 c2 l2) (_s2 : c2 ≤ 140737488351232) :
    Calls Try.prog 7 #[.slice A0 l0.length c0, .slice A1 l1.length c1, .slice A2 l2.length c2] w fun e w' => e = .returned (.bool true) ∧ Below w.heap.size w w' := by
  by_cases h0 : 100 < l0.length
  · exact walk_long A0 c0 l0 A1 c1 l1 A2 c2 l2 w (.inl h0)
  · by_cases h1 : 100 < l1.length
    · exact walk_long A0 c0 l0 A1 c1 l1 A2 c2 l2 w (.inr (.inl ⟨h0, h1⟩))
    · by_cases h2 : 300 < l2.length
      · exact walk_long A0 c0 l0 A1 c1 l1 A2 c2 l2 w (.inr (.inr ⟨h0, h1, h2⟩))
      · exact walk_some A0 c0 l0 A1 c1 l1 A2 c2 l2 w w0 w1 w2 h0 h1 h2

set_option maxRecDepth 100000 in
theorem lifted (os : Os) (started : os.Started) (H : Type) (enc : TypeId × Value → H) :
    ReturnsInHanded {} Try.checked os 7 .any (Rows.rsAddsSpec.pre6 enc Try.prog Try.f7 Rows.rsAddsRow.domain false) (Rows.rsAddsSpec.post enc Try.prog Try.f7 false true false false) := by
  refine returnsInHanded_of_change_sized (C := Try.checked) own started (by kernel_rfl) Try.func7
    (ChangeSpec.witness6 (enc := enc) (C := Try.checked) false ⟨#[], #[.slice none 0 0, .slice none 0 0, .slice none 0 0], []⟩ 8 (by kernel_rfl) (by kernel_rfl) (by kernel_rfl) (by kernel_rfl)) ?_
  intro W base args ds gs before hval0 hW _hcnd hsz0 _
  have hval : ∀ (j : Nat) t v, Try.f7.params[j]? = some t → args[j]? = some v → Value.okWide Try.prog W .any base t v := hval0
  have hW' := hW
  obtain ⟨p, q, hA0, hV, rfl, _hfz, _hnd⟩ := hW
  have hA : DataW.TrodAll enc Try.prog W 0 (fun _ => true) true Try.f7.params.toList args.toList ds p := hA0
  have hsz : (DataW.weightsEach Try.prog (Try.f7.params.toList ++ Rows.rsAddsSpec.plain.varTypes Try.prog) (ds ++ gs)).all (· ≤ reachBytes) = true := hsz0
  rw [Try.params7] at hA hval hsz
  obtain ⟨v0, vs0, d0, ds0, p0, q0, hargs, rfl, rfl, h0, r0⟩ := trodAll_cons hA
  obtain ⟨v1, vs1, d1, ds1, p1, q1, rfl, rfl, rfl, h1, r1⟩ := trodAll_cons r0
  obtain ⟨v2, vs2, d2, ds2, p2, q2, rfl, rfl, rfl, h2, r2⟩ := trodAll_cons r1
  obtain ⟨rfl, rfl, rfl⟩ := trodAll_nil r2
  obtain rfl : args = #[v0, v1, v2] := by cases args; simp_all
  obtain ⟨rfl, rfl⟩ := trodVars_none hV
  have k0 := h0
  have lt0 : ∀ x ∈ p0, x.block < W.heap.size := by obtain ⟨m, hm⟩ := k0; exact DataW.trod_lt m _ _ _ hm
  obtain ⟨A0, c0, l0, rfl, w0, sz0⟩ := open_bytes Try.underlying22 Try.underlying5 (by kernel_rfl) (hval 0 22 v0 rfl rfl) h0
  have s0 := sized_bytes hsz (j := 0) (t := 22) (e := 5) rfl rfl Try.underlying22 (by kernel_rfl) sz0
  have k1 := h1
  have lt1 : ∀ x ∈ p1, x.block < W.heap.size := by obtain ⟨m, hm⟩ := k1; exact DataW.trod_lt m _ _ _ hm
  obtain ⟨A1, c1, l1, rfl, w1, sz1⟩ := open_bytes Try.underlying22 Try.underlying5 (by kernel_rfl) (hval 1 22 v1 rfl rfl) h1
  have s1 := sized_bytes hsz (j := 1) (t := 22) (e := 5) rfl rfl Try.underlying22 (by kernel_rfl) sz1
  have k2 := h2
  have lt2 : ∀ x ∈ p2, x.block < W.heap.size := by obtain ⟨m, hm⟩ := k2; exact DataW.trod_lt m _ _ _ hm
  obtain ⟨A2, c2, l2, rfl, w2, sz2⟩ := open_bytes Try.underlying22 Try.underlying5 (by kernel_rfl) (hval 2 22 v2 rfl rfl) h2
  have s2 := sized_bytes hsz (j := 2) (t := 22) (e := 5) rfl rfl Try.underlying22 (by kernel_rfl) sz2
  clear hA0 hval0 hsz0 hsz
  refine (walk A0 c0 l0 A1 c1 l1 A2 c2 l2 W w0 s0 w1 s1 w2 s2).mono fun e W' ⟨he, bel⟩ => ?_
  subst he
  exact ⟨_, rfl, _, _, _, [], _, [], hW', trodAll_mk1 (shut_bool Try.underlying4 _), (trodAll_cons_mk (Below.trod laidOut (by kernel_rfl) (of_decide_eq_true (by kernel_rfl)) k0 bel lt0) (trodAll_cons_mk (Below.trod laidOut (by kernel_rfl) (of_decide_eq_true (by kernel_rfl)) k1 bel lt1) (trodAll_cons_mk (Below.trod laidOut (by kernel_rfl) (of_decide_eq_true (by kernel_rfl)) k2 bel lt2) trodAll_mk0))), rfl, bel.frame _, fun h => by cases h⟩

theorem over : Rows.rsAddsRow.holds Try.pinned (OpenSpec.ofChange Rows.rsAddsSpec) :=
  OpenClaim.holds_of_wide 7 Try.f7 rfl rfl rfl rfl rfl rfl rfl ⟨rfl, rfl, rfl, rfl, rfl⟩ rfl rfl rfl rfl rfl (by kernel_rfl) Try.func7 (by kernel_rfl)
    (of_decide_eq_true (by kernel_rfl)) (by unfold Func.isWrapper; first | (rw [if_pos (by decide +kernel)]; kernel_rfl) | (rw [if_neg (by decide +kernel)]; exact ⟨rfl, rfl⟩))
    (fun os started H enc _ => lifted os started H enc)

end Go.Proofs.Ytndieloekmibjaa.rsAdds
namespace Go.Proofs.Ytndieloekmibjaa
/-- The statement. -/
theorem rsAdds_holds : Rows.RsAddsSaid := rsAdds.over
#print axioms rsAdds_holds
end Go.Proofs.Ytndieloekmibjaa

