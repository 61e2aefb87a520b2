/- For every input DiskOwn returns true, and every argument reads behind the call as it did before: no condition. -/
import Derived.Test.YtcbgpichkjcgnaaRows
import Derived.ProofKit
import Derived.OpenShut
import Derived.SizedLaws
import Derived.ChangeOld
import Derived.Carry
import Derived.Test.YtcbgpichkjcgnaaLawb
import Derived.Test.YtcbgpichkjcgnaaDke
namespace Go.Proofs.Ytcbgpichkjcgnaa.diskOwn
open Go.ChangeShapes Go.WideShapes Go.ChangeAt Go.RowKit Go.Shelf Gw Pol

theorem own : ownKnob Try.prog.godebug = none := by kernel_rfl
theorem laidOut : laidOutB Try.prog = true := by kernel_rfl
theorem laid_piece {L l : List Nat} (hL : L.length = 32 * 1) (hl : l.length = 32) : piece (laid L (0 * 32) l) 0 = l := by
  unfold piece
  have := laid_same (L := L) (b := l) (o := 0 * 32) (by omega)
  rwa [hl] at this
theorem str_refl (S : ByteArray) : (S.toList == S.toList) = true := by simp
set_option maxRecDepth 100000 in
set_option maxHeartbeats 2000000 in
theorem walk (A0 : Option Addr) (c0 : Nat) (l0 : List Nat) (w : World) (w0 : In w w.heap.size A0 c0 l0) (_s0 : c0 ≤ 140737488351232) :
    Calls Try.prog 4 #[.slice A0 l0.length c0] w fun e w' => e = .returned (.bool true) ∧ Below w.heap.size w w' := by
  obtain ⟨n0, hn0⟩ : ∃ n0, n0 = l0.length := ⟨_, rfl⟩
  rw [← hn0]
  clear _s0
  by_cases h32 : n0 = 32
  · obtain ⟨i0, hi0, hz0, hz1, hz2⟩ := info_parts pbyte_info
    have HL := Lib.hid (hn0.symm.trans h32)
    subst h32
    have HI := Lib.hid w0
    clear w0 hn0
    go_enter Try.func4, Try.ntmps4
    go_wp2_with fail
    refine (dnew_m 1 1 rfl (by omega) w).mono ?_
    rintro e w1 ⟨p, g, L, rfl, hd1, -, hp, hg, hb1⟩
    have HP := Lib.hid hp
    have HG := Lib.hid hg
    have HD1 := Lib.hid hd1
    have HB1 := Lib.hid hb1
    have HI1 := Lib.hid (HI.out.below hb1)
    clear hd1 hp hg hb1
    go_wp2_with (first | (at_builtin; refine wpList_app rfl (.tmp 21) (.tmp 22) 28 rfl w1.heap.size 5 i0 _ Try.underlying28 hi0 hz0 hz1 hz2 rfl (some ⟨w1.heap.size, 0, none⟩) 0 0 [] rfl rfl (Own.lit0 w1 w1.heap.size 5 (Nat.le_refl _)) w.heap.size A0 32 c0 l0 rfl HL.out.symm HI1.out.none_ (HI1.out.sl.alloc HB1.out.size _) (by rw [HL.out]; simp) (by simp) ?_; intro A2 c2 w2 hown2 hgr2) | fail)
    rw [HL.out]
    have ho2 : Gw.Own w2 w1.heap.size 5 A2 c2 l0 := by rw [List.nil_append] at hown2; exact hown2
    have hb2 : Below w1.heap.size w1 w2 := below_lit' (Below.refl _ w1) (Nat.le_refl _) hgr2
    have hd2 : Dk w2 p g 1 L false false 0 0 := Bxs.below HD1.out hb2 (Nat.le_refl _)
    have HLL := Lib.hid (show L.length = 32 * 1 from hd2.len)
    have HPA := Lib.hid (show ∀ o, A2 ≠ some ⟨p, o, none⟩ from ho2.nb HD1.out.plt)
    have HGA := Lib.hid (show ∀ o, A2 ≠ some ⟨g, o, none⟩ from ho2.nb HD1.out.glt)
    have HP1 := Lib.hid (show p < w1.heap.size from HD1.out.plt)
    have HG1 := Lib.hid (show g < w1.heap.size from HD1.out.glt)
    have HB2 := Lib.hid (HB1.out.trans (hb2.mono HB1.out.size))
    have HS1 := Lib.hid HB1.out.size
    have HO2 := Lib.hid ho2
    have HWC := Lib.hid (dwrite_ok p g 1 L 0 0 0 A2 c2 w2.heap.size l0 w2 hd2 (by omega) ho2.sl HL.out (by omega))
    clear hown2 hgr2 ho2 hb2 hd2 HD1 HB1 HI1 hi0 hz0 hz1 hz2
    go_wp2_with fail
    refine HWC.out.mono ?_
    rintro e w3 ⟨rfl, hd3, hk3⟩
    have ho3 := HO2.out.k2 hk3 HPA.out HGA.out
    have hb3 := HB2.out.trans (hk3.below HB2.out.size HP.out HG.out)
    obtain ⟨L3, hL3⟩ : ∃ L3, L3 = laid L (0 * 32) l0 := ⟨_, rfl⟩
    rw [← hL3] at hd3
    have HP3 := Lib.hid (show piece L3 0 = l0 by rw [hL3]; exact laid_piece HLL.out HL.out)
    obtain ⟨g2, rfl, hg2, hput⟩ := ho3.store (k := 0) (by rw [HL.out]; omega)
    have hx := ho3.cell (k := 0) (by rw [HL.out]; omega)
    have hfr := ho3.frozen 0
    have hxb := ho3.2.co 0
    obtain ⟨x, hxx⟩ : ∃ x, x = co l0 0 := ⟨_, rfl⟩
    rw [← hxx] at hx hxb
    have hxor : bits .xor .u8 (x : Int) 255 = ((x ^^^ 255 : Nat) : Int) := u8_xor_nat x 255 hxb (by omega)
    have hd4 : Dk (w3.setCell ⟨g2, 0, none⟩ (.int .u8 ((x ^^^ 255 : Nat) : Int))) p g 1 L3 false false 0 (0 + 1) := Bxs.keep hd3 (heap_set_other _ _ _ _ _ (by have := HP1.out; omega)) (heap_set_other _ _ _ _ _ (by have := HG1.out; omega))
    have hb4 : Below w.heap.size w (w3.setCell ⟨g2, 0, none⟩ (.int .u8 ((x ^^^ 255 : Nat) : Int))) := hb3.setCell (by show w.heap.size ≤ g2; have := HS1.out; omega) _
    obtain ⟨w4, hw4⟩ : ∃ w4, w4 = w3.setCell ⟨g2, 0, none⟩ (.int .u8 ((x ^^^ 255 : Nat) : Int)) := ⟨_, rfl⟩
    rw [← hw4] at hd4 hb4
    have HD4 := Lib.hid hd4
    have HB4 := Lib.hid hb4
    have HW4 := Lib.hid hw4
    have HRD := Lib.hid (dread_yes p g 1 L3 false false 0 (0 + 1) 0 w4 hd4 (by omega))
    clear hd3 hk3 ho3 hb3 hL3 hput hxb hxx hd4 hb4 HWC HO2 HB2 hg2 hw4
    go_wp2_with fail
    rw [← HW4.out]
    refine HRD.out.mono ?_
    rintro e w5 ⟨r, rfl, hbk, hr, hb5⟩
    rw [HP3.out] at hbk
    have hd5 : Dk w5 p g 1 L3 false false 0 (0 + 1) := Bxs.below HD4.out hb5 (Nat.le_refl _)
    have hp4 : p < w4.heap.size := HD4.out.plt
    have hg4 : g < w4.heap.size := HD4.out.glt
    have hy := hbk.cell' (k := 1) (by rw [HL.out]; omega)
    have hyf := hbk.frozen 1
    have hyb : co l0 1 < 256 := BB.co HI.out.bb 1
    obtain ⟨y, hyy⟩ : ∃ y, y = co l0 1 := ⟨_, rfl⟩
    rw [← hyy] at hy hyb
    have hxor2 : bits .xor .u8 (y : Int) 255 = ((y ^^^ 255 : Nat) : Int) := u8_xor_nat y 255 hyb (by omega)
    obtain ⟨w6, hw6⟩ : ∃ w6, w6 = w5.setCell ⟨r, 1, none⟩ (.int .u8 ((y ^^^ 255 : Nat) : Int)) := ⟨_, rfl⟩
    have hd6 : Dk w6 p g 1 L3 false false 0 (0 + 1) := by rw [hw6]; exact Bxs.keep hd5 (heap_set_other _ _ _ _ _ (by omega)) (heap_set_other _ _ _ _ _ (by omega))
    have hb6 : Below w.heap.size w w6 := by rw [hw6]; exact (HB4.out.trans (hb5.mono HB4.out.size)).setCell (by show w.heap.size ≤ r; have := HB4.out.size; omega) _
    have HB6 := Lib.hid hb6
    have HD6 := Lib.hid hd6
    have HW6 := Lib.hid hw6
    have HRD2 := Lib.hid (dread_yes p g 1 L3 false false 0 (0 + 1) 0 w6 hd6 (by omega))
    clear hbk hr hb5 hd5 hp4 hg4 hyb hyy hw6 hd6 hb6 HRD HD4 HB4 hx hfr hxor
    go_wp2_with fail
    rw [← HW6.out]
    refine HRD2.out.mono ?_
    rintro e w7 ⟨r2, rfl, hbk2, hr2, hb7⟩
    rw [HP3.out] at hbk2
    have HBK := Lib.hid hbk2
    have HB7 := Lib.hid (HB6.out.trans (hb7.mono HB6.out.size))
    clear hbk2 hr2 hb7 HRD2 HB6 HD6 hy hyf hxor2
    go_wp2_with fail
    refine (answers_any w7).mono ?_
    rintro e w8 ⟨rfl, hb8⟩
    have hbk8 := HBK.out.keep (hb8.block r2 HBK.out.lt)
    have hb8w := HB7.out.trans (hb8.mono HB7.out.size)
    have HB8 := Lib.hid hb8w
    have hi8 := HI.out.below hb8w
    obtain ⟨S, hS⟩ : ∃ S, S = str l0 := ⟨_, rfl⟩
    have hcv1 := conv_sl (P := Try.prog) (hbk8.sl HI.out.bb 0 32) Try.underlying28 Try.underlying5 Try.underlying9 32
    rw [List.drop_zero, List.take_of_length_le (Nat.le_of_eq HL.out), ← hS, HL.out] at hcv1
    have hcv2 := conv_sl (P := Try.prog) hi8.sl Try.underlying28 Try.underlying5 Try.underlying9 c0
    rw [← hS, HL.out] at hcv2
    clear hbk8 hb8w hi8 hS hb8
    go_wp2
    go_ret
    exact ⟨rfl, HB8.out⟩
  · have HC : ∀ (p g : Nat) (L : List Nat) (w : World), Dk w p g 1 L false false 0 0 → Calls Try.prog 12 #[.pointer (some ⟨p, 0, none⟩), .int .i64 0, .slice A0 n0 c0] w fun e w' => e = .returned (.int .i64 1) ∧ w' = w := fun p g L w h => dwrite_arg p g 1 L false false 0 0 0 A0 n0 c0 w h (.inr h32)
    have HH := Lib.hid HC
    have hne : ((n0 : Int) != 32) = true := by simp; omega
    clear HC h32 w0 hn0
    go_enter Try.func4, Try.ntmps4
    go_wp2_with fail
    refine (answers_any w).mono ?_
    rintro e w1 ⟨rfl, hb1⟩
    have HB1 := Lib.hid hb1
    clear hb1
    go_wp2_with fail
    refine (dnew_m 1 1 rfl (by omega) w1).mono ?_
    rintro e w2 ⟨p, g, L, rfl, hd2, -, -, -, hb2⟩
    have HB2 := Lib.hid (HB1.out.trans (hb2.mono HB1.out.size))
    have HD2 := Lib.hid hd2
    clear hd2 hb2
    go_wp2_with fail
    refine (HH.out p g L w2 HD2.out).mono ?_
    rintro e w3 ⟨rfl, rfl⟩
    go_wp2
    go_ret
    exact ⟨rfl, HB2.out⟩

set_option maxRecDepth 100000 in
theorem lifted (os : Os) (started : os.Started) (H : Type) (enc : TypeId × Value → H) :
    ReturnsInHanded {} Try.checked os 4 .any (Rows.diskOwnSpec.pre6 enc Try.prog Try.f4 Rows.diskOwnRow.domain false) (Rows.diskOwnSpec.post enc Try.prog Try.f4 false true false false) := by
  refine returnsInHanded_of_change_sized (C := Try.checked) own started (by kernel_rfl) Try.func4
    (ChangeSpec.witness6 (enc := enc) (C := Try.checked) false ⟨#[], #[.slice none 0 0], []⟩ 8 (by kernel_rfl) (by kernel_rfl) (by kernel_rfl) (by kernel_rfl)) ?_
  intro W base args ds gs before hval0 hW _hcnd hsz0 _
  have hval : ∀ (j : Nat) t v, Try.f4.params[j]? = some t → args[j]? = some v → Value.okWide Try.prog W .any base t v := hval0
  have hW' := hW
  obtain ⟨p, q, hA0, hV, rfl, _hfz, _hnd⟩ := hW
  have hA : DataW.TrodAll enc Try.prog W 0 (fun _ => true) true Try.f4.params.toList args.toList ds p := hA0
  have hsz : (DataW.weightsEach Try.prog (Try.f4.params.toList ++ Rows.diskOwnSpec.plain.varTypes Try.prog) (ds ++ gs)).all (· ≤ reachBytes) = true := hsz0
  rw [Try.params4] at hA hval hsz
  obtain ⟨v0, vs0, d0, ds0, p0, q0, hargs, rfl, rfl, h0, r0⟩ := trodAll_cons hA
  obtain ⟨rfl, rfl, rfl⟩ := trodAll_nil r0
  obtain rfl : args = #[v0] := by cases args; simp_all
  obtain ⟨rfl, rfl⟩ := trodVars_none hV
  have k0 := h0
  have lt0 : ∀ x ∈ p0, x.block < W.heap.size := by obtain ⟨m, hm⟩ := k0; exact DataW.trod_lt m _ _ _ hm
  obtain ⟨A0, c0, l0, rfl, w0, sz0⟩ := open_bytes Try.underlying28 Try.underlying5 (by kernel_rfl) (hval 0 28 v0 rfl rfl) h0
  have s0 := sized_bytes hsz (j := 0) (t := 28) (e := 5) rfl rfl Try.underlying28 (by kernel_rfl) sz0
  clear hA0 hval0 hsz0 hsz
  refine (walk A0 c0 l0 W w0 s0).mono fun e W' ⟨he, bel⟩ => ?_
  subst he
  exact ⟨_, rfl, _, _, _, [], _, [], hW', trodAll_mk1 (shut_bool Try.underlying4 _), (trodAll_cons_mk (Below.trod laidOut (by kernel_rfl) (of_decide_eq_true (by kernel_rfl)) k0 bel lt0) trodAll_mk0), rfl, bel.frame _, fun h => by cases h⟩

theorem over : Rows.diskOwnRow.holds Try.pinned (OpenSpec.ofChange Rows.diskOwnSpec) :=
  OpenClaim.holds_of_wide 4 Try.f4 rfl rfl rfl rfl rfl rfl rfl ⟨rfl, rfl, rfl, rfl, rfl⟩ rfl rfl rfl rfl rfl (by kernel_rfl) Try.func4 (by kernel_rfl)
    (of_decide_eq_true (by kernel_rfl)) (by unfold Func.isWrapper; first | (rw [if_pos (by decide +kernel)]; kernel_rfl) | (rw [if_neg (by decide +kernel)]; exact ⟨rfl, rfl⟩))
    (fun os started H enc _ => lifted os started H enc)

end Go.Proofs.Ytcbgpichkjcgnaa.diskOwn
namespace Go.Proofs.Ytcbgpichkjcgnaa
/-- The statement. -/
theorem diskOwn_holds : Rows.DiskOwnSaid := diskOwn.over
#print axioms diskOwn_holds
end Go.Proofs.Ytcbgpichkjcgnaa

