/- For every input WordBad returns true, and every argument reads behind the call as it did before: no condition. -/
import Derived.Test.YtpkdlblncgldmaaRows
import Derived.ProofKit
import Derived.OpenShut
import Derived.SizedLaws
import Derived.ChangeOld
import Derived.Carry
import Derived.Test.YtpkdlblncgldmaaLawb
import Derived.Test.YtpkdlblncgldmaaWde
import Derived.Test.YtpkdlblncgldmaaWdf
namespace Go.Proofs.Ytpkdlblncgldmaa.wordBad
open Go.ChangeShapes Go.WideShapes Go.ChangeAt Go.RowKit Go.Shelf Gw Pol

theorem own : ownKnob Try.prog.godebug = none := by kernel_rfl
theorem laidOut : laidOutB Try.prog = true := by kernel_rfl
/-- Is all right? -/
def okW (b : List Nat) (n m : Int) : Bool := okL b && okN n && okN m
/-- What is behind the three. -/
def lW (b : List Nat) (n m : Int) : List Nat × Bool := wrN (wrN (wrL [] false b).1 (wrL [] false b).2 n).1 (wrN (wrL [] false b).1 (wrL [] false b).2 n).2 m
theorem lW_bad (b : List Nat) (n m : Int) : (lW b n m).2 = !okW b n m := by
  unfold lW okW wrN wrL
  cases okL b <;> cases okN n <;> cases okN m <;> simp
/-- The definition's Int, by its flag alone. -/
theorem fint_flag (n : Int) (w : World) : Calls Try.prog 18 #[.int .i64 n] w fun e w' => ∃ A2 N c2, e = .returned (.tuple #[.slice A2 N c2, .bool (okN n)]) ∧ Below w.heap.size w w' := by
  refine (fint_any n w).mono ?_
  rintro e w' ⟨A2, N, c2, rfl, hb, _, _⟩
  exact ⟨A2, N, c2, rfl, hb⟩
/-- Out, by its flag alone. -/
theorem wout_flag (p g : Nat) (l : List Nat) (bad : Bool) (w : World) (h : Bx w p g l bad) (hl : l.length ≤ 140737488355328) : Calls Try.prog 12 #[.pointer (some ⟨p, 0, none⟩)] w fun e w' => ∃ A2 n2 c2, e = .returned (.tuple #[.slice A2 n2 c2, .bool (!bad)]) ∧ Below w.heap.size w w' := by
  cases bad with
  | true =>
    refine (wout_bad p g l w h).mono ?_
    rintro e w' ⟨rfl, rfl⟩
    exact ⟨none, 0, 0, rfl, Below.refl _ _⟩
  | false =>
    refine (wout_any p g l w h hl).mono ?_
    rintro e w' ⟨A2, c2, rfl, _, hb⟩
    exact ⟨A2, _, c2, rfl, hb⟩
set_option maxRecDepth 100000 in
set_option maxHeartbeats 1000000 in
theorem walk (a0 : Int) (A1 : Option Addr) (c1 : Nat) (l1 : List Nat) (a2 : Int) (w : World) (_w0 : (Lit.int .i64 a0).wf = true) (w1 : In w w.heap.size A1 c1 l1) (_s1 : c1 ≤ 140737488351232) (_w2 : (Lit.int .i64 a2).wf = true) :
    Calls Try.prog 6 #[.int .i64 a0, .slice A1 l1.length c1, .int .i64 a2] w fun e w' => e = .returned (.bool true) ∧ Below w.heap.size w w' := by
  obtain ⟨p, hp⟩ : ∃ p, p = w.heap.size := ⟨_, rfl⟩
  have HNEW := Lib.hid (wnew' w)
  rw [← hp] at HNEW
  have hpl : w.heap.size ≤ p := by omega
  clear hp
  obtain ⟨N, hN⟩ : ∃ N, N = l1.length := ⟨_, rfl⟩
  obtain ⟨s, hs⟩ : ∃ s, s = wrL [] false l1 := ⟨_, rfl⟩
  obtain ⟨t, ht⟩ : ∃ t, t = wrN s.1 s.2 a0 := ⟨_, rfl⟩
  obtain ⟨u, hu⟩ : ∃ u, u = wrN t.1 t.2 a2 := ⟨_, rfl⟩
  have hub : u.2 = !okW l1 a0 a2 := by rw [hu, ht, hs]; exact lW_bad l1 a0 a2
  have hsn : s.2 = true → s.1 = [] := by rw [hs]; exact wrL_nil _ _ _
  have htn : t.2 = true → t.1 = [] := by rw [ht]; exact wrN_nil _ _ _
  have hsl : s.1.length ≤ 65537 := by rw [hs]; have := wrL_len [] false l1; simpa using this
  have htl : t.1.length ≤ 65541 := by rw [ht]; have := wrN_len s.1 s.2 a0; omega
  have hul : u.1.length ≤ 65545 := by rw [hu]; have := wrN_len t.1 t.2 a2; omega
  have hkey : okW l1 a0 a2 = (decide (N ≤ 65535) && okN a0 && okN a2) := by rw [hN]; rfl
  rw [hkey] at hub
  rw [← hN]
  have HWB := Lib.hid (fun (g : Nat) (w2 : World) (h : Bx w2 p g [] false) (hb : Below w.heap.size w w2) (hg : w.heap.size ≤ g) => (hs ▸ wbytes_any p g [] false A1 N c1 l1 w2 h (fun e => by cases e) hN ((w1.below hb).sl.aw hpl hg) (by simp) :
    Calls Try.prog 8 #[.pointer (some ⟨p, 0, none⟩), .slice A1 N c1] w2 fun e w' => e = .returned (.tuple #[]) ∧ ∃ g', Bx w' p g' s.1 s.2 ∧ (g' = g ∨ g' = p ∨ w2.heap.size ≤ g') ∧ K2 w2 w' p g))
  have HWI := Lib.hid (fun (g : Nat) (w2 : World) (h : Bx w2 p g s.1 s.2) => (ht ▸ wint_any p g s.1 s.2 a0 w2 h hsn (by omega) :
    Calls Try.prog 10 #[.pointer (some ⟨p, 0, none⟩), .int .i64 a0] w2 fun e w' => e = .returned (.tuple #[]) ∧ ∃ g', Bx w' p g' t.1 t.2 ∧ (g' = g ∨ g' = p ∨ w2.heap.size ≤ g') ∧ K2 w2 w' p g))
  have HWJ := Lib.hid (fun (g : Nat) (w2 : World) (h : Bx w2 p g t.1 t.2) => (hu ▸ wint_any p g t.1 t.2 a2 w2 h htn (by omega) :
    Calls Try.prog 10 #[.pointer (some ⟨p, 0, none⟩), .int .i64 a2] w2 fun e w' => e = .returned (.tuple #[]) ∧ ∃ g', Bx w' p g' u.1 u.2 ∧ (g' = g ∨ g' = p ∨ w2.heap.size ≤ g') ∧ K2 w2 w' p g))
  have hout : ∀ (g : Nat) (w2 : World), Bx w2 p g u.1 u.2 → Calls Try.prog 12 #[.pointer (some ⟨p, 0, none⟩)] w2 fun e w' => ∃ A2 n2 c2, e = .returned (.tuple #[.slice A2 n2 c2, .bool (decide (N ≤ 65535) && okN a0 && okN a2)]) ∧ Below w2.heap.size w2 w' := fun g w2 h => by
    have e1 : (decide (N ≤ 65535) && okN a0 && okN a2) = !u.2 := by rw [hub, Bool.not_not]
    rw [e1]
    exact wout_flag p g u.1 u.2 w2 h (by omega)
  have HOUT := Lib.hid hout
  clear hout
  obtain ⟨x, hx⟩ : ∃ x, x = okN a0 := ⟨_, rfl⟩
  obtain ⟨y, hy⟩ : ∃ y, y = okN a2 := ⟨_, rfl⟩
  have HF0 := Lib.hid (fint_flag a0)
  have HF2 := Lib.hid (fint_flag a2)
  rw [← hx] at HF0
  rw [← hy] at HF2
  rw [← hx, ← hy] at HOUT
  obtain ⟨z, hz⟩ : ∃ z, z = decide (N ≤ 65535) := ⟨_, rfl⟩
  rw [← hz] at HOUT
  have hzz : decide ((N : Int) ≤ 65535) = z := by rw [hz]; congr 1; exact propext ⟨fun h => by omega, fun h => by omega⟩
  have HZ := Lib.hid hzz
  clear hs ht hu hub hsn htn hsl htl hul hkey hN hx hy hz hzz w1
  go_enter Try.func6, Try.ntmps6
  go_wp2_with fail
  refine HNEW.out.mono ?_
  rintro e w1 ⟨rfl, h1, hb1, hz1⟩
  go_wp2_with fail
  refine (HWB.out p w1 h1 (hb1.mono hpl |>.mono (Nat.le_refl _)) hpl).mono ?_
  rintro e w2 ⟨rfl, g2, h2, hg2, hk2⟩
  have hz2 := hk2.size
  go_wp2_with fail
  refine (HWI.out g2 w2 h2).mono ?_
  rintro e w3 ⟨rfl, g3, h3, hg3, hk3⟩
  have hz3 := hk3.size
  go_wp2_with fail
  refine (HWJ.out g3 w3 h3).mono ?_
  rintro e w4 ⟨rfl, g4, h4, hg4, hk4⟩
  have hz4 := hk4.size
  have hB4 : Below w.heap.size w w4 := (((hb1.mono hpl).trans (hk2.below (by omega) hpl hpl)).trans (hk3.below (by omega) hpl (by omega))).trans (hk4.below (by omega) hpl (by omega))
  have hs4 := hB4.size
  go_wp2_with fail
  refine (HOUT.out g4 w4 h4).mono ?_
  rintro e w5 ⟨A5, n5, c5, rfl, hb5⟩
  have hB5 := hB4.trans (hb5.mono hs4)
  have hs5 := hB5.size
  clear h1 h2 h3 h4 hk2 hk3 hk4 hb1 hB4 hb5 hg2 hg3 hg4 HNEW HWB HWI HWJ HOUT
  go_wp2_with fail
  refine (HF0.out w5).mono ?_
  rintro e w6 ⟨A6, n6, c6, rfl, hb6⟩
  have hB6 := hB5.trans (hb6.mono hs5)
  have hs6 := hB6.size
  go_wp2_with fail
  refine (HF2.out w6).mono ?_
  rintro e w7 ⟨A7, n7, c7, rfl, hb7⟩
  have hB7 := hB6.trans (hb7.mono hs6)
  have hs7 := hB7.size
  clear hB5 hB6 hb6 hb7
  go_wp2_with fail
  refine (answers_any w7).mono ?_
  rintro e w8 ⟨rfl, hb8⟩
  have hB8 := hB7.trans (hb8.mono hs7)
  have hzz := HZ.out
  cases x <;> cases y <;> cases z <;> (go_wp2; go_ret; exact ⟨rfl, hB8⟩)

set_option maxRecDepth 100000 in
theorem lifted (os : Os) (started : os.Started) (H : Type) (enc : TypeId × Value → H) :
    ReturnsInHanded {} Try.checked os 6 .any (Rows.wordBadSpec.pre6 enc Try.prog Try.f6 Rows.wordBadRow.domain false) (Rows.wordBadSpec.post enc Try.prog Try.f6 false true false false) := by
  refine returnsInHanded_of_change_sized (C := Try.checked) own started (by kernel_rfl) Try.func6
    (ChangeSpec.witness6 (enc := enc) (C := Try.checked) false ⟨#[], #[.int .i64 0, .slice none 0 0, .int .i64 0], []⟩ 8 (by kernel_rfl) (by kernel_rfl) (by kernel_rfl) (by kernel_rfl)) ?_
  intro W base args ds gs before hval0 hW _hcnd hsz0 _
  have hval : ∀ (j : Nat) t v, Try.f6.params[j]? = some t → args[j]? = some v → Value.okWide Try.prog W .any base t v := hval0
  have hW' := hW
  obtain ⟨p, q, hA0, hV, rfl, _hfz, _hnd⟩ := hW
  have hA : DataW.TrodAll enc Try.prog W 0 (fun _ => true) true Try.f6.params.toList args.toList ds p := hA0
  have hsz : (DataW.weightsEach Try.prog (Try.f6.params.toList ++ Rows.wordBadSpec.plain.varTypes Try.prog) (ds ++ gs)).all (· ≤ reachBytes) = true := hsz0
  rw [Try.params6] at hA hval hsz
  obtain ⟨v0, vs0, d0, ds0, p0, q0, hargs, rfl, rfl, h0, r0⟩ := trodAll_cons hA
  obtain ⟨v1, vs1, d1, ds1, p1, q1, rfl, rfl, rfl, h1, r1⟩ := trodAll_cons r0
  obtain ⟨v2, vs2, d2, ds2, p2, q2, rfl, rfl, rfl, h2, r2⟩ := trodAll_cons r1
  obtain ⟨rfl, rfl, rfl⟩ := trodAll_nil r2
  obtain rfl : args = #[v0, v1, v2] := by cases args; simp_all
  obtain ⟨rfl, rfl⟩ := trodVars_none hV
  obtain ⟨a0, rfl, rfl, rfl, w0⟩ := open_int Try.underlying3 (hval 0 3 v0 rfl rfl) h0
  have k1 := h1
  have lt1 : ∀ x ∈ p1, x.block < W.heap.size := by obtain ⟨m, hm⟩ := k1; exact DataW.trod_lt m _ _ _ hm
  obtain ⟨A1, c1, l1, rfl, w1, sz1⟩ := open_bytes Try.underlying26 Try.underlying5 (by kernel_rfl) (hval 1 26 v1 rfl rfl) h1
  have s1 := sized_bytes hsz (j := 1) (t := 26) (e := 5) rfl rfl Try.underlying26 (by kernel_rfl) sz1
  obtain ⟨a2, rfl, rfl, rfl, w2⟩ := open_int Try.underlying3 (hval 2 3 v2 rfl rfl) h2
  clear hA0 hval0 hsz0 hsz
  refine (walk a0 A1 c1 l1 a2 W w0 w1 s1 w2).mono fun e W' ⟨he, bel⟩ => ?_
  subst he
  exact ⟨_, rfl, _, _, _, [], _, [], hW', trodAll_mk1 (shut_bool Try.underlying4 _), (trodAll_cons_mk (shut_int Try.underlying3 w0) (trodAll_cons_mk (Below.trod laidOut (by kernel_rfl) (of_decide_eq_true (by kernel_rfl)) k1 bel lt1) (trodAll_cons_mk (shut_int Try.underlying3 w2) trodAll_mk0))), rfl, bel.frame _, fun h => by cases h⟩

theorem over : Rows.wordBadRow.holds Try.pinned (OpenSpec.ofChange Rows.wordBadSpec) :=
  OpenClaim.holds_of_wide 6 Try.f6 rfl rfl rfl rfl rfl rfl rfl ⟨rfl, rfl, rfl, rfl, rfl⟩ rfl rfl rfl rfl rfl (by kernel_rfl) Try.func6 (by kernel_rfl)
    (of_decide_eq_true (by kernel_rfl)) (by unfold Func.isWrapper; first | (rw [if_pos (by decide +kernel)]; kernel_rfl) | (rw [if_neg (by decide +kernel)]; exact ⟨rfl, rfl⟩))
    (fun os started H enc _ => lifted os started H enc)

end Go.Proofs.Ytpkdlblncgldmaa.wordBad
namespace Go.Proofs.Ytpkdlblncgldmaa
/-- The statement. -/
theorem wordBad_holds : Rows.WordBadSaid := wordBad.over
#print axioms wordBad_holds
end Go.Proofs.Ytpkdlblncgldmaa

