/- For every input WireUnlike returns true, and every argument reads behind the call as it did before, where what comes in is of bulk at most 1048576. -/
import Derived.Test.YtabalhhodcajmaaRows
import Derived.ProofKit
import Derived.OpenShut
import Derived.SizedLaws
import Derived.ChangeOld
import Derived.Carry
import Derived.Test.YtabalhhodcajmaaLawb
import Derived.Test.YtabalhhodcajmaaBulk
import Derived.JoinedCond
import Derived.Test.YtabalhhodcajmaaWik
import Derived.Test.YtabalhhodcajmaaSlx
import Derived.BigQuiet
import Derived.Test.YtabalhhodcajmaaLawr
namespace Go.Proofs.Ytabalhhodcajmaa.wireUnlike
open Go.ChangeShapes Go.WideShapes Go.ChangeAt Go.RowKit Go.Shelf Gw Pol Go.BigFrame

theorem own : ownKnob Try.prog.godebug = none := by kernel_rfl
theorem laidOut : laidOutB Try.prog = true := by kernel_rfl
/-- What the loop of WireUnlike has seen. -/
def UlRel (w3 : World) (n : Nat) (i : Value) (wr : World) : Prop := ∃ k j : Nat, k ≤ n ∧ i = .int .i64 (k : Int) ∧ wr = w3.drewN j
set_option maxRecDepth 100000 in
set_option maxHeartbeats 2000000 in
theorem walk (m0 : Mg) (b0 : Ma) (m1 : Mg) (b1 : Ma) (w : World) (w0 : MgIn w w.heap.size m0 b0) (s0 : m0.sz' ≤ 8000000) (u0 : MgIn w w.heap.size m1 b1) (s1 : m1.sz' ≤ 8000000) :
    Calls Try.prog 6 #[mval m0 b0, mval m1 b1] w fun e w' => e = .returned (.bool true) ∧ Below w.heap.size w w' := by
  obtain ⟨w1, hw1⟩ : ∃ w1, w1 = (w.alloc (.cells (mcs m0 b0).toArray 27)).alloc (.cells (mcs m1 b1).toArray 27) := ⟨_, rfl⟩
  have hb1 : Below w.heap.size w w1 := by rw [hw1]; exact ((Below.refl _ _).alloc (Nat.le_refl _) _).alloc (by simp) _
  have hs1 : w1.heap.size = w.heap.size + 1 + 1 := by rw [hw1]; simp
  have hx0 : MBox w1 w.heap.size m0 b0 := by
    rw [hw1]
    exact (MBox.new w m0 b0 _).keep (((Below.refl (w.alloc (.cells (mcs m0 b0).toArray 27)).heap.size _).alloc (Nat.le_refl _) _).block _ (by simp))
  have hx1 : MBox w1 (w.heap.size + 1) m1 b1 := by
    rw [hw1]
    have := MBox.new (w.alloc (.cells (mcs m0 b0).toArray 27)) m1 b1 27
    rwa [World.size_alloc] at this
  have HE := Lib.hid (encode_any m0 b0 w1 ((w0.below hb1).more hb1.size) (by omega))
  rw [hw1] at HE
  have HW1 := Lib.hid hw1
  clear hw1
  go_enter Try.func6, Try.ntmps6
  go_wp2_with fail
  refine HE.out.mono ?_
  rintro e w2 ⟨hb2, hcase⟩
  rw [← HW1.out] at hb2
  have HC := Lib.hid hcase
  have hs2 := hb2.size
  have HB2 := Lib.hid (hb1.trans (hb2.mono (by omega)))
  have hx0 := hx0.keep (hb2.block _ hx0.lt)
  have hx1 := hx1.keep (hb2.block _ hx1.lt)
  have HE2 := Lib.hid (encode_any m1 b1 w2 ((u0.below HB2.out).more HB2.out.size) (by omega))
  have HX0 := Lib.hid hx0
  have HX1 := Lib.hid hx1
  clear hcase hb1 hb2 HE hx0
  obtain ⟨a, N, c, ok, he, hcs⟩ : ∃ a N c ok, e = .returned (.tuple #[.slice a N c, .bool ok]) ∧ ((ok = true ∧ m0.ok = true ∧ N = m0.en.length ∧ In w2 w2.heap.size a c m0.en) ∨ ok = false) := by
    rcases HC.out with ⟨ho, A2, N2, c2, e2, hN2, hown⟩ | ⟨_, e2⟩
    · exact ⟨A2, N2, c2, true, e2, .inl ⟨rfl, ho, hN2, hown.inn⟩⟩
    · exact ⟨none, 0, 0, false, e2, .inr rfl⟩
  subst he
  have HCS := Lib.hid hcs
  clear HC hcs
  have cz0 : w2.cell? ⟨w.heap.size + 1, 0, none⟩ = some (.int .i64 m1.kd) := hx1 0 _ rfl
  have cz1 : w2.cell? ⟨w.heap.size + 1, 1, none⟩ = some (.int .i64 m1.fr) := hx1 1 _ rfl
  have cz2 : w2.cell? ⟨w.heap.size + 1, 2, none⟩ = some (.int .i64 m1.to) := hx1 2 _ rfl
  have cz3 : w2.cell? ⟨w.heap.size + 1, 3, none⟩ = some (.int .i64 m1.se) := hx1 3 _ rfl
  have cz4 : w2.cell? ⟨w.heap.size + 1, 4, none⟩ = some (.int .i64 m1.de) := hx1 4 _ rfl
  have cz5 : w2.cell? ⟨w.heap.size + 1, 5, none⟩ = some (.int .i64 m1.cm) := hx1 5 _ rfl
  have cz6 : w2.cell? ⟨w.heap.size + 1, 6, none⟩ = some (.int .i64 m1.ep) := hx1 6 _ rfl
  have cz7 : w2.cell? ⟨w.heap.size + 1, 7, none⟩ = some (.slice b1.HA b1.HN b1.HC) := hx1 7 _ rfl
  have cz8 : w2.cell? ⟨w.heap.size + 1, 8, none⟩ = some (.string (str m1.id)) := hx1 8 _ rfl
  have cz9 : w2.cell? ⟨w.heap.size + 1, 9, none⟩ = some (.int .i64 m1.sz) := hx1 9 _ rfl
  have cz10 : w2.cell? ⟨w.heap.size + 1, 10, none⟩ = some (.int .i64 m1.so) := hx1 10 _ rfl
  have cz11 : w2.cell? ⟨w.heap.size + 1, 11, none⟩ = some (.int .i64 m1.ta) := hx1 11 _ rfl
  have cz12 : w2.cell? ⟨w.heap.size + 1, 12, none⟩ = some (.slice b1.DA b1.DN b1.DC) := hx1 12 _ rfl
  have cz13 : w2.cell? ⟨w.heap.size + 1, 13, none⟩ = some (.slice b1.PA b1.PN b1.PC) := hx1 13 _ rfl
  have cz14 : w2.cell? ⟨w.heap.size + 1, 14, none⟩ = some (.int .i64 m1.co) := hx1 14 _ rfl
  have cz15 : w2.cell? ⟨w.heap.size + 1, 15, none⟩ = some (.slice b1.QA b1.QN b1.QC) := hx1 15 _ rfl
  go_wp2_with fail
  refine HE2.out.mono ?_
  clear cz0 cz1 cz2 cz3 cz4 cz5 cz6 cz7 cz8 cz9 cz10 cz11 cz12 cz13 cz14 cz15 HE2 hx1
  rintro e w3 ⟨hb3, hcase⟩
  have hs3 := hb3.size
  have HB3 := Lib.hid (HB2.out.trans (hb3.mono (by have := HB2.out.size; omega)))
  obtain ⟨a', N', c', ok', he, hcs⟩ : ∃ a N c ok, e = .returned (.tuple #[.slice a N c, .bool ok]) ∧ ((ok = true ∧ m1.ok = true ∧ N = m1.en.length ∧ In w3 w3.heap.size a c m1.en) ∨ ok = false) := by
    rcases hcase with ⟨ho, A2, N2, c2, e2, hN2, hown⟩ | ⟨_, e2⟩
    · exact ⟨A2, N2, c2, true, e2, .inl ⟨rfl, ho, hN2, hown.inn⟩⟩
    · exact ⟨none, 0, 0, false, e2, .inr rfl⟩
  subst he
  have HCS' := Lib.hid hcs
  have HX0 := Lib.hid (HX0.out.keep (hb3.block _ HX0.out.lt))
  have HX1 := Lib.hid (HX1.out.keep (hb3.block _ HX1.out.lt))
  have HB32 := Lib.hid hb3
  clear hcs hcase hb3
  have HANS := Lib.hid (answers_any w3)
  by_cases hok : ok = true
  rotate_left
  · have e0 : ok = false := by simpa using hok
    subst e0
    clear hok HCS HCS'
    go_wp2_with fail
    refine HANS.out.mono ?_
    rintro e w8 ⟨rfl, hb8⟩
    have HB8 := Lib.hid (HB3.out.trans (hb8.mono (by have := HB3.out.size; omega)))
    clear hb8
    go_wp2
    go_ret
    exact ⟨rfl, HB8.out⟩
  subst hok
  by_cases hok : ok' = true
  rotate_left
  · have e0 : ok' = false := by simpa using hok
    subst e0
    clear hok HCS HCS'
    go_wp2_with fail
    refine HANS.out.mono ?_
    rintro e w8 ⟨rfl, hb8⟩
    have HB8 := Lib.hid (HB3.out.trans (hb8.mono (by have := HB3.out.size; omega)))
    clear hb8
    go_wp2
    go_ret
    exact ⟨rfl, HB8.out⟩
  subst hok
  obtain ⟨_, hok0, hN, hI⟩ : true = true ∧ m0.ok = true ∧ N = m0.en.length ∧ In w2 w2.heap.size a c m0.en := HCS.out.resolve_right (by simp)
  obtain ⟨_, hok1, hN', hI'⟩ : true = true ∧ m1.ok = true ∧ N' = m1.en.length ∧ In w3 w3.heap.size a' c' m1.en := HCS'.out.resolve_right (by simp)
  have hI := hI.below HB32.out
  have k1 := conv_n (c := c) hI.sl hN
  have k2 := conv_n (c := c') hI'.sl hN'
  have hst := str_same hI.sl.bb hI'.sl.bb
  by_cases hen : m0.en = m1.en
  rotate_left
  · obtain ⟨S, hS⟩ : ∃ S, S = str m0.en := ⟨_, rfl⟩
    obtain ⟨T, hT⟩ : ∃ T, T = str m1.en := ⟨_, rfl⟩
    rw [← hS] at k1 hst
    rw [← hT] at k2 hst
    rw [decide_eq_false hen] at hst
    clear HCS HCS' hS hT hen hN hN' hI hI'
    go_wp2_with fail
    refine HANS.out.mono ?_
    rintro e w8 ⟨rfl, hb8⟩
    have HB8 := Lib.hid (HB3.out.trans (hb8.mono (by have := HB3.out.size; omega)))
    clear hb8
    go_wp2
    go_ret
    exact ⟨rfl, HB8.out⟩
  obtain rfl : m0 = m1 := Mg.en_inj hok0 hok1 hen
  obtain ⟨S, hS⟩ : ∃ S, S = str m0.en := ⟨_, rfl⟩
  rw [← hS] at k1 k2
  clear HCS HCS' hS hen hN hN' hI hI' hst hok0 hok1
  obtain ⟨nH, hnH⟩ : ∃ n, n = m0.hs.length := ⟨_, rfl⟩
  obtain ⟨nD, hnD⟩ : ∃ n, n = m0.ds.length := ⟨_, rfl⟩
  obtain ⟨nP, hnP⟩ : ∃ n, n = m0.ps.length := ⟨_, rfl⟩
  obtain ⟨nQ, hnQ⟩ : ∃ n, n = m0.da.length := ⟨_, rfl⟩
  obtain ⟨I, hId⟩ : ∃ I, I = str m0.id := ⟨_, rfl⟩
  obtain ⟨D, hDa⟩ : ∃ D, D = str m0.da := ⟨_, rfl⟩
  have c7 : w3.cell? ⟨w.heap.size, 7, none⟩ = some (.slice b0.HA nH b0.HC) := by rw [hnH, ← w0.hn]; exact HX0.out 7 _ rfl
  have d7 : w3.cell? ⟨w.heap.size + 1, 7, none⟩ = some (.slice b1.HA nH b1.HC) := by rw [hnH, ← u0.hn]; exact HX1.out 7 _ rfl
  have c12 : w3.cell? ⟨w.heap.size, 12, none⟩ = some (.slice b0.DA nD b0.DC) := by rw [hnD, ← w0.dn]; exact HX0.out 12 _ rfl
  have d12 : w3.cell? ⟨w.heap.size + 1, 12, none⟩ = some (.slice b1.DA nD b1.DC) := by rw [hnD, ← u0.dn]; exact HX1.out 12 _ rfl
  have c13 : w3.cell? ⟨w.heap.size, 13, none⟩ = some (.slice b0.PA nP b0.PC) := by rw [hnP, ← w0.pn]; exact HX0.out 13 _ rfl
  have d13 : w3.cell? ⟨w.heap.size + 1, 13, none⟩ = some (.slice b1.PA nP b1.PC) := by rw [hnP, ← u0.pn]; exact HX1.out 13 _ rfl
  have c15 : w3.cell? ⟨w.heap.size, 15, none⟩ = some (.slice b0.QA nQ b0.QC) := by rw [hnQ, ← w0.qn]; exact HX0.out 15 _ rfl
  have d15 : w3.cell? ⟨w.heap.size + 1, 15, none⟩ = some (.slice b1.QA nQ b1.QC) := by rw [hnQ, ← u0.qn]; exact HX1.out 15 _ rfl
  have c8 : w3.cell? ⟨w.heap.size, 8, none⟩ = some (.string I) := by rw [hId]; exact HX0.out 8 _ rfl
  have d8 : w3.cell? ⟨w.heap.size + 1, 8, none⟩ = some (.string I) := by rw [hId]; exact HX1.out 8 _ rfl
  have kq0 := conv_n (c := b0.QC) ((w0.da.below HB3.out).sl) hnQ
  have kq1 := conv_n (c := b1.QC) ((u0.da.below HB3.out).sl) hnQ
  rw [← hDa] at kq0 kq1
  have HNH := Lib.hid hnH
  have HH0 := Lib.hid (w0.hs.below HB3.out)
  have HH1 := Lib.hid (u0.hs.below HB3.out)
  have hNb : nH ≤ 8000000 := by
    have h1 := m0.sz_eq
    have h2 := szH_lb m0.hs
    have h3 : szT (tkHs m0.hs) = 4 + szT (tkH m0.hs) := rfl
    omega
  clear w0 u0 hnH hnD hnP hnQ hId hDa hx0 hx1 HANS
  go_wp2
  go_loopw [9] (UlRel w3 nH) (fun i _ => nH - (intOf i).toNat)
  case atStart => exact ⟨0, 0, Nat.zero_le _, rfl, rfl⟩
  case round =>
    obtain ⟨k, j, hk, rfl, hwr⟩ := hrel
    have e7 : wr.cell? ⟨w.heap.size, 7, none⟩ = some (.slice b0.HA nH b0.HC) := by rw [hwr]; exact c7
    have f7 : wr.cell? ⟨w.heap.size + 1, 7, none⟩ = some (.slice b1.HA nH b1.HC) := by rw [hwr]; exact d7
    clear c7 d7 c12 d12 c13 d13 c15 d15 c8 d8 k1 k2 kq0 kq1
    by_cases hkn : k < nH
    · obtain ⟨x, hx⟩ : ∃ x, m0.hs[k]? = some x := ⟨_, List.getElem?_eq_getElem (by rw [← HNH.out]; exact hkn)⟩
      obtain ⟨_, _, bh, off, hHA, _, g0, g1⟩ := HH0.out.sl k x hx
      obtain ⟨_, _, bh', off', hHA', _, g0', g1'⟩ := HH1.out.sl k x hx
      rw [hHA] at e7
      rw [hHA'] at f7
      obtain ⟨X, hX⟩ : ∃ X, X = str x.1 := ⟨_, rfl⟩
      obtain ⟨z, hz⟩ : ∃ z, z = x.2 := ⟨_, rfl⟩
      have p0 : wr.cell? ⟨bh, off + k * 2, none⟩ = some (.string X) := by rw [hwr, hX]; exact g0
      have p1 : wr.cell? ⟨bh, off + k * 2 + 1, none⟩ = some (.int .i64 z) := by rw [hwr, hz]; exact g1
      have r0 : wr.cell? ⟨bh', off' + k * 2, none⟩ = some (.string X) := by rw [hwr, hX]; exact g0'
      have r1 : wr.cell? ⟨bh', off' + k * 2 + 1, none⟩ = some (.int .i64 z) := by rw [hwr, hz]; exact g1'
      have HW := Lib.hid hwr
      clear hwr g0 g1 g0' g1' hX hz hx hHA hHA'
      go_wp2
      go_quiet (fail)
      go_wp2
      go_roundw
      case rel => exact ⟨k + 1, j + nq, by omega, by go_num, by rw [HW.out, World.drewN_drewN]⟩
      case measure => simp [intOf]; omega
    · have hx0 : MBox wr w.heap.size m0 b0 := fun i v hv => by rw [hwr]; exact HX0.out i v hv
      have hx1 : MBox wr (w.heap.size + 1) m0 b1 := fun i v hv => by rw [hwr]; exact HX1.out i v hv
      have HBW := Lib.hid (show Below w.heap.size w wr by rw [hwr]; exact ⟨HB3.out.os, HB3.out.tape, HB3.out.output, HB3.out.size, HB3.out.block⟩)
      have HA := Lib.hid (answers_any wr)
      clear hwr
      go_wp2_with fail
      refine HA.out.mono ?_
      rintro e w8 ⟨rfl, hb8⟩
      have hx0 := hx0.keep (hb8.block _ hx0.lt)
      have hx1 := hx1.keep (hb8.block _ hx1.lt)
      have p0 : w8.cell? ⟨w.heap.size, 0, none⟩ = some (.int .i64 m0.kd) := hx0 0 _ rfl
      have p1 : w8.cell? ⟨w.heap.size, 1, none⟩ = some (.int .i64 m0.fr) := hx0 1 _ rfl
      have p2 : w8.cell? ⟨w.heap.size, 2, none⟩ = some (.int .i64 m0.to) := hx0 2 _ rfl
      have p3 : w8.cell? ⟨w.heap.size, 3, none⟩ = some (.int .i64 m0.se) := hx0 3 _ rfl
      have p4 : w8.cell? ⟨w.heap.size, 4, none⟩ = some (.int .i64 m0.de) := hx0 4 _ rfl
      have p5 : w8.cell? ⟨w.heap.size, 5, none⟩ = some (.int .i64 m0.cm) := hx0 5 _ rfl
      have p6 : w8.cell? ⟨w.heap.size, 6, none⟩ = some (.int .i64 m0.ep) := hx0 6 _ rfl
      have p9 : w8.cell? ⟨w.heap.size, 9, none⟩ = some (.int .i64 m0.sz) := hx0 9 _ rfl
      have p10 : w8.cell? ⟨w.heap.size, 10, none⟩ = some (.int .i64 m0.so) := hx0 10 _ rfl
      have p11 : w8.cell? ⟨w.heap.size, 11, none⟩ = some (.int .i64 m0.ta) := hx0 11 _ rfl
      have p14 : w8.cell? ⟨w.heap.size, 14, none⟩ = some (.int .i64 m0.co) := hx0 14 _ rfl
      have r0 : w8.cell? ⟨w.heap.size + 1, 0, none⟩ = some (.int .i64 m0.kd) := hx1 0 _ rfl
      have r1 : w8.cell? ⟨w.heap.size + 1, 1, none⟩ = some (.int .i64 m0.fr) := hx1 1 _ rfl
      have r2 : w8.cell? ⟨w.heap.size + 1, 2, none⟩ = some (.int .i64 m0.to) := hx1 2 _ rfl
      have r3 : w8.cell? ⟨w.heap.size + 1, 3, none⟩ = some (.int .i64 m0.se) := hx1 3 _ rfl
      have r4 : w8.cell? ⟨w.heap.size + 1, 4, none⟩ = some (.int .i64 m0.de) := hx1 4 _ rfl
      have r5 : w8.cell? ⟨w.heap.size + 1, 5, none⟩ = some (.int .i64 m0.cm) := hx1 5 _ rfl
      have r6 : w8.cell? ⟨w.heap.size + 1, 6, none⟩ = some (.int .i64 m0.ep) := hx1 6 _ rfl
      have r9 : w8.cell? ⟨w.heap.size + 1, 9, none⟩ = some (.int .i64 m0.sz) := hx1 9 _ rfl
      have r10 : w8.cell? ⟨w.heap.size + 1, 10, none⟩ = some (.int .i64 m0.so) := hx1 10 _ rfl
      have r11 : w8.cell? ⟨w.heap.size + 1, 11, none⟩ = some (.int .i64 m0.ta) := hx1 11 _ rfl
      have r14 : w8.cell? ⟨w.heap.size + 1, 14, none⟩ = some (.int .i64 m0.co) := hx1 14 _ rfl
      have HB8 := Lib.hid (HBW.out.trans (hb8.mono (by have := HBW.out.size; omega)))
      clear hx0 hx1 hb8 HA
      go_wp2
      go_ret
      exact ⟨by simp, HB8.out⟩

theorem contract (H : Type) (enc : TypeId × Value → H) (W : World) (base : Nat) (args : Array Value) (ds gs : List (DataW H)) (before : List MemPlace)
    (hval : ∀ (j : Nat) t v, Try.f6.params[j]? = some t → args[j]? = some v → Value.okWide Try.prog W .any base t v)
    (hW : DataW.Whole enc Try.prog Try.f6.params.toList Rows.wireUnlikeSpec.vars false W args.toList ds gs before) (hk : Rows.uptoSmall H (ds ++ gs) = true) :
    Calls Try.prog 6 args W fun e W' => ∃ v, e = .returned v ∧ Rows.wireUnlikeSpec.post enc Try.prog Try.f6 false true false false W args v W' := by
  have hW' := hW
  obtain ⟨p, q, hA0, hV, rfl, _hfz, _hnd⟩ := hW
  have hA : DataW.TrodAll enc Try.prog W 0 (fun _ => true) true Try.f6.params.toList args.toList ds p := hA0
  rw [Try.params6] at hA hval
  obtain ⟨v0, vs0, d0, ds0, p0, q0, hargs, rfl, rfl, h0, r0⟩ := trodAll_cons hA
  obtain ⟨v1, vs1, d1, ds1, p1, q1, rfl, rfl, rfl, h1, r1⟩ := trodAll_cons r0
  obtain ⟨rfl, rfl, rfl⟩ := trodAll_nil r1
  obtain rfl : args = #[v0, v1] := by cases args; simp_all
  obtain ⟨rfl, rfl⟩ := trodVars_none hV
  simp only [List.append_nil] at hk
  have k0 := h0
  have lt0 : ∀ x ∈ p0, x.block < W.heap.size := by obtain ⟨m, hm⟩ := k0; exact DataW.trod_lt m _ _ _ hm
  obtain ⟨m0, b0, rfl, w0, D0⟩ := open_msg (hval 0 27 v0 rfl rfl) h0
  have s0 := msg_small (bulks.part hk (j := 0) rfl) D0
  have k1 := h1
  have lt1 : ∀ x ∈ p1, x.block < W.heap.size := by obtain ⟨m, hm⟩ := k1; exact DataW.trod_lt m _ _ _ hm
  obtain ⟨m1, b1, rfl, w1, D1⟩ := open_msg (hval 1 27 v1 rfl rfl) h1
  have s1 := msg_small (bulks.part hk (j := 1) rfl) D1
  clear hA0
  refine (walk m0 b0 m1 b1 W w0 s0 w1 s1).mono fun e W' ⟨he, bel⟩ => ?_
  subst he
  exact ⟨_, rfl, _, _, _, [], _, [], hW', trodAll_mk1 (shut_bool Try.underlying4 _), (trodAll_cons_mk (Below.trod laidOut (by kernel_rfl) (of_decide_eq_true (by kernel_rfl)) k0 bel lt0) (trodAll_cons_mk (Below.trod laidOut (by kernel_rfl) (of_decide_eq_true (by kernel_rfl)) k1 bel lt1) trodAll_mk0)), rfl, bel.frame _, fun h => by cases h⟩

set_option maxRecDepth 100000 in
theorem lifted (os : Os) (started : os.Started) (H : Type) (enc : TypeId × Value → H) (F : Stop.Interp) :
    ReturnsInHanded {} Try.checked os 6 .any ((Rows.OpenSpec.upto Rows.wireUnlikeSpec).pre6 enc Try.prog Try.f6 Rows.wireUnlikeUptoRow.domain false) (((Rows.OpenSpec.upto Rows.wireUnlikeSpec).at F).post enc Try.prog Try.f6 false true false false) := by
  refine returnsInHanded_of_cond (C := Try.checked) (s := Rows.OpenSpec.upto Rows.wireUnlikeSpec) (k := Rows.uptoSmall) rfl own started (by kernel_rfl) Try.func6
    (OpenSpec.witness (enc := enc) (C := Try.checked) (s := Rows.OpenSpec.upto Rows.wireUnlikeSpec) (k := Rows.uptoSmall) rfl false ⟨#[], #[.agg #[.int .i64 0, .int .i64 0, .int .i64 0, .int .i64 0, .int .i64 0, .int .i64 0, .int .i64 0, .slice none 0 0, .string ByteArray.empty, .int .i64 0, .int .i64 0, .int .i64 0, .slice none 0 0, .slice none 0 0, .int .i64 0, .slice none 0 0], .agg #[.int .i64 0, .int .i64 0, .int .i64 0, .int .i64 0, .int .i64 0, .int .i64 0, .int .i64 0, .slice none 0 0, .string ByteArray.empty, .int .i64 0, .int .i64 0, .int .i64 0, .slice none 0 0, .slice none 0 0, .int .i64 0, .slice none 0 0]], []⟩ 8 (by kernel_rfl) (by kernel_rfl) (by kernel_rfl)
      (x := ([.agg [.lit (.int .i64 0), .lit (.int .i64 0), .lit (.int .i64 0), .lit (.int .i64 0), .lit (.int .i64 0), .lit (.int .i64 0), .lit (.int .i64 0), .nil, .lit (.string []), .lit (.int .i64 0), .lit (.int .i64 0), .lit (.int .i64 0), .nil, .nil, .lit (.int .i64 0), .nil], .agg [.lit (.int .i64 0), .lit (.int .i64 0), .lit (.int .i64 0), .lit (.int .i64 0), .lit (.int .i64 0), .lit (.int .i64 0), .lit (.int .i64 0), .nil, .lit (.string []), .lit (.int .i64 0), .lit (.int .i64 0), .lit (.int .i64 0), .nil, .nil, .lit (.int .i64 0), .nil]], [], [])) (by kernel_rfl) rfl (by kernel_rfl)) ?_
  intro W base args ds gs before hval hW _ hk _
  exact contract H enc W base args ds gs before hval hW hk

theorem over : Rows.wireUnlikeUptoRow.holds Try.pinned (Rows.OpenSpec.upto Rows.wireUnlikeSpec) :=
  OpenClaim.holds_of_cond 6 Try.f6 rfl rfl rfl rfl rfl rfl rfl ⟨rfl, rfl, rfl, rfl, rfl⟩ rfl rfl rfl rfl rfl (by kernel_rfl) Try.func6 (by kernel_rfl)
    (of_decide_eq_true (by kernel_rfl)) (by unfold Func.isWrapper; first | (rw [if_pos (by decide +kernel)]; kernel_rfl) | (rw [if_neg (by decide +kernel)]; exact ⟨rfl, rfl⟩))
    (fun os started H enc _ F => lifted os started H enc F)

end Go.Proofs.Ytabalhhodcajmaa.wireUnlike
namespace Go.Proofs.Ytabalhhodcajmaa
/-- The statement. -/
theorem wireUnlike_holds : Rows.WireUnlikeUptoSaid := wireUnlike.over
#print axioms wireUnlike_holds
end Go.Proofs.Ytabalhhodcajmaa

