import Derived.Lib.QuietBelow
import Derived.Test.YtaknffdokkfmgaaJ6
import Derived.Test.YtaknffdokkfmgaaJ8
import Derived.Test.YtaknffdokkfmgaaJ9
import Derived.Test.YtaknffdokkfmgaaJ10
import Derived.Test.YtaknffdokkfmgaaJ11
section
/- deal: random: all holders' shares of polynomials of random bytes. -/
namespace Gw
open Go Go.RowKit Go.Shelf
/-- What is no cells stands. -/
theorem Tbr.others {base : Nat} {tb : TypeId} {g R : Nat} {pa pb : Nat → Option Addr} {cp : Nat → Nat} {l : Nat → List Nat} {A B : World} (h : Tbr g R pa pb A B) (hA : Otb A base tb g R pa cp l) (hR : 0 < R) : KeepsOthers A B :=
  ⟨h.size, fun k ob hk hc => by
    refine (h.blk k (Array.getElem?_eq_some_iff.1 hk).1 ⟨fun e => ?_, fun i hi o e => ?_⟩).trans hk
    · subst e
      obtain ⟨ob2, h1, h2⟩ := cells_of_cell (hA.out 0 hR).1
      rw [hk] at h1; injection h1 with h1; subst h1; rw [hc] at h2; cases h2
    · have h2 := hA.row i hi
      rw [e] at h2
      obtain ⟨cur, h3⟩ := h2.tag
      rw [hk] at h3; injection h3 with h3; subst h3; cases hc⟩
end Gw
namespace Go.Proofs.Ytaknffdokkfmgaa
open Go.RowKit Go.Shelf Gw Pol
attribute [local go_sem] Oper.semAt_some
/-- What multiples answers. -/
def MuIs (B bf : Nat) (Ax Ar : Option Addr) (nx cx nr cr n : Nat) : Value → World → Prop := fun v w => ∃ b, B ≤ b ∧ v = .func (.func 54) #[] #[.pointer (some ⟨b, 0, none⟩), .pointer (some ⟨b + 1, 0, none⟩), .pointer (some ⟨b + 2, 0, none⟩), .pointer (some ⟨b + 3, 0, none⟩)] ∧
  w.cell? ⟨b, 0, none⟩ = some (.pointer (some ⟨bf, 0, none⟩)) ∧ w.cell? ⟨b + 1, 0, none⟩ = some (.slice Ax nx cx) ∧ w.cell? ⟨b + 2, 0, none⟩ = some (.slice Ar nr cr) ∧ w.cell? ⟨b + 3, 0, none⟩ = some (.int .i64 (n : Int))
theorem MuIs.mono (B bf : Nat) (Ax Ar : Option Addr) (nx cx nr cr n : Nat) : Gt.Mono (MuIs B bf Ax Ar nx cx nr cr n) := by
  rintro v w w' ⟨b, h0, h1, h2, h3, h4, h5⟩ hg
  have key : ∀ p u, w.cell? ⟨p, 0, none⟩ = some u → w'.cell? ⟨p, 0, none⟩ = some u := fun p u h => (Below.cell hg (p := ⟨p, 0, none⟩) (cell_lt h)).trans h
  exact ⟨b, h0, h1, key _ _ h2, key _ _ h3, key _ _ h4, key _ _ h5⟩
theorem dmul_is (bf : Nat) (Ax Ar : Option Addr) (nx cx nr cr n : Nat) (w : World) (B : Nat) (hB : B ≤ w.heap.size) :
    Calls Try.prog 41 #[.pointer (some ⟨bf, 0, none⟩), .slice Ax nx cx, .slice Ar nr cr, .int .i64 (n : Int)] w fun e w' => ∃ v, e = .returned v ∧ Below w.heap.size w w' ∧ MuIs B bf Ax Ar nx cx nr cr n v w' := by
  refine (dmul_mk bf Ax Ar nx cx nr cr n w).mono ?_
  rintro e w' ⟨rfl, rfl⟩
  have h4 := hbx w (.pointer (some ⟨bf, 0, none⟩)) (.slice Ax nx cx) (.slice Ar nr cr) (.int .i64 (n : Int)) 38 28 28 3
  exact ⟨_, rfl, h4.bl, w.heap.size, hB, rfl, h4.c0, h4.c1, h4.c2, h4.c3⟩
/-- Between two rounds. -/
def RdI (w : World) (sb g n C : Nat) (bf : Nat) (L : Nat → List Nat) (pre : List Mp) (W : World) : Prop :=
  ∃ (pb : Nat → Option Addr) (cb : Nat → Nat), (W.cell? ⟨w.heap.size, 0, none⟩ = some (.pointer (some ⟨bf, 0, none⟩)) ∧ W.cell? ⟨sb, 0, none⟩ = some (.slice (some ⟨g, 0, none⟩) n n) ∧ Otb W (w.heap.size + 2) 5 g n pb cb (shRow L pre.length)) ∧
    (Below w.heap.size w W ∧ w.heap.size + 2 ≤ W.heap.size ∧ pre.map Mp.i = List.range pre.length ∧ NT g n pb sb ∧ C = C)
theorem RdI.own (w : World) (sb g n C bf : Nat) (L : Nat → List Nat) (B : Nat) (hB : w.heap.size ≤ B) : OwnFrom B (RdI w sb g n C bf L) := by
  rintro pre A D row ⟨pb, cb, ⟨h1, h2, h3⟩, h4, h5, h6, h7, h8⟩ hg hr
  have hr' : ∀ r, row = some r → ∃ o : Obj, A.heap[r]? = some o ∧ o.isCells = false := fun r e => (hr r e).2
  exact ⟨pb, cb, ⟨cell_kept h1 hg hr', cell_kept h2 hg hr', h3.turned hg hr'⟩, ownFrom_below (β := Nat) (Nat.le_refl _) hB 0 A D row h4 hg hr, Nat.le_trans h5 hg.size, h6, h7, h8⟩
set_option maxRecDepth 100000 in
set_option maxHeartbeats 1000000 in
theorem drandom_in (n t k : Nat) (E R : Int) (kind : Int) (bf : Nat) (Ax Ar : Option Addr) (cx cr nx nr C m : Nat) (xs rnd : List Nat) (hn0 : 0 < n) (hn : n ≤ 254) (ht : 1 ≤ t) (htk : t + k ≤ 255) (hm : m = eachN t k kind) (hm0 : 0 < m) (hnx : nx = xs.length) (hnr : nr = rnd.length) (w : World) (hF : IsField w bf)
    (hI : In w w.heap.size Ax cx xs) (hIr : In w w.heap.size Ar cr rnd) (hlen : rnd.length = m * C) (hC : C ≤ 4096) (hxl : xs.length ≤ 255) :
    CallsIn Fence.wide 6 Try.prog 48 #[.pointer (some ⟨bf, 0, none⟩), pv (n : Int) (t : Int) (k : Int) E R, .int .i64 kind, .int .i64 (C : Int), .slice Ar nr cr, .slice Ax nx cx] w fun e w' =>
      ∃ A2 c2 pa cp, e = .returned (.tuple #[.slice A2 n c2, .bool true]) ∧ MIn w' w'.heap.size A2 c2 n pa cp (shRow (timL (rt xs) rnd m) C) ∧ Below w.heap.size w w' := by
  obtain ⟨w0, hw0⟩ : ∃ w0, w0 = (w.alloc (.cells #[.pointer (some ⟨bf, 0, none⟩)] 38)).alloc (.cells #[.int .i64 (n : Int), .int .i64 (t : Int), .int .i64 (k : Int), .int .i64 E, .int .i64 R] 23) := ⟨_, rfl⟩
  have hs0 : w0.heap.size = w.heap.size + 2 := by rw [hw0]; simp
  have hb0 : Below w.heap.size w w0 := by rw [hw0]; exact ((Below.refl _ w).alloc (Nat.le_refl _) _).alloc (by simp) _
  have hP0 : Pbx w0 (w.heap.size + 1) n t k E R := by
    have := Pbx.new (w.alloc (.cells #[.pointer (some ⟨bf, 0, none⟩)] 38)) 23 n t k E R
    rw [World.size_alloc] at this
    rw [hw0]; exact this
  have hc0 : w0.cell? ⟨w.heap.size, 0, none⟩ = some (.pointer (some ⟨bf, 0, none⟩)) := by rw [hw0]; exact old_cell (new_cell w _ _ _ rfl) _
  have hmb : m ≤ 255 := by rw [hm]; exact eachN_le kind htk
  have HNR := Lib.hid hnr
  have HNX := Lib.hid hnx
  have HLEN := Lib.hid hlen
  have hnl : nr = m * C := by rw [hnr, hlen]
  have HND := Lib.hid (dneed_in n t k E R kind ht htk C nr (by rw [hnl, hm]) hC w0)
  have hnrb : nr ≤ 1044480 := by rw [hnl]; exact Nat.le_trans (Nat.mul_le_mul hmb hC) (by decide)
  have HP0 := Lib.hid hP0
  have hmk := run_make_row' (P := Try.prog) 35 28 (.slice none 0 0) 24 Try.underlying35 srow_info rfl .i64 .i64 n (by omega) (by omega)
  obtain ⟨c0, c1, c2, c3, c4⟩ := hP0
  clear hnr hlen hnl hnx
  refine callsIn_of_wp_marks Try.func48 rfl trivial ?_ rfl
  simp only [Try.ntmps48, List.size_toArray, List.length_cons, List.length_nil, Nat.reduceAdd, Nat.reduceSub, Array.replicate_succ, Array.replicate_zero, List.push_toArray, List.append_toArray, List.nil_append, List.cons_append]
  gi_wp2_with fail
  rw [← hw0]
  refine ⟨trivial, ?_⟩
  refine (callsIn_wide.2 HND.out).mono ?_
  rintro e w1 ⟨rfl, hb1⟩
  have hP1 := HP0.out.below hb1 HP0.out.lt
  have hc1 := (hb1.cell (p := ⟨w.heap.size, 0, none⟩) (by show w.heap.size < _; omega)).trans hc0
  have hs1 := hb1.size
  have hBw : Below w.heap.size w w1 := hb0.trans (hb1.mono (by omega))
  have HP1 := Lib.hid hP1
  clear c0 c1 c2 c3 c4 hc0 HND hb1 HP0 hb0
  obtain ⟨c0, c1, c2, c3, c4⟩ := hP1
  gi_wp2
  obtain ⟨w2, hw2⟩ : ∃ w2, w2 = (w1.alloc (.cells (madeCells #[.slice none 0 0] n) 28)).alloc (.cells #[.slice (some ⟨w1.heap.size, 0, none⟩) n n] 35) := ⟨_, rfl⟩
  rw [← hw2]
  have hs2 : w2.heap.size = w1.heap.size + 2 := by rw [hw2]; simp
  have hO2 : Otb w2 (w.heap.size + 2) 5 w1.heap.size n (fun _ => none) (fun _ => 0) (fun _ => []) := by
    rw [hw2]; exact (Otb.made w1 28 5 n (w.heap.size + 2) (by omega)).below ((Below.refl _ _).alloc (Nat.le_refl _) _)
  have hb12 : Below w1.heap.size w1 w2 := by rw [hw2]; exact ((Below.refl _ _).alloc (Nat.le_refl _) _).alloc (by simp) _
  have hs2c : w2.cell? ⟨w1.heap.size + 1, 0, none⟩ = some (.slice (some ⟨w1.heap.size, 0, none⟩) n n) := by rw [hw2]; exact new_cell _ _ _ _ (by simp)
  have hc2 := (hb12.cell (p := ⟨w.heap.size, 0, none⟩) (cell_lt hc1)).trans hc1
  have HP2 := Lib.hid (HP1.out.below hb12 HP1.out.lt)
  have hb2 : Below w.heap.size w w2 := hBw.trans (hb12.mono (by omega))
  have HO2 := Lib.hid hO2
  have HB2 := Lib.hid hb2
  have HC2 := Lib.hid hc2
  have HS2 := Lib.hid hs2c
  have HM := Lib.hid hm
  have HIX := Lib.hid hI
  have HIR := Lib.hid hIr
  have HFF := Lib.hid hF
  clear c0 c1 c2 c3 c4 hmk hw2 hw0 hO2 hb12 hc1 hBw HP1 hm hI hIr hF hb2 hs2c
  refine Gt.regionJF (fun w5 => Below w2.heap.size w2 w5) [] [Gt.Is (.pointer (some ⟨bf, 0, none⟩)), Gt.Is (.slice Ax nx cx), Gt.Is (.slice Ar nr cr), Gt.Is (pv (n : Int) (t : Int) (k : Int) E R), Gt.Is (.int .i64 kind), Gt.Is (.int .i64 (m : Int)), MuIs w2.heap.size bf Ax Ar nx cx nr cr m] 41 7
    [⟨[], [6], none⟩, ⟨[], [5], none⟩, ⟨[], [4], none⟩, ⟨[], [7], none⟩, ⟨[], [2], none⟩, ⟨[(3, 30), (4, 31)], [], none⟩, ⟨[(0, 27), (1, 28), (2, 29), (5, 32)], [], none⟩]
    [(0, 27), (1, 28), (2, 29), (3, 30), (4, 31), (5, 32), (6, 33)] (by kernel_rfl) (by kernel_rfl) (by kernel_rfl) (by kernel_rfl) (by kernel_rfl) (by kernel_rfl) ?_ ?_ ?_ ?_ ?_
  · refine Gt.Laws.grow (fun w5 w6 h5 h6 => h5.trans (Below.mono h6 (Below.size h5))) ?_
    simp only [Gt.Monos]
    repeat' apply And.intro
    all_goals (first | exact trivial | exact Gt.Is.mono _ | exact MuIs.mono _ _ _ _ _ _ _ _ _)
  · exact (Below.refl _ w2).drew
  · intro x5 hx5
    cases hx5
  · simp only [List.take_succ_cons, List.take_zero, Gt.ObsJ]
    repeat' apply And.intro
    all_goals try exact trivial
    all_goals (
      intro a w5 hS _
      have hS' : Below w2.heap.size w2 w5 := hS
      have hP5 := HP2.out.below hS' HP2.out.lt
      have k0 := (hS'.cell (p := ⟨w.heap.size, 0, none⟩) (cell_lt HC2.out)).trans HC2.out
      simp only [Gt.Pre, Gt.Kept, Gt.Guarded, Gt.tys, List.getD_cons_zero, List.getD_cons_succ, Gt.Is, Nat.zero_add, Nat.reduceAdd]
      intros)
    all_goals (first
      | exact Gt.ok_move rfl (by assumption)
      | exact Gt.ok_load rfl (by assumption) hP5.load rfl
      | (refine Gt.ok_call (f := 39) rfl #[pv (n : Int) (t : Int) (k : Int) E R, .int .i64 kind] (by kernel_rfl) (by simp [*]) ((dneed1_any n t k E R kind ht htk w5).mono ?_)
         rintro e w6 ⟨rfl, rfl⟩
         exact ⟨_, rfl, (Below.refl _ _).alloc (Nat.le_refl _) _, by rw [← HM.out]; rfl⟩)
      | exact Gt.ok_call (f := 41) rfl #[.pointer (some ⟨bf, 0, none⟩), .slice Ax nx cx, .slice Ar nr cr, .int .i64 (m : Int)] (by kernel_rfl) (by simp [*]) (dmul_is bf Ax Ar nx cx nr cr m w5 w2.heap.size hS'.size)
      | (refine Gt.ok_run ?_ rfl
         simp only [execOp, *]
         go_simp
         done))
  · intro a w5 hS
    have hS' : Below w2.heap.size w2 w5 := hS
    simp only [Gt.Pre, Gt.tys, List.getD_cons_zero, List.getD_cons_succ, Gt.Is]
    intro h0 h1 h2 h3 h4 h5 h6
    obtain ⟨b, hb5, h6, g0, g1, g2, g3⟩ := h6
    simp only [Gt.puts, List.foldl_cons, List.foldl_nil, h0, h1, h2, h3, h4, h5, h6]
    simp only [Act.put, List.setIfInBounds_toArray, List.set_cons_zero, List.set_cons_succ, List.drop_succ_cons, List.drop_zero]
    gi_wp2
    have hO5 := HO2.out.below hS'
    have hs5 := hS'.size
    have hb5w : Below w.heap.size w w5 := HB2.out.trans (hS'.mono (by omega))
    have hF5 := HFF.out.below hb5w HFF.out.lt
    have hI5 := (HIX.out.below hb5w).more hb5w.size
    have hIr5 := (HIR.out.below hb5w).more hb5w.size
    have d0 := (hS'.cell (p := ⟨w.heap.size, 0, none⟩) (cell_lt HC2.out)).trans HC2.out
    have d1 := (hS'.cell (p := ⟨w1.heap.size + 1, 0, none⟩) (cell_lt HS2.out)).trans HS2.out
    have hblt := cell_lt g0
    have hNb : NotT w1.heap.size n w5 b := hO5.notT.2 ⟨by omega, fun _ _ _ e => by cases e⟩
    have hNf : NotT w1.heap.size n w5 bf := hO5.notT.2 ⟨by have := HFF.out.lt; omega, fun _ _ _ e => by cases e⟩
    have hbf := HFF.out.lt
    have HO5 := Lib.hid hO5
    clear hO5 h0 h1 h2 h3 h4 h5 h6 hS HIX HIR HP2 HC2 HS2 HB2 HO2 hc2
    obtain ⟨L, hL⟩ : ∃ L, L = timL (rt xs) rnd m := ⟨_, rfl⟩
    have hLl : ∀ i, i < C → (L i).length ≤ 600 := fun i hi => by
      have h1 := chunk_len (n := C) (m := m) (by rw [HLEN.out, Nat.mul_comm]; exact Nat.le_refl _) hi
      have h2 := (rt_top xs).1
      rw [hL]
      exact Nat.le_trans (tr_len _) (Nat.le_trans (mul_len _ _) (by omega))
    have HL := Lib.hid hL
    clear hL
    refine Gq.range_pre (by omega) (gf := 54) (lb := #[.pointer (some ⟨b, 0, none⟩), .pointer (some ⟨b + 1, 0, none⟩), .pointer (some ⟨b + 2, 0, none⟩), .pointer (some ⟨b + 3, 0, none⟩)]) rfl (enters_of Try.func54 (by kernel_rfl) rfl)
      (dmul_pre (6 - 1) (by omega) w1.heap.size n b (b + 1) (b + 2) (b + 3) bf Ax Ar cx cr nx nr m C xs rnd w5 (by omega) HO5.out.fresh g0 g1 g2 g3 hNb hNf hF5 HNX.out HNR.out hI5 hIr5 hm0 hmb HLEN.out hC hxl)
      (fun h k => KpR.trans h k) (fun W l o o' hl h hc => KpR.put (by omega) h hc) (fun _ => rfl) (fun pre => MpRd.own _ _ _ _ (by omega) _ _ _ _ pre)
      (RdI w (w1.heap.size + 1) w1.heap.size n C bf L) (RdI.own w _ _ n C bf L _ (by omega))
      ⟨fun _ => none, fun _ => 0, ⟨d0, d1, HO5.out.congr (fun _ _ => rfl)⟩, hb5w, by omega, rfl, ⟨by omega, fun _ _ _ e => by cases e⟩, rfl⟩
      (fun x => { tmps := #[.pointer (some ⟨bf, 0, none⟩), pv (n : Int) (t : Int) (k : Int) E R, .int .i64 kind, .int .i64 (C : Int), .slice Ar nr cr, .slice Ax nx cx, .pointer (some ⟨w.heap.size, 0, none⟩), .pointer (some ⟨w.heap.size + 1, 0, none⟩), undef, undef, undef, undef, .slice none 0 0, .bool false, .pointer (some ⟨w1.heap.size + 1, 0, none⟩), undef, .slice x.A (timL (rt xs) rnd m x.i).length x.c, .slice Ar nr cr, .int .i64 (nr : Int), .agg #[.int .i64 (n : Int), .int .i64 (t : Int), .int .i64 (k : Int), .int .i64 E, .int .i64 R], .int .i64 kind, .int .i64 (C : Int), .int .i64 (nr : Int), .bool false, .pointer (some ⟨w.heap.size + 1, 0, none⟩), .int .i64 (n : Int), .slice (some ⟨w1.heap.size, 0, none⟩) n n, .pointer (some ⟨bf, 0, none⟩), .slice Ax nx cx, .slice Ar nr cr, pv (n : Int) (t : Int) (k : Int) E R, .int .i64 kind, .int .i64 (m : Int), .func (.func 54) #[] #[.pointer (some ⟨b, 0, none⟩), .pointer (some ⟨b + 1, 0, none⟩), .pointer (some ⟨b + 2, 0, none⟩), .pointer (some ⟨b + 3, 0, none⟩)], .int .i64 (x.i : Int), .slice x.A (timL (rt xs) rnd m x.i).length x.c, undef, undef, undef, undef, undef], defers := [] }) ?assign ?body ?done
    case assign =>
      intro l x W K hK
      gi_wp2
      exact hK
    case body =>
      rintro lb pre x W ⟨pb, cb, ⟨d0, d1, hOW⟩, hBW, hWs, hpre, hNs, -⟩ ⟨hxi, hxC, hown, hgW, hNx⟩
      clear g0 g1 g2 g3 hI5 hIr5 hF5 hNb hNf hb5w
      rw [hxi, ← HL.out] at hown
      have hkC : pre.length < C := by rw [← hxi]; exact hxC
      have hlb := hLl _ hkC
      have HH := Lib.hid (dhand_any bf (w.heap.size + 2) w1.heap.size n n pb cb (shRow L pre.length) x.A (L pre.length).length x.c (L pre.length) W (HFF.out.below hBW hbf) (hOW.nt (by omega)) hOW hn rfl hown.inn
        (fun b' o e => hOW.notT.1 (hNx b' o e)) (by omega) (fun i _ => by rw [shRow_len]; omega))
      have HOW := Lib.hid hOW
      have HBW := Lib.hid hBW
      have HPRE := Lib.hid hpre
      have HXI := Lib.hid hxi
      rw [hxi, ← HL.out]
      clear hOW hBW hpre hown hxi
      gi_wp2_with fail
      refine ⟨trivial, ?_⟩
      refine (CallsIn.inRound lb (callsIn_wide.2 HH.out)).mono ?_
      rintro e W3 ⟨⟨v, rfl⟩, pc, cc, hO3, hT3⟩
      have hbe : Below w.heap.size W W3 := hT3.below (by omega) (fun b' hb' => HOW.out.nt (by omega))
      have hO3' : Otb W3 (w.heap.size + 2) 5 w1.heap.size n pc cc (shRow L (pre ++ [x]).length) := hO3.congr (fun i _ => by rw [List.length_append]; exact (shRow_succ L pre.length i).symm)
      have HFIN := Lib.hid (show KeepsOthers W W3 ∧ KpR w1.heap.size n W W3 ∧ RdI w (w1.heap.size + 1) w1.heap.size n C bf L (pre ++ [x]) W3 from
        ⟨hT3.others HOW.out hn0, hT3.kpr HOW.out hO3, pc, cc, ⟨hT3.cell d0 (HOW.out.nt (by omega)), hT3.cell d1 hNs, hO3'⟩, HBW.out.trans hbe, Nat.le_trans hWs hT3.size,
          by rw [List.map_append, HPRE.out, List.length_append, List.map_cons, HXI.out]; exact List.range_succ.symm, hT3.nt (cell_lt d1) hNs, rfl⟩)
      clear hO3 hT3 hbe hO3'
      gi_wp2
      exact HFIN.out
    case done =>
      rintro D pre W hD hS ⟨pb, cb, ⟨d0, d1, hOW⟩, hBW, hWs, hpre, hNs, -⟩ hK
      have hlC : pre.length = C := by have := congrArg List.length hS; simpa using this
      rw [hlC, HL.out] at hOW
      have hg2 := grownBy_putObj' W D (.deferred none)
      have hO3 := hOW.turned hg2 (fun r e => by cases e; exact ⟨_, hK, rfl⟩)
      have hb2 : Below w.heap.size W (W.putObj D (.deferred none)) := belowK_b (w := w) (Nat.le_refl _) W D _ _ (by omega) hK rfl rfl
      have HFIN := Lib.hid (show MIn (W.putObj D (.deferred none)) (W.putObj D (.deferred none)).heap.size (some ⟨w1.heap.size, 0, none⟩) n n pb cb (shRow (timL (rt xs) rnd m) C) ∧ Below w.heap.size w (W.putObj D (.deferred none)) from
        ⟨hO3.min n (Nat.le_refl _), hBW.trans hb2⟩)
      clear g0 g1 g2 g3 hI5 hIr5 hF5 hNb hNf hb5w hOW hBW hO3 hb2 hg2
      gi_wp2
      refine ⟨by simp, .inl ⟨_, _, rfl, run_takeDeferred hK, ?_⟩⟩
      exact ⟨_, results_tmp2 rfl _ _ _, _, _, _, _, rfl, HFIN.out⟩
end Go.Proofs.Ytaknffdokkfmgaa
end
section
/- deal: Zeros, Blinds, Masks, one way or the other. -/
namespace Go.Proofs.Ytaknffdokkfmgaa
open Go.RowKit Go.Shelf Gw Pol
attribute [local go_sem] Oper.semAt_some
/-- A slice and a word, of which something is told that growth bears. -/
abbrev Sp3 := Option Addr → Nat → Nat → World → Prop
def Mn3 (Φ : Sp3) : Prop := ∀ A R c w w', Φ A R c w → Below w.heap.size w w' → Φ A R c w'
def QT (Φ : Sp3) (b : Bool) : Value → World → Prop := fun v w => ∃ A R c, v = .tuple #[.slice A R c, .bool b] ∧ Φ A R c w
def QS (Φ : Sp3) : Value → World → Prop := fun v w => ∃ A R c, v = .slice A R c ∧ Φ A R c w
theorem QT.mono {Φ : Sp3} (h : Mn3 Φ) (b : Bool) : Gt.Mono (QT Φ b) := by
  rintro v w w' ⟨A, R, c, h1, h2⟩ hg
  exact ⟨A, R, c, h1, h _ _ _ _ _ h2 hg⟩
theorem QS.mono {Φ : Sp3} (h : Mn3 Φ) : Gt.Mono (QS Φ) := by
  rintro v w w' ⟨A, R, c, h1, h2⟩ hg
  exact ⟨A, R, c, h1, h _ _ _ _ _ h2 hg⟩
/-- What random, or one of those three, answers. -/
def QA (Φ : Sp3) (b : Bool) (w : World) : Ending → World → Prop := fun e w' => ∃ A R c, e = .returned (.tuple #[.slice A R c, .bool b]) ∧ Φ A R c w' ∧ Below w.heap.size w w'
set_option maxRecDepth 100000 in
set_option maxHeartbeats 1000000 in
theorem dzeros_of (Φ : Sp3) (hΦ : Mn3 Φ) (b : Bool) (n t k : Nat) (E R : Int) (bf : Nat) (Ar : Option Addr) (cr nr C : Nat) (hnk : n + k ≤ 255) (w : World)
    (H : ∀ w5 A6 c6, Below w.heap.size w w5 → Gw.Own w5 w.heap.size 5 A6 c6 (secL n k) → Calls Try.prog 48 #[.pointer (some ⟨bf, 0, none⟩), pv (n : Int) (t : Int) (k : Int) E R, .int .i64 2, .int .i64 (C : Int), .slice Ar nr cr, .slice A6 k c6] w5 (QA Φ b w5)) :
    Calls Try.prog 26 #[.pointer (some ⟨bf, 0, none⟩), pv (n : Int) (t : Int) (k : Int) E R, .int .i64 (C : Int), .slice Ar nr cr] w (QA Φ b w) := by
  obtain ⟨w1, hw1⟩ : ∃ w1, w1 = w.alloc (.cells #[.int .i64 (n : Int), .int .i64 (t : Int), .int .i64 (k : Int), .int .i64 E, .int .i64 R] 23) := ⟨_, rfl⟩
  have hb1 : Below w.heap.size w w1 := by rw [hw1]; exact (Below.refl _ w).alloc (Nat.le_refl _) _
  have HPB : Hid (Pbx w1 w.heap.size n t k E R) := Lib.hid (by rw [hw1]; exact Pbx.new w _ _ _ _ _ _)
  have HPL := Lib.hid HPB.out.lt
  have HB1 := Lib.hid hb1
  have HRD := Lib.hid (fun w5 (h5 : Below w1.heap.size w1 w5) A6 c6 (h6 : Gw.Own w5 w1.heap.size 5 A6 c6 (secL n k)) => H w5 A6 c6 (HB1.out.trans (h5.mono HB1.out.size)) (h6.base HB1.out.size))
  clear H hb1
  go_enter Try.func26, Try.ntmps26
  go_wp2
  rw [← hw1]
  clear hw1
  refine Gt.regionA [Gt.Is (.pointer (some ⟨bf, 0, none⟩)), Gt.Is (pv (n : Int) (t : Int) (k : Int) E R), Gt.Is (.int .i64 (C : Int)), Gt.Is (.slice Ar nr cr), Gt.Is (pv (n : Int) (t : Int) (k : Int) E R), OIs w1.heap.size k (secL n k), QT Φ b, QS Φ, Gt.Is (.bool b), QS Φ, Gt.Is (.bool b)] 19
    [⟨[], [0], none⟩, ⟨[], [5], none⟩, ⟨[], [2], none⟩, ⟨[], [3], none⟩, ⟨[], [5], none⟩, ⟨[(4, 14)], [], none⟩, ⟨[(0, 10), (1, 11), (2, 12), (3, 13), (5, 15)], [], none⟩, ⟨[(6, 16)], [], none⟩, ⟨[(6, 16)], [], none⟩, ⟨[(7, 17)], [], none⟩, ⟨[(8, 18)], [], none⟩]
    [(0, 10), (1, 11), (2, 12), (3, 13), (4, 14), (5, 15), (6, 16), (7, 17), (8, 18), (9, 8), (10, 9)] (by kernel_rfl) (by kernel_rfl) (by kernel_rfl) (by kernel_rfl) ?_ ?_ ?_
  · simp only [Gt.Monos]
    repeat' apply And.intro
    all_goals (first | exact trivial | exact Gt.Is.mono _ | exact OIs.mono _ _ _ | exact QT.mono hΦ b | exact QS.mono hΦ)
  · simp only [Gt.Obs]
    repeat' apply And.intro
    all_goals try exact trivial
    all_goals (
      intro a w5 hg
      have hg' : Below w1.heap.size w1 w5 := hg
      simp only [Gt.Pre, Gt.Kept, Gt.Guarded, Gt.tys, List.getD_cons_zero, List.getD_cons_succ, Gt.Is, Nat.zero_add, Nat.reduceAdd]
      intros
      try (refine ⟨fun _ => ?_, fun hne => absurd (by assumption) hne⟩))
    all_goals (first
      | exact Gt.ok_move rfl (by assumption)
      | exact Gt.ok_assign rfl (by assumption)
      | exact Gt.ok_pick rfl (by assumption) (by rw [if_pos rfl]; assumption)
      | (exact Gt.ok_load rfl (by assumption) (HPB.out.below hg' HPL.out).load rfl)
      | (refine Gt.ok_call (f := 16) rfl #[pv (n : Int) (t : Int) (k : Int) E R] (by kernel_rfl) (by simp [*]) ((dsec_in n k (t : Int) E R hnk w5).mono ?_)
         rintro e w6 ⟨A6, c6, rfl, ho6, hb6⟩
         exact ⟨_, rfl, hb6, A6, c6, rfl, ho6.base hg'.size⟩)
      | (obtain ⟨A6, c6, hv6, ho6⟩ : OIs w1.heap.size k (secL n k) (a.eval (.tmp 15)) w5 := by assumption
         refine Gt.ok_call (f := 48) rfl #[.pointer (some ⟨bf, 0, none⟩), pv (n : Int) (t : Int) (k : Int) E R, .int .i64 2, .int .i64 (C : Int), .slice Ar nr cr, .slice A6 k c6] (by kernel_rfl) (by simp [*] <;> rfl) ((HRD.out w5 hg' A6 c6 ho6).mono ?_)
         rintro e w6 ⟨A7, R7, c7, rfl, h7, hb7⟩
         exact ⟨_, rfl, hb7, A7, R7, c7, rfl, h7⟩)
      | (obtain ⟨A6, R6, c6, hv6, hM6⟩ : QT Φ b (a.eval (.tmp 16)) w5 := by assumption
         refine Gt.ok_run (v := .slice A6 R6 c6) ?_ ⟨A6, R6, c6, rfl, hM6⟩
         simp only [execOp, hv6]
         go_simp
         done)
      | (obtain ⟨A6, R6, c6, hv6, hM6⟩ : QT Φ b (a.eval (.tmp 16)) w5 := by assumption
         refine Gt.ok_run (v := .bool b) ?_ rfl
         simp only [execOp, hv6]
         go_simp
         done))
  · intro a w5 hg
    have hg' : Below w1.heap.size w1 w5 := hg
    simp only [Gt.Pre, Gt.tys, List.getD_cons_zero, List.getD_cons_succ, Gt.Is]
    intro h0 h1 h2 h3 h4 h5 h6 h7 h8 h9 h10
    obtain ⟨A9, R9, c9, h9, hM9⟩ := h9
    obtain ⟨_, _, h5, _⟩ := h5
    obtain ⟨_, _, _, h6, _⟩ := h6
    obtain ⟨_, _, _, h7, _⟩ := h7
    simp only [Gt.puts, List.foldl_cons, List.foldl_nil, h0, h1, h2, h3, h4, h5, h6, h7, h8, h9, h10]
    simp only [Act.put, List.setIfInBounds_toArray, List.set_cons_zero, List.set_cons_succ]
    have HB5 := Lib.hid (HB1.out.trans (hg'.mono HB1.out.size))
    have HM9 := Lib.hid hM9
    clear h0 h1 h2 h3 h4 h5 h6 h7 h8 h9 h10 hM9
    go_wp2
    go_ret2
    exact ⟨_, _, _, rfl, HM9.out, HB5.out⟩
set_option maxRecDepth 100000 in
set_option maxHeartbeats 1000000 in
theorem dblinds_of (Φ : Sp3) (hΦ : Mn3 Φ) (b : Bool) (n t k g : Nat) (E R : Int) (bf : Nat) (Ar : Option Addr) (cr nr C : Nat) (hnk : n + k ≤ 255) (hgn : g < n) (w : World)
    (H : ∀ w5 A6 c6, Below w.heap.size w w5 → Gw.Own w5 w.heap.size 5 A6 c6 [g + 1] → Calls Try.prog 48 #[.pointer (some ⟨bf, 0, none⟩), pv (n : Int) (t : Int) (k : Int) E R, .int .i64 3, .int .i64 (C : Int), .slice Ar nr cr, .slice A6 1 c6] w5 (QA Φ b w5)) :
    Calls Try.prog 27 #[.pointer (some ⟨bf, 0, none⟩), pv (n : Int) (t : Int) (k : Int) E R, .int .i64 (g : Int), .int .i64 (C : Int), .slice Ar nr cr] w (QA Φ b w) := by
  obtain ⟨w1, hw1⟩ : ∃ w1, w1 = w.alloc (.cells #[.int .i64 (n : Int), .int .i64 (t : Int), .int .i64 (k : Int), .int .i64 E, .int .i64 R] 23) := ⟨_, rfl⟩
  have hb1 : Below w.heap.size w w1 := by rw [hw1]; exact (Below.refl _ w).alloc (Nat.le_refl _) _
  have HPB : Hid (Pbx w1 w.heap.size n t k E R) := Lib.hid (by rw [hw1]; exact Pbx.new w _ _ _ _ _ _)
  have HPL := Lib.hid HPB.out.lt
  have HB1 := Lib.hid hb1
  obtain ⟨x, hx⟩ : ∃ x, x = g + 1 := ⟨_, rfl⟩
  have hxb : x < 256 := by omega
  have HX := Lib.hid hx
  rw [← hx] at H
  have HRD := Lib.hid (fun w5 (h5 : Below w1.heap.size w1 w5) A6 c6 (h6 : Gw.Own w5 w1.heap.size 5 A6 c6 [x]) => H w5 A6 c6 (HB1.out.trans (h5.mono HB1.out.size)) (h6.base HB1.out.size))
  obtain ⟨c0, c1, c2, c3, c4⟩ := HPB.out
  obtain ⟨q, hq⟩ : ∃ q : Nat, n = q + 1 := ⟨n - 1, by omega⟩
  have e1 : (n : Int) - 1 = (q : Int) := by omega
  have HW := Lib.hid (wi_yes g 0 q (by omega) (by omega) w1)
  clear H hb1 hx hq
  go_enter Try.func27, Try.ntmps27
  go_wp2_with fail
  rw [← hw1]
  refine HW.out.mono ?_
  rintro e w1 ⟨rfl, rfl⟩
  clear hw1 c0 c1 c2 c3 c4
  go_wp2
  refine Gt.regionA [Gt.Is (.pointer (some ⟨bf, 0, none⟩)), Gt.Is (pv (n : Int) (t : Int) (k : Int) E R), Gt.Is (.int .i64 (C : Int)), Gt.Is (.slice Ar nr cr), Gt.Is (.int .i64 (g : Int)), Gt.Is (.int .u8 (x : Int)), OIs w1.heap.size 1 [x], QT Φ b, QS Φ, Gt.Is (.bool b), QS Φ, Gt.Is (.bool b)] 28
    [⟨[], [0], none⟩, ⟨[], [6], none⟩, ⟨[], [3], none⟩, ⟨[], [4], none⟩, ⟨[], [2], none⟩, ⟨[(4, 22)], [], none⟩, ⟨[(5, 23)], [], none⟩, ⟨[(0, 18), (1, 19), (2, 20), (3, 21), (6, 24)], [], none⟩, ⟨[(7, 25)], [], none⟩, ⟨[(7, 25)], [], none⟩, ⟨[(8, 26)], [], none⟩, ⟨[(9, 27)], [], none⟩]
    [(0, 18), (1, 19), (2, 20), (3, 21), (4, 22), (5, 23), (6, 24), (7, 25), (8, 26), (9, 27), (10, 10), (11, 11)] (by kernel_rfl) (by kernel_rfl) (by kernel_rfl) (by kernel_rfl) ?_ ?_ ?_
  · simp only [Gt.Monos]
    repeat' apply And.intro
    all_goals (first | exact trivial | exact Gt.Is.mono _ | exact OIs.mono _ _ _ | exact QT.mono hΦ b | exact QS.mono hΦ)
  · simp only [Gt.Obs]
    repeat' apply And.intro
    all_goals try exact trivial
    all_goals (
      intro a w5 hg
      have hg' : Below w1.heap.size w1 w5 := hg
      simp only [Gt.Pre, Gt.Kept, Gt.Guarded, Gt.tys, List.getD_cons_zero, List.getD_cons_succ, Gt.Is, Nat.zero_add, Nat.reduceAdd]
      intros
      try (refine ⟨fun _ => ?_, fun hne => absurd (by assumption) hne⟩))
    all_goals (first
      | exact Gt.ok_move rfl (by assumption)
      | exact Gt.ok_assign rfl (by assumption)
      | exact Gt.ok_pick rfl (by assumption) (by rw [if_pos rfl]; assumption)
      | (exact Gt.ok_load rfl (by assumption) (HPB.out.below hg' HPL.out).load rfl)
      | (refine Gt.ok_call (f := 37) rfl #[.int .i64 (g : Int)] (by kernel_rfl) (by simp [*]) ((dpoint_nat g x (by omega) HX.out w5).mono ?_)
         rintro e w6 ⟨rfl, rfl⟩
         exact ⟨_, rfl, Below.refl _ _, rfl⟩)
      | (refine Gt.ok_runW (v := .slice (some ⟨w5.heap.size, 0, none⟩) 1 1) (w' := w5.alloc (.cells #[.int .u8 (x : Int)] 5)) ?_ ((Below.refl _ _).alloc (Nat.le_refl _) _) ⟨_, _, rfl, own_lit w5 5 [x] _ rfl (fun y hy => by simp at hy; omega) (by simp) _ hg'.size _ rfl⟩
         simp only [execOp, List.map_toArray, List.map_cons, List.map_nil, *]
         go_simp
         done)
      | (obtain ⟨A6, c6, hv6, ho6⟩ : OIs w1.heap.size 1 ([x]) (a.eval (.tmp 24)) w5 := by assumption
         refine Gt.ok_call (f := 48) rfl #[.pointer (some ⟨bf, 0, none⟩), pv (n : Int) (t : Int) (k : Int) E R, .int .i64 3, .int .i64 (C : Int), .slice Ar nr cr, .slice A6 1 c6] (by kernel_rfl) (by simp [*] <;> rfl) ((HRD.out w5 hg' A6 c6 ho6).mono ?_)
         rintro e w6 ⟨A7, R7, c7, rfl, h7, hb7⟩
         exact ⟨_, rfl, hb7, A7, R7, c7, rfl, h7⟩)
      | (obtain ⟨A6, R6, c6, hv6, hM6⟩ : QT Φ b (a.eval (.tmp 25)) w5 := by assumption
         refine Gt.ok_run (v := .slice A6 R6 c6) ?_ ⟨A6, R6, c6, rfl, hM6⟩
         simp only [execOp, hv6]
         go_simp
         done)
      | (obtain ⟨A6, R6, c6, hv6, hM6⟩ : QT Φ b (a.eval (.tmp 25)) w5 := by assumption
         refine Gt.ok_run (v := .bool b) ?_ rfl
         simp only [execOp, hv6]
         go_simp
         done))
  · intro a w5 hg
    have hg' : Below w1.heap.size w1 w5 := hg
    simp only [Gt.Pre, Gt.tys, List.getD_cons_zero, List.getD_cons_succ, Gt.Is]
    intro h0 h1 h2 h3 h4 h5 h6 h7 h8 h9 h10 h11
    obtain ⟨A9, R9, c9, h10, hM9⟩ := h10
    obtain ⟨_, _, h6, _⟩ := h6
    obtain ⟨_, _, _, h7, _⟩ := h7
    obtain ⟨_, _, _, h8, _⟩ := h8
    simp only [Gt.puts, List.foldl_cons, List.foldl_nil, h0, h1, h2, h3, h4, h5, h6, h7, h8, h9, h10, h11]
    simp only [Act.put, List.setIfInBounds_toArray, List.set_cons_zero, List.set_cons_succ]
    have HB5 := Lib.hid (HB1.out.trans (hg'.mono HB1.out.size))
    have HM9 := Lib.hid hM9
    clear h0 h1 h2 h3 h4 h5 h6 h7 h8 h9 h10 h11 hM9
    go_wp2
    go_ret2
    exact ⟨_, _, _, rfl, HM9.out, HB5.out⟩
theorem dblinds_out (n t k : Nat) (gi : Int) (E R : Int) (bf : Nat) (Ar : Option Addr) (cr nr C : Nat) (hn : n ≤ 254) (hno : gi < 0 ∨ (n : Int) ≤ gi) (w : World) :
    Calls Try.prog 27 #[.pointer (some ⟨bf, 0, none⟩), pv (n : Int) (t : Int) (k : Int) E R, .int .i64 gi, .int .i64 (C : Int), .slice Ar nr cr] w (QA (fun _ R _ _ => R = 0) false w) := by
  obtain ⟨w1, hw1⟩ : ∃ w1, w1 = w.alloc (.cells #[.int .i64 (n : Int), .int .i64 (t : Int), .int .i64 (k : Int), .int .i64 E, .int .i64 R] 23) := ⟨_, rfl⟩
  have hb1 : Below w.heap.size w w1 := by rw [hw1]; exact (Below.refl _ w).alloc (Nat.le_refl _) _
  have HPB : Hid (Pbx w1 w.heap.size n t k E R) := Lib.hid (by rw [hw1]; exact Pbx.new w _ _ _ _ _ _)
  have HB1 := Lib.hid hb1
  obtain ⟨c0, c1, c2, c3, c4⟩ := HPB.out
  obtain ⟨q, hq⟩ : ∃ q : Int, q = (n : Int) - 1 := ⟨_, rfl⟩
  have e1 : IntKind.i64.wrap ((n : Int) - 1) = q := by rw [IntKind.wrap_i64]; omega
  have HW := Lib.hid (wi_no gi 0 q (by omega) w1)
  clear hb1 hq hno
  go_enter Try.func27, Try.ntmps27
  go_wp2_with fail
  rw [← hw1]
  refine HW.out.mono ?_
  rintro e w1 ⟨rfl, rfl⟩
  clear hw1 c0 c1 c2 c3 c4
  go_wp2
  go_ret2
  exact ⟨_, _, _, rfl, rfl, HB1.out⟩
set_option maxRecDepth 100000 in
set_option maxHeartbeats 1000000 in
theorem dmasks_of (Φ : Sp3) (b : Bool) (n t k : Nat) (E R : Int) (bf : Nat) (Ar : Option Addr) (cr nr C : Nat) (w : World)
    (H : ∀ w5, Below w.heap.size w w5 → Calls Try.prog 48 #[.pointer (some ⟨bf, 0, none⟩), pv (n : Int) (t : Int) (k : Int) E R, .int .i64 4, .int .i64 (C : Int), .slice Ar nr cr, .slice none 0 0] w5 (QA Φ b w5)) :
    Calls Try.prog 28 #[.pointer (some ⟨bf, 0, none⟩), pv (n : Int) (t : Int) (k : Int) E R, .int .i64 (C : Int), .slice Ar nr cr] w (QA Φ b w) := by
  obtain ⟨w1, hw1⟩ : ∃ w1, w1 = w.alloc (.cells #[.int .i64 (n : Int), .int .i64 (t : Int), .int .i64 (k : Int), .int .i64 E, .int .i64 R] 23) := ⟨_, rfl⟩
  have hb1 : Below w.heap.size w w1 := by rw [hw1]; exact (Below.refl _ w).alloc (Nat.le_refl _) _
  have HPB : Hid (Pbx w1 w.heap.size n t k E R) := Lib.hid (by rw [hw1]; exact Pbx.new w _ _ _ _ _ _)
  have HB1 := Lib.hid hb1
  have HRD := Lib.hid (H w1 hb1)
  obtain ⟨c0, c1, c2, c3, c4⟩ := HPB.out
  clear H hb1
  go_enter Try.func28, Try.ntmps28
  go_wp2_with fail
  rw [← hw1]
  refine HRD.out.mono ?_
  rintro e w6 ⟨A9, R9, c9, rfl, hM9, hb6⟩
  have HM9 := Lib.hid hM9
  have HB6 := Lib.hid (HB1.out.trans (hb6.mono HB1.out.size))
  clear hM9 hb6 hw1 c0 c1 c2 c3 c4
  go_wp2
  go_ret2
  exact ⟨_, _, _, rfl, HM9.out, HB6.out⟩
end Go.Proofs.Ytaknffdokkfmgaa
end
section
/- What the definition's own Polys (package shamrockref10) does. -/
namespace Go.Proofs.Ytaknffdokkfmgaa
open Go.RowKit Go.Shelf Gw Pol
theorem rthrough10 (A A' : Option Addr) (c c' n m r : Nat) (xs ys : List Nat) (w : World) (hn : n = xs.length) (hm : m = ys.length) (hr : r = (thr xs ys).length) (hx : In w w.heap.size A c xs) (hy : In w w.heap.size A' c' ys) (hl : xs.length ≤ ys.length) (hcm : xs.length ≤ 70368744177664) :
    Calls Try.prog 30 #[.slice A n c, .slice A' m c'] w fun e w' => ∃ A2 c2, e = .returned (.slice A2 r c2) ∧ Gw.Own w' w.heap.size 5 A2 c2 (thr xs ys) ∧ Below w.heap.size w w' := by
  subst hn hm hr; exact rthrough_any A A' c c' xs ys w hx hy hl hcm
/-- A document's polynomials. -/
def polL (n k t : Nat) (d rnd : List Nat) (c : Nat) : List Nat := tr (add (timL (rt (secL n k)) rnd t c) (thr (secL n k) (Sp.col d k c)))
/-- .. of which q are done. -/
def plx (n k t : Nat) (d rnd : List Nat) (q c : Nat) : List Nat := if c < q then polL n k t d rnd c else timL (rt (secL n k)) rnd t c
theorem plx_step {n k t : Nat} {d rnd : List Nat} {q i : Nat} : upd (plx n k t d rnd q) q (polL n k t d rnd q) i = plx n k t d rnd (q + 1) i := by
  unfold plx upd
  by_cases e : i = q
  · subst e; simp
  · by_cases e2 : i < q
    · simp [e, e2, show i < q + 1 by omega]
    · simp [e, e2, show ¬ i < q + 1 by omega]
theorem thr_small (xs ys : List Nat) : (thr xs ys).length ≤ xs.length := thr_len xs ys
theorem timL_small {fac rnd : List Nat} {m c n : Nat} (h : n * m ≤ rnd.length) (hc : c < n) : (timL fac rnd m c).length ≤ fac.length + m := by
  have h1 := tr_len (mul fac (chunk rnd m c))
  have h2 := mul_len fac (chunk rnd m c)
  rw [chunk_len h hc] at h2
  exact Nat.le_trans h1 h2
theorem polL_room (n k t : Nat) (d rnd : List Nat) (q : Nat) {C : Nat} (h : C * t ≤ rnd.length) (hq : q < C) (htk : t + k ≤ 255) : (timL (rt (secL n k)) rnd t q).length + (thr (secL n k) (Sp.col d k q)).length ≤ 140737488355328 := by
  have h1 := timL_small (fac := rt (secL n k)) h hq
  have h2 := thr_small (secL n k) (Sp.col d k q)
  rw [(rt_top _).1] at h1
  rw [secL_len] at h1 h2
  omega
def PolRel (w1 : World) (b0 g C n k t : Nat) (d rnd : List Nat) (i : Value) (wr : World) : Prop :=
  ∃ (q : Nat) (pa : Nat → Option Addr) (cp : Nat → Nat), i = .int .i64 (q : Int) ∧ q ≤ C ∧ Otb wr b0 5 g C pa cp (plx n k t d rnd q) ∧ Below w1.heap.size w1 wr
set_option maxRecDepth 100000 in
set_option maxHeartbeats 2000000 in
theorem rpolys_any (n t k : Nat) (E R : Int) (ht : 1 ≤ t) (hk : 1 ≤ k) (hnk : n + k ≤ 255) (htk : t + k ≤ 255) (A Ar : Option Addr) (c cr N nr : Nat) (d rnd : List Nat) (hN : N = d.length) (hnr : nr = rnd.length) (w : World)
    (hI : In w w.heap.size A c d) (hr : In w w.heap.size Ar cr rnd) (C : Nat) (hC : C = Sp.cnt N k) (hlen : C * t ≤ rnd.length) (hNb : N ≤ 4096) :
    Calls Try.prog 25 #[pv n t k E R, .slice A N c, .slice Ar nr cr] w fun e w' => ∃ A2 c2 pa cp, e = .returned (.slice A2 C c2) ∧ MIn w' w'.heap.size A2 c2 C pa cp (polL n k t d rnd) ∧ Below w.heap.size w w' := by
  have hb0 : Below w.heap.size w (w.alloc (.cells #[.int .i64 (n : Int), .int .i64 (t : Int), .int .i64 (k : Int), .int .i64 E, .int .i64 R] 23)) := (Below.refl _ w).alloc (Nat.le_refl _) _
  have hpb0 := Pbx.new w 23 n t k E R
  have hCN : C ≤ N := by rw [hC]; exact Sp.cnt_le N k
  have hs := rsplit_any A c N k d _ hN ((hI.below hb0).more hb0.size) (by omega) (by omega) (by omega)
  rw [← hC] at hs
  have HS := Lib.hid hs
  have HLEN := Lib.hid hlen
  have HNR := Lib.hid hnr
  have HSL := Lib.hid (secL_len n k)
  have HRL := Lib.hid (show (rt (secL n k)).length = k + 1 by rw [(rt_top _).1, secL_len])
  clear hs hC hlen hnr hN
  go_enter Try.func25, Try.ntmps25
  go_wp2_with fail
  refine HS.out.mono ?_
  rintro e w1 ⟨v1, pa1, cp1, rfl, hG1⟩
  obtain ⟨A1, c1, rfl, hM1⟩ := hG1.min (fun i _ => Sp.col_len d k i)
  have HB1 := Lib.hid (hb0.trans (hG1.bel.mono hb0.size))
  have hpb1 := hpb0.below hG1.bel hpb0.lt
  have HPB := Lib.hid hpb1
  have HPL := Lib.hid hpb1.lt
  have HIR := Lib.hid ((hr.below HB1.out).more HB1.out.size)
  clear hG1 hb0 HS
  go_wp2
  rename_i K1 hK1
  refine Gt.regionA [Gt.Is (pv (n : Int) (t : Int) (k : Int) E R), Gt.Is (.slice A1 C c1), Gt.Is (.int .i64 (C : Int)), Gt.Is (.slice Ar nr cr), Gt.Is (pv (n : Int) (t : Int) (k : Int) E R), OIs w1.heap.size k (secL n k), OIs w1.heap.size (k + 1) (rt (secL n k)), GIs w1.heap.size C (timL (rt (secL n k)) rnd t), GIs w1.heap.size C (timL (rt (secL n k)) rnd t)] 44
    [⟨[], [3], none⟩, ⟨[], [7], none⟩, ⟨[(1, 15)], [], none⟩, ⟨[], [2], none⟩, ⟨[], [3], none⟩, ⟨[(4, 18)], [], none⟩, ⟨[(5, 19)], [], none⟩, ⟨[(0, 14), (2, 16), (3, 17), (6, 20)], [], none⟩, ⟨[(7, 21)], [], none⟩]
    [(0, 14), (1, 15), (2, 16), (3, 17), (4, 18), (5, 19), (6, 20), (7, 21), (8, 8)] (by kernel_rfl) (by kernel_rfl) (by kernel_rfl) (by kernel_rfl) ?_ ?_ ?_
  · simp only [Gt.Monos]
    repeat' apply And.intro
    all_goals (first | exact trivial | exact Gt.Is.mono _ | exact OIs.mono _ _ _ | exact GIs.mono _ _ _ | exact NIs.mono _ _)
  · simp only [Gt.Obs]
    repeat' apply And.intro
    all_goals try exact trivial
    all_goals (
      intro a w5 hg
      have hg' : Below w1.heap.size w1 w5 := hg
      simp only [Gt.Pre, Gt.Kept, Gt.Guarded, Gt.tys, List.getD_cons_zero, List.getD_cons_succ, Gt.Is, Nat.zero_add, Nat.reduceAdd]
      intros
      try (refine ⟨fun _ => ?_, fun hne => absurd (by assumption) hne⟩))
    all_goals (first
      | exact Gt.ok_move rfl (by assumption)
      | exact Gt.ok_assign rfl (by assumption)
      | exact Gt.ok_pick rfl (by assumption) (by rw [if_pos rfl]; assumption)
      | (exact Gt.ok_load rfl (by assumption) (HPB.out.below hg' HPL.out).load rfl)
      | (refine Gt.ok_call (f := 17) rfl #[pv (n : Int) (t : Int) (k : Int) E R] (by kernel_rfl) (by simp [*] <;> rfl) ((rsec_any n k t E R hnk _).mono ?_)
         rintro e w6 ⟨A6, c6, rfl, ho6, hb6⟩
         exact ⟨_, rfl, hb6, A6, c6, rfl, ho6.base hg'.size⟩)
      | (obtain ⟨A6, c6, hv6, ho6⟩ : OIs w1.heap.size k (secL n k) (a.eval (.tmp 19)) w5 := by assumption
         refine Gt.ok_call (f := 32) rfl #[.slice A6 k c6] (by kernel_rfl) (by simp [hv6]) ((rroots' A6 c6 k (secL n k) w5 HSL.out.symm ho6.inn (by rw [HSL.out]; omega)).mono ?_)
         rintro e w6 ⟨A7, c7, rfl, ho7, hb7⟩
         exact ⟨_, rfl, hb7, A7, c7, by rw [HRL.out], ho7.base hg'.size⟩)
      | (obtain ⟨A6, c6, hv6, ho6⟩ : OIs w1.heap.size (k + 1) (rt (secL n k)) (a.eval (.tmp 20)) w5 := by assumption
         refine Gt.ok_call (f := 46) rfl #[pv (n : Int) (t : Int) (k : Int) E R, .int .i64 1, .int .i64 (C : Int), .slice Ar nr cr, .slice A6 (k + 1) c6] (by kernel_rfl) (by simp [*] <;> rfl) ((rtim_any n t k E R 1 ht htk C t (by simp [eachN]) Ar A6 cr c6 nr (k + 1) rnd (rt (secL n k)) HNR.out HRL.out.symm w5 ((HIR.out.below hg').more hg'.size) ho6.inn HLEN.out (by omega) (by rw [HRL.out]; omega)).mono ?_)
         rintro e w6 ⟨v7, pa7, cp7, rfl, hG7⟩
         exact ⟨_, rfl, hG7.bel, w5, pa7, cp7, hg'.size, hG7⟩)
      | (refine Gt.ok_run ?_ rfl
         simp only [execOp, resolve, List.map_toArray, List.map_cons, List.map_nil, *]
         go_simp
         done))
  · intro a w5 hg
    have hg' : Below w1.heap.size w1 w5 := hg
    simp only [Gt.Pre, Gt.tys, List.getD_cons_zero, List.getD_cons_succ, Gt.Is]
    intro h0 h1 h2 h3 h4 h5 h6 h7 h8
    obtain ⟨w0', pa7, cp7, hb7, hG7⟩ := h8
    obtain ⟨v8, hv8⟩ : ∃ v, v = a.eval (.tmp 8) := ⟨_, rfl⟩
    rw [← hv8] at hG7
    have h8' : a.eval (.tmp 8) = v8 := hv8.symm
    clear hv8
    obtain ⟨_, _, h5, _⟩ := h5
    obtain ⟨_, _, h6, _⟩ := h6
    obtain ⟨_, _, _, _, h7⟩ := h7
    show K1 _ _
    refine hK1 _ _ ?_
    simp only [Gt.puts, List.foldl_cons, List.foldl_nil, h0, h1, h2, h3, h4, h5, h6, h8']
    simp only [Act.put, List.setIfInBounds_toArray, List.set_cons_zero, List.set_cons_succ]
    have HB5 := Lib.hid (HB1.out.trans (hg'.mono HB1.out.size))
    by_cases hC0 : 0 < C
    · obtain ⟨g, cg, rfl, hcg, hO7⟩ := hG7.otb (by decide) hC0
      obtain ⟨b0, hb0⟩ : ∃ b, b = w0'.heap.size := ⟨_, rfl⟩
      rw [← hb0] at hO7 hb7
      clear hb0 hG7
      have hO0 := hO7.congr (m := plx n k t d rnd 0) (fun i hi => by simp [plx])
      clear hO7
      clear h0 h1 h2 h3 h4 h5 h6 h7 h8'
      go_wp2
      go_loopw [9] (PolRel w1 b0 g C n k t d rnd) (fun i _ => C - (intOf i).toNat)
      case atStart => exact ⟨0, pa7, cp7, rfl, Nat.zero_le _, hO0, hg'⟩
      case round =>
        clear hO0 HPB HPL
        obtain ⟨q, pa, cp, rfl, hq0, hO, hbr⟩ := hrel
        by_cases hq : q < C
        · have hqi : (q : Int) < (C : Int) := by omega
          have hbs := hbr.size
          obtain ⟨bc, oc, hA1, hbl, hcc, hIc⟩ := (hM1.below hbr).rd q hq
          subst hA1
          rw [Sp.col_len] at hcc
          have hlq : plx n k t d rnd q q = timL (rt (secL n k)) rnd t q := by simp [plx]
          have hgc : wr.cell? ⟨g, q, none⟩ = some (.slice (pa q) (plx n k t d rnd q q).length (cp q)) := (hO.out q hq).1
          rw [hlq] at hgc
          have hIq := (hO.row q hq).inn
          rw [hlq] at hIq
          obtain ⟨n5, hn5⟩ : ∃ n5, n5 = (timL (rt (secL n k)) rnd t q).length := ⟨_, rfl⟩
          obtain ⟨nt, hnt⟩ : ∃ nt, nt = (thr (secL n k) (Sp.col d k q)).length := ⟨_, rfl⟩
          obtain ⟨nl, hnl⟩ : ∃ nl, nl = (polL n k t d rnd q).length := ⟨_, rfl⟩
          rw [← hn5] at hgc
          have HLB := Lib.hid (polL_room n k t d rnd q HLEN.out hq htk)
          have HN5 := Lib.hid hn5
          have HNT := Lib.hid hnt
          have HNLE := Lib.hid hnl
          have HGC := Lib.hid hgc
          have HGL := Lib.hid (show g < wr.heap.size from hO.glo.2)
          have HBC := Lib.hid hcc
          have HBL := Lib.hid (show bc < wr.heap.size by omega)
          have HIC := Lib.hid (hIc.more hbs)
          have HIQ := Lib.hid hIq
          have HPB := Lib.hid (hpb1.below hbr hpb1.lt)
          have HPL := Lib.hid (show w.heap.size < wr.heap.size by have := hpb1.lt; omega)
          have HBS := Lib.hid (show b0 ≤ wr.heap.size by have := hO.glo; omega)
          have HGB := Lib.hid (show w1.heap.size ≤ g by have := hO.glo; omega)
          have HO := Lib.hid hO
          have HBR := Lib.hid hbr
          clear hn5 hnt hnl hgc hcc hIc hIq hO hbr hlq hbl hM1
          go_wp2
          rename_i K2 hK2
          refine Gt.regionB [Gt.Is (.slice (some ⟨g, 0, none⟩) C cg), Gt.Is (.int .i64 (q : Int)), Gt.Is (.slice (some ⟨g, 0, none⟩) C cg), Gt.Is (.int .i64 (q : Int)), Gt.Is (.pointer (some ⟨g, q, none⟩)), Gt.Is (.slice (pa q) n5 (cp q)), Gt.Is (pv (n : Int) (t : Int) (k : Int) E R), OIs wr.heap.size k (secL n k), Gt.Is (.slice (some ⟨bc, oc, none⟩) C c1), Gt.Is (.int .i64 (q : Int)), Gt.Is (.pointer (some ⟨bc, oc + q, none⟩)), Gt.Is (.slice (pa1 q) k (cp1 q)), OIs wr.heap.size nt (thr (secL n k) (Sp.col d k q)), OIs wr.heap.size nl (polL n k t d rnd q), Gt.Is (.pointer (some ⟨g, q, none⟩))] 44 15
            [⟨[], [8], none⟩, ⟨[], [9], none⟩, ⟨[], [8], none⟩, ⟨[], [9], none⟩, ⟨[(2, 30), (3, 31)], [], none⟩, ⟨[(4, 32)], [], none⟩, ⟨[], [3], none⟩, ⟨[(6, 34)], [], none⟩, ⟨[], [7], none⟩, ⟨[], [9], none⟩, ⟨[(8, 36), (9, 37)], [], none⟩, ⟨[(10, 38)], [], none⟩, ⟨[(7, 35), (11, 39)], [], none⟩, ⟨[(5, 33), (12, 40)], [], none⟩, ⟨[(0, 28), (1, 29)], [], none⟩, ⟨[(14, 42), (13, 41)], [], none⟩]
            [(0, 28), (1, 29), (2, 30), (3, 31), (4, 32), (5, 33), (6, 34), (7, 35), (8, 36), (9, 37), (10, 38), (11, 39), (12, 40), (13, 41), (14, 42)] (by kernel_rfl) (by kernel_rfl) (by kernel_rfl) (by kernel_rfl) (by kernel_rfl) ?_ ?_ ?_
          · simp only [Gt.Monos]
            repeat' apply And.intro
            all_goals (first | exact trivial | exact Gt.Is.mono _ | exact OIs.mono _ _ _ | exact GIs.mono _ _ _ | exact NIs.mono _ _)
          · simp only [List.take_succ_cons, List.take_zero, Gt.Obs]
            repeat' apply And.intro
            all_goals try exact trivial
            all_goals (
              intro a w5 hg
              have hg' : Below wr.heap.size wr w5 := hg
              simp only [Gt.Pre, Gt.Kept, Gt.Guarded, Gt.tys, List.getD_cons_zero, List.getD_cons_succ, Gt.Is, Nat.zero_add, Nat.reduceAdd]
              intros
              try (refine ⟨fun _ => ?_, fun hne => absurd (by assumption) hne⟩))
            all_goals (first
              | exact Gt.ok_move rfl (by assumption)
              | exact Gt.ok_assign rfl (by assumption)
              | exact Gt.ok_pick rfl (by assumption) (by rw [if_pos rfl]; assumption)
              | (exact Gt.ok_load rfl (by assumption) (HPB.out.below hg' HPL.out).load rfl)
              | (refine Gt.ok_call (f := 17) rfl #[pv (n : Int) (t : Int) (k : Int) E R] (by kernel_rfl) (by simp [*] <;> rfl) ((rsec_any n k t E R hnk _).mono ?_)
                 rintro e w6 ⟨A6, c6, rfl, ho6, hb6⟩
                 exact ⟨_, rfl, hb6, A6, c6, rfl, ho6.base hg'.size⟩)
              | (obtain ⟨A6, c6, hv6, ho6⟩ : OIs wr.heap.size k (secL n k) (a.eval (.tmp 35)) w5 := by assumption
                 refine Gt.ok_call (f := 30) rfl #[.slice A6 k c6, .slice (pa1 q) k (cp1 q)] (by kernel_rfl) (by simp [*] <;> rfl) ((rthrough10 A6 (pa1 q) c6 (cp1 q) k k nt (secL n k) (Sp.col d k q) w5 HSL.out.symm (Sp.col_len d k q).symm HNT.out ho6.inn ((HIC.out.below hg').more hg'.size) (by rw [HSL.out, Sp.col_len]; exact Nat.le_refl _) (by rw [HSL.out]; omega)).mono ?_)
                 rintro e w6 ⟨A7, c7, rfl, ho7, hb7⟩
                 exact ⟨_, rfl, hb7, A7, c7, rfl, ho7.base hg'.size⟩)
              | (obtain ⟨A6, c6, hv6, ho6⟩ : OIs wr.heap.size nt (thr (secL n k) (Sp.col d k q)) (a.eval (.tmp 40)) w5 := by assumption
                 refine Gt.ok_call (f := 47) rfl #[.slice (pa q) n5 (cp q), .slice A6 nt c6] (by kernel_rfl) (by simp [*] <;> rfl) ((radd' (pa q) A6 (cp q) c6 n5 nt (timL (rt (secL n k)) rnd t q) (thr (secL n k) (Sp.col d k q)) w5 HN5.out HNT.out ((HIQ.out.below hg').more hg'.size) ho6.inn HLB.out).mono ?_)
                 rintro e w6 ⟨A7, c7, rfl, ho7, hb7⟩
                 exact ⟨_, rfl, hb7, A7, c7, by rw [HNLE.out]; rfl, ho7.base hg'.size⟩)
              | (have k5 := (hg'.cell (p := ⟨g, q, none⟩) HGL.out).trans HGC.out
                 have k6 := (hg'.cell (p := ⟨bc, oc + q, none⟩) HBL.out).trans HBC.out
                 refine Gt.ok_run ?_ rfl
                 simp only [execOp, *]
                 go_simp
                 done))
          · intro a w5 hg
            have hg' : Below wr.heap.size wr w5 := hg
            simp only [Gt.Pre, Gt.tys, List.getD_cons_zero, List.getD_cons_succ, Gt.Is]
            intro h0 h1 h2 h3 h4 h5 h6 h7 h8 h9 h10 h11 h12 h13 h14
            obtain ⟨A7, c7, h13, ho7⟩ := h13
            show wpList _ _ _ _ _ _
            have hO5 := HO.out.below hg'
            have k5 := (hO5.out q hq).1
            have f5 := (hO5.out q hq).2
            simp only [Gt.puts, List.foldl_cons, List.foldl_nil, h0, h1, h2, h3, h4, h5, h6, h8, h9, h10, h11, h13, h14]
            simp only [Act.put, List.setIfInBounds_toArray, List.set_cons_zero, List.set_cons_succ]
            have HST := Lib.hid (HO.out.store (i := q) hq hg' ho7 HBS.out nl HNLE.out)
            have HBW := Lib.hid (HBR.out.trans ((hg'.mono HBR.out.size).setCell (p := ⟨g, q, none⟩) HGB.out (.slice A7 nl c7)))
            clear hO5 ho7
            go_wp2
            go_roundw
            case rel => exact ⟨q + 1, _, _, by go_num, by omega, HST.out.congr (fun i hi => plx_step), HBW.out⟩
            case measure => simp [intOf]; omega
        · obtain rfl : q = C := by omega
          have HM := Lib.hid ((hO.congr (m := polL n k t d rnd) (fun i hi => by simp [plx, hi])).min cg hcg)
          have HBW := Lib.hid (HB1.out.trans (hbr.mono HB1.out.size))
          clear hO hbr hM1
          go_wp2
          go_ret
          exact ⟨_, _, _, _, rfl, HM.out, HBW.out⟩
    · obtain rfl : C = 0 := by omega
      obtain ⟨A8, c8, rfl, hc8, hn8⟩ := hG7.shape
      clear hG7
      go_wp2
      go_loop [9] (fun i => i = .int .i64 0) (fun _ => 0)
      case atStart => rfl
      case round =>
        subst hrel
        go_wp2
        go_ret
        exact ⟨A8, c8, rfl, ⟨fun _ => none, fun _ => 0, ⟨fun i hi => by omega, hc8, hn8⟩⟩, HB5.out⟩
end Go.Proofs.Ytaknffdokkfmgaa
end
section
/- The polynomial through points, piece by piece, in plain numbers; small facts on worlds for it. -/
namespace Go.Proofs.Ytaknffdokkfmgaa
open Go.RowKit Go.Shelf Gw Pol

/-- What a piece is multiplied by. -/
def pcF (xs ys : List Nat) (x : Pc xs) : Nat := Gf.dv (co ys x.i) (ev (co xs x.i) x.q)
/-- The sum, when some pieces have come. -/
def accF (xs ys : List Nat) (pre : List (Pc xs)) : List Nat := pre.foldl (fun L x => addAt L 0 (pcF xs ys x) x.q) (List.replicate xs.length 0)
theorem accF_snoc (xs ys : List Nat) (pre : List (Pc xs)) (x : Pc xs) : accF xs ys (pre ++ [x]) = addAt (accF xs ys pre) 0 (pcF xs ys x) x.q := by simp [accF]
theorem pcF_lt (xs ys : List Nat) (x : Pc xs) : pcF xs ys x < 256 := Gf.gm_lt _ _
theorem pc_len {xs : List Nat} (x : Pc xs) : x.q.length = xs.length := by
  obtain ⟨r, hr⟩ := x.hq; exact piece_len x.hi hr
theorem pc_bb {xs : List Nat} (x : Pc xs) : BB x.q := by
  obtain ⟨r, hr⟩ := x.hq; exact hr.bq
theorem accF_ok (xs ys : List Nat) (pre : List (Pc xs)) : (accF xs ys pre).length = xs.length ∧ BB (accF xs ys pre) := by
  have : ∀ r : List (Pc xs), (accF xs ys r.reverse).length = xs.length ∧ BB (accF xs ys r.reverse) := by
    intro r
    induction r with
    | nil => exact ⟨by simp [accF], fun x hx => by rw [List.eq_of_mem_replicate hx]; omega⟩
    | cons x r ih => rw [List.reverse_cons, accF_snoc]; exact ⟨by rw [addAt_len]; exact ih.1, addAt_bb ih.2 _ _ _⟩
  have h := this pre.reverse
  rwa [List.reverse_reverse] at h
theorem accF_ev {xs ys : List Nat} (hx : BB xs) (hy : BB ys) (hn : xs.Nodup) {j : Nat} (hj : j < xs.length) : ∀ (k : Nat) (pre : List (Pc xs)), pre.map Pc.i = List.range k → ev xs[j] (accF xs ys pre) = if j < k then co ys j else 0 := by
  intro k
  induction k with
  | zero =>
    intro pre hp
    have : pre = [] := by simpa using hp
    subst this
    rw [if_neg (by omega)]
    exact ev_zero _ (fun i => by simp [accF, co, List.getElem?_replicate]; split <;> rfl)
  | succ k ih =>
    intro pre hp
    rw [List.range_succ, List.map_eq_append_iff] at hp
    obtain ⟨l1, l2, rfl, h1, h2⟩ := hp
    obtain ⟨x, l3, rfl, h3, h4⟩ := List.map_eq_cons_iff.1 h2
    have : l3 = [] := by simpa using h4
    subst this
    have hok := accF_ok xs ys l1
    rw [accF_snoc, ev_addAt hok.2 (pc_bb x) (pcF_lt _ _ _) (hx.get hj) (by rw [pc_len, hok.1]; exact Nat.le_refl _), ih l1 h1]
    obtain ⟨r, hr⟩ := x.hq
    have hi := x.hi
    by_cases e : j = k
    · have exi : x.i = j := by omega
      have hself := piece_self hx hn hi hr
      have : Gf.gm (pcF xs ys x) (ev xs[j] x.q) = co ys j := by
        have e2 : ev (co xs x.i) x.q = ev xs[j] x.q := by rw [co_get hi]; congr 1; simp [exi]
        unfold pcF
        rw [e2, exi]
        refine Gf.gm_dv (hy.co j) (ev_lt (pc_bb x) _) ?_
        rw [← e2, co_get hi]; exact hself
      rw [this, if_neg (by omega), if_pos (by omega), Nat.zero_xor]
    · rw [piece_other hx hn hi hj (by omega) hr, Gf.gm_zero_right, Nat.xor_zero]
      by_cases h5 : j < k
      · rw [if_pos h5, if_pos (by omega)]
      · rw [if_neg h5, if_neg (by omega)]
theorem accF_all {xs ys : List Nat} (hx : BB xs) (hy : BB ys) (hn : xs.Nodup) {pre : List (Pc xs)} (hp : pre.map Pc.i = List.range xs.length) : tr (accF xs ys pre) = thr xs ys := by
  have hok := accF_ok xs ys pre
  exact thr_only hx hy hn hok.2 (Dg.len (Nat.le_of_eq hok.1)) (fun j hj => by rw [accF_ev hx hy hn hj xs.length pre hp, if_pos hj])

theorem keeps_below {W X : World} (h : Below W.heap.size W X) : KeepsOthers W X := ⟨h.size, fun k _ hk _ => (h.block k (Array.getElem?_eq_some_iff.1 hk).1).trans hk⟩
theorem keeps_row {X W' : World} {base g c : Nat} {e : TypeId} {l : List Nat} (ho : Gw.Own X base e (some ⟨g, 0, none⟩) c l) (h : X.grownBy W' (some g)) : KeepsOthers X W' := ⟨h.size, fun k _ hk hc => by
  refine (h.block k (Array.getElem?_eq_some_iff.1 hk).1 (fun e2 => ?_)).trans hk
  injection e2 with e2
  subst e2
  rcases ho.1.2 with ⟨hv, _⟩ | ⟨k2, cap, cur, hv, _, h2, _⟩
  · injection hv with hv; cases hv
  · injection hv with hv
    injection hv with hv
    injection hv with hv
    subst hv
    rw [hk] at h2
    injection h2 with h2
    subst h2
    cases hc⟩
end Go.Proofs.Ytaknffdokkfmgaa
end
section
/- What poly's Through does: the polynomial through points, in memory of its own, or that there is none. -/
namespace Go.Proofs.Ytaknffdokkfmgaa
open Go.RowKit Go.Shelf Gw Pol Go.BigFrame Go.Sort
attribute [local go_sem] Oper.semAt_some

/-- Three boxes. -/
structure Three (w : World) (v0 v1 v2 : Value) (W : World) : Prop where
  c0 : W.cell? ⟨w.heap.size, 0, none⟩ = some v0
  c1 : W.cell? ⟨w.heap.size + 1, 0, none⟩ = some v1
  c2 : W.cell? ⟨w.heap.size + 2, 0, none⟩ = some v2
  sz : W.heap.size = w.heap.size + 3
  bl : Below w.heap.size w W
theorem three (w : World) (v0 v1 v2 : Value) (t0 t1 t2 : TypeId) : Three w v0 v1 v2 (((w.alloc (.cells #[v0] t0)).alloc (.cells #[v1] t1)).alloc (.cells #[v2] t2)) := by
  refine ⟨?_, ?_, ?_, by simp, ?_⟩
  · exact old_cell (old_cell (new_cell w v0 t0 _ rfl) _) _
  · exact old_cell (new_cell _ v1 t1 _ (by simp)) _
  · exact new_cell _ v2 t2 _ (by simp)
  · exact (((Below.refl _ w).alloc (Nat.le_refl _) _).alloc (by simp) _).alloc (by simp; omega) _

set_option maxRecDepth 100000 in
set_option maxHeartbeats 500000 in
theorem pthr_lens (bf : Nat) (A A' : Option Addr) (c c' : Nat) (xs ys : List Nat) (w : World) (hne : xs.length ≠ ys.length) :
    Calls Try.prog 42 #[.pointer (some ⟨bf, 0, none⟩), .slice A xs.length c, .slice A' ys.length c'] w fun e w' => e = .returned (.tuple #[.slice none 0 0, .bool false]) ∧ Below w.heap.size w w' := by
  have hb : (((xs.length : Int)) != ((ys.length : Int))) = true := by rw [bne_iff_ne]; omega
  have HB := Lib.hid (three w (.pointer (some ⟨bf, 0, none⟩)) (.slice A xs.length c) (.slice A' ys.length c') 38 28 28).bl
  go_enter Try.func42, Try.ntmps42
  go_wp2
  go_ret2
  exact ⟨rfl, HB.out⟩
set_option maxRecDepth 100000 in
set_option maxHeartbeats 500000 in
theorem pthr_twice (bf : Nat) (A A' : Option Addr) (c c' : Nat) (xs ys : List Nat) (w : World) (hI : In w w.heap.size A c xs) (hcm : xs.length ≤ 140737488355328) (he : xs.length = ys.length) (hun : unB xs = false) :
    Calls Try.prog 42 #[.pointer (some ⟨bf, 0, none⟩), .slice A xs.length c, .slice A' ys.length c'] w fun e w' => e = .returned (.tuple #[.slice none 0 0, .bool false]) ∧ Below w.heap.size w w' := by
  have h3 := three w (.pointer (some ⟨bf, 0, none⟩)) (.slice A xs.length c) (.slice A' ys.length c') 38 28 28
  have HB := Lib.hid h3.bl
  have hd := distinct_any A c xs _ ((hI.below h3.bl).more h3.bl.size) hcm
  rw [hun] at hd
  have HD := Lib.hid hd
  clear hd h3 hun
  rw [← he] at *
  go_enter Try.func42, Try.ntmps42
  go_wp2_with fail
  refine HD.out.mono ?_
  rintro e w1 ⟨rfl, hb1⟩
  go_wp2
  go_ret2
  exact ⟨rfl, HB.out.trans (hb1.mono HB.out.size)⟩
end Go.Proofs.Ytaknffdokkfmgaa
end
