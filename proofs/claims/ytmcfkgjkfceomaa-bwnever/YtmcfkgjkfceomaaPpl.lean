/- What poly's Through does where there is a polynomial: it, in memory of its own. -/
import Derived.Test.YtmcfkgjkfceomaaPpk
namespace Go.Proofs.Ytmcfkgjkfceomaa
open Go.RowKit Go.Shelf Gw Pol Go.BigFrame Go.Sort
attribute [local go_sem] Oper.semAt_some

/-- The row of noughts, and three boxes. -/
structure Four (w1 : World) (n : Nat) (v1 v2 v3 : Value) (W : World) : Prop where
  own : Gw.Own W w1.heap.size 5 (some ⟨w1.heap.size, 0, none⟩) n (List.replicate n 0)
  c1 : W.cell? ⟨w1.heap.size + 1, 0, none⟩ = some v1
  c2 : W.cell? ⟨w1.heap.size + 2, 0, none⟩ = some v2
  c3 : W.cell? ⟨w1.heap.size + 3, 0, none⟩ = some v3
  sz : W.heap.size = w1.heap.size + 4
  bl : Below w1.heap.size w1 W
theorem four (w1 : World) (n : Nat) (hn : n ≤ 140737488355328) (v1 v2 v3 : Value) (t1 t2 t3 : TypeId) :
    Four w1 n v1 v2 v3 ((((w1.alloc (.cells (madeCells #[.int .u8 0] n) 5)).alloc (.cells #[v1] t1)).alloc (.cells #[v2] t2)).alloc (.cells #[v3] t3)) := by
  refine ⟨(((Own.made w1 _ n hn).alloc _).alloc _).alloc _, ?_, ?_, ?_, by simp, ?_⟩
  · exact old_cell (old_cell (new_cell _ v1 t1 _ (by simp)) _) _
  · exact old_cell (new_cell _ v2 t2 _ (by simp)) _
  · exact new_cell _ v3 t3 _ (by simp)
  · exact ((((Below.refl _ w1).alloc (Nat.le_refl _) _).alloc (by simp) _).alloc (by simp; omega) _).alloc (by simp; omega) _

/-- Between two rounds. -/
def ThI (w : World) (d bf : Nat) (A A' : Option Addr) (c c' : Nat) (xs ys : List Nat) (pre : List (Pc xs)) (W : World) : Prop :=
  (W.cell? ⟨w.heap.size, 0, none⟩ = some (.pointer (some ⟨bf, 0, none⟩)) ∧ W.cell? ⟨w.heap.size + 1, 0, none⟩ = some (.slice A xs.length c) ∧ W.cell? ⟨w.heap.size + 2, 0, none⟩ = some (.slice A' xs.length c') ∧
    W.cell? ⟨d + 1, 0, none⟩ = some (.slice (some ⟨d, 0, none⟩) xs.length xs.length) ∧ Gw.Own W d 5 (some ⟨d, 0, none⟩) xs.length (accF xs ys pre)) ∧ Below w.heap.size w W
theorem ThI.own (w : World) (d bf : Nat) (A A' : Option Addr) (c c' : Nat) (xs ys : List Nat) (B : Nat) (hB : w.heap.size ≤ B) : OwnFrom B (ThI w d bf A A' c c' xs ys) :=
  OwnFrom.and (Own.from (fun _ _ _ _ hs hg hr => ⟨cell_kept hs.1 hg hr, cell_kept hs.2.1 hg hr, cell_kept hs.2.2.1 hg hr, cell_kept hs.2.2.2.1 hg hr, own_turned hs.2.2.2.2 hg hr⟩) _) (ownFrom_below (Nat.le_refl _) hB)

set_option maxRecDepth 100000 in
set_option maxHeartbeats 500000 in
theorem pthr_in (bf : Nat) (A A' : Option Addr) (c c' : Nat) (xs ys : List Nat) (w : World) (hF : IsField w bf) (hI : In w w.heap.size A c xs) (hI' : In w w.heap.size A' c' ys) (hcm : xs.length ≤ 70368744177664) (he : xs.length = ys.length) (hun : unB xs = true) :
    CallsIn Fence.wide 6 Try.prog 27 #[.pointer (some ⟨bf, 0, none⟩), .slice A xs.length c, .slice A' ys.length c'] w fun e w' =>
      ∃ A2 c2, e = .returned (.tuple #[.slice A2 (thr xs ys).length c2, .bool true]) ∧ Gw.Own w' w.heap.size 5 A2 c2 (thr xs ys) ∧ Below w.heap.size w w' := by
  have hlf := hF.lt
  have h3 := three w (.pointer (some ⟨bf, 0, none⟩)) (.slice A xs.length c) (.slice A' xs.length c') 27 22 22
  have hd := distinct_any A c xs _ ((hI.below h3.bl).more h3.bl.size) (by omega)
  rw [hun] at hd
  have HD := Lib.hid hd
  have H3 := Lib.hid h3
  have HE := Lib.hid he
  clear hd h3
  rw [← he]
  clear he
  have hmk := run_make_row' (P := Try.prog) 22 5 (.int .u8 0) 1 Try.underlying22 pbyte_info rfl .i64 .i64 xs.length (by omega) (by omega)
  refine callsIn_of_wp_marks Try.func27 rfl trivial ?_ rfl
  simp only [Try.ntmps27, List.size_toArray, List.length_cons, List.length_nil, Nat.reduceAdd, Nat.reduceSub, Array.replicate_succ, Array.replicate_zero, List.push_toArray, List.append_toArray, List.nil_append, List.cons_append]
  gi_wp2_with fail
  refine ⟨trivial, ?_⟩
  refine (callsIn_wide.2 HD.out).mono ?_
  rintro e w1 ⟨rfl, hb1⟩
  have hsz := H3.out.sz
  have c0 := (hb1.cell (p := ⟨w.heap.size, 0, none⟩) (by show w.heap.size < _; omega)).trans H3.out.c0
  have c1 := (hb1.cell (p := ⟨w.heap.size + 1, 0, none⟩) (by show w.heap.size + 1 < _; omega)).trans H3.out.c1
  have c2 := (hb1.cell (p := ⟨w.heap.size + 2, 0, none⟩) (by show w.heap.size + 2 < _; omega)).trans H3.out.c2
  have hd3 : w.heap.size + 3 ≤ w1.heap.size := by have := hb1.size; omega
  have hbw : Below w.heap.size w w1 := H3.out.bl.trans (hb1.mono H3.out.bl.size)
  clear HD hb1 hsz
  have e0 := old_cell (old_cell c0 (.cells (madeCells #[.int .u8 0] xs.length) 5)) (.cells #[.slice (some ⟨w1.heap.size, 0, none⟩) xs.length xs.length] 22)
  have e1 := old_cell (old_cell c1 (.cells (madeCells #[.int .u8 0] xs.length) 5)) (.cells #[.slice (some ⟨w1.heap.size, 0, none⟩) xs.length xs.length] 22)
  gi_wp2_with fail
  refine ⟨trivial, ?_⟩
  refine (callsIn_wide.2 (ppieces_mk bf A xs.length c _)).mono ?_
  rintro e w' ⟨rfl, rfl⟩
  gi_wp2
  clear e0 e1 hmk H3
  have h4 := four w1 xs.length (by omega) (.slice (some ⟨w1.heap.size, 0, none⟩) xs.length xs.length) (.pointer (some ⟨bf, 0, none⟩)) (.slice A xs.length c) 22 27 22
  have hb4 : Below w.heap.size w _ := hbw.trans (h4.bl.mono (by omega))
  have hF4 := hF.below hb4 hlf
  have hI4 := hI.below hb4
  refine Gq.range_mem (by omega) (gf := 48) (lb := #[.pointer (some ⟨w1.heap.size + 2, 0, none⟩), .pointer (some ⟨w1.heap.size + 3, 0, none⟩)]) rfl (enters_of Try.func48 (by kernel_rfl) rfl)
    (ppieces_stops (6 - 1) (by omega) w1.heap.size (w1.heap.size + 2) (w1.heap.size + 3) bf w.heap.size A c xs hcm _ (by rw [h4.sz]; omega) h4.c2 h4.c3 hF4 hI4 (by omega) (by omega) (by omega) (by omega))
    (fun h k => KeepC.trans h k) (fun W l o o' _ h hc => KeepC.put h hc) (fun _ => rfl) (PcRd.own w1.heap.size xs _)
    (ThI w w1.heap.size bf A A' c c' xs ys) (ThI.own w w1.heap.size bf A A' c c' xs ys _ (by rw [h4.sz]; omega))
    ⟨⟨old_cell (old_cell (old_cell (old_cell c0 _) _) _) _, old_cell (old_cell (old_cell (old_cell c1 _) _) _) _, old_cell (old_cell (old_cell (old_cell c2 _) _) _) _, h4.c1, h4.own⟩, hb4⟩
    (fun x => { tmps := #[.pointer (some ⟨bf, 0, none⟩), .slice A xs.length c, .slice A' xs.length c', .pointer (some ⟨w.heap.size, 0, none⟩), .pointer (some ⟨w.heap.size + 1, 0, none⟩), .pointer (some ⟨w.heap.size + 2, 0, none⟩), .slice none 0 0, .bool false, .pointer (some ⟨w1.heap.size + 1, 0, none⟩), .int .i64 (x.i : Int), .slice x.A x.q.length x.c, undef, undef, .slice A xs.length c, .int .i64 (xs.length : Int), .slice A' xs.length c', .int .i64 (xs.length : Int), .bool false, .bool false, .slice A xs.length c, .bool true, .bool false, .bool false, .slice A xs.length c, .int .i64 (xs.length : Int), .slice (some ⟨w1.heap.size, 0, none⟩) xs.length xs.length, .pointer (some ⟨bf, 0, none⟩), .slice A xs.length c, .func (.func 48) #[] #[.pointer (some ⟨w1.heap.size + 2, 0, none⟩), .pointer (some ⟨w1.heap.size + 3, 0, none⟩)], .int .i64 (x.i : Int), .slice x.A x.q.length x.c, undef, undef, undef, undef, undef, undef, undef, undef, undef, undef, undef, undef, undef, undef, undef, undef, undef, undef, undef, undef, undef, undef, undef], defers := [] }) ?assign ?body ?done
  case assign =>
    intro l x W K hK
    gi_wp2
    exact hK
  case body =>
    rintro lb pre x W ⟨⟨d0, d1, d2, d3, hown⟩, hB⟩ hrd _
    clear h4 hb4 hF4 hI4 c0 c1 c2
    have hacc := accF_ok xs ys pre
    have hql := pc_len x
    have HSN := Lib.hid (accF_snoc xs ys pre x)
    have hqb := pc_bb x
    have hpc : pcF xs ys x = Gf.dv (co ys x.i) (ev (co xs x.i) x.q) := rfl
    obtain ⟨i, hi, Aq, cq, q, hq⟩ := x
    have hF' := hF.below hB hlf
    have hiy : i < ys.length := by rw [← HE.out]; exact hi
    obtain ⟨vx, b, off, hx, hxb, rfl, hb, hcx⟩ := (hI.below hB).sl.at_ hi
    obtain ⟨vy, b2, off2, hy, hyb, rfl, hb2, hcy⟩ := (hI'.below hB).sl.at_ hiy
    dsimp only at hpc hql hqb HSN ⊢
    rw [co_of' hx, co_of' hy] at hpc
    rw [hpc] at HSN
    clear hpc hx hy
    have hrd' : Gw.Own W (w1.heap.size + 1) 5 Aq cq q := hrd
    have hqi := hrd'.inn
    have mixed : Try.prog.follows .mixedOrders = true := by kernel_rfl
    have k0 := cell_regrown d0
    have k1 := cell_regrown d1
    have k2 := cell_regrown d2
    have kx := cell_regrown hcx
    have ky := cell_regrown hcy
    have cQ : ∀ dd os, Calls Try.prog 42 #[.pointer (some ⟨bf, 0, none⟩), .slice Aq q.length cq, .int .u8 (vx : Int)] (grow (redrawn W dd) os) fun e w'' => e = .returned (.int .u8 (ev vx q : Int)) ∧ ∃ p : Regrown, w'' = grow (redrawn W p.d) p.os := fun dd os =>
      Calls.regrown_of (peval' bf Aq cq q.length q vx rfl hxb _ (hF'.below (below_regrown W dd os) hF'.lt) ((hqi.below (below_regrown W dd os)).more (below_regrown W dd os).size) (by rw [hql]; omega))
    have cE : ∀ dd os, Calls Try.prog 41 #[.pointer (some ⟨bf, 0, none⟩), .int .u8 (vy : Int), .int .u8 (ev vx q : Int)] (grow (redrawn W dd) os) fun e w'' => e = .returned (.tuple #[.int .u8 (Gf.dv vy (ev vx q) : Int), .bool (nz (ev vx q))]) ∧ ∃ p : Regrown, w'' = grow (redrawn W p.d) p.os := fun dd os =>
      Calls.regrown_of ((div_any bf vy (ev vx q) hyb (ev_lt hqb _) _ (hF'.below (below_regrown W dd os) hF'.lt)).mono (fun e w'' h => ⟨h.1, by obtain ⟨_, m, rfl⟩ := h; exact Gw.Below.drewN (Below.refl _ _) m⟩))
    have HQL := Lib.hid hql
    have HAC := Lib.hid hacc
    have HC0 := Lib.hid d0
    have HC1 := Lib.hid d1
    have HC2 := Lib.hid d2
    have HOW := Lib.hid hown
    have HRD := Lib.hid hrd'
    have HF2 := Lib.hid hF'
    have HBW := Lib.hid hB
    clear hown hrd' hrd hqi hF' hB d0 d1 d2 hcx hcy hql hacc
    gi_wp2
    refine Gq.region_round_all (C := fun w' => ∃ p : Regrown, w' = grow (redrawn W p.d) p.os) mixed (by kernel_rfl) (by kernel_rfl) ⟨⟨W.drawn + 1, #[]⟩, by rw [grow_empty]; rfl⟩ ?_
    repeat (go_big_quiet_step ((first | (go_at_call 42; exact cQ _ _) | (go_at_call 41; exact cE _ _))))
    refine wpQuiet_nil ?_
    intro _ hw'
    obtain ⟨⟨dq, osq⟩, hw''⟩ := hw'
    subst hw''
    have hbX := below_regrown W dq osq
    obtain ⟨X, hX⟩ : ∃ X, X = grow (redrawn W dq) osq := ⟨_, rfl⟩
    rw [← hX] at hbX ⊢
    clear hX k0 k1 k2 kx ky cQ cE
    have x0 := (hbX.cell (p := ⟨w.heap.size, 0, none⟩) (cell_lt HC0.out)).trans HC0.out
    have x3 := (hbX.cell (p := ⟨w1.heap.size + 1, 0, none⟩) (cell_lt d3)).trans d3
    have HA := Lib.hid (addTimes' bf w1.heap.size 0 xs.length xs.length w1.heap.size xs.length (accF xs ys pre) Aq cq q.length q (Gf.dv vy (ev vx q)) rfl (Gf.gm_lt _ _) X (HF2.out.below hbX HF2.out.lt) (by omega) (HOW.out.kept hbX) (by rw [HAC.out.1, HQL.out]; omega) (by rw [HQL.out]; exact Nat.le_refl _) ((HRD.out.kept hbX).away (by omega)) (by rw [HAC.out.1]; omega))
    gi_wp2_with fail
    refine ⟨trivial, ?_⟩
    refine (CallsIn.inRound lb (callsIn_wide.2 HA.out)).mono ?_
    rintro e W3 ⟨rfl, hown3, hg3⟩
    gi_wp2
    have hk3 : KeepC w1.heap.size W W3 := (KeepC.below hbX).trans (KeepC.by hg3)
    have hbe : Below w.heap.size W W3 := (hbX.mono HBW.out.size).trans (Gw.Below.by hg3 (Nat.le_trans HBW.out.size hbX.size) (by omega))
    refine ⟨(keeps_below hbX).trans (keeps_row (HOW.out.kept hbX) hg3), hk3, ⟨hk3.cell HC0.out (by omega), hk3.cell HC1.out (by omega), hk3.cell HC2.out (by omega), hk3.cell d3 (by omega), ?_⟩, HBW.out.trans hbe⟩
    rw [HSN.out]; exact hown3
  case done =>
    rintro D pre W hD hS ⟨⟨d0, d1, d2, d3, hown⟩, hB⟩ hK
    rw [h4.sz] at hD
    clear h4 hb4 hF4 hI4 c0 c1 c2 d0 d1 d2
    have hacc := accF_ok xs ys pre
    have HT := Lib.hid (ptrim' (some ⟨w1.heap.size, 0, none⟩) xs.length xs.length (accF xs ys pre) W _ hacc.1.symm hown.inn (by rw [hacc.1]; omega))
    have HA := Lib.hid (accF_all hI.bb hI'.bb (of_decide_eq_true hun) hS)
    have HO := Lib.hid hown.tr
    clear hown hacc
    gi_wp2_with fail
    refine ⟨trivial, ?_⟩
    refine (callsIn_wide.2 HT.out).mono ?_
    rintro e W2 ⟨rfl, rfl⟩
    gi_wp2
    refine ⟨by simp, .inl ⟨_, _, rfl, run_takeDeferred hK, ?_⟩⟩
    have hb2 : Below w.heap.size W (W.putObj D (.deferred none)) := belowK_b (w := w) (Nat.le_refl _) W D _ _ (by omega) hK rfl rfl
    have ho := own_turned HO.out (grownBy_putObj' W D (.deferred none)) (fun r e => by cases e; exact ⟨_, hK, rfl⟩)
    rw [HA.out] at ho ⊢
    exact ⟨_, results_tmp2 rfl _ _ _, _, _, rfl, ho.base (by omega), hB.trans hb2⟩
/-- The polynomial through points. -/
theorem pthr_any (bf : Nat) (A A' : Option Addr) (c c' : Nat) (xs ys : List Nat) (w : World) (hF : IsField w bf) (hI : In w w.heap.size A c xs) (hI' : In w w.heap.size A' c' ys) (hcm : xs.length ≤ 70368744177664) (he : xs.length = ys.length) (hun : unB xs = true) :
    Calls Try.prog 27 #[.pointer (some ⟨bf, 0, none⟩), .slice A xs.length c, .slice A' ys.length c'] w fun e w' =>
      ∃ A2 c2, e = .returned (.tuple #[.slice A2 (thr xs ys).length c2, .bool true]) ∧ Gw.Own w' w.heap.size 5 A2 c2 (thr xs ys) ∧ Below w.heap.size w w' :=
  callsIn_wide.1 (pthr_in bf A A' c c' xs ys w hF hI hI' hcm he hun)
end Go.Proofs.Ytmcfkgjkfceomaa
