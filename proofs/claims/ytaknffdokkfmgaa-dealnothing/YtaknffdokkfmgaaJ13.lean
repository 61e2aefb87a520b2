import Derived.Laws.CopyOwn
import Derived.Test.YtaknffdokkfmgaaJ4
import Derived.Test.YtaknffdokkfmgaaJ5
import Derived.Test.YtaknffdokkfmgaaJ7
import Derived.Test.YtaknffdokkfmgaaJ12
section
/- What poly's Through does where there is a polynomial: it, in memory of its own. -/
namespace Go.Proofs.Ytaknffdokkfmgaa
open Go.RowKit Go.Shelf Gw Pol Go.BigFrame Go.Sort
attribute [local go_sem] Oper.semAt_some

/-- The row of noughts, and three boxes. -/
structure Four (w1 : World) (n : Nat) (v1 v2 v3 : Value) (W : World) : Prop where
  own : Gw.Own W w1.heap.size 5 (some ⟨w1.heap.size, 0, none⟩) n (List.replicate n 0)
  c1 : W.cell? ⟨w1.heap.size + 1, 0, none⟩ = some v1
  c2 : W.cell? ⟨w1.heap.size + 2, 0, none⟩ = some v2
  c3 : W.cell? ⟨w1.heap.size + 3, 0, none⟩ = some v3
  sz : W.heap.size = w1.heap.size + 4
  bl : Below w1.heap.size w1 W
theorem four (w1 : World) (n : Nat) (hn : n ≤ 140737488355328) (v1 v2 v3 : Value) (t1 t2 t3 : TypeId) :
    Four w1 n v1 v2 v3 ((((w1.alloc (.cells (madeCells #[.int .u8 0] n) 5)).alloc (.cells #[v1] t1)).alloc (.cells #[v2] t2)).alloc (.cells #[v3] t3)) := by
  refine ⟨(((Own.made w1 _ n hn).alloc _).alloc _).alloc _, ?_, ?_, ?_, by simp, ?_⟩
  · exact old_cell (old_cell (new_cell _ v1 t1 _ (by simp)) _) _
  · exact old_cell (new_cell _ v2 t2 _ (by simp)) _
  · exact new_cell _ v3 t3 _ (by simp)
  · exact ((((Below.refl _ w1).alloc (Nat.le_refl _) _).alloc (by simp) _).alloc (by simp; omega) _).alloc (by simp; omega) _

/-- Between two rounds. -/
def ThI (w : World) (d bf : Nat) (A A' : Option Addr) (c c' : Nat) (xs ys : List Nat) (pre : List (Pc xs)) (W : World) : Prop :=
  (W.cell? ⟨w.heap.size, 0, none⟩ = some (.pointer (some ⟨bf, 0, none⟩)) ∧ W.cell? ⟨w.heap.size + 1, 0, none⟩ = some (.slice A xs.length c) ∧ W.cell? ⟨w.heap.size + 2, 0, none⟩ = some (.slice A' xs.length c') ∧
    W.cell? ⟨d + 1, 0, none⟩ = some (.slice (some ⟨d, 0, none⟩) xs.length xs.length) ∧ Gw.Own W d 5 (some ⟨d, 0, none⟩) xs.length (accF xs ys pre)) ∧ Below w.heap.size w W
theorem ThI.own (w : World) (d bf : Nat) (A A' : Option Addr) (c c' : Nat) (xs ys : List Nat) (B : Nat) (hB : w.heap.size ≤ B) : OwnFrom B (ThI w d bf A A' c c' xs ys) :=
  OwnFrom.and (Own.from (fun _ _ _ _ hs hg hr => ⟨cell_kept hs.1 hg hr, cell_kept hs.2.1 hg hr, cell_kept hs.2.2.1 hg hr, cell_kept hs.2.2.2.1 hg hr, own_turned hs.2.2.2.2 hg hr⟩) _) (ownFrom_below (Nat.le_refl _) hB)

set_option maxRecDepth 100000 in
set_option maxHeartbeats 500000 in
theorem pthr_in (bf : Nat) (A A' : Option Addr) (c c' : Nat) (xs ys : List Nat) (w : World) (hF : IsField w bf) (hI : In w w.heap.size A c xs) (hI' : In w w.heap.size A' c' ys) (hcm : xs.length ≤ 70368744177664) (he : xs.length = ys.length) (hun : unB xs = true) :
    CallsIn Fence.wide 6 Try.prog 42 #[.pointer (some ⟨bf, 0, none⟩), .slice A xs.length c, .slice A' ys.length c'] w fun e w' =>
      ∃ A2 c2, e = .returned (.tuple #[.slice A2 (thr xs ys).length c2, .bool true]) ∧ Gw.Own w' w.heap.size 5 A2 c2 (thr xs ys) ∧ Below w.heap.size w w' := by
  have hlf := hF.lt
  have h3 := three w (.pointer (some ⟨bf, 0, none⟩)) (.slice A xs.length c) (.slice A' xs.length c') 38 28 28
  have hd := distinct_any A c xs _ ((hI.below h3.bl).more h3.bl.size) (by omega)
  rw [hun] at hd
  have HD := Lib.hid hd
  have H3 := Lib.hid h3
  have HE := Lib.hid he
  clear hd h3
  rw [← he]
  clear he
  have hmk := run_make_row' (P := Try.prog) 28 5 (.int .u8 0) 1 Try.underlying28 pbyte_info rfl .i64 .i64 xs.length (by omega) (by omega)
  refine callsIn_of_wp_marks Try.func42 rfl trivial ?_ rfl
  simp only [Try.ntmps42, List.size_toArray, List.length_cons, List.length_nil, Nat.reduceAdd, Nat.reduceSub, Array.replicate_succ, Array.replicate_zero, List.push_toArray, List.append_toArray, List.nil_append, List.cons_append]
  gi_wp2_with fail
  refine ⟨trivial, ?_⟩
  refine (callsIn_wide.2 HD.out).mono ?_
  rintro e w1 ⟨rfl, hb1⟩
  have hsz := H3.out.sz
  have c0 := (hb1.cell (p := ⟨w.heap.size, 0, none⟩) (by show w.heap.size < _; omega)).trans H3.out.c0
  have c1 := (hb1.cell (p := ⟨w.heap.size + 1, 0, none⟩) (by show w.heap.size + 1 < _; omega)).trans H3.out.c1
  have c2 := (hb1.cell (p := ⟨w.heap.size + 2, 0, none⟩) (by show w.heap.size + 2 < _; omega)).trans H3.out.c2
  have hd3 : w.heap.size + 3 ≤ w1.heap.size := by have := hb1.size; omega
  have hbw : Below w.heap.size w w1 := H3.out.bl.trans (hb1.mono H3.out.bl.size)
  clear HD hb1 hsz
  have e0 := old_cell (old_cell c0 (.cells (madeCells #[.int .u8 0] xs.length) 5)) (.cells #[.slice (some ⟨w1.heap.size, 0, none⟩) xs.length xs.length] 28)
  have e1 := old_cell (old_cell c1 (.cells (madeCells #[.int .u8 0] xs.length) 5)) (.cells #[.slice (some ⟨w1.heap.size, 0, none⟩) xs.length xs.length] 28)
  gi_wp2_with fail
  refine ⟨trivial, ?_⟩
  refine (callsIn_wide.2 (ppieces_mk bf A xs.length c _)).mono ?_
  rintro e w' ⟨rfl, rfl⟩
  gi_wp2
  clear e0 e1 hmk H3
  have h4 := four w1 xs.length (by omega) (.slice (some ⟨w1.heap.size, 0, none⟩) xs.length xs.length) (.pointer (some ⟨bf, 0, none⟩)) (.slice A xs.length c) 28 38 28
  have hb4 : Below w.heap.size w _ := hbw.trans (h4.bl.mono (by omega))
  have hF4 := hF.below hb4 hlf
  have hI4 := hI.below hb4
  refine Gq.range_mem (by omega) (gf := 66) (lb := #[.pointer (some ⟨w1.heap.size + 2, 0, none⟩), .pointer (some ⟨w1.heap.size + 3, 0, none⟩)]) rfl (enters_of Try.func66 (by kernel_rfl) rfl)
    (ppieces_stops (6 - 1) (by omega) w1.heap.size (w1.heap.size + 2) (w1.heap.size + 3) bf w.heap.size A c xs hcm _ (by rw [h4.sz]; omega) h4.c2 h4.c3 hF4 hI4 (by omega) (by omega) (by omega) (by omega))
    (fun h k => KeepC.trans h k) (fun W l o o' _ h hc => KeepC.put h hc) (fun _ => rfl) (PcRd.own w1.heap.size xs _)
    (ThI w w1.heap.size bf A A' c c' xs ys) (ThI.own w w1.heap.size bf A A' c c' xs ys _ (by rw [h4.sz]; omega))
    ⟨⟨old_cell (old_cell (old_cell (old_cell c0 _) _) _) _, old_cell (old_cell (old_cell (old_cell c1 _) _) _) _, old_cell (old_cell (old_cell (old_cell c2 _) _) _) _, h4.c1, h4.own⟩, hb4⟩
    (fun x => { tmps := #[.pointer (some ⟨bf, 0, none⟩), .slice A xs.length c, .slice A' xs.length c', .pointer (some ⟨w.heap.size, 0, none⟩), .pointer (some ⟨w.heap.size + 1, 0, none⟩), .pointer (some ⟨w.heap.size + 2, 0, none⟩), .slice none 0 0, .bool false, .pointer (some ⟨w1.heap.size + 1, 0, none⟩), .int .i64 (x.i : Int), .slice x.A x.q.length x.c, undef, undef, .slice A xs.length c, .int .i64 (xs.length : Int), .slice A' xs.length c', .int .i64 (xs.length : Int), .bool false, .bool false, .slice A xs.length c, .bool true, .bool false, .bool false, .slice A xs.length c, .int .i64 (xs.length : Int), .slice (some ⟨w1.heap.size, 0, none⟩) xs.length xs.length, .pointer (some ⟨bf, 0, none⟩), .slice A xs.length c, .func (.func 66) #[] #[.pointer (some ⟨w1.heap.size + 2, 0, none⟩), .pointer (some ⟨w1.heap.size + 3, 0, none⟩)], .int .i64 (x.i : Int), .slice x.A x.q.length x.c, undef, undef, undef, undef, undef, undef, undef, undef, undef, undef, undef, undef, undef, undef, undef, undef, undef, undef, undef, undef, undef, undef, undef], defers := [] }) ?assign ?body ?done
  case assign =>
    intro l x W K hK
    gi_wp2
    exact hK
  case body =>
    rintro lb pre x W ⟨⟨d0, d1, d2, d3, hown⟩, hB⟩ hrd _
    clear h4 hb4 hF4 hI4 c0 c1 c2
    have hacc := accF_ok xs ys pre
    have hql := pc_len x
    have HSN := Lib.hid (accF_snoc xs ys pre x)
    have hqb := pc_bb x
    have hpc : pcF xs ys x = Gf.dv (co ys x.i) (ev (co xs x.i) x.q) := rfl
    obtain ⟨i, hi, Aq, cq, q, hq⟩ := x
    have hF' := hF.below hB hlf
    have hiy : i < ys.length := by rw [← HE.out]; exact hi
    obtain ⟨vx, b, off, hx, hxb, rfl, hb, hcx⟩ := (hI.below hB).sl.at_ hi
    obtain ⟨vy, b2, off2, hy, hyb, rfl, hb2, hcy⟩ := (hI'.below hB).sl.at_ hiy
    dsimp only at hpc hql hqb HSN ⊢
    rw [co_of' hx, co_of' hy] at hpc
    rw [hpc] at HSN
    clear hpc hx hy
    have hrd' : Gw.Own W (w1.heap.size + 1) 5 Aq cq q := hrd
    have hqi := hrd'.inn
    have mixed : Try.prog.follows .mixedOrders = true := by kernel_rfl
    have k0 := cell_regrown d0
    have k1 := cell_regrown d1
    have k2 := cell_regrown d2
    have kx := cell_regrown hcx
    have ky := cell_regrown hcy
    have cQ : ∀ dd os, Calls Try.prog 60 #[.pointer (some ⟨bf, 0, none⟩), .slice Aq q.length cq, .int .u8 (vx : Int)] (grow (redrawn W dd) os) fun e w'' => e = .returned (.int .u8 (ev vx q : Int)) ∧ ∃ p : Regrown, w'' = grow (redrawn W p.d) p.os := fun dd os =>
      Calls.regrown_of (peval' bf Aq cq q.length q vx rfl hxb _ (hF'.below (below_regrown W dd os) hF'.lt) ((hqi.below (below_regrown W dd os)).more (below_regrown W dd os).size) (by rw [hql]; omega))
    have cE : ∀ dd os, Calls Try.prog 59 #[.pointer (some ⟨bf, 0, none⟩), .int .u8 (vy : Int), .int .u8 (ev vx q : Int)] (grow (redrawn W dd) os) fun e w'' => e = .returned (.tuple #[.int .u8 (Gf.dv vy (ev vx q) : Int), .bool (nz (ev vx q))]) ∧ ∃ p : Regrown, w'' = grow (redrawn W p.d) p.os := fun dd os =>
      Calls.regrown_of ((div_any bf vy (ev vx q) hyb (ev_lt hqb _) _ (hF'.below (below_regrown W dd os) hF'.lt)).mono (fun e w'' h => ⟨h.1, by obtain ⟨_, m, rfl⟩ := h; exact Gw.Below.drewN (Below.refl _ _) m⟩))
    have HQL := Lib.hid hql
    have HAC := Lib.hid hacc
    have HC0 := Lib.hid d0
    have HC1 := Lib.hid d1
    have HC2 := Lib.hid d2
    have HOW := Lib.hid hown
    have HRD := Lib.hid hrd'
    have HF2 := Lib.hid hF'
    have HBW := Lib.hid hB
    clear hown hrd' hrd hqi hF' hB d0 d1 d2 hcx hcy hql hacc
    gi_wp2
    refine Gq.region_round_all (C := fun w' => ∃ p : Regrown, w' = grow (redrawn W p.d) p.os) mixed (by kernel_rfl) (by kernel_rfl) ⟨⟨W.drawn + 1, #[]⟩, by rw [grow_empty]; rfl⟩ ?_
    repeat (go_big_quiet_step ((first | (go_at_call 60; exact cQ _ _) | (go_at_call 59; exact cE _ _))))
    refine wpQuiet_nil ?_
    intro _ hw'
    obtain ⟨⟨dq, osq⟩, hw''⟩ := hw'
    subst hw''
    have hbX := below_regrown W dq osq
    obtain ⟨X, hX⟩ : ∃ X, X = grow (redrawn W dq) osq := ⟨_, rfl⟩
    rw [← hX] at hbX ⊢
    clear hX k0 k1 k2 kx ky cQ cE
    have x0 := (hbX.cell (p := ⟨w.heap.size, 0, none⟩) (cell_lt HC0.out)).trans HC0.out
    have x3 := (hbX.cell (p := ⟨w1.heap.size + 1, 0, none⟩) (cell_lt d3)).trans d3
    have HA := Lib.hid (addTimes' bf w1.heap.size 0 xs.length xs.length w1.heap.size xs.length (accF xs ys pre) Aq cq q.length q (Gf.dv vy (ev vx q)) rfl (Gf.gm_lt _ _) X (HF2.out.below hbX HF2.out.lt) (by omega) (HOW.out.kept hbX) (by rw [HAC.out.1, HQL.out]; omega) (by rw [HQL.out]; exact Nat.le_refl _) ((HRD.out.kept hbX).away (by omega)) (by rw [HAC.out.1]; omega))
    gi_wp2_with fail
    refine ⟨trivial, ?_⟩
    refine (CallsIn.inRound lb (callsIn_wide.2 HA.out)).mono ?_
    rintro e W3 ⟨rfl, hown3, hg3⟩
    gi_wp2
    have hk3 : KeepC w1.heap.size W W3 := (KeepC.below hbX).trans (KeepC.by hg3)
    have hbe : Below w.heap.size W W3 := (hbX.mono HBW.out.size).trans (Gw.Below.by hg3 (Nat.le_trans HBW.out.size hbX.size) (by omega))
    refine ⟨(keeps_below hbX).trans (keeps_row (HOW.out.kept hbX) hg3), hk3, ⟨hk3.cell HC0.out (by omega), hk3.cell HC1.out (by omega), hk3.cell HC2.out (by omega), hk3.cell d3 (by omega), ?_⟩, HBW.out.trans hbe⟩
    rw [HSN.out]; exact hown3
  case done =>
    rintro D pre W hD hS ⟨⟨d0, d1, d2, d3, hown⟩, hB⟩ hK
    rw [h4.sz] at hD
    clear h4 hb4 hF4 hI4 c0 c1 c2 d0 d1 d2
    have hacc := accF_ok xs ys pre
    have HT := Lib.hid (ptrim' (some ⟨w1.heap.size, 0, none⟩) xs.length xs.length (accF xs ys pre) W _ hacc.1.symm hown.inn (by rw [hacc.1]; omega))
    have HA := Lib.hid (accF_all hI.bb hI'.bb (of_decide_eq_true hun) hS)
    have HO := Lib.hid hown.tr
    clear hown hacc
    gi_wp2_with fail
    refine ⟨trivial, ?_⟩
    refine (callsIn_wide.2 HT.out).mono ?_
    rintro e W2 ⟨rfl, rfl⟩
    gi_wp2
    refine ⟨by simp, .inl ⟨_, _, rfl, run_takeDeferred hK, ?_⟩⟩
    have hb2 : Below w.heap.size W (W.putObj D (.deferred none)) := belowK_b (w := w) (Nat.le_refl _) W D _ _ (by omega) hK rfl rfl
    have ho := own_turned HO.out (grownBy_putObj' W D (.deferred none)) (fun r e => by cases e; exact ⟨_, hK, rfl⟩)
    rw [HA.out] at ho ⊢
    exact ⟨_, results_tmp2 rfl _ _ _, _, _, rfl, ho.base (by omega), hB.trans hb2⟩
/-- The polynomial through points. -/
theorem pthr_any (bf : Nat) (A A' : Option Addr) (c c' : Nat) (xs ys : List Nat) (w : World) (hF : IsField w bf) (hI : In w w.heap.size A c xs) (hI' : In w w.heap.size A' c' ys) (hcm : xs.length ≤ 70368744177664) (he : xs.length = ys.length) (hun : unB xs = true) :
    Calls Try.prog 42 #[.pointer (some ⟨bf, 0, none⟩), .slice A xs.length c, .slice A' ys.length c'] w fun e w' =>
      ∃ A2 c2, e = .returned (.tuple #[.slice A2 (thr xs ys).length c2, .bool true]) ∧ Gw.Own w' w.heap.size 5 A2 c2 (thr xs ys) ∧ Below w.heap.size w w' :=
  callsIn_wide.1 (pthr_in bf A A' c c' xs ys w hF hI hI' hcm he hun)
end Go.Proofs.Ytaknffdokkfmgaa
end
section
/- What poly's Add and Mul do: the sum and the product, without noughts at the end, in memory of their own. -/
namespace Go.Proofs.Ytaknffdokkfmgaa
open Go.RowKit Go.Shelf Gw Pol

theorem co_pad (p : List Nat) (n j : Nat) : co (p ++ List.replicate n 0) j = co p j := by
  by_cases h : j < p.length
  · exact co_append_left h
  · rw [co_append_right (by omega), co_far (p := p) (by omega)]
    unfold co
    rw [List.getD_eq_getElem?_getD, List.getElem?_replicate]
    split <;> rfl
theorem padd_tr {p q L : List Nat} (hq : BB q) (hL : ∀ j, co L j = co p j) (hn : q.length ≤ L.length) : tr (addAt L 0 1 q) = tr (add p q) := tr_ext fun j => by
  rw [co_addAt 1 (by omega), co_add, hL, if_pos (Nat.zero_le _), Nat.sub_zero, Gf.gm_one_left (hq.co j)]

def PaRel (w : World) (n : Nat) (L q : List Nat) (i : Value) (wr : World) : Prop :=
  ∃ k : Nat, k ≤ q.length ∧ i = .int .i64 (k : Int) ∧ Gw.Own wr w.heap.size 5 (some ⟨w.heap.size, 0, none⟩) n (addAt L 0 1 (q.take k)) ∧ Below w.heap.size w wr
set_option maxRecDepth 100000 in
set_option maxHeartbeats 1000000 in
theorem padd_any (A A' : Option Addr) (c c' : Nat) (p q : List Nat) (w : World) (hp : In w w.heap.size A c p) (hq : In w w.heap.size A' c' q) (hcm : p.length + q.length ≤ 140737488355328) :
    Calls Try.prog 44 #[.slice A p.length c, .slice A' q.length c'] w fun e w' => ∃ A2 c2, e = .returned (.slice A2 (tr (add p q)).length c2) ∧ Gw.Own w' w.heap.size 5 A2 c2 (tr (add p q)) ∧ Below w.heap.size w w' := by
  have hu := Try.underlying28
  obtain ⟨n, hn⟩ : ∃ n, n = max p.length q.length := ⟨_, rfl⟩
  have hpn : p.length ≤ n := by omega
  have hqn : q.length ≤ n := by omega
  have hnb : n ≤ 140737488355328 := by omega
  have hmk := run_make_row' (P := Try.prog) 28 5 (.int .u8 0) 1 Try.underlying28 pbyte_info rfl .i64 .i64 n (by omega) (by omega)
  obtain ⟨L, hL⟩ : ∃ L, L = p ++ List.replicate (n - p.length) 0 := ⟨_, rfl⟩
  have HL := Lib.hid (show L.length = n by rw [hL]; simp; omega)
  have HC := Lib.hid (show ∀ j, co L j = co p j by rw [hL]; exact co_pad p _)
  have hpq : (p.length < q.length ∧ n = q.length) ∨ (¬ p.length < q.length ∧ n = p.length) := by omega
  clear hn
  rcases hpq with ⟨hpq, hn⟩ | ⟨hpq, hn⟩
  all_goals (
    obtain ⟨w2, hcp, hown0, hB2⟩ := run_copied (P := Try.prog) (w := w) 28 3 5 Try.underlying28 pbyte_size n p.length c hp.sl (Nat.le_refl _) rfl hpn hnb
    rw [← hL] at hown0
    clear hL
    have HN := Lib.hid hn
    rw [hn] at hmk hcp
    clear hn
    go_enter Try.func44, Try.ntmps44
    go_wp2
    clear hmk hcp
    go_loopw [19] (PaRel w n L q) (fun i _ => q.length - (intOf i).toNat)
    case atStart => exact ⟨0, Nat.zero_le _, rfl, by rw [List.take_zero, addAt_nil]; exact hown0, hB2⟩
    case round =>
      obtain ⟨k, hk, rfl, hown', hbel⟩ := hrel
      by_cases hlt : k < q.length
      · obtain ⟨x, b, off, hx, hxb, rfl, hb, hcell⟩ := (hq.below hbel).sl.at_ hlt
        have hkl : 0 + k < (addAt L 0 1 (q.take k)).length := by rw [addAt_len, HL.out]; omega
        have hfitl : 0 + q.length ≤ L.length := by rw [HL.out]; omega
        have hcg := hown'.cell hkl
        have hfr := Own.frozen hown' (0 + k)
        have hvl := hown'.2.co (0 + k)
        obtain ⟨v, hv⟩ : ∃ v, v = co (addAt L 0 1 (q.take k)) (0 + k) := ⟨_, rfl⟩
        rw [← hv] at hcg hvl
        have hxor : bits .xor .u8 (v : Int) (x : Int) = ((v ^^^ x : Nat) : Int) := u8_xor_nat _ _ hvl hxb
        have hset := hown'.put hkl (Gf.xor_lt hvl (Gf.gm_lt 1 x))
        rw [hv, addAt_snoc hfitl hx, ← hv, Gf.gm_one_left hxb] at hset
        rw [Nat.zero_add] at hset hcg hfr
        have HS := Lib.hid hset
        have HG := Lib.hid (hbel.setCell (p := ⟨w.heap.size, k, none⟩) (Nat.le_refl _) (.int .u8 ((v ^^^ x : Nat) : Int)))
        have hkn : k < n := by omega
        have hkn2 := hkn
        rw [HN.out] at hkn2
        clear hset hx hv hown' hkl hfitl
        go_wp2
        go_roundw
        case rel => exact ⟨k + 1, by omega, by go_num, HS.out, HG.out⟩
        case measure => simp [intOf]; omega
      · obtain rfl : k = q.length := by omega
        rw [List.take_length] at hown'
        have hin := hown'.inn
        rw [HN.out] at hin
        have HI := Lib.hid hin
        have HO := Lib.hid hown'.tr
        clear hin hown'
        go_wp2_with fail
        refine (ptrim' (some ⟨w.heap.size, 0, none⟩) _ _ _ _ _ (by rw [← HN.out, addAt_len, HL.out]) HI.out (by rw [addAt_len, HL.out]; exact hnb)).mono ?_
        rintro e w' ⟨rfl, rfl⟩
        go_wp2
        go_ret
        have ho := HO.out
        rw [padd_tr hq.bb HC.out (by rw [HL.out]; exact hqn)] at ho
        refine ⟨_, n, ?_, ho, hbel⟩
        rw [← HN.out, padd_tr hq.bb HC.out (by rw [HL.out]; exact hqn)]; rfl)
theorem padd' (A A' : Option Addr) (c c' n m : Nat) (p q : List Nat) (w : World) (hn : n = p.length) (hm : m = q.length) (hp : In w w.heap.size A c p) (hq : In w w.heap.size A' c' q) (hcm : p.length + q.length ≤ 140737488355328) :
    Calls Try.prog 44 #[.slice A n c, .slice A' m c'] w fun e w' => ∃ A2 c2, e = .returned (.slice A2 (tr (add p q)).length c2) ∧ Gw.Own w' w.heap.size 5 A2 c2 (tr (add p q)) ∧ Below w.heap.size w w' := by
  subst hn hm; exact padd_any A A' c c' p q w hp hq hcm
end Go.Proofs.Ytaknffdokkfmgaa
end
section
/- deal: Share, where there are as many random bytes as there should be. -/
namespace Gw
open Go Go.RowKit Go.Shelf
theorem KpR.turned {g R : Nat} {A B C : World} {row : Option Nat} (h : KpR g R A B) (hg : B.grownBy C row) (hgB : g < B.heap.size) (hr : ∀ r, row = some r → r ≠ g ∧ ∃ o : Obj, B.heap[r]? = some o ∧ o.isCells = false) : KpR g R A C := by
  have hgb : C.heap[g]? = B.heap[g]? := hg.block g hgB (fun e => (hr g e.symm).1 rfl)
  refine ⟨Nat.le_trans h.size hg.size, fun b ob h1 h2 h3 => ?_, fun h1 b hb => (h.new h1 b (Nat.le_trans hg.size hb)).same hgb⟩
  obtain ⟨h4, h5⟩ := h.keep b ob h1 h2 h3
  refine ⟨(hg.block b (Array.getElem?_eq_some_iff.1 h4).1 (fun e => ?_)).trans h4, h5.same hgb⟩
  obtain ⟨_, o, h6, h7⟩ := hr b e.symm
  rw [h4] at h6; injection h6 with h6; subst h6; rw [h2] at h7; cases h7
theorem KpR.innB {g R : Nat} {A B : World} (h : KpR g R A B) {n c : Nat} {ad : Option Addr} {l : List Nat} (hs : In A n ad c l) (hb : ∀ b, b < n → NotT g R A b) : In B n ad c l :=
  ⟨fun i x hx => by
    obtain ⟨h1, b, off, h2, h3, h4⟩ := hs.sl i x hx
    exact ⟨h1, b, off, h2, h3, h.cell h4 (hb b h3)⟩, hs.cap, hs.none_⟩
theorem KpR.min {g R : Nat} {A B : World} (h : KpR g R A B) {n c m : Nat} {ad : Option Addr} {pa : Nat → Option Addr} {cp : Nat → Nat} {l : Nat → List Nat} (hs : MIn A n ad c m pa cp l) (hb : ∀ b, b < n → NotT g R A b) : MIn B n ad c m pa cp l :=
  ⟨fun i hi => by
    obtain ⟨b, off, h1, h2, h3, h4⟩ := hs.rd i hi
    exact ⟨b, off, h1, h2, h.cell h3 (hb b h2), h.innB h4 hb⟩, hs.cap, hs.none_⟩
end Gw
namespace Go.Proofs.Ytaknffdokkfmgaa
open Go.RowKit Go.Shelf Gw Pol
attribute [local go_sem] Oper.semAt_some
theorem secL_un (n k : Nat) : unB (secL n k) = true := decide_eq_true (List.Pairwise.map _ (fun a b h => by omega) (List.nodup_range (n := k)))
theorem add_turn (p q : List Nat) : tr (add p q) = tr (add q p) := tr_ext fun i => by rw [co_add, co_add, Nat.xor_comm]
theorem pthr' (bf : Nat) (A A' : Option Addr) (c c' n m : Nat) (xs ys : List Nat) (w : World) (hn : n = xs.length) (hm : m = ys.length) (hF : IsField w bf) (hI : In w w.heap.size A c xs) (hI' : In w w.heap.size A' c' ys) (hcm : xs.length ≤ 70368744177664) (he : xs.length = ys.length) (hun : unB xs = true) (nl : Nat) (hnl : nl = (thr xs ys).length) :
    Calls Try.prog 42 #[.pointer (some ⟨bf, 0, none⟩), .slice A n c, .slice A' m c'] w fun e w' =>
      ∃ A2 c2, e = .returned (.tuple #[.slice A2 nl c2, .bool true]) ∧ Gw.Own w' w.heap.size 5 A2 c2 (thr xs ys) ∧ Below w.heap.size w w' := by
  subst hn hm hnl; exact pthr_any bf A A' c c' xs ys w hF hI hI' hcm he hun
def TOs (base n : Nat) (l : List Nat) : Value → World → Prop := fun v w => ∃ A c, v = .tuple #[.slice A n c, .bool true] ∧ Gw.Own w base 5 A c l
theorem TOs.mono (base n : Nat) (l : List Nat) : Gt.Mono (TOs base n l) := by
  rintro v w w' ⟨A, c, h1, h2⟩ hg
  exact ⟨A, c, h1, h2.kept hg⟩
/-- Between two rounds. -/
def ShI (w w5 : World) (g n : Nat) (L : Nat → List Nat) (pre : List Mp) (W : World) : Prop :=
  ∃ (pb : Nat → Option Addr) (cb : Nat → Nat), Otb W (w.heap.size + 2) 5 g n pb cb (shRow L pre.length) ∧ KpR g n w5 W ∧ g < W.heap.size ∧ Below w.heap.size w W ∧ w.heap.size + 2 ≤ W.heap.size ∧ pre.map Mp.i = List.range pre.length
theorem ShI.own (w w5 : World) (g n : Nat) (L : Nat → List Nat) (B : Nat) (hB : w.heap.size ≤ B) (hg : g < B) : OwnFrom B (ShI w w5 g n L) := by
  rintro pre A D row ⟨pb, cb, h1, h2, h3, h4, h5, h6⟩ hgr hr
  have hr' : ∀ r, row = some r → ∃ o : Obj, A.heap[r]? = some o ∧ o.isCells = false := fun r e => (hr r e).2
  exact ⟨pb, cb, h1.turned hgr hr', h2.turned hgr h3 (fun r e => ⟨by have := (hr r e).1; omega, hr' r e⟩), Nat.lt_of_lt_of_le h3 hgr.size, ownFrom_below (β := Nat) (Nat.le_refl _) hB 0 A D row h4 hgr hr, Nat.le_trans h5 hgr.size, h6⟩
set_option maxRecDepth 100000 in
set_option maxHeartbeats 2000000 in
theorem dshare_in (n t k : Nat) (E R : Int) (bf : Nat) (A Ar : Option Addr) (c cr N nr C : Nat) (d rnd : List Nat) (hn0 : 0 < n) (ht : 1 ≤ t) (hk : 1 ≤ k) (htk : t + k ≤ 255) (hnk : n + k ≤ 255) (hN : N = d.length) (hnr : nr = rnd.length) (w : World) (hF : IsField w bf) (hI : In w w.heap.size A c d) (hIr : In w w.heap.size Ar cr rnd)
    (hC : C = Sp.cnt N k) (hlen : rnd.length = t * C) (hNb : N ≤ 4096) :
    CallsIn Fence.wide 6 Try.prog 20 #[.pointer (some ⟨bf, 0, none⟩), pv (n : Int) (t : Int) (k : Int) E R, .slice A N c, .slice Ar nr cr] w fun e w' =>
      ∃ A2 c2 pa cp, e = .returned (.tuple #[.slice A2 n c2, .bool true]) ∧ MIn w' w'.heap.size A2 c2 n pa cp (shRow (polL n k t d rnd) C) ∧ Below w.heap.size w w' := by
  obtain ⟨w0, hw0⟩ : ∃ w0, w0 = (w.alloc (.cells #[.pointer (some ⟨bf, 0, none⟩)] 38)).alloc (.cells #[.int .i64 (n : Int), .int .i64 (t : Int), .int .i64 (k : Int), .int .i64 E, .int .i64 R] 23) := ⟨_, rfl⟩
  have hs0 : w0.heap.size = w.heap.size + 2 := by rw [hw0]; simp
  have hb0 : Below w.heap.size w w0 := by rw [hw0]; exact ((Below.refl _ w).alloc (Nat.le_refl _) _).alloc (by simp) _
  have hP0 : Pbx w0 (w.heap.size + 1) n t k E R := by
    have := Pbx.new (w.alloc (.cells #[.pointer (some ⟨bf, 0, none⟩)] 38)) 23 n t k E R
    rw [World.size_alloc] at this
    rw [hw0]; exact this
  have hc0 : w0.cell? ⟨w.heap.size, 0, none⟩ = some (.pointer (some ⟨bf, 0, none⟩)) := by rw [hw0]; exact old_cell (new_cell w _ _ _ rfl) _
  have hCb : C ≤ 4096 := by rw [hC]; exact Nat.le_trans (Sp.cnt_le N k) hNb
  have HNR := Lib.hid hnr
  have HN := Lib.hid hN
  have HLEN := Lib.hid hlen
  have HC := Lib.hid hC
  have hnl : nr = t * C := by rw [hnr, hlen]
  have hnrb : nr ≤ 1044480 := by rw [hnl]; exact Nat.le_trans (Nat.mul_le_mul (show t ≤ 255 by omega) hCb) (by decide)
  have HNL := Lib.hid hnl
  have HS := Lib.hid (ssplit_any A c N k d w0 hN ((hI.below hb0).more hb0.size) (by omega) (by omega))
  rw [← hC] at HS
  have HP0 := Lib.hid hP0
  have hmk := run_make_row' (P := Try.prog) 35 28 (.slice none 0 0) 24 Try.underlying35 srow_info rfl .i64 .i64 n (by omega) (by omega)
  have HIX := Lib.hid hI
  have HIR := Lib.hid hIr
  have HFF := Lib.hid hF
  obtain ⟨c0, c1, c2, c3, c4⟩ := hP0
  clear hnr hN hlen hC hnl hI hIr hF
  refine callsIn_of_wp_marks Try.func20 rfl trivial ?_ rfl
  simp only [Try.ntmps20, List.size_toArray, List.length_cons, List.length_nil, Nat.reduceAdd, Nat.reduceSub, Array.replicate_succ, Array.replicate_zero, List.push_toArray, List.append_toArray, List.nil_append, List.cons_append]
  gi_wp2_with fail
  rw [← hw0]
  refine ⟨trivial, ?_⟩
  refine (callsIn_wide.2 HS.out).mono ?_
  rintro e w1 ⟨As, cs, ps, qs, rfl, hcs⟩
  obtain ⟨w2, hw2⟩ : ∃ w2, w2 = w1.alloc (.cells #[.slice As C cs] 35) := ⟨_, rfl⟩
  have hb2 : Below w0.heap.size w0 w2 := by rw [hw2]; exact hcs.bel.alloc hcs.bel.size _
  have hs1 := hcs.bel.size
  have hs2 : w2.heap.size = w1.heap.size + 1 := by rw [hw2]; simp
  have g2 : w2.cell? ⟨w1.heap.size, 0, none⟩ = some (.slice As C cs) := by rw [hw2]; exact new_cell _ _ _ _ rfl
  have hm2 : MIn w2 w1.heap.size As cs C ps qs (Sp.col d k) := by rw [hw2]; exact hcs.min.below ((Below.refl _ _).alloc (Nat.le_refl _) _)
  have HP2 := Lib.hid (HP0.out.below hb2 HP0.out.lt)
  have hc2 := (hb2.cell (p := ⟨w.heap.size, 0, none⟩) (cell_lt hc0)).trans hc0
  have HB2 := Lib.hid (hb0.trans (hb2.mono (by omega)))
  have HND := Lib.hid (dneed_in n t k E R 1 ht htk C nr (by rw [HNL.out]; rfl) hCb w2)
  have HM2 := Lib.hid hm2
  clear c0 c1 c2 c3 c4 hc0 hb0 hb2 HS hcs HP0 hm2 hw0
  obtain ⟨c0, c1, c2, c3, c4⟩ := HP2.out
  rw [hw2] at c0 c1 c2 c3 c4
  gi_wp2_with fail
  rw [← hw2]
  clear hw2 c0 c1 c2 c3 c4
  refine ⟨trivial, ?_⟩
  refine (callsIn_wide.2 HND.out).mono ?_
  rintro e w3 ⟨rfl, hb3⟩
  have hs3 := hb3.size
  have HP3 := Lib.hid (HP2.out.below hb3 HP2.out.lt)
  have hc3 := (hb3.cell (p := ⟨w.heap.size, 0, none⟩) (cell_lt hc2)).trans hc2
  have g3 := (hb3.cell (p := ⟨w1.heap.size, 0, none⟩) (cell_lt g2)).trans g2
  have HB3 := Lib.hid (HB2.out.trans (hb3.mono (by omega)))
  have HM3 := Lib.hid (HM2.out.below (hb3.mono (by omega)))
  clear hc2 g2 hb3 HB2 HM2 HP2 HND
  obtain ⟨c0, c1, c2, c3, c4⟩ := HP3.out
  have HSE := Lib.hid (dsec_in n k t E R hnk w3)
  gi_wp2_with fail
  refine ⟨trivial, ?_⟩
  refine (callsIn_wide.2 HSE.out).mono ?_
  rintro e w4 ⟨Az, cz, rfl, hz4, hb4⟩
  have hs4 := hb4.size
  obtain ⟨w5, hw5⟩ : ∃ w5, w5 = ((w4.alloc (.cells #[.slice Az k cz] 28)).alloc (.cells (madeCells #[.slice none 0 0] n) 28)).alloc (.cells #[.slice (some ⟨w4.heap.size + 1, 0, none⟩) n n] 35) := ⟨_, rfl⟩
  have hs5 : w5.heap.size = w4.heap.size + 3 := by rw [hw5]; simp
  have hO5 : Otb w5 (w.heap.size + 2) 5 (w4.heap.size + 1) n (fun _ => none) (fun _ => 0) (fun _ => []) := by
    have := (Otb.made (w4.alloc (.cells #[.slice Az k cz] 28)) 28 5 n (w.heap.size + 2) (by simp; omega)).below ((Below.refl _ _).alloc (Nat.le_refl _) (.cells #[.slice (some ⟨w4.heap.size + 1, 0, none⟩) n n] 35))
    rw [World.size_alloc] at this
    rw [hw5]; exact this
  have hb45 : Below w4.heap.size w4 w5 := by rw [hw5]; exact (((Below.refl _ _).alloc (Nat.le_refl _) _).alloc (by simp) _).alloc (by simp; omega) _
  have g5 : w5.cell? ⟨w4.heap.size, 0, none⟩ = some (.slice Az k cz) := by rw [hw5]; exact old_cell (old_cell (new_cell _ _ _ _ rfl) _) _
  have f5 : w5.cell? ⟨w4.heap.size + 1 + 1, 0, none⟩ = some (.slice (some ⟨w4.heap.size + 1, 0, none⟩) n n) := by rw [hw5]; exact new_cell _ _ _ _ (by simp)
  have hb35 : Below w3.heap.size w3 w5 := hb4.trans (hb45.mono hs4)
  have HP5 := Lib.hid (HP3.out.below hb35 HP3.out.lt)
  have hc5 := (hb35.cell (p := ⟨w.heap.size, 0, none⟩) (cell_lt hc3)).trans hc3
  have d5 := (hb35.cell (p := ⟨w1.heap.size, 0, none⟩) (cell_lt g3)).trans g3
  have HB5 := Lib.hid (HB3.out.trans (hb35.mono (by omega)))
  have HM5 := Lib.hid (HM3.out.below (hb35.mono (by omega)))
  have HZ5 := Lib.hid ((hz4.inn.below hb45))
  have HO5 := Lib.hid hO5
  have e0 := c0
  have HC0 := Lib.hid ((hb4.cell (p := ⟨w.heap.size + 1, 0, none⟩) (cell_lt c0)).trans c0)
  clear e0 c0 c1 c2 c3 c4 hc3 g3 hb35 hb45 hb4 HSE HB3 HM3 HP3 hz4 hO5
  have k0 := old_cell HC0.out (.cells #[.slice Az k cz] 28)
  obtain ⟨c0, c1, c2, c3, c4⟩ := HP5.out
  have y5 := hc5
  have z5 := g5
  rw [hw5] at c1 y5 z5
  gi_wp2_with fail
  rw [← hw5]
  clear hw5 c0 c1 c2 c3 c4 y5 z5 k0 HC0 hmk
  refine ⟨trivial, ?_⟩
  refine (callsIn_wide.2 (dmul_is bf Az Ar k cz nr cr t w5 w5.heap.size (Nat.le_refl _))).mono ?_
  rintro e w6 ⟨v, rfl, hb6, b, hbb, rfl, g0, g1, g2, g3⟩
  gi_wp2
  have hO6 := HO5.out.below hb6
  have hs6 := hb6.size
  have hb6w : Below w.heap.size w w6 := HB5.out.trans (hb6.mono (by omega))
  have hF6 := HFF.out.below hb6w HFF.out.lt
  have hZ6 := HZ5.out.below (hb6.mono (by omega))
  have hIr6 := (HIR.out.below hb6w).more hb6w.size
  have d0 := (hb6.cell (p := ⟨w.heap.size, 0, none⟩) (cell_lt hc5)).trans hc5
  have d1 := (hb6.cell (p := ⟨w1.heap.size, 0, none⟩) (cell_lt d5)).trans d5
  have d2 := (hb6.cell (p := ⟨w4.heap.size, 0, none⟩) (cell_lt g5)).trans g5
  have d3 := (hb6.cell (p := ⟨w4.heap.size + 1 + 1, 0, none⟩) (cell_lt f5)).trans f5
  have hM6 := HM5.out.below (hb6.mono (by omega))
  have hblt := cell_lt g0
  have hbf := HFF.out.lt
  have hNN : ∀ y, y ≠ w4.heap.size + 1 → NotT (w4.heap.size + 1) n w6 y := fun y hy => hO6.notT.2 ⟨hy, fun _ _ _ e => by cases e⟩
  have HO6 := Lib.hid hO6
  have HNN := Lib.hid hNN
  have HF6 := Lib.hid hF6
  have HZ6 := Lib.hid hZ6
  have HM6 := Lib.hid hM6
  have HD0 := Lib.hid d0
  have HD1 := Lib.hid d1
  have HD2 := Lib.hid d2
  have HD3 := Lib.hid d3
  obtain ⟨L, hL⟩ : ∃ L, L = polL n k t d rnd := ⟨_, rfl⟩
  have HL := Lib.hid hL
  obtain ⟨Z, hZ⟩ : ∃ Z, Z = timL (rt (secL n k)) rnd t := ⟨_, rfl⟩
  have HZ := Lib.hid hZ
  have hlen' : C * t ≤ rnd.length := by rw [HLEN.out, Nat.mul_comm]; exact Nat.le_refl _
  have hZl : ∀ i, i < C → (Z i).length ≤ 600 := fun i hi => by
    have h1 := timL_small (fac := rt (secL n k)) hlen' hi
    rw [(rt_top _).1, secL_len] at h1
    rw [hZ]; omega
  have hLe : ∀ i, tr (add (thr (secL n k) (Sp.col d k i)) (Z i)) = L i := fun i => by rw [hL, hZ, add_turn]; rfl
  have hLl : ∀ i, i < C → (L i).length ≤ 1200 := fun i hi => by
    have h1 := hZl i hi
    have h2 := thr_small (secL n k) (Sp.col d k i)
    rw [secL_len] at h2
    rw [← hLe]
    exact Nat.le_trans (tr_len _) (by rw [add_len]; omega)
  have HLE := Lib.hid hLe
  clear hO6 hNN hF6 hM6 hL hZ hLe hc5 d5 g5 f5 HB5 HM5 HZ5 HO5 HP5 d0 d1 d2 d3
  refine Gq.range_pre (by omega) (gf := 54) (lb := #[.pointer (some ⟨b, 0, none⟩), .pointer (some ⟨b + 1, 0, none⟩), .pointer (some ⟨b + 2, 0, none⟩), .pointer (some ⟨b + 3, 0, none⟩)]) rfl (enters_of Try.func54 (by kernel_rfl) rfl)
    (dmul_pre (6 - 1) (by omega) (w4.heap.size + 1) n b (b + 1) (b + 2) (b + 3) bf Az Ar cz cr k nr t C (secL n k) rnd w6 (by omega) HO6.out.fresh g0 g1 g2 g3 (HNN.out b (by omega)) (HNN.out bf (by omega)) HF6.out (secL_len n k).symm HNR.out (HZ6.out.more (by omega)) hIr6 (by omega) (by omega) HLEN.out hCb (by rw [secL_len]; omega))
    (fun h k => KpR.trans h k) (fun W l o o' hl h hc => KpR.put (by omega) h hc) (fun _ => rfl) (fun pre => MpRd.own _ _ _ _ (by omega) _ _ _ _ pre)
    (ShI w w6 (w4.heap.size + 1) n L) (ShI.own w w6 _ n L _ (by omega) (by omega))
    ⟨fun _ => none, fun _ => 0, HO6.out.congr (fun _ _ => rfl), KpR.refl _ _ _, by omega, hb6w, by omega, rfl⟩
    (fun x => { tmps := #[.pointer (some ⟨bf, 0, none⟩), pv (n : Int) (t : Int) (k : Int) E R, .slice A N c, .slice Ar nr cr, .pointer (some ⟨w.heap.size, 0, none⟩), .pointer (some ⟨w.heap.size + 1, 0, none⟩), undef, undef, .slice none 0 0, .bool false, .pointer (some ⟨w1.heap.size, 0, none⟩), .pointer (some ⟨w4.heap.size, 0, none⟩), .pointer (some ⟨w4.heap.size + 1 + 1, 0, none⟩), .int .i64 (x.i : Int), .slice x.A (timL (rt (secL n k)) rnd t x.i).length x.c, undef, undef, .slice A N c, .pointer (some ⟨w.heap.size + 1, 2, none⟩), .int .i64 (k : Int), .slice As C cs, .slice Ar nr cr, .int .i64 (nr : Int), .agg #[.int .i64 (n : Int), .int .i64 (t : Int), .int .i64 (k : Int), .int .i64 E, .int .i64 R], .slice As C cs, .int .i64 (C : Int), .int .i64 (nr : Int), .bool false, .agg #[.int .i64 (n : Int), .int .i64 (t : Int), .int .i64 (k : Int), .int .i64 E, .int .i64 R], .slice Az k cz, .pointer (some ⟨w.heap.size + 1, 0, none⟩), .int .i64 (n : Int), .slice (some ⟨w4.heap.size + 1, 0, none⟩) n n, .pointer (some ⟨bf, 0, none⟩), .slice Az k cz, .slice Ar nr cr, .pointer (some ⟨w.heap.size + 1, 1, none⟩), .int .i64 (t : Int), .func (.func 54) #[] #[.pointer (some ⟨b, 0, none⟩), .pointer (some ⟨b + 1, 0, none⟩), .pointer (some ⟨b + 2, 0, none⟩), .pointer (some ⟨b + 3, 0, none⟩)], .int .i64 (x.i : Int), .slice x.A (timL (rt (secL n k)) rnd t x.i).length x.c, undef, undef, undef, undef, undef, undef, undef, undef, undef, undef, undef, undef, undef, undef, undef, undef, undef], defers := [] }) ?assign ?body ?done
  case assign =>
    intro l x W K hK
    gi_wp2
    exact hK
  case body =>
    rintro lb pre x W ⟨pb, cb, hOW, hQ, hgW, hBW, hWs, hpre⟩ ⟨hxi, hxC, hown, _, hNx⟩
    clear g0 g1 g2 g3 hIr6 hZ6 hb6w hb6
    rw [hxi, ← HZ.out] at hown
    obtain ⟨q, hq⟩ : ∃ q, q = pre.length := ⟨_, rfl⟩
    rw [← hq] at hown hOW hpre
    rw [hxi, ← hq, ← HZ.out]
    rw [hxi, ← hq] at hxC
    have hZq := hZl q hxC
    have hLq := hLl q hxC
    obtain ⟨nz, hnz⟩ : ∃ nz, nz = (Z q).length := ⟨_, rfl⟩
    rw [← hnz]
    obtain ⟨nl, hnl⟩ : ∃ nl, nl = (L q).length := ⟨_, rfl⟩
    obtain ⟨nt, hnt⟩ : ∃ nt, nt = (thr (secL n k) (Sp.col d k q)).length := ⟨_, rfl⟩
    rw [← hnz] at hZq
    rw [← hnl] at hLq
    have hntk : nt ≤ k := by have := thr_small (secL n k) (Sp.col d k q); rw [secL_len] at this; omega
    have hcap := HM6.out.cap
    obtain ⟨bs, os, hAs, hbs, hcs0, hrs0⟩ := HM6.out.rd q hxC
    rw [Sp.col_len] at hcs0
    have HQ := Lib.hid hQ
    have HOW := Lib.hid hOW
    have HBW := Lib.hid hBW
    have HPRE := Lib.hid hpre
    have HXI := Lib.hid (hxi.trans hq.symm)
    have HQE := Lib.hid hq
    have HNZ := Lib.hid hnz
    have HNL2 := Lib.hid hnl
    have HNT := Lib.hid hnt
    have HOWN := Lib.hid hown
    have HRS := Lib.hid hrs0
    have HCS := Lib.hid hcs0
    clear hQ hOW hBW hpre hxi hq hnz hnl hnt hown hrs0 hcs0
    subst hAs
    have hqC : (q : Int) < (C : Int) := by omega
    gi_wp2
    refine Gt.regionJI (fun w7 => Below W.heap.size W w7) [] [Gt.Is (.pointer (some ⟨bf, 0, none⟩)), Gt.Is (.slice Az k cz), Gt.Is (.slice (some ⟨bs, os, none⟩) C cs), Gt.Is (.int .i64 (q : Int)), Gt.Is (.pointer (some ⟨bs, os + q, none⟩)), Gt.Is (.slice (ps q) k (qs q)), TOs W.heap.size nt (thr (secL n k) (Sp.col d k q)), TOs W.heap.size nt (thr (secL n k) (Sp.col d k q)), OIs W.heap.size nt (thr (secL n k) (Sp.col d k q)), Gt.Is (.bool true), OIs W.heap.size nt (thr (secL n k) (Sp.col d k q)), Gt.Is (.bool true)] 58 12
      [⟨[], [4], none⟩, ⟨[], [11], none⟩, ⟨[], [10], none⟩, ⟨[], [13], none⟩, ⟨[(2, 44), (3, 45)], [], none⟩, ⟨[(4, 46)], [], none⟩, ⟨[(0, 42), (1, 43), (5, 47)], [], none⟩, ⟨[(6, 48)], [], none⟩, ⟨[(7, 41)], [], none⟩, ⟨[(7, 41)], [], none⟩, ⟨[(8, 49)], [], none⟩, ⟨[(9, 50)], [], none⟩]
      [(0, 42), (1, 43), (2, 44), (3, 45), (4, 46), (5, 47), (6, 48), (7, 41), (8, 49), (9, 50), (10, 15), (11, 16)] (by kernel_rfl) (by kernel_rfl) (by kernel_rfl) (by kernel_rfl) (by kernel_rfl) (by kernel_rfl) ?_ ?_ ?_ ?_ ?_
    · refine Gt.Laws.grow (fun w7 w8 h5 h6 => h5.trans (Below.mono h6 (Below.size h5))) ?_
      simp only [Gt.Monos]
      repeat' apply And.intro
      all_goals (first | exact trivial | exact Gt.Is.mono _ | exact OIs.mono _ _ _ | exact TOs.mono _ _ _)
    · exact (Below.refl _ W).drew
    · intro x5 hx5
      cases hx5
    · simp only [List.take_succ_cons, List.take_zero, Gt.ObsJ]
      repeat' apply And.intro
      all_goals try exact trivial
      all_goals (
        intro a w7 hS _
        have hS' : Below W.heap.size W w7 := hS
        have hk7 := HQ.out.trans (KpR.below hS' hgW)
        have k0 := hk7.cell HD0.out (HNN.out _ (by omega))
        have k1 := hk7.cell HD1.out (HNN.out _ (by omega))
        have k2 := hk7.cell HD2.out (HNN.out _ (by omega))
        have k4 := hk7.cell HCS.out (HNN.out _ (by omega))
        simp only [Gt.Pre, Gt.Kept, Gt.Guarded, Gt.tys, List.getD_cons_zero, List.getD_cons_succ, Gt.Is, Nat.zero_add, Nat.reduceAdd]
        intros)
      all_goals (first
        | exact Gt.ok_move rfl (by assumption)
        | exact Gt.ok_assign rfl (by assumption)
        | (refine Gt.ok_call (f := 42) rfl #[.pointer (some ⟨bf, 0, none⟩), .slice Az k cz, .slice (ps q) k (qs q)] (by kernel_rfl) (by simp [*] <;> rfl) ((pthr' bf Az (ps q) cz (qs q) k k (secL n k) (Sp.col d k q) w7 (secL_len n k).symm (Sp.col_len d k q).symm (hk7.row HF6.out (HNN.out _ (by omega))) ((hk7.innB HZ6.out (fun y hy => HNN.out y (by omega))).more (Nat.le_trans (show w4.heap.size ≤ w6.heap.size by omega) hk7.size)) ((hk7.innB HRS.out (fun y hy => HNN.out y (by omega))).more (Nat.le_trans (show w1.heap.size ≤ w6.heap.size by omega) hk7.size)) (by rw [secL_len]; omega) (by rw [secL_len, Sp.col_len]) (secL_un n k) nt HNT.out).mono ?_)
           rintro e w8 ⟨A8, c8, rfl, ho8, hb8⟩
           exact ⟨_, rfl, hb8, A8, c8, rfl, ho8.base hS'.size⟩)
        | (obtain ⟨A8, c8, hv8, ho8⟩ : TOs W.heap.size nt (thr (secL n k) (Sp.col d k q)) (a.eval (.tmp 41)) w7 := by assumption
           refine Gt.ok_run (v := .slice A8 nt c8) ?_ ⟨A8, c8, rfl, ho8⟩
           simp only [execOp, hv8]
           go_simp
           done)
        | (obtain ⟨A8, c8, hv8, ho8⟩ : TOs W.heap.size nt (thr (secL n k) (Sp.col d k q)) (a.eval (.tmp 41)) w7 := by assumption
           refine Gt.ok_run (v := .bool true) ?_ rfl
           simp only [execOp, hv8]
           go_simp
           done)
        | (refine Gt.ok_run ?_ rfl
           simp only [execOp, *]
           go_simp
           done))
    · intro a w7 hS
      have hS' : Below W.heap.size W w7 := hS
      simp only [Gt.Pre, Gt.tys, List.getD_cons_zero, List.getD_cons_succ, Gt.Is]
      intro h0 h1 h2 h3 h4 h5 h6 h7 h8 h9 h10 h11
      obtain ⟨_, _, h6, _⟩ := h6
      obtain ⟨_, _, h7, _⟩ := h7
      obtain ⟨_, _, h8, _⟩ := h8
      obtain ⟨A9, c9, h10, ho9⟩ := h10
      simp only [Gt.puts, List.foldl_cons, List.foldl_nil, h0, h1, h2, h3, h4, h5, h6, h7, h8, h9, h10, h11]
      simp only [Act.put, List.setIfInBounds_toArray, List.set_cons_zero, List.set_cons_succ, List.drop_succ_cons, List.drop_zero]
      have HS7 := Lib.hid hS'
      have HO9 := Lib.hid ho9
      clear h0 h1 h2 h3 h4 h5 h6 h7 h8 h9 h10 h11 ho9 hS hS'
      gi_wp2
      refine Gt.regionJI (fun w8 => Below w7.heap.size w7 w8) [] [Gt.Is (.pointer (some ⟨bf, 0, none⟩)), Gt.Is (.slice (some ⟨w4.heap.size + 1, 0, none⟩) n n), Gt.Is (.slice A9 nt c9), Gt.Is (.slice x.A nz x.c), OIs W.heap.size nl (L q)] 58 5
        [⟨[], [4], none⟩, ⟨[], [12], none⟩, ⟨[], [15], none⟩, ⟨[], [14], none⟩, ⟨[(2, 53), (3, 54)], [], none⟩, ⟨[(0, 51), (1, 52), (4, 55)], [], none⟩]
        [(0, 51), (1, 52), (2, 53), (3, 54), (4, 55)] (by kernel_rfl) (by kernel_rfl) (by kernel_rfl) (by kernel_rfl) (by kernel_rfl) (by kernel_rfl) ?_ ?_ ?_ ?_ ?_
      · refine Gt.Laws.grow (fun w8 w9 h5 h6 => h5.trans (Below.mono h6 (Below.size h5))) ?_
        simp only [Gt.Monos]
        repeat' apply And.intro
        all_goals (first | exact trivial | exact Gt.Is.mono _ | exact OIs.mono _ _ _)
      · exact (Below.refl _ w7).drew
      · intro x5 hx5
        cases hx5
      · simp only [List.take_succ_cons, List.take_zero, Gt.ObsJ]
        repeat' apply And.intro
        all_goals try exact trivial
        all_goals (
          intro a w8 hS _
          have hS' : Below w7.heap.size w7 w8 := hS
          have hb8 := HS7.out.trans (hS'.mono HS7.out.size)
          have hk8 := HQ.out.trans (KpR.below hb8 hgW)
          have k0 := hk8.cell HD0.out (HNN.out _ (by omega))
          have k3 := hk8.cell HD3.out (HNN.out _ (by omega))
          simp only [Gt.Pre, Gt.Kept, Gt.Guarded, Gt.tys, List.getD_cons_zero, List.getD_cons_succ, Gt.Is, Nat.zero_add, Nat.reduceAdd]
          intros)
        all_goals (first
          | exact Gt.ok_move rfl (by assumption)
          | (refine Gt.ok_call (f := 44) rfl #[.slice A9 nt c9, .slice x.A nz x.c] (by kernel_rfl) (by simp [*] <;> rfl) ((padd' A9 x.A c9 x.c nt nz (thr (secL n k) (Sp.col d k q)) (Z q) w8 HNT.out HNZ.out (HO9.out.kept hS').inn ((HOWN.out.kept hb8).inn) (by rw [← HNT.out, ← HNZ.out]; omega)).mono ?_)
             rintro e w9 ⟨A8, c8, rfl, ho8, hb9⟩
             rw [HLE.out, ← HNL2.out]
             rw [HLE.out] at ho8
             exact ⟨_, rfl, hb9, A8, c8, rfl, ho8.base hb8.size⟩)
          | (refine Gt.ok_run ?_ rfl
             simp only [execOp, *]
             go_simp
             done))
      · intro a w8 hS
        have hS' : Below w7.heap.size w7 w8 := hS
        simp only [Gt.Pre, Gt.tys, List.getD_cons_zero, List.getD_cons_succ, Gt.Is]
        intro h0 h1 h2 h3 h4
        obtain ⟨A8, c8, h4, ho8⟩ := h4
        simp only [Gt.puts, List.foldl_cons, List.foldl_nil, h0, h1, h2, h3, h4]
        simp only [Act.put, List.setIfInBounds_toArray, List.set_cons_zero, List.set_cons_succ, List.drop_succ_cons, List.drop_zero]
        have hb8 := HS7.out.trans (hS'.mono HS7.out.size)
        have hk8 := HQ.out.trans (KpR.below hb8 hgW)
        have hO8 := HOW.out.below hb8
        have HH := Lib.hid (dhand_any bf (w.heap.size + 2) (w4.heap.size + 1) n n pb cb (shRow L q) A8 nl c8 (L q) w8 (hk8.row HF6.out (HNN.out _ (by omega))) (hO8.nt (by omega)) hO8 (by omega) HNL2.out ho8.inn
          (fun b' o e => HOW.out.ntNew (by rw [e] at ho8; exact ho8.lt.1)) (by rw [← HNL2.out]; omega) (fun i _ => by rw [shRow_len]; omega))
        have HO8 := Lib.hid hO8
        have HB8 := Lib.hid hb8
        have HK8 := Lib.hid hk8
        clear h0 h1 h2 h3 h4 ho8 hS hS' hb8 hk8 hO8
        gi_wp2_with fail
        refine ⟨trivial, ?_⟩
        refine (CallsIn.inRound lb (callsIn_wide.2 HH.out)).mono ?_
        rintro e W3 ⟨⟨v, rfl⟩, pc, cc, hO3, hT3⟩
        have hbe : Below w.heap.size w8 W3 := hT3.below (by have := HB8.out.size; omega) (fun b' hb' => HO8.out.nt (by omega))
        have hO3' : Otb W3 (w.heap.size + 2) 5 (w4.heap.size + 1) n pc cc (shRow L (pre ++ [x]).length) := hO3.congr (fun i _ => by rw [List.length_append, ← HQE.out]; exact (shRow_succ L q i).symm)
        have hT3' := (Tbr.grow HB8.out).trans hT3
        have HFIN := Lib.hid (show KeepsOthers W W3 ∧ KpR (w4.heap.size + 1) n W W3 ∧ ShI w w6 (w4.heap.size + 1) n L (pre ++ [x]) W3 from
          ⟨hT3'.others HOW.out hn0, hT3'.kpr HOW.out hO3, pc, cc, hO3', HQ.out.trans (hT3'.kpr HOW.out hO3), Nat.lt_of_lt_of_le hgW hT3'.size, HBW.out.trans ((HB8.out.mono (by omega)).trans hbe), Nat.le_trans hWs hT3'.size,
            by rw [List.map_append, HPRE.out, List.length_append, List.map_cons, HXI.out, ← HQE.out]; exact List.range_succ.symm⟩)
        clear hO3 hT3 hbe hO3' hT3'
        gi_wp2
        exact HFIN.out
  case done =>
    rintro D pre W hD hS ⟨pb, cb, hOW, hQ, hgW, hBW, hWs, hpre⟩ hK
    have hlC : pre.length = C := by have := congrArg List.length hS; simpa using this
    rw [hlC, HL.out] at hOW
    have d3 := hQ.cell HD3.out (HNN.out _ (by omega))
    have hg2 := grownBy_putObj' W D (.deferred none)
    have hO3 := hOW.turned hg2 (fun r e => by cases e; exact ⟨_, hK, rfl⟩)
    have hb2 : Below w.heap.size W (W.putObj D (.deferred none)) := belowK_b (w := w) (Nat.le_refl _) W D _ _ (by omega) hK rfl rfl
    have HFIN := Lib.hid (show MIn (W.putObj D (.deferred none)) (W.putObj D (.deferred none)).heap.size (some ⟨w4.heap.size + 1, 0, none⟩) n n pb cb (shRow (polL n k t d rnd) C) ∧ Below w.heap.size w (W.putObj D (.deferred none)) from
      ⟨hO3.min n (Nat.le_refl _), hBW.trans hb2⟩)
    clear g0 g1 g2 g3 hIr6 hZ6 hb6w hb6 hOW hBW hO3 hb2 hg2 hQ
    gi_wp2
    refine ⟨by simp, .inl ⟨_, _, rfl, run_takeDeferred hK, ?_⟩⟩
    exact ⟨_, results_tmp2 rfl _ _ _, _, _, _, _, rfl, HFIN.out⟩
end Go.Proofs.Ytaknffdokkfmgaa
end
section
/- deal: random and Share, where there are not as many random bytes as there should be. -/
namespace Go.Proofs.Ytaknffdokkfmgaa
open Go.RowKit Go.Shelf Gw Pol
attribute [local go_sem] Oper.semAt_some
set_option maxRecDepth 100000 in
set_option maxHeartbeats 1000000 in
theorem drandom_no (n t k : Nat) (E R : Int) (kind : Int) (bf : Nat) (Ax Ar : Option Addr) (cx cr nx nr C : Nat) (ht : 1 ≤ t) (htk : t + k ≤ 255) (hne : nr ≠ eachN t k kind * C) (hC : C ≤ 4096) (w : World) :
    Calls Try.prog 48 #[.pointer (some ⟨bf, 0, none⟩), pv (n : Int) (t : Int) (k : Int) E R, .int .i64 kind, .int .i64 (C : Int), .slice Ar nr cr, .slice Ax nx cx] w (QA (fun _ R _ _ => R = 0) false w) := by
  obtain ⟨w0, hw0⟩ : ∃ w0, w0 = (w.alloc (.cells #[.pointer (some ⟨bf, 0, none⟩)] 38)).alloc (.cells #[.int .i64 (n : Int), .int .i64 (t : Int), .int .i64 (k : Int), .int .i64 E, .int .i64 R] 23) := ⟨_, rfl⟩
  have hs0 : w0.heap.size = w.heap.size + 2 := by rw [hw0]; simp
  have hb0 : Below w.heap.size w w0 := by rw [hw0]; exact ((Below.refl _ w).alloc (Nat.le_refl _) _).alloc (by simp) _
  have hP0 : Pbx w0 (w.heap.size + 1) n t k E R := by
    have := Pbx.new (w.alloc (.cells #[.pointer (some ⟨bf, 0, none⟩)] 38)) 23 n t k E R
    rw [World.size_alloc] at this
    rw [hw0]; exact this
  obtain ⟨m, hm⟩ : ∃ m, m = eachN t k kind * C := ⟨_, rfl⟩
  rw [← hm] at hne
  have hmb : m ≤ 1044480 := by rw [hm]; exact Nat.le_trans (Nat.mul_le_mul (eachN_le kind htk) hC) (by decide)
  have HND := Lib.hid (dneed_in n t k E R kind ht htk C m hm hC w0)
  have hne2 : ((nr : Int) != (m : Int)) = true := by simp; omega
  have HB0 := Lib.hid hb0
  obtain ⟨c0, c1, c2, c3, c4⟩ := hP0
  clear hm hne hb0
  go_enter Try.func48, Try.ntmps48
  go_wp2_with fail
  rw [← hw0]
  refine HND.out.mono ?_
  rintro e w1 ⟨rfl, hb1⟩
  have HB1 := Lib.hid (HB0.out.trans (hb1.mono (by omega)))
  clear c0 c1 c2 c3 c4 hb1 hw0
  go_wp2
  go_ret2
  exact ⟨_, _, _, rfl, rfl, HB1.out⟩
set_option maxRecDepth 100000 in
set_option maxHeartbeats 1000000 in
theorem dshare_not (n t k : Nat) (E R : Int) (bf : Nat) (A Ar : Option Addr) (c cr N nr C : Nat) (d : List Nat) (ht : 1 ≤ t) (htk : t + k ≤ 255) (hN : N = d.length) (w : World) (hI : In w w.heap.size A c d)
    (hC : C = Sp.cnt N k) (hne : nr ≠ t * C) (hNb : N ≤ 4096) :
    Calls Try.prog 20 #[.pointer (some ⟨bf, 0, none⟩), pv (n : Int) (t : Int) (k : Int) E R, .slice A N c, .slice Ar nr cr] w (QA (fun _ R _ _ => R = 0) false w) := by
  obtain ⟨w0, hw0⟩ : ∃ w0, w0 = (w.alloc (.cells #[.pointer (some ⟨bf, 0, none⟩)] 38)).alloc (.cells #[.int .i64 (n : Int), .int .i64 (t : Int), .int .i64 (k : Int), .int .i64 E, .int .i64 R] 23) := ⟨_, rfl⟩
  have hs0 : w0.heap.size = w.heap.size + 2 := by rw [hw0]; simp
  have hb0 : Below w.heap.size w w0 := by rw [hw0]; exact ((Below.refl _ w).alloc (Nat.le_refl _) _).alloc (by simp) _
  have hP0 : Pbx w0 (w.heap.size + 1) n t k E R := by
    have := Pbx.new (w.alloc (.cells #[.pointer (some ⟨bf, 0, none⟩)] 38)) 23 n t k E R
    rw [World.size_alloc] at this
    rw [hw0]; exact this
  have hCb : C ≤ 4096 := by rw [hC]; exact Nat.le_trans (Sp.cnt_le N k) hNb
  have HS := Lib.hid (ssplit_any A c N k d w0 hN ((hI.below hb0).more hb0.size) (by omega) (by omega))
  rw [← hC] at HS
  obtain ⟨m, hm⟩ : ∃ m, m = t * C := ⟨_, rfl⟩
  rw [← hm] at hne
  have hmb : m ≤ 1044480 := by rw [hm]; exact Nat.le_trans (Nat.mul_le_mul (show t ≤ 255 by omega) hCb) (by decide)
  have hne2 : ((nr : Int) != (m : Int)) = true := by simp; omega
  have HM := Lib.hid hm
  have HB0 := Lib.hid hb0
  have HP0 := Lib.hid hP0
  obtain ⟨c0, c1, c2, c3, c4⟩ := hP0
  clear hm hne hb0 hN hC hI
  go_enter Try.func20, Try.ntmps20
  go_wp2_with fail
  rw [← hw0]
  refine HS.out.mono ?_
  rintro e w1 ⟨As, cs, ps, qs, rfl, hcs⟩
  obtain ⟨w2, hw2⟩ : ∃ w2, w2 = w1.alloc (.cells #[.slice As C cs] 35) := ⟨_, rfl⟩
  have hb2 : Below w0.heap.size w0 w2 := by rw [hw2]; exact hcs.bel.alloc hcs.bel.size _
  have HP2 := Lib.hid (HP0.out.below hb2 HP0.out.lt)
  have HB2 := Lib.hid (HB0.out.trans (hb2.mono (by omega)))
  have HND := Lib.hid (dneed_in n t k E R 1 ht htk C m (by rw [HM.out]; rfl) hCb w2)
  clear c0 c1 c2 c3 c4 hb2 HS hcs HP0 hw0
  obtain ⟨c0, c1, c2, c3, c4⟩ := HP2.out
  rw [hw2] at c0 c1 c2 c3 c4
  have hs2 := HB2.out.size
  go_wp2_with fail
  rw [← hw2]
  refine HND.out.mono ?_
  rintro e w3 ⟨rfl, hb3⟩
  have HB3 := Lib.hid (HB2.out.trans (hb3.mono hs2))
  clear c0 c1 c2 c3 c4 hb3 hw2
  go_wp2
  go_ret2
  exact ⟨_, _, _, rfl, rfl, HB3.out⟩
theorem none_mn : Mn3 (fun _ R _ _ => R = 0) := fun _ _ _ _ _ h _ => h
theorem tab_mn (n : Nat) (l : Nat → List Nat) : Mn3 (fun A R c w => R = n ∧ ∃ pa cp, MIn w w.heap.size A c n pa cp l) := by
  rintro A R c w w' ⟨h1, pa, cp, h2⟩ hg
  exact ⟨h1, pa, cp, (h2.below hg).more hg.size⟩
theorem drandom_yes (n t k : Nat) (E R : Int) (kind : Int) (bf : Nat) (Ax Ar : Option Addr) (cx cr nx nr C m : Nat) (xs rnd : List Nat) (hn0 : 0 < n) (hn : n ≤ 254) (ht : 1 ≤ t) (htk : t + k ≤ 255) (hm : m = eachN t k kind) (hm0 : 0 < m) (hnx : nx = xs.length) (hnr : nr = rnd.length) (w : World) (hF : IsField w bf)
    (hI : In w w.heap.size Ax cx xs) (hIr : In w w.heap.size Ar cr rnd) (hlen : rnd.length = m * C) (hC : C ≤ 4096) (hxl : xs.length ≤ 255) :
    Calls Try.prog 48 #[.pointer (some ⟨bf, 0, none⟩), pv (n : Int) (t : Int) (k : Int) E R, .int .i64 kind, .int .i64 (C : Int), .slice Ar nr cr, .slice Ax nx cx] w (QA (fun A R c w' => R = n ∧ ∃ pa cp, MIn w' w'.heap.size A c n pa cp (shRow (timL (rt xs) rnd m) C)) true w) := by
  refine (callsIn_wide.1 (drandom_in n t k E R kind bf Ax Ar cx cr nx nr C m xs rnd hn0 hn ht htk hm hm0 hnx hnr w hF hI hIr hlen hC hxl)).mono ?_
  rintro e w' ⟨A2, c2, pa, cp, rfl, h1, h2⟩
  exact ⟨A2, n, c2, rfl, ⟨rfl, pa, cp, h1⟩, h2⟩
end Go.Proofs.Ytaknffdokkfmgaa
end
section
/- What the definition's own Same (package shamrockref10) answers of the same columns. -/
namespace Go.Proofs.Ytaknffdokkfmgaa
open Go.RowKit Go.Shelf Gw Pol
set_option maxRecDepth 100000 in
set_option maxHeartbeats 2000000 in
theorem rsame10 (A A' : Option Addr) (c c' R : Nat) (Q Q' : Nat → Option Addr) (C C' : Nat → Nat) (l l' : Nat → List Nat) (w : World) (h : MIn w w.heap.size A c R Q C l) (h' : MIn w w.heap.size A' c' R Q' C' l') (he : ∀ i, i < R → l i = l' i) (hR : R ≤ 140737488355328) :
    Calls Try.prog 23 #[.slice A R c, .slice A' R c'] w fun e w' => e = .returned (.bool true) ∧ Below w.heap.size w w' := by
  have hcap := h.cap
  have hcap' := h'.cap
  go_enter Try.func23, Try.ntmps23
  go_wp2
  go_loopw [5] (fun i wr => ∃ j : Nat, j ≤ R ∧ i = .int .i64 (j : Int) ∧ Below w.heap.size w wr) (fun i _ => R - (intOf i).toNat)
  case atStart => exact ⟨0, Nat.zero_le _, rfl, Below.refl _ _⟩
  case round =>
    obtain ⟨j, hj, rfl, hb⟩ := hrel
    have hs := hb.size
    by_cases hlt : j < R
    · obtain ⟨b, off, hA, hbl, hc, hI⟩ := (h.below hb).rd j hlt
      obtain ⟨b', off', hA', hbl', hc', hI'⟩ := (h'.below hb).rd j hlt
      subst hA hA'
      rw [← he j hlt] at hc' hI'
      obtain ⟨q, hq⟩ : ∃ q, q = Q j := ⟨_, rfl⟩
      obtain ⟨cq, hcq⟩ : ∃ q, q = C j := ⟨_, rfl⟩
      obtain ⟨q', hq'⟩ : ∃ q, q = Q' j := ⟨_, rfl⟩
      obtain ⟨cq', hcq'⟩ : ∃ q, q = C' j := ⟨_, rfl⟩
      obtain ⟨m, hm⟩ : ∃ m, m = (l j).length := ⟨_, rfl⟩
      obtain ⟨σ, hσ⟩ : ∃ σ, σ = str (l j) := ⟨_, rfl⟩
      rw [← hm, ← hq, ← hcq] at hc
      rw [← hm, ← hq', ← hcq'] at hc'
      rw [← hq, ← hcq] at hI
      rw [← hq', ← hcq'] at hI'
      have HM := Lib.hid hm
      have HSG := Lib.hid hσ
      have HI := Lib.hid (hI.more hs)
      have HI' := Lib.hid (hI'.more hs)
      have HC := Lib.hid hc
      have HC' := Lib.hid hc'
      have HBL := Lib.hid (show b < wr.heap.size by omega)
      have HBL' := Lib.hid (show b' < wr.heap.size by omega)
      have HB := Lib.hid hb
      clear hm hσ hI hI' hc hc' hb hq hcq hq' hcq' hbl hbl' h h' he
      go_wp2
      rename_i K hK
      refine Gt.regionA [Gt.Is (.slice (some ⟨b, off, none⟩) R c), Gt.Is (.int .i64 (j : Int)), Gt.Is (.pointer (some ⟨b, off + j, none⟩)), Gt.Is (.slice q m cq), Gt.Is (.string σ), Gt.Is (.slice (some ⟨b', off', none⟩) R c'), Gt.Is (.int .i64 (j : Int)), Gt.Is (.pointer (some ⟨b', off' + j, none⟩)), Gt.Is (.slice q' m cq'), Gt.Is (.string σ), Gt.Is (.bool false)] 28
        [⟨[], [0], none⟩, ⟨[], [5], none⟩, ⟨[(0, 17), (1, 18)], [], none⟩, ⟨[(2, 19)], [], none⟩, ⟨[(3, 20)], [], none⟩, ⟨[], [1], none⟩, ⟨[], [5], none⟩, ⟨[(5, 22), (6, 23)], [], none⟩, ⟨[(7, 24)], [], none⟩, ⟨[(8, 25)], [], none⟩, ⟨[(4, 21), (9, 26)], [], none⟩]
        [(0, 17), (1, 18), (2, 19), (3, 20), (4, 21), (5, 22), (6, 23), (7, 24), (8, 25), (9, 26), (10, 27)] (by kernel_rfl) (by kernel_rfl) (by kernel_rfl) (by kernel_rfl) ?_ ?_ ?_
      · simp only [Gt.Monos]
        repeat' apply And.intro
        all_goals (first | exact trivial | exact Gt.Is.mono _)
      · simp only [Gt.Obs]
        repeat' apply And.intro
        all_goals try exact trivial
        all_goals (
          intro a w5 hg
          have hg' : Below wr.heap.size wr w5 := hg
          simp only [Gt.Pre, Gt.Kept, Gt.Guarded, Gt.tys, List.getD_cons_zero, List.getD_cons_succ, Gt.Is, Nat.zero_add, Nat.reduceAdd]
          intros
          try (refine ⟨fun _ => ?_, fun hne => absurd (by assumption) hne⟩))
        all_goals (first
          | exact Gt.ok_move rfl (by assumption)
          | exact Gt.ok_assign rfl (by assumption)
          | exact Gt.ok_pick rfl (by assumption) (by rw [if_pos rfl]; assumption)
          | (have k5 := conv_sl (P := Try.prog) (HI.out.below hg').sl Try.underlying28 Try.underlying5 Try.underlying9 cq
             rw [← HM.out, ← HSG.out] at k5
             exact Gt.ok_convert rfl (by assumption) k5 rfl)
          | (have k5 := conv_sl (P := Try.prog) (HI'.out.below hg').sl Try.underlying28 Try.underlying5 Try.underlying9 cq'
             rw [← HM.out, ← HSG.out] at k5
             exact Gt.ok_convert rfl (by assumption) k5 rfl)
          | (refine Gt.ok_run ?_ rfl
             have k5 := (hg'.cell (p := ⟨b, off + j, none⟩) HBL.out).trans HC.out
             have k6 := (hg'.cell (p := ⟨b', off' + j, none⟩) HBL'.out).trans HC'.out
             simp only [execOp, *]
             go_simp
             done)
          | (refine Gt.ok_run ?_ rfl
             simp only [execOp, *]
             go_simp
             done))
      · intro a w5 hg
        have hg' : Below wr.heap.size wr w5 := hg
        simp only [Gt.Pre, Gt.tys, List.getD_cons_zero, List.getD_cons_succ, Gt.Is]
        intro h0 h1 h2 h3 h4 h5 h6 h7 h8 h9 h10
        show K _ _
        refine hK _ _ ?_
        simp only [Gt.puts, List.foldl_cons, List.foldl_nil, h0, h1, h2, h3, h4, h5, h6, h7, h8, h9, h10]
        simp only [Act.put, List.setIfInBounds_toArray, List.set_cons_zero, List.set_cons_succ]
        have HB5 := Lib.hid (HB.out.trans (hg'.mono HB.out.size))
        clear hg' hg h0 h1 h2 h3 h4 h5 h6 h7 h8 h9 h10 hK
        go_wp2
        go_roundw
        case rel => exact ⟨j + 1, by omega, by go_num, HB5.out⟩
        case measure => simp [intOf]; omega
    · obtain rfl : R = j := by omega
      have HB := Lib.hid hb
      clear hb
      go_wp2
      go_ret
      exact ⟨rfl, HB.out⟩
end Go.Proofs.Ytaknffdokkfmgaa
end
