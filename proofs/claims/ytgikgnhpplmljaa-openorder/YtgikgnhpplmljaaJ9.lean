import Derived.BigRegionIn
import Derived.OwnWalkIn
import Derived.Test.YtgikgnhpplmljaaJ3
import Derived.Test.YtgikgnhpplmljaaJ6
import Derived.Test.YtgikgnhpplmljaaJ8
section
/- What bw's lowRest does: the first of Euclid's rests that is low enough, and its factor. -/
namespace Go
/-- Two results that lie in boxes. -/
theorem results_cell2 {P : Program} {fn : Func} {p u : Tmp} {t t' : TypeId} (h : fn.results = #[.cell p t, .cell u t']) (ha : ∀ w, (isAgg t).run P w = .ok false w) (ha' : ∀ w, (isAgg t').run P w = .ok false w) (tmps : Array Value) (w : World)
    {a b : Addr} {v v' : Value} (h1 : tmps.getD p undef = .pointer (some a)) (h2 : tmps.getD u undef = .pointer (some b)) (c1 : (load a).run P w = .ok v w) (c2 : (load b).run P w = .ok v' w) : (results fn tmps).run P w = .ok (.tuple #[v, v']) w := by
  have h1' : tmps[p]?.getD undef = .pointer (some a) := by simpa using h1
  have h2' : tmps[u]?.getD undef = .pointer (some b) := by simpa using h2
  simp [results, h, h1', h2', asAddr, loadVar, Sem.run_bind, Result.andThen, ha, ha', c1, c2]
end Go
namespace Go.Proofs.Ytgikgnhpplmljaa
open Go.RowKit Go.Shelf Gw Pol Gq Go.BigFrame
attribute [local go_sem] Oper.semAt_some

/-- Four boxes, and three more. -/
structure LrB (w : World) (v0 v1 v2 v3 v4 v5 v6 : Value) (W : World) : Prop where
  c0 : W.cell? ⟨w.heap.size, 0, none⟩ = some v0
  c1 : W.cell? ⟨w.heap.size + 1, 0, none⟩ = some v1
  c2 : W.cell? ⟨w.heap.size + 2, 0, none⟩ = some v2
  c3 : W.cell? ⟨w.heap.size + 3, 0, none⟩ = some v3
  c4 : W.cell? ⟨w.heap.size + 4, 0, none⟩ = some v4
  c5 : W.cell? ⟨w.heap.size + 5, 0, none⟩ = some v5
  c6 : W.cell? ⟨w.heap.size + 6, 0, none⟩ = some v6
  f2 : W.frozen? ⟨w.heap.size + 2, 0, none⟩ = false
  f3 : W.frozen? ⟨w.heap.size + 3, 0, none⟩ = false
  sz : W.heap.size = w.heap.size + 7
  bl : Below w.heap.size w W
theorem new_frozen (w : World) (v : Value) (t : TypeId) (b : Nat) (h : b = w.heap.size) : (w.alloc (.cells #[v] t)).frozen? ⟨b, 0, none⟩ = false := by subst h; exact World.frozen?_alloc_new w #[v] t 0
theorem old_frozen {w : World} {b : Nat} (h : w.frozen? ⟨b, 0, none⟩ = false) (hb : b < w.heap.size) (ob : Obj) : (w.alloc ob).frozen? ⟨b, 0, none⟩ = false := (World.frozen?_of_block (Below.heap_alloc _ _ _ hb)).trans h
theorem lrB (w : World) (v0 v1 v2 v3 v4 v5 v6 : Value) (t0 t1 t2 t3 t4 t5 t6 : TypeId) :
    LrB w v0 v1 v2 v3 v4 v5 v6 (((((((w.alloc (.cells #[v0] t0)).alloc (.cells #[v1] t1)).alloc (.cells #[v2] t2)).alloc (.cells #[v3] t3)).alloc (.cells #[v4] t4)).alloc (.cells #[v5] t5)).alloc (.cells #[v6] t6)) := by
  refine ⟨?_, ?_, ?_, ?_, ?_, ?_, ?_, ?_, ?_, by simp, ?_⟩
  · exact old_cell (old_cell (old_cell (old_cell (old_cell (old_cell (new_cell w v0 t0 _ rfl) _) _) _) _) _) _
  · exact old_cell (old_cell (old_cell (old_cell (old_cell (new_cell _ v1 t1 _ (by simp)) _) _) _) _) _
  · exact old_cell (old_cell (old_cell (old_cell (new_cell _ v2 t2 _ (by simp)) _) _) _) _
  · exact old_cell (old_cell (old_cell (new_cell _ v3 t3 _ (by simp)) _) _) _
  · exact old_cell (old_cell (new_cell _ v4 t4 _ (by simp)) _) _
  · exact old_cell (new_cell _ v5 t5 _ (by simp)) _
  · exact new_cell _ v6 t6 _ (by simp)
  · exact old_frozen (old_frozen (old_frozen (old_frozen (new_frozen _ v2 t2 _ (by simp)) (by simp) _) (by simp) _) (by simp) _) (by simp) _
  · exact old_frozen (old_frozen (old_frozen (new_frozen _ v3 t3 _ (by simp)) (by simp) _) (by simp) _) (by simp) _
  · exact (((((((Below.refl _ w).alloc (Nat.le_refl _) _).alloc (by simp) _).alloc (by simp; omega) _).alloc (by simp; omega) _).alloc (by simp; omega) _).alloc (by simp; omega) _).alloc (by simp; omega) _

/-- The boxes of the two results. -/
def LrX (s : Nat) (b : Nat) (_ : TypeId) : Prop := s + 2 ≤ b ∧ b < s + 4
/-- Between two rounds. -/
def LrI (w : World) (A : Option Addr) (c d : Nat) (xs R0 : List Nat) (pre : List Rst) (W : World) : Prop :=
  (W.cell? ⟨w.heap.size, 0, none⟩ = some (.slice A R0.length c) ∧ W.cell? ⟨w.heap.size + 1, 0, none⟩ = some (.int .i64 (d : Int)) ∧ (∃ v v', W.cell? ⟨w.heap.size + 2, 0, none⟩ = some v ∧ W.cell? ⟨w.heap.size + 3, 0, none⟩ = some v') ∧
    W.frozen? ⟨w.heap.size + 2, 0, none⟩ = false ∧ W.frozen? ⟨w.heap.size + 3, 0, none⟩ = false ∧ xs.length + d + 3 ≤ 2 * (lastR R0 pre).length) ∧ Below w.heap.size w W
theorem LrI.own (w : World) (A : Option Addr) (c d : Nat) (xs R0 : List Nat) (B : Nat) (hB : w.heap.size ≤ B) : OwnFrom B (LrI w A c d xs R0) :=
  OwnFrom.and (Own.from (fun _ _ _ _ hs hg hr => by
    obtain ⟨h0, h1, ⟨v, v', h2, h3⟩, h4, h5, h6⟩ := hs
    exact ⟨cell_kept h0 hg hr, cell_kept h1 hg hr, ⟨v, v', cell_kept h2 hg hr, cell_kept h3 hg hr⟩, (frozen_kept h2 hg hr).trans h4, (frozen_kept h3 hg hr).trans h5, h6⟩) _) (ownFrom_below (Nat.le_refl _) hB)
/-- Where a round has left. -/
def LrIx (ID : Nat) (w : World) (d : Nat) (xs ys R0 : List Nat) (k : Code) (pre : List Rst) (W : World) : Prop :=
  (∃ (pre' : List Rst) (x : Rst), k = .exit ID ∧ pre = pre' ++ [x] ∧ W.cell? ⟨w.heap.size + 2, 0, none⟩ = some (.slice x.A x.r.length x.c) ∧ W.cell? ⟨w.heap.size + 3, 0, none⟩ = some (.slice x.A' x.v.length x.c') ∧
    W.frozen? ⟨w.heap.size + 2, 0, none⟩ = false ∧ W.frozen? ⟨w.heap.size + 3, 0, none⟩ = false ∧ RsRd (LrX w.heap.size) x W ∧ RsLk xs ys R0 pre' x ∧ xs.length + d + 3 ≤ 2 * (lastR R0 pre').length ∧ 2 * x.r.length < xs.length + d + 3) ∧ Below w.heap.size w W
theorem LrIx.own (ID : Nat) (w : World) (d : Nat) (xs ys R0 : List Nat) (k : Code) (B : Nat) (hB : w.heap.size ≤ B) : OwnFrom B (LrIx ID w d xs ys R0 k) :=
  OwnFrom.and (Own.from (fun _ _ _ _ hs hg hr => by
    obtain ⟨pre', x, e1, e2, h2, h3, h4, h5, h6, h7, h8, h9⟩ := hs
    exact ⟨pre', x, e1, e2, cell_kept h2 hg hr, cell_kept h3 hg hr, (frozen_kept h2 hg hr).trans h4, (frozen_kept h3 hg hr).trans h5, ⟨h6.1.turned hg hr, h6.2.turned hg hr⟩, h7, h8, h9⟩) _) (ownFrom_below (Nat.le_refl _) hB)

/-- What lowRest answers. -/
def LrAns (w : World) (d : Nat) (xs ys : List Nat) (e : Ending) (w' : World) : Prop :=
  ∃ (r0 v0 r1 v1 : List Nat) (A A' : Option Addr) (c c' : Nat), e = .returned (.tuple #[.slice A r1.length c, .slice A' v1.length c']) ∧ Eu xs ys r0 v0 r1 v1 ∧ xs.length + d + 3 ≤ 2 * r0.length ∧ 2 * r1.length < xs.length + d + 3 ∧
    In w' w'.heap.size A c r1 ∧ In w' w'.heap.size A' c' v1 ∧ Below w.heap.size w w'

/-- A slice whose Degree is asked. -/
def DegIn (w : World) (A : Option Addr) (c n : Nat) : Prop := ∃ l : List Nat, n = l.length ∧ tr l = l ∧ In w w.heap.size A c l ∧ l.length ≤ 140737488355328
theorem deg_drew {A : Option Addr} {c n : Nat} {w : World} (k : Nat) (h : DegIn w A c n) :
    Calls Try.prog 74 #[.slice A n c] (w.drewN k) fun e w' => e = .returned (.int .i64 ((n : Int) - 1)) ∧ ∃ m, w' = (w.drewN k).drewN m := by
  obtain ⟨l, rfl, ht, hI, hcm⟩ := h
  refine (degree_any A c l (w.drewN k) _ (hI.drewN k) hcm).mono fun e w' h => ⟨?_, 0, by rw [← h.2]; rfl⟩
  rw [h.1, ht]
/-- When a round has laid its rest and its factor. -/
structure LrS (w : World) (A : Option Addr) (c n d : Nat) (u u' : Value) (W W2 : World) : Prop where
  c0 : W2.cell? ⟨w.heap.size, 0, none⟩ = some (.slice A n c)
  c1 : W2.cell? ⟨w.heap.size + 1, 0, none⟩ = some (.int .i64 (d : Int))
  c2 : W2.cell? ⟨w.heap.size + 2, 0, none⟩ = some u
  c3 : W2.cell? ⟨w.heap.size + 3, 0, none⟩ = some u'
  f2 : W2.frozen? ⟨w.heap.size + 2, 0, none⟩ = false
  f3 : W2.frozen? ⟨w.heap.size + 3, 0, none⟩ = false
  kx : KeepX (LrX w.heap.size) W W2
  ko : KeepsOthers W W2
  bl : Below w.heap.size w W2
theorem lrS {w W : World} {A : Option Addr} {c n d : Nat} {v v' : Value} (u u' : Value) (d0 : W.cell? ⟨w.heap.size, 0, none⟩ = some (.slice A n c)) (d1 : W.cell? ⟨w.heap.size + 1, 0, none⟩ = some (.int .i64 (d : Int))) (d2 : W.cell? ⟨w.heap.size + 2, 0, none⟩ = some v)
    (d3 : W.cell? ⟨w.heap.size + 3, 0, none⟩ = some v') (f2 : W.frozen? ⟨w.heap.size + 2, 0, none⟩ = false) (f3 : W.frozen? ⟨w.heap.size + 3, 0, none⟩ = false) (hB : Below w.heap.size w W) :
    LrS w A c n d u u' W ((W.setCell ⟨w.heap.size + 2, 0, none⟩ u).setCell ⟨w.heap.size + 3, 0, none⟩ u') := by
  have ot : ∀ {V : World} {b b' : Nat} {y z : Value}, b ≠ b' → V.cell? ⟨b, 0, none⟩ = some y → (V.setCell ⟨b', 0, none⟩ z).cell? ⟨b, 0, none⟩ = some y := fun hne h => by
    rw [World.cell?_setCell_other _ _ _ _ (fun h => by injection h with h1; omega)]; exact h
  refine ⟨ot (by omega) (ot (by omega) d0), ot (by omega) (ot (by omega) d1), ot (by omega) (World.cell?_setCell_same W ⟨w.heap.size + 2, 0, none⟩ _ d2), World.cell?_setCell_same _ ⟨w.heap.size + 3, 0, none⟩ _ (ot (by omega) d3), ?_, ?_, ?_, ?_, ?_⟩
  · rw [World.frozen?_setCell, World.frozen?_setCell]; exact f2
  · rw [World.frozen?_setCell, World.frozen?_setCell]; exact f3
  · exact (KeepX.set (fun e => ⟨by omega, by omega⟩) W).trans (KeepX.set (fun e => ⟨by omega, by omega⟩) _)
  · exact (KeepsOthers.setCell _ _ _).trans (KeepsOthers.setCell _ _ _)
  · exact (hB.setCell (p := ⟨w.heap.size + 2, 0, none⟩) (by show w.heap.size ≤ w.heap.size + 2; omega) _).setCell (p := ⟨w.heap.size + 3, 0, none⟩) (by show w.heap.size ≤ w.heap.size + 3; omega) _

set_option maxRecDepth 100000 in
set_option maxHeartbeats 2000000 in
theorem lowRest_in (bf : Nat) (A A' : Option Addr) (c c' d : Nat) (xs ys R0 R1 : List Nat) (w : World) (hx : BB xs) (hy : BB ys) (hl : xs.length ≤ 255) (hd : d ≤ 255) (hF : IsField w bf) (hI : In w w.heap.size A c R0) (hI' : In w w.heap.size A' c' R1)
    (ht : tr R0 = R0) (hE : Eu xs ys R0 [] R1 [1]) (hR : R0.length = xs.length + 1) (hdn : d < xs.length) :
    CallsIn Fence.wide 6 Try.prog 71 #[.pointer (some ⟨bf, 0, none⟩), .slice A R0.length c, .slice A' R1.length c', .int .i64 (d : Int)] w (LrAns w d xs ys) := by
  have hlf := hF.lt
  have hz : ∀ w, (zeroValue 36).run Try.prog w = .ok (.slice none 0 0) w := fun w => by kernel_rfl
  have hnX : ∀ b, b < w.heap.size + 2 ∨ w.heap.size + 4 ≤ b → ∀ e, ¬ LrX w.heap.size b e := fun b h e h' => by unfold LrX at h'; omega
  have HR := Lib.hid hR
  have HE := Lib.hid hE
  have HT := Lib.hid ht
  clear hR hE ht
  refine callsIn_of_wp_marks Try.func71 rfl trivial ?_ rfl
  simp only [Try.ntmps71, List.size_toArray, List.length_cons, List.length_nil, Nat.reduceAdd, Nat.reduceSub, Array.replicate_succ, Array.replicate_zero, List.push_toArray, List.append_toArray, List.nil_append, List.cons_append]
  gi_wp2_with fail
  refine ⟨trivial, ?_⟩
  refine (callsIn_wide.2 (rests_mk bf A A' R0.length c R1.length c' _)).mono ?_
  rintro e w' ⟨rfl, rfl⟩
  gi_wp2
  have h7 := lrB w (.slice A R0.length c) (.int .i64 (d : Int)) (.slice none 0 0) (.slice none 0 0) (.pointer (some ⟨bf, 0, none⟩)) (.slice A R0.length c) (.slice A' R1.length c') 36 3 36 36 30 36 36
  have hF7 := hF.below h7.bl hlf
  have hI7 := (hI.below h7.bl).x (X := LrX w.heap.size) (fun b e h => hnX b (by omega) e)
  have hI7' := (hI'.below h7.bl).x (X := LrX w.heap.size) (fun b e h => hnX b (by omega) e)
  refine Gq.range_memX (by omega) (gf := 104) (lb := #[.pointer (some ⟨w.heap.size + 5, 0, none⟩), .pointer (some ⟨w.heap.size + 6, 0, none⟩), .pointer (some ⟨w.heap.size + 4, 0, none⟩)]) rfl (enters_of Try.func104 (by kernel_rfl) rfl)
    (rests_stops (6 - 1) (by omega) (LrX w.heap.size) (w.heap.size + 5) (w.heap.size + 6) (w.heap.size + 4) bf A A' c c' xs ys R0 R1 _ hx hy hl h7.c5 h7.c6 h7.c4 hF7 hI7 hI7' (hnX _ (by omega)) (hnX _ (by omega)) (hnX _ (by omega)) (hnX _ (by omega)) (fun b e h => hnX b (by rw [h7.sz] at h; omega) e) HT.out HE.out)
    (fun h k => KeepX.trans h k) (fun W l o o' _ h hc => KeepX.put h hc) (fun _ => rfl) (RsRd.own _ _)
    (LrI w A c d xs R0) (LrIx 0 w d xs ys R0) (LrI.own w A c d xs R0 _ (by rw [h7.sz]; omega)) (fun k => LrIx.own 0 w d xs ys R0 k _ (by rw [h7.sz]; omega))
    ⟨⟨h7.c0, h7.c1, ⟨_, _, h7.c2, h7.c3⟩, h7.f2, h7.f3, by rw [lastR_nil, HR.out]; omega⟩, h7.bl⟩
    (fun x => { tmps := #[.pointer (some ⟨bf, 0, none⟩), .slice A R0.length c, .slice A' R1.length c', .int .i64 (d : Int), undef, .pointer (some ⟨w.heap.size, 0, none⟩), undef, .pointer (some ⟨w.heap.size + 1, 0, none⟩), .pointer (some ⟨w.heap.size + 2, 0, none⟩), .pointer (some ⟨w.heap.size + 3, 0, none⟩), .slice x.A x.r.length x.c, .slice x.A' x.v.length x.c', .pointer (some ⟨bf, 0, none⟩), .slice A R0.length c, .slice A' R1.length c', .func (.func 104) #[] #[.pointer (some ⟨w.heap.size + 5, 0, none⟩), .pointer (some ⟨w.heap.size + 6, 0, none⟩), .pointer (some ⟨w.heap.size + 4, 0, none⟩)], .slice x.A x.r.length x.c, .slice x.A' x.v.length x.c', undef, undef, undef, undef, undef, undef, undef, undef, undef, undef, undef, undef, undef], defers := [] }) ?assign ?body ?done ?stop
  case assign =>
    intro l x W K hK
    gi_wp2
    exact hK
  case body =>
    rintro lb pre x W ⟨⟨d0, d1, ⟨v, v', d2, d3⟩, f2, f3, hhigh⟩, hB⟩ hrd hlk
    clear h7 hF7 hI7 hI7'
    have mixed : Try.prog.follows .mixedOrders = true := by kernel_rfl
    have HS := Lib.hid (lrS (.slice x.A x.r.length x.c) (.slice x.A' x.v.length x.c') d0 d1 d2 d3 f2 f3 hB)
    gi_wp2
    obtain ⟨W2, hW2⟩ : ∃ W2, W2 = (W.setCell ⟨w.heap.size + 2, 0, none⟩ (.slice x.A x.r.length x.c)).setCell ⟨w.heap.size + 3, 0, none⟩ (.slice x.A' x.v.length x.c') := ⟨_, rfl⟩
    have hS := HS.out
    rw [← hW2] at hS ⊢
    clear hW2 HS d0 d1 d2 d3 f2 f3
    obtain ⟨x0, x1, x2, x3, g2, g3, kx, ko, hB2⟩ := hS
    obtain ⟨v0, hEu⟩ := hlk.2
    have hxl : x.r.length ≤ 257 := by have := hEu.fall; have := hEu.sum; omega
    have q1 : DegIn W2 x.A x.c x.r.length := ⟨x.r, rfl, hEu.t1, (hrd.1.keep kx).inn, by omega⟩
    have q2 : DegIn W2 A c R0.length := ⟨R0, rfl, HT.out, (hI.below hB2).more hB2.size, by rw [HR.out]; omega⟩
    have HRD := Lib.hid (show RsRd (LrX w.heap.size) x W2 from ⟨hrd.1.keep kx, hrd.2.keep kx⟩)
    have HEU := Lib.hid hEu
    clear hEu hrd
    have hRl : R0.length ≤ 256 := by rw [HR.out]; omega
    refine Gq.region_round_all (C := fun w' => ∃ k, w' = W2.drewN k) mixed (by kernel_rfl) (by kernel_rfl) ⟨1, rfl⟩ ?_
    repeat (go_big_quiet_step ((go_at_call 74; exact Calls.quiet_of (deg_drew _ (by assumption)))))
    refine wpQuiet_nil ?_
    intro _ hw'
    obtain ⟨nq, hw''⟩ := hw'
    subst hw''
    have ko2 : KeepsOthers W (W2.drewN nq) := ko.trans ⟨Nat.le_refl _, fun _ _ h _ => h⟩
    have hB3 : Below w.heap.size w (W2.drewN nq) := Gw.Below.drewN hB2 nq
    by_cases hlow : 2 * x.r.length < xs.length + d + 3
    · have hdec : decide (2 * ((x.r.length : Int) - 1) < (R0.length : Int) - 1 + (d : Int) + 1) = true := decide_eq_true (by rw [HR.out]; omega)
      rw [hdec]
      clear hdec
      gi_wp2
      exact ⟨ko2, ⟨pre, x, rfl, rfl, x2, x3, g2, g3, ⟨HRD.out.1.keep ⟨Nat.le_refl _, fun _ _ _ _ _ h => h⟩, HRD.out.2.keep ⟨Nat.le_refl _, fun _ _ _ _ _ h => h⟩⟩, hlk, hhigh, hlow⟩, hB3⟩
    · have hdec : decide (2 * ((x.r.length : Int) - 1) < (R0.length : Int) - 1 + (d : Int) + 1) = false := decide_eq_false (by rw [HR.out]; omega)
      rw [hdec]
      clear hdec
      gi_wp2
      exact ⟨ko2, kx.trans ⟨Nat.le_refl _, fun _ _ _ _ _ h => h⟩, ⟨x0, x1, ⟨_, _, x2, x3⟩, g2, g3, by rw [lastR_snoc]; omega⟩, hB3⟩
  case done =>
    rintro D pre W hD hS ⟨⟨_, _, _, _, _, hhigh⟩, hB⟩ hK
    rw [hS] at hhigh
    simp at hhigh
  case stop =>
    rintro D k pre W hD ⟨⟨pre', x, rfl, rfl, c2, c3, f2, f3, hrd, hlk, hhigh, hlow⟩, hB⟩ hK
    rw [h7.sz] at hD
    clear h7 hF7 hI7 hI7'
    gi_wp2
    simp only [Nat.add_assoc, Nat.reduceAdd]
    gi_region
    have kx : KeepX (LrX w.heap.size) W ((W.setCell ⟨w.heap.size + 2, 0, none⟩ (.slice x.A x.r.length x.c)).setCell ⟨w.heap.size + 3, 0, none⟩ (.slice x.A' x.v.length x.c')).drew :=
      ((KeepX.set (fun e => ⟨by omega, by omega⟩) W).trans (KeepX.set (fun e => ⟨by omega, by omega⟩) _)).trans ⟨Nat.le_refl _, fun _ _ _ _ _ h => h⟩
    have ko : KeepsOthers W ((W.setCell ⟨w.heap.size + 2, 0, none⟩ (.slice x.A x.r.length x.c)).setCell ⟨w.heap.size + 3, 0, none⟩ (.slice x.A' x.v.length x.c')).drew :=
      ((KeepsOthers.setCell _ _ _).trans (KeepsOthers.setCell _ _ _)).trans ⟨Nat.le_refl _, fun _ _ h _ => h⟩
    have hb3 : Below w.heap.size w ((W.setCell ⟨w.heap.size + 2, 0, none⟩ (.slice x.A x.r.length x.c)).setCell ⟨w.heap.size + 3, 0, none⟩ (.slice x.A' x.v.length x.c')).drew :=
      Gw.Below.drewN ((hB.setCell (p := ⟨w.heap.size + 2, 0, none⟩) (by show w.heap.size ≤ w.heap.size + 2; omega) _).setCell (p := ⟨w.heap.size + 3, 0, none⟩) (by show w.heap.size ≤ w.heap.size + 3; omega) _) 1
    have y2 : ((W.setCell ⟨w.heap.size + 2, 0, none⟩ (.slice x.A x.r.length x.c)).setCell ⟨w.heap.size + 3, 0, none⟩ (.slice x.A' x.v.length x.c')).drew.cell? ⟨w.heap.size + 2, 0, none⟩ = some (.slice x.A x.r.length x.c) := by
      show ((W.setCell ⟨w.heap.size + 2, 0, none⟩ (.slice x.A x.r.length x.c)).setCell ⟨w.heap.size + 3, 0, none⟩ (.slice x.A' x.v.length x.c')).cell? _ = _
      rw [World.cell?_setCell_other _ _ _ _ (fun h => by injection h with h1; omega)]; exact World.cell?_setCell_same W ⟨w.heap.size + 2, 0, none⟩ _ c2
    have y3 : ((W.setCell ⟨w.heap.size + 2, 0, none⟩ (.slice x.A x.r.length x.c)).setCell ⟨w.heap.size + 3, 0, none⟩ (.slice x.A' x.v.length x.c')).drew.cell? ⟨w.heap.size + 3, 0, none⟩ = some (.slice x.A' x.v.length x.c') :=
      World.cell?_setCell_same _ ⟨w.heap.size + 3, 0, none⟩ _ (by rw [World.cell?_setCell_other _ _ _ _ (fun h => by injection h with h1; omega)]; exact c3)
    obtain ⟨W3, hW3⟩ : ∃ W3, W3 = ((W.setCell ⟨w.heap.size + 2, 0, none⟩ (.slice x.A x.r.length x.c)).setCell ⟨w.heap.size + 3, 0, none⟩ (.slice x.A' x.v.length x.c')).drew := ⟨_, rfl⟩
    rw [← hW3] at kx ko hb3 y2 y3 ⊢
    clear hW3 f2 f3 c2 c3
    have hK3 := ko.same _ _ hK rfl
    gi_wp2
    refine ⟨by simp, .inl ⟨_, _, rfl, run_takeDeferred hK3, ?_⟩⟩
    have hb4 : Below w.heap.size W3 (W3.putObj D (.deferred none)) := belowK_b (w := w) (Nat.le_refl _) W3 D _ _ (by omega) hK3 rfl rfl
    have kx4 : KeepX (LrX w.heap.size) W3 (W3.putObj D (.deferred none)) := KeepX.put hK3 rfl
    obtain ⟨v0, hEu⟩ := hlk.2
    have z2 : (W3.putObj D (.deferred none)).cell? ⟨w.heap.size + 2, 0, none⟩ = some (.slice x.A x.r.length x.c) := (World.cell?_of_block (w := W3) (a := ⟨w.heap.size + 2, 0, none⟩) (World.putObj_heap_other (by show w.heap.size + 2 ≠ D; omega))).trans y2
    have z3 : (W3.putObj D (.deferred none)).cell? ⟨w.heap.size + 3, 0, none⟩ = some (.slice x.A' x.v.length x.c') := (World.cell?_of_block (w := W3) (a := ⟨w.heap.size + 3, 0, none⟩) (World.putObj_heap_other (by show w.heap.size + 3 ≠ D; omega))).trans y3
    exact ⟨_, results_cell2 rfl (fun w => by kernel_rfl) (fun w => by kernel_rfl) _ _ rfl rfl (by simp [z2]) (by simp [z3]), _, v0, _, _, _, _, _, _, rfl, hEu, hhigh, hlow, ((hrd.1.keep kx).keep kx4).inn, ((hrd.2.keep kx).keep kx4).inn, hb3.trans hb4⟩
/-- The first of Euclid's rests that is low enough. -/
theorem lowRest_any (bf : Nat) (A A' : Option Addr) (c c' d : Nat) (xs ys R0 R1 : List Nat) (w : World) (hx : BB xs) (hy : BB ys) (hl : xs.length ≤ 255) (hd : d ≤ 255) (hF : IsField w bf) (hI : In w w.heap.size A c R0) (hI' : In w w.heap.size A' c' R1)
    (ht : tr R0 = R0) (hE : Eu xs ys R0 [] R1 [1]) (hR : R0.length = xs.length + 1) (hdn : d < xs.length) :
    Calls Try.prog 71 #[.pointer (some ⟨bf, 0, none⟩), .slice A R0.length c, .slice A' R1.length c', .int .i64 (d : Int)] w (LrAns w d xs ys) :=
  callsIn_wide.1 (lowRest_in bf A A' c c' d xs ys R0 R1 w hx hy hl hd hF hI hI' ht hE hR hdn)
end Go.Proofs.Ytgikgnhpplmljaa
end
section
/- What poly's Through does where there is a polynomial: it, in memory of its own. -/
namespace Go.Proofs.Ytgikgnhpplmljaa
open Go.RowKit Go.Shelf Gw Pol Go.BigFrame Go.Sort
attribute [local go_sem] Oper.semAt_some

/-- The row of noughts, and three boxes. -/
structure Four (w1 : World) (n : Nat) (v1 v2 v3 : Value) (W : World) : Prop where
  own : Gw.Own W w1.heap.size 5 (some ⟨w1.heap.size, 0, none⟩) n (List.replicate n 0)
  c1 : W.cell? ⟨w1.heap.size + 1, 0, none⟩ = some v1
  c2 : W.cell? ⟨w1.heap.size + 2, 0, none⟩ = some v2
  c3 : W.cell? ⟨w1.heap.size + 3, 0, none⟩ = some v3
  sz : W.heap.size = w1.heap.size + 4
  bl : Below w1.heap.size w1 W
theorem four (w1 : World) (n : Nat) (hn : n ≤ 140737488355328) (v1 v2 v3 : Value) (t1 t2 t3 : TypeId) :
    Four w1 n v1 v2 v3 ((((w1.alloc (.cells (madeCells #[.int .u8 0] n) 5)).alloc (.cells #[v1] t1)).alloc (.cells #[v2] t2)).alloc (.cells #[v3] t3)) := by
  refine ⟨(((Own.made w1 _ n hn).alloc _).alloc _).alloc _, ?_, ?_, ?_, by simp, ?_⟩
  · exact old_cell (old_cell (new_cell _ v1 t1 _ (by simp)) _) _
  · exact old_cell (new_cell _ v2 t2 _ (by simp)) _
  · exact new_cell _ v3 t3 _ (by simp)
  · exact ((((Below.refl _ w1).alloc (Nat.le_refl _) _).alloc (by simp) _).alloc (by simp; omega) _).alloc (by simp; omega) _

/-- Between two rounds. -/
def ThI (w : World) (d bf : Nat) (A A' : Option Addr) (c c' : Nat) (xs ys : List Nat) (pre : List (Pc xs)) (W : World) : Prop :=
  (W.cell? ⟨w.heap.size, 0, none⟩ = some (.pointer (some ⟨bf, 0, none⟩)) ∧ W.cell? ⟨w.heap.size + 1, 0, none⟩ = some (.slice A xs.length c) ∧ W.cell? ⟨w.heap.size + 2, 0, none⟩ = some (.slice A' xs.length c') ∧
    W.cell? ⟨d + 1, 0, none⟩ = some (.slice (some ⟨d, 0, none⟩) xs.length xs.length) ∧ Gw.Own W d 5 (some ⟨d, 0, none⟩) xs.length (accF xs ys pre)) ∧ Below w.heap.size w W
theorem ThI.own (w : World) (d bf : Nat) (A A' : Option Addr) (c c' : Nat) (xs ys : List Nat) (B : Nat) (hB : w.heap.size ≤ B) : OwnFrom B (ThI w d bf A A' c c' xs ys) :=
  OwnFrom.and (Own.from (fun _ _ _ _ hs hg hr => ⟨cell_kept hs.1 hg hr, cell_kept hs.2.1 hg hr, cell_kept hs.2.2.1 hg hr, cell_kept hs.2.2.2.1 hg hr, own_turned hs.2.2.2.2 hg hr⟩) _) (ownFrom_below (Nat.le_refl _) hB)

set_option maxRecDepth 100000 in
set_option maxHeartbeats 500000 in
theorem pthr_in (bf : Nat) (A A' : Option Addr) (c c' : Nat) (xs ys : List Nat) (w : World) (hF : IsField w bf) (hI : In w w.heap.size A c xs) (hI' : In w w.heap.size A' c' ys) (hcm : xs.length ≤ 70368744177664) (he : xs.length = ys.length) (hun : unB xs = true) :
    CallsIn Fence.wide 6 Try.prog 70 #[.pointer (some ⟨bf, 0, none⟩), .slice A xs.length c, .slice A' ys.length c'] w fun e w' =>
      ∃ A2 c2, e = .returned (.tuple #[.slice A2 (thr xs ys).length c2, .bool true]) ∧ Gw.Own w' w.heap.size 5 A2 c2 (thr xs ys) ∧ Below w.heap.size w w' := by
  have hlf := hF.lt
  have h3 := three w (.pointer (some ⟨bf, 0, none⟩)) (.slice A xs.length c) (.slice A' xs.length c') 30 36 36
  have hd := distinct_any A c xs _ ((hI.below h3.bl).more h3.bl.size) (by omega)
  rw [hun] at hd
  have HD := Lib.hid hd
  have H3 := Lib.hid h3
  have HE := Lib.hid he
  clear hd h3
  rw [← he]
  clear he
  have hmk := run_make_row' (P := Try.prog) 36 5 (.int .u8 0) 1 Try.underlying36 pbyte_info rfl .i64 .i64 xs.length (by omega) (by omega)
  refine callsIn_of_wp_marks Try.func70 rfl trivial ?_ rfl
  simp only [Try.ntmps70, List.size_toArray, List.length_cons, List.length_nil, Nat.reduceAdd, Nat.reduceSub, Array.replicate_succ, Array.replicate_zero, List.push_toArray, List.append_toArray, List.nil_append, List.cons_append]
  gi_wp2_with fail
  refine ⟨trivial, ?_⟩
  refine (callsIn_wide.2 HD.out).mono ?_
  rintro e w1 ⟨rfl, hb1⟩
  have hsz := H3.out.sz
  have c0 := (hb1.cell (p := ⟨w.heap.size, 0, none⟩) (by show w.heap.size < _; omega)).trans H3.out.c0
  have c1 := (hb1.cell (p := ⟨w.heap.size + 1, 0, none⟩) (by show w.heap.size + 1 < _; omega)).trans H3.out.c1
  have c2 := (hb1.cell (p := ⟨w.heap.size + 2, 0, none⟩) (by show w.heap.size + 2 < _; omega)).trans H3.out.c2
  have hd3 : w.heap.size + 3 ≤ w1.heap.size := by have := hb1.size; omega
  have hbw : Below w.heap.size w w1 := H3.out.bl.trans (hb1.mono H3.out.bl.size)
  clear HD hb1 hsz
  have e0 := old_cell (old_cell c0 (.cells (madeCells #[.int .u8 0] xs.length) 5)) (.cells #[.slice (some ⟨w1.heap.size, 0, none⟩) xs.length xs.length] 36)
  have e1 := old_cell (old_cell c1 (.cells (madeCells #[.int .u8 0] xs.length) 5)) (.cells #[.slice (some ⟨w1.heap.size, 0, none⟩) xs.length xs.length] 36)
  gi_wp2_with fail
  refine ⟨trivial, ?_⟩
  refine (callsIn_wide.2 (ppieces_mk bf A xs.length c _)).mono ?_
  rintro e w' ⟨rfl, rfl⟩
  gi_wp2
  clear e0 e1 hmk H3
  have h4 := four w1 xs.length (by omega) (.slice (some ⟨w1.heap.size, 0, none⟩) xs.length xs.length) (.pointer (some ⟨bf, 0, none⟩)) (.slice A xs.length c) 36 30 36
  have hb4 : Below w.heap.size w _ := hbw.trans (h4.bl.mono (by omega))
  have hF4 := hF.below hb4 hlf
  have hI4 := hI.below hb4
  refine Gq.range_mem (by omega) (gf := 103) (lb := #[.pointer (some ⟨w1.heap.size + 2, 0, none⟩), .pointer (some ⟨w1.heap.size + 3, 0, none⟩)]) rfl (enters_of Try.func103 (by kernel_rfl) rfl)
    (ppieces_stops (6 - 1) (by omega) w1.heap.size (w1.heap.size + 2) (w1.heap.size + 3) bf w.heap.size A c xs hcm _ (by rw [h4.sz]; omega) h4.c2 h4.c3 hF4 hI4 (by omega) (by omega) (by omega) (by omega))
    (fun h k => KeepC.trans h k) (fun W l o o' _ h hc => KeepC.put h hc) (fun _ => rfl) (PcRd.own w1.heap.size xs _)
    (ThI w w1.heap.size bf A A' c c' xs ys) (ThI.own w w1.heap.size bf A A' c c' xs ys _ (by rw [h4.sz]; omega))
    ⟨⟨old_cell (old_cell (old_cell (old_cell c0 _) _) _) _, old_cell (old_cell (old_cell (old_cell c1 _) _) _) _, old_cell (old_cell (old_cell (old_cell c2 _) _) _) _, h4.c1, h4.own⟩, hb4⟩
    (fun x => { tmps := #[.pointer (some ⟨bf, 0, none⟩), .slice A xs.length c, .slice A' xs.length c', .pointer (some ⟨w.heap.size, 0, none⟩), .pointer (some ⟨w.heap.size + 1, 0, none⟩), .pointer (some ⟨w.heap.size + 2, 0, none⟩), .slice none 0 0, .bool false, .pointer (some ⟨w1.heap.size + 1, 0, none⟩), .int .i64 (x.i : Int), .slice x.A x.q.length x.c, undef, undef, .slice A xs.length c, .int .i64 (xs.length : Int), .slice A' xs.length c', .int .i64 (xs.length : Int), .bool false, .bool false, .slice A xs.length c, .bool true, .bool false, .bool false, .slice A xs.length c, .int .i64 (xs.length : Int), .slice (some ⟨w1.heap.size, 0, none⟩) xs.length xs.length, .pointer (some ⟨bf, 0, none⟩), .slice A xs.length c, .func (.func 103) #[] #[.pointer (some ⟨w1.heap.size + 2, 0, none⟩), .pointer (some ⟨w1.heap.size + 3, 0, none⟩)], .int .i64 (x.i : Int), .slice x.A x.q.length x.c, undef, undef, undef, undef, undef, undef, undef, undef, undef, undef, undef, undef, undef, undef, undef, undef, undef, undef, undef, undef, undef, undef, undef], defers := [] }) ?assign ?body ?done
  case assign =>
    intro l x W K hK
    gi_wp2
    exact hK
  case body =>
    rintro lb pre x W ⟨⟨d0, d1, d2, d3, hown⟩, hB⟩ hrd _
    clear h4 hb4 hF4 hI4 c0 c1 c2
    have hacc := accF_ok xs ys pre
    have hql := pc_len x
    have HSN := Lib.hid (accF_snoc xs ys pre x)
    have hqb := pc_bb x
    have hpc : pcF xs ys x = Gf.dv (co ys x.i) (ev (co xs x.i) x.q) := rfl
    obtain ⟨i, hi, Aq, cq, q, hq⟩ := x
    have hF' := hF.below hB hlf
    have hiy : i < ys.length := by rw [← HE.out]; exact hi
    obtain ⟨vx, b, off, hx, hxb, rfl, hb, hcx⟩ := (hI.below hB).sl.at_ hi
    obtain ⟨vy, b2, off2, hy, hyb, rfl, hb2, hcy⟩ := (hI'.below hB).sl.at_ hiy
    dsimp only at hpc hql hqb HSN ⊢
    rw [co_of' hx, co_of' hy] at hpc
    rw [hpc] at HSN
    clear hpc hx hy
    have hrd' : Gw.Own W (w1.heap.size + 1) 5 Aq cq q := hrd
    have hqi := hrd'.inn
    have mixed : Try.prog.follows .mixedOrders = true := by kernel_rfl
    have k0 := cell_regrown d0
    have k1 := cell_regrown d1
    have k2 := cell_regrown d2
    have kx := cell_regrown hcx
    have ky := cell_regrown hcy
    have cQ : ∀ dd os, Calls Try.prog 42 #[.pointer (some ⟨bf, 0, none⟩), .slice Aq q.length cq, .int .u8 (vx : Int)] (grow (redrawn W dd) os) fun e w'' => e = .returned (.int .u8 (ev vx q : Int)) ∧ ∃ p : Regrown, w'' = grow (redrawn W p.d) p.os := fun dd os =>
      Calls.regrown_of (peval' bf Aq cq q.length q vx rfl hxb _ (hF'.below (below_regrown W dd os) hF'.lt) ((hqi.below (below_regrown W dd os)).more (below_regrown W dd os).size) (by rw [hql]; omega))
    have cE : ∀ dd os, Calls Try.prog 91 #[.pointer (some ⟨bf, 0, none⟩), .int .u8 (vy : Int), .int .u8 (ev vx q : Int)] (grow (redrawn W dd) os) fun e w'' => e = .returned (.tuple #[.int .u8 (Gf.dv vy (ev vx q) : Int), .bool (nz (ev vx q))]) ∧ ∃ p : Regrown, w'' = grow (redrawn W p.d) p.os := fun dd os =>
      Calls.regrown_of ((div_any bf vy (ev vx q) hyb (ev_lt hqb _) _ (hF'.below (below_regrown W dd os) hF'.lt)).mono (fun e w'' h => ⟨h.1, by obtain ⟨_, m, rfl⟩ := h; exact Gw.Below.drewN (Below.refl _ _) m⟩))
    have HQL := Lib.hid hql
    have HAC := Lib.hid hacc
    have HC0 := Lib.hid d0
    have HC1 := Lib.hid d1
    have HC2 := Lib.hid d2
    have HOW := Lib.hid hown
    have HRD := Lib.hid hrd'
    have HF2 := Lib.hid hF'
    have HBW := Lib.hid hB
    clear hown hrd' hrd hqi hF' hB d0 d1 d2 hcx hcy hql hacc
    gi_wp2
    refine Gq.region_round_all (C := fun w' => ∃ p : Regrown, w' = grow (redrawn W p.d) p.os) mixed (by kernel_rfl) (by kernel_rfl) ⟨⟨W.drawn + 1, #[]⟩, by rw [grow_empty]; rfl⟩ ?_
    repeat (go_big_quiet_step ((first | (go_at_call 42; exact cQ _ _) | (go_at_call 91; exact cE _ _))))
    refine wpQuiet_nil ?_
    intro _ hw'
    obtain ⟨⟨dq, osq⟩, hw''⟩ := hw'
    subst hw''
    have hbX := below_regrown W dq osq
    obtain ⟨X, hX⟩ : ∃ X, X = grow (redrawn W dq) osq := ⟨_, rfl⟩
    rw [← hX] at hbX ⊢
    clear hX k0 k1 k2 kx ky cQ cE
    have x0 := (hbX.cell (p := ⟨w.heap.size, 0, none⟩) (cell_lt HC0.out)).trans HC0.out
    have x3 := (hbX.cell (p := ⟨w1.heap.size + 1, 0, none⟩) (cell_lt d3)).trans d3
    have HA := Lib.hid (addTimes' bf w1.heap.size 0 xs.length xs.length w1.heap.size xs.length (accF xs ys pre) Aq cq q.length q (Gf.dv vy (ev vx q)) rfl (Gf.gm_lt _ _) X (HF2.out.below hbX HF2.out.lt) (by omega) (HOW.out.kept hbX) (by rw [HAC.out.1, HQL.out]; omega) (by rw [HQL.out]; exact Nat.le_refl _) ((HRD.out.kept hbX).away (by omega)) (by rw [HAC.out.1]; omega))
    gi_wp2_with fail
    refine ⟨trivial, ?_⟩
    refine (CallsIn.inRound lb (callsIn_wide.2 HA.out)).mono ?_
    rintro e W3 ⟨rfl, hown3, hg3⟩
    gi_wp2
    have hk3 : KeepC w1.heap.size W W3 := (KeepC.below hbX).trans (KeepC.by hg3)
    have hbe : Below w.heap.size W W3 := (hbX.mono HBW.out.size).trans (Gw.Below.by hg3 (Nat.le_trans HBW.out.size hbX.size) (by omega))
    refine ⟨(keeps_below hbX).trans (keeps_row (HOW.out.kept hbX) hg3), hk3, ⟨hk3.cell HC0.out (by omega), hk3.cell HC1.out (by omega), hk3.cell HC2.out (by omega), hk3.cell d3 (by omega), ?_⟩, HBW.out.trans hbe⟩
    rw [HSN.out]; exact hown3
  case done =>
    rintro D pre W hD hS ⟨⟨d0, d1, d2, d3, hown⟩, hB⟩ hK
    rw [h4.sz] at hD
    clear h4 hb4 hF4 hI4 c0 c1 c2 d0 d1 d2
    have hacc := accF_ok xs ys pre
    have HT := Lib.hid (ptrim' (some ⟨w1.heap.size, 0, none⟩) xs.length xs.length (accF xs ys pre) W _ hacc.1.symm hown.inn (by rw [hacc.1]; omega))
    have HA := Lib.hid (accF_all hI.bb hI'.bb (of_decide_eq_true hun) hS)
    have HO := Lib.hid hown.tr
    clear hown hacc
    gi_wp2_with fail
    refine ⟨trivial, ?_⟩
    refine (callsIn_wide.2 HT.out).mono ?_
    rintro e W2 ⟨rfl, rfl⟩
    gi_wp2
    refine ⟨by simp, .inl ⟨_, _, rfl, run_takeDeferred hK, ?_⟩⟩
    have hb2 : Below w.heap.size W (W.putObj D (.deferred none)) := belowK_b (w := w) (Nat.le_refl _) W D _ _ (by omega) hK rfl rfl
    have ho := own_turned HO.out (grownBy_putObj' W D (.deferred none)) (fun r e => by cases e; exact ⟨_, hK, rfl⟩)
    rw [HA.out] at ho ⊢
    exact ⟨_, results_tmp2 rfl _ _ _, _, _, rfl, ho.base (by omega), hB.trans hb2⟩
/-- The polynomial through points. -/
theorem pthr_any (bf : Nat) (A A' : Option Addr) (c c' : Nat) (xs ys : List Nat) (w : World) (hF : IsField w bf) (hI : In w w.heap.size A c xs) (hI' : In w w.heap.size A' c' ys) (hcm : xs.length ≤ 70368744177664) (he : xs.length = ys.length) (hun : unB xs = true) :
    Calls Try.prog 70 #[.pointer (some ⟨bf, 0, none⟩), .slice A xs.length c, .slice A' ys.length c'] w fun e w' =>
      ∃ A2 c2, e = .returned (.tuple #[.slice A2 (thr xs ys).length c2, .bool true]) ∧ Gw.Own w' w.heap.size 5 A2 c2 (thr xs ys) ∧ Below w.heap.size w w' :=
  callsIn_wide.1 (pthr_in bf A A' c c' xs ys w hF hI hI' hcm he hun)
end Go.Proofs.Ytgikgnhpplmljaa
end
section
/- What bw's nearest does: the low rest divided by its factor, if nothing is left and its Degree is d at most. -/
namespace Go.Proofs.Ytgikgnhpplmljaa
open Go.RowKit Go.Shelf Gw Pol

/-- What nearest answers. -/
def NrAns (w : World) (d : Nat) (xs ys : List Nat) (e : Ending) (w' : World) : Prop :=
  ∃ (r0 v0 r1 v1 q r : List Nat), Eu xs ys r0 v0 r1 v1 ∧ xs.length + d + 3 ≤ 2 * r0.length ∧ 2 * r1.length < xs.length + d + 3 ∧ DivOf r1 v1 q r ∧
    ((∃ A c, e = .returned (.tuple #[.slice A q.length c, .bool true]) ∧ r = [] ∧ q.length ≤ d + 1 ∧ Gw.Own w' w.heap.size 5 A c q) ∨ (e = .returned (.tuple #[.slice none 0 0, .bool false]) ∧ ¬ (r = [] ∧ q.length ≤ d + 1))) ∧ Below w.heap.size w w'
theorem rt_tr (xs : List Nat) : tr (rt xs) = rt xs := tr_self (.inr (by rw [(rt_top xs).1, Nat.add_sub_cancel, (rt_top xs).2]; omega))

set_option maxRecDepth 100000 in
set_option maxHeartbeats 2000000 in
theorem nearest_any (bf : Nat) (A A' : Option Addr) (c c' d : Nat) (xs ys : List Nat) (w : World) (hF : IsField w bf) (hI : In w w.heap.size A c xs) (hI' : In w w.heap.size A' c' ys) (he : xs.length = ys.length) (hl : xs.length ≤ 255) (hun : unB xs = true) (hd : d ≤ 255) (hdn : d < xs.length) :
    Calls Try.prog 53 #[.pointer (some ⟨bf, 0, none⟩), .slice A xs.length c, .slice A' ys.length c', .int .i64 (d : Int)] w (NrAns w d xs ys) := by
  have hlf := hF.lt
  have T1 := Lib.hid (pthr_any bf A A' c c' xs ys w hF hI hI' (by omega) he hun)
  have HX := Lib.hid hI.bb
  have HY := Lib.hid hI'.bb
  have HU := Lib.hid (show xs.Nodup from of_decide_eq_true hun)
  have HEQ := Lib.hid he
  have HTL := Lib.hid (thr_len xs ys)
  have HRT := Lib.hid (rt_top xs).1
  clear he hun
  go_enter Try.func53, Try.ntmps53
  go_wp2_with fail
  refine T1.out.mono ?_
  rintro e w1 ⟨A1, c1, rfl, ho1, hb1⟩
  have T2 := Lib.hid (proots_any bf A c xs w1 (hF.below hb1 hlf) ((hI.below hb1).more hb1.size) (by omega))
  go_wp2_with fail
  refine T2.out.mono ?_
  rintro e w2 ⟨A2, c2, rfl, ho2, hb2⟩
  have hb12 : Below w.heap.size w w2 := hb1.trans (hb2.mono hb1.size)
  have T3 := Lib.hid (lowRest_any bf A2 A1 c2 c1 d xs ys (rt xs) (thr xs ys) w2 HX.out HY.out hl hd (hF.below hb12 hlf) ho2.inn (ho1.kept hb2).inn (rt_tr xs) (Eu.start HX.out HY.out HU.out) HRT.out hdn)
  clear T1 T2 ho1 ho2
  go_wp2_with fail
  refine T3.out.mono ?_
  rintro e w3 ⟨r0, v0, r1, v1, A3, A4, c3, c4, rfl, hEu, hhigh, hlow, hi3, hi4, hb3⟩
  have hb13 : Below w.heap.size w w3 := hb12.trans (hb3.mono hb12.size)
  have hsum := hEu.sum
  have hfall := hEu.fall
  have hv1 : v1 ≠ [] := fun e => by have := hEu.rise; rw [e] at this; simp at this
  have T4 := Lib.hid (pdiv_any bf A3 A4 c3 c4 r1 v1 w3 (hF.below hb13 hlf) hi3 hi4 (by rw [hEu.u1]; exact hv1) (by omega) (by omega))
  have HEU := Lib.hid hEu
  clear T3 hi3 hi4 hEu hv1
  go_wp2_with fail
  refine T4.out.mono ?_
  rintro e w4 ⟨q, r, Aq, Ar, cq, cr, rfl, hdiv, hoq, _, _, hb4⟩
  have HB := Lib.hid (hb13.trans (hb4.mono hb13.size))
  have HD := Lib.hid hdiv
  have hql := hdiv.lq
  have HO := Lib.hid (hoq.base (base' := w.heap.size) hb13.size)
  have HIQ := Lib.hid hoq.inn
  clear T4 hdiv hoq hb4
  by_cases hr : r = []
  · subst hr
    have T5 := Lib.hid (degree_any Aq cq q w4 _ HIQ.out (by omega))
    rw [HD.out.tq] at T5
    by_cases hqd : q.length ≤ d + 1
    · have hdec : (((q.length : Int) - 1) > (d : Int)) = False := eq_false (by omega)
      have hdec2 : ¬ ((d : Int) < (q.length : Int) - 1) := by omega
      have hrl : ((List.length ([] : List Nat) : Nat) : Int) = 0 := rfl
      go_wp2_with fail
      refine T5.out.mono ?_
      rintro e w5 ⟨rfl, rfl⟩
      go_wp2
      go_ret2
      exact ⟨r0, v0, r1, v1, q, [], HEU.out, hhigh, hlow, HD.out, .inl ⟨_, _, rfl, rfl, hqd, HO.out⟩, HB.out⟩
    · have hdec2 : (d : Int) < (q.length : Int) - 1 := by omega
      go_wp2_with fail
      refine T5.out.mono ?_
      rintro e w5 ⟨rfl, rfl⟩
      go_wp2
      go_ret2
      exact ⟨r0, v0, r1, v1, q, [], HEU.out, hhigh, hlow, HD.out, .inr ⟨rfl, fun h => hqd h.2⟩, HB.out⟩
  · have hrl : 0 < r.length := List.length_pos_iff.2 hr
    go_wp2
    go_ret2
    exact ⟨r0, v0, r1, v1, q, r, HEU.out, hhigh, hlow, HD.out, .inr ⟨rfl, fun h => hr h.1⟩, HB.out⟩
end Go.Proofs.Ytgikgnhpplmljaa
end
section
/- Rows of ints beside ranges over functions (the rows: Oij). -/
end
section
/- What rs's Encode does: a polynomial's values at all points, in memory of its own. -/
namespace Go.Proofs.Ytgikgnhpplmljaa
open Go.RowKit Go.Shelf Gw Pol

def EnRel (w : World) (p xs : List Nat) (_a _b i : Value) (wr : World) : Prop :=
  ∃ k : Nat, k ≤ xs.length ∧ i = .int .i64 (k : Int) ∧ Gw.Own wr w.heap.size 5 (some ⟨w.heap.size, 0, none⟩) xs.length (encTo p xs k) ∧ Below w.heap.size w wr
set_option maxRecDepth 100000 in
set_option maxHeartbeats 1000000 in
theorem encode_any (bf : Nat) (A A' : Option Addr) (c c' : Nat) (p xs : List Nat) (w : World) (hF : IsField w bf) (hp : In w w.heap.size A c p) (hx : In w w.heap.size A' c' xs) (hcm : p.length ≤ 140737488355328) (hcx : xs.length ≤ 140737488355328) :
    Calls Try.prog 38 #[.pointer (some ⟨bf, 0, none⟩), .slice A p.length c, .slice A' xs.length c'] w fun e w' => ∃ A2 c2, e = .returned (.slice A2 (enc p xs).length c2) ∧ Gw.Own w' w.heap.size 5 A2 c2 (enc p xs) ∧ Below w.heap.size w w' := by
  have hlf := hF.lt
  have hmk := run_make_row' (P := Try.prog) 36 5 (.int .u8 0) 1 Try.underlying36 pbyte_info rfl .i64 .i64 xs.length (by omega) (by omega)
  have hown0 := Own.made w 5 xs.length hcx
  rw [← encTo_zero p] at hown0
  have HO := Lib.hid hown0
  clear hown0
  go_enter Try.func38, Try.ntmps38
  go_wp2
  clear hmk
  go_loopw [8, 9, 15] (EnRel w p xs) (fun _ _ i _ => xs.length - (intOf i).toNat)
  case atStart => exact ⟨0, Nat.zero_le _, rfl, HO.out, (Below.refl _ _).alloc (Nat.le_refl _) _⟩
  case round =>
    obtain ⟨k, hk, rfl, hown', hbel⟩ := hrel
    by_cases hlt : k < xs.length
    · obtain ⟨x, b, off, hxx, hxb, rfl, hb, hcell⟩ := (hx.below hbel).sl.at_ hlt
      have HST := Lib.hid (encTo_step (p := p) hxx)
      have HV := Lib.hid (peval_any bf A c p x hxb _ (hF.below hbel hlf) ((hp.below hbel).more hbel.size) hcm)
      have hle := ev_lt hp.bb x
      have HW := Lib.hid hown'
      clear hxx hown'
      go_wp2_with fail
      refine HV.out.mono ?_
      rintro e w2 ⟨rfl, hb2⟩
      have hown2 := HW.out.kept hb2
      have hbel2 := hbel.trans (hb2.mono hbel.size)
      have hkl : k < (encTo p xs k).length := by rw [encTo_len]; exact hlt
      have hcg := hown2.cell hkl
      have hfr := Own.frozen hown2 k
      have hset := hown2.put hkl hle
      rw [HST.out] at hset
      have HS := Lib.hid hset
      have HG := Lib.hid (hbel2.setCell (p := ⟨w.heap.size, k, none⟩) (Nat.le_refl _) (.int .u8 (ev x p : Int)))
      obtain ⟨v, hv⟩ : ∃ v, v = co (encTo p xs k) k := ⟨_, rfl⟩
      rw [← hv] at hcg
      clear hset hv hown2 hkl HV hb2 hbel2 hcell
      go_wp2
      go_roundw
      case rel => exact ⟨k + 1, by omega, by go_num, HS.out, HG.out⟩
      case measure => simp [intOf]; omega
    · obtain rfl : k = xs.length := by omega
      rw [encTo_all] at hown'
      go_wp2
      go_ret
      exact ⟨_, _, by rw [enc_len]; rfl, hown', hbel⟩
theorem encode' (bf : Nat) (A A' : Option Addr) (c c' n m : Nat) (p xs : List Nat) (w : World) (hn : n = p.length) (hm : m = xs.length) (hF : IsField w bf) (hp : In w w.heap.size A c p) (hx : In w w.heap.size A' c' xs) (hcm : p.length ≤ 140737488355328) (hcx : xs.length ≤ 140737488355328) :
    Calls Try.prog 38 #[.pointer (some ⟨bf, 0, none⟩), .slice A n c, .slice A' m c'] w fun e w' => ∃ A2 c2, e = .returned (.slice A2 (enc p xs).length c2) ∧ Gw.Own w' w.heap.size 5 A2 c2 (enc p xs) ∧ Below w.heap.size w w' := by
  subst hn hm; exact encode_any bf A A' c c' p xs w hF hp hx hcm hcx
end Go.Proofs.Ytgikgnhpplmljaa
end
section
/- What bw's others hands out: the places at which a polynomial has another value. -/
namespace Go.Proofs.Ytgikgnhpplmljaa
open Go.RowKit Go.Shelf Gw Pol Gq
attribute [local go_sem] Oper.semAt_some

theorem others_mk (bf : Nat) (A1 A2 A3 : Option Addr) (n1 c1 n2 c2 n3 c3 : Nat) (w : World) :
    Calls Try.prog 54 #[.pointer (some ⟨bf, 0, none⟩), .slice A1 n1 c1, .slice A2 n2 c2, .slice A3 n3 c3] w fun e w' =>
      e = .returned (.func (.func 75) #[] #[.pointer (some ⟨w.heap.size, 0, none⟩), .pointer (some ⟨w.heap.size + 1, 0, none⟩), .pointer (some ⟨w.heap.size + 2, 0, none⟩), .pointer (some ⟨w.heap.size + 3, 0, none⟩)]) ∧
      w' = (((w.alloc (.cells #[.pointer (some ⟨bf, 0, none⟩)] 30)).alloc (.cells #[.slice A1 n1 c1] 36)).alloc (.cells #[.slice A2 n2 c2] 36)).alloc (.cells #[.slice A3 n3 c3] 36) := by
  go_enter Try.func54, Try.ntmps54
  go_wp2
  go_ret
  exact ⟨rfl, rfl⟩

def oval {L : Nat} (pre : List (Plc L)) : List Nat := pre.map (fun x => x.1)
theorem oval_snoc {L : Nat} (pre : List (Plc L)) (x : Plc L) : oval (pre ++ [x]) = oval pre ++ [x.1] := by simp [oval]
abbrev oencs (L : Nat) (i : Plc L) : Array Value := #[.int .i64 (i.1 : Int)]
def OtLk (p xs ys : List Nat) (pre : List (Plc xs.length)) (x : Plc xs.length) : Prop := oval pre = wrTo p xs ys x.1
def OtRel (p xs ys : List Nat) (X : Nat → TypeId → Prop) (J : List (Plc xs.length) → World → Prop) (W : World) (A : Option Addr) (c : Nat) (i : Value) (wr : World) : Prop :=
  ∃ (k : Nat) (pre : List (Plc xs.length)), k ≤ xs.length ∧ i = .int .i64 (k : Int) ∧ oval pre = wrTo p xs ys k ∧ J pre wr ∧ KeepX X W wr ∧ Gw.Own wr W.heap.size 5 A c (enc p xs)
set_option maxRecDepth 100000 in
set_option maxHeartbeats 2000000 in
theorem others_stops (n : Nat) (hn : 1 ≤ n) (X : Nat → TypeId → Prop) (p1 p2 p3 p4 bf : Nat) (A1 A2 A3 : Option Addr) (c1 c2 c3 : Nat) (p xs ys : List Nat) (w : World) (hl : xs.length ≤ 255) (hlp : p.length ≤ 140737488355328) (he : xs.length = ys.length)
    (h1 : w.cell? ⟨p1, 0, none⟩ = some (.pointer (some ⟨bf, 0, none⟩))) (h2 : w.cell? ⟨p2, 0, none⟩ = some (.slice A1 p.length c1)) (h3 : w.cell? ⟨p3, 0, none⟩ = some (.slice A2 xs.length c2)) (h4 : w.cell? ⟨p4, 0, none⟩ = some (.slice A3 ys.length c3)) (hF : IsField w bf)
    (i1 : InX X w A1 c1 p) (i2 : InX X w A2 c2 xs) (i3 : InX X w A3 c3 ys) (k1 : ∀ e, ¬ X p1 e) (k2 : ∀ e, ¬ X p2 e) (k3 : ∀ e, ¬ X p3 e) (k4 : ∀ e, ¬ X p4 e) (k5 : ∀ e, ¬ X bf e) (hX : ∀ b, w.heap.size ≤ b → ¬ X b 5) :
    SeqMemX n Try.prog 75 #[.pointer (some ⟨p1, 0, none⟩), .pointer (some ⟨p2, 0, none⟩), .pointer (some ⟨p3, 0, none⟩), .pointer (some ⟨p4, 0, none⟩)] (oencs xs.length) (fun _ _ => True) (KeepX X) (OtLk p xs ys) (fun pre => oval pre = wrTo p xs ys xs.length) w := fun l J Jx W hW hJ hY h0 => by
  have q0 : KeepX X w W := KeepX.below hW
  have g1 := q0.cell h1 k1
  have g2 := q0.cell h2 k2
  have g3 := q0.cell h3 k3
  have g4 := q0.cell h4 k4
  have hFW := q0.field hF k5
  have j1 := i1.keep q0
  have j2 := i2.keep q0
  have j3 := i3.keep q0
  have hWs := hW.size
  have HEN := Lib.hid (encode_any bf A1 A2 c1 c2 p xs W hFW j1.inn j2.inn hlp (by omega))
  have HBP := Lib.hid j1.bb
  have HE := Lib.hid he
  have hel := enc_len p xs
  have HEL := Lib.hid hel
  clear he hel
  refine callsIn_of_wp Try.func75 rfl trivial ?_ rfl
  simp only [Try.ntmps75, List.size_toArray, List.length_cons, List.length_nil, Nat.reduceAdd, Nat.reduceSub, Array.replicate_succ, Array.replicate_zero, List.push_toArray, List.append_toArray, List.nil_append, List.cons_append]
  gi_wp2_with fail
  refine ⟨trivial, ?_⟩
  refine (callsIn_wide.2 HEN.out).mono ?_
  rintro e W1 ⟨Aa, ca, rfl, hown1, hb1⟩
  have hJ1 := hJ [] W W1 h0 ⟨hb1.os, hb1.tape, hb1.output, hb1.size, fun k hk _ => hb1.block k hk⟩
  rw [HEL.out]
  have hcap := hown1.cap
  rw [HEL.out] at hcap
  gi_wp2
  gi_loopw [13] (OtRel p xs ys X J W Aa ca) (fun i _ => xs.length - (intOf i).toNat)
  case atStart => exact ⟨0, [], Nat.zero_le _, rfl, rfl, hJ1, KeepX.below hb1, hown1⟩
  case round =>
    clear hJ1 hown1 hb1
    obtain ⟨k, pre, hk, rfl, hpre, hJs, hq, hown⟩ := hrel
    by_cases hlt : k < xs.length
    · have d4 := hq.cell g4 k4
      obtain ⟨y, b, off, hy, hyb, rfl, _, hcy⟩ := (j3.keep hq).inn.sl.at_ (k := k) (by rw [← HE.out]; exact hlt)
      obtain ⟨g, rfl, hg, _⟩ := hown.store (k := k) (by rw [HEL.out]; exact hlt)
      have hcx := hown.cell (k := k) (by rw [HEL.out]; exact hlt)
      rw [enc_at hlt] at hcx
      obtain ⟨v, hv⟩ : ∃ v, v = ev xs[k] p := ⟨_, rfl⟩
      rw [← hv] at hcx
      have hvb : v < 256 := by rw [hv]; exact ev_lt HBP.out _
      have hly : k < ys.length := by rw [← HE.out]; exact hlt
      by_cases hvy : v = y
      · have HW := Lib.hid (show wrTo p xs ys (k + 1) = wrTo p xs ys k by rw [wrTo, if_pos (by rw [co_get hlt, co_of' hy, ← hv]; exact hvy)])
        subst hvy
        have HO := Lib.hid hown
        have HQ := Lib.hid hq
        have HP := Lib.hid hpre
        clear hv hy hown hq hpre
        gi_wp2
        all_goals (refine ⟨fun _ _ => trivial, ?_⟩)
        gi_wp2
        go_roundw
        case rel => exact ⟨k + 1, pre, by omega, by go_num, by rw [HW.out]; exact HP.out, hJs, HQ.out, HO.out⟩
        case measure => simp [intOf]; omega
      · have HW := Lib.hid (show wrTo p xs ys (k + 1) = wrTo p xs ys k ++ [k] by rw [wrTo, if_neg (by rw [co_get hlt, co_of' hy, ← hv]; exact hvy)])
        have hne : ((y : Int) != (v : Int)) = true := by rw [bne_iff_ne]; omega
        obtain ⟨fn, tmps, assign, body, hyy, hR⟩ := hY pre ⟨k, hlt⟩ wr hJs trivial hpre
        dsimp only [oencs] at hyy
        have HO := Lib.hid hown
        have HQ := Lib.hid hq
        have HP := Lib.hid hpre
        clear hv hy hown hq hpre hJs hvy
        gi_wp2_with fail
        refine hR.mono ?_
        rintro e W3 (⟨rfl, hJ3, hK3⟩ | ⟨rfl, hJx3⟩)
        · have H1 := Lib.hid (HQ.out.trans hK3)
          have H2 := Lib.hid (hK3.own HO.out (fun b h => hX b (by omega)))
          clear hyy hK3
          gi_wp2
          go_roundw
          case rel => exact ⟨k + 1, pre ++ [⟨k, hlt⟩], by omega, by go_num, by rw [HW.out, oval_snoc, HP.out], hJ3, H1.out, H2.out⟩
          case measure => simp [intOf]; omega
        · clear hyy
          gi_wp2
          refine bodyPost_ret (results_none rfl _ _ _) rfl ?_
          exact ⟨⟨_, rfl⟩, .inr ⟨_, hJx3⟩⟩
    · obtain rfl : k = xs.length := by omega
      gi_wp2
      go_end0
      exact ⟨⟨_, rfl⟩, .inl ⟨pre, hpre, hJs⟩⟩
end Go.Proofs.Ytgikgnhpplmljaa
end
section
/- What bw's Decode answers where nothing is to be looked for: none. -/
namespace Go
/-- Three results, the second in a box. -/
theorem results_tct {P : Program} {fn : Func} {p u v : Tmp} {t : TypeId} (h : fn.results = #[.tmp p, .cell u t, .tmp v]) (ha : ∀ w, (isAgg t).run P w = .ok false w) (tmps : Array Value) (w : World)
    {b : Addr} {x : Value} (h2 : tmps.getD u undef = .pointer (some b)) (c2 : (load b).run P w = .ok x w) : (results fn tmps).run P w = .ok (.tuple #[tmps.getD p undef, x, tmps.getD v undef]) w := by
  have h2' : tmps[u]?.getD undef = .pointer (some b) := by simpa using h2
  simp [results, h, h2', asAddr, loadVar, Sem.run_bind, Result.andThen, ha, c2]
end Go
namespace Go.Proofs.Ytgikgnhpplmljaa
open Go.RowKit Go.Shelf Gw Pol

/-- What Decode answers. -/
def DcYes (w : World) (xs ys : List Nat) (d e : Int) (en : Ending) (w' : World) : Prop :=
  ∃ (p : List Nat) (A A' : Option Addr) (c c' : Nat), en = .returned (.tuple #[.slice A p.length c, .slice A' (wrTo p xs ys xs.length).length c', .bool true]) ∧ Agd xs ys d e p ∧ Gw.Own w' w.heap.size 5 A c p ∧ OwnJ w' w.heap.size 3 A' c' (wrTo p xs ys xs.length) ∧ Below w.heap.size w w'
def DcNo (w : World) (en : Ending) (w' : World) : Prop := en = .returned (.tuple #[.slice none 0 0, .slice none 0 0, .bool false]) ∧ Below w.heap.size w w'
def DcAns (w : World) (xs ys : List Nat) (d e : Int) (en : Ending) (w' : World) : Prop := DcYes w xs ys d e en w' ∨ (DcNo w en w' ∧ ∀ p, ¬ Agd xs ys d e p)

theorem zeroInts (w : World) : (zeroValue 24).run Try.prog w = .ok (.slice none 0 0) w := by kernel_rfl
theorem aggInts (w : World) : (isAgg 24).run Try.prog w = .ok false w := by kernel_rfl
/-- The box of the places. -/
structure DcB (w W : World) : Prop where
  c : W.cell? ⟨w.heap.size, 0, none⟩ = some (.slice none 0 0)
  f : W.frozen? ⟨w.heap.size, 0, none⟩ = false
  sz : W.heap.size = w.heap.size + 1
  bl : Below w.heap.size w W
theorem dcB (w : World) : DcB w (w.alloc (.cells #[.slice none 0 0] 24)) := ⟨new_cell w _ _ _ rfl, new_frozen w _ _ _ rfl, by simp, (Below.refl _ w).alloc (Nat.le_refl _) _⟩
/-- When nothing is put into it. -/
theorem dc_set {w W : World} (hc : W.cell? ⟨w.heap.size, 0, none⟩ = some (.slice none 0 0)) (hb : Below w.heap.size w W) : (load ⟨w.heap.size, 0, none⟩).run Try.prog (W.setCell ⟨w.heap.size, 0, none⟩ (.slice none 0 0)) = .ok (.slice none 0 0) (W.setCell ⟨w.heap.size, 0, none⟩ (.slice none 0 0)) ∧ Below w.heap.size w (W.setCell ⟨w.heap.size, 0, none⟩ (.slice none 0 0)) := by
  refine ⟨?_, hb.setCell (p := ⟨w.heap.size, 0, none⟩) (Nat.le_refl _) _⟩
  have := World.cell?_setCell_same W ⟨w.heap.size, 0, none⟩ (.slice none 0 0) hc
  simp [this]

theorem dc_load {w W : World} (hB : DcB w W) : (load ⟨w.heap.size, 0, none⟩).run Try.prog W = .ok (.slice none 0 0) W ∧ Below w.heap.size w W := ⟨by simp [hB.c], hB.bl⟩

set_option maxRecDepth 100000 in
set_option maxHeartbeats 1000000 in
theorem bdec_len (bf : Nat) (A A' : Option Addr) (c c' : Nat) (xs ys : List Nat) (d e : Int) (w : World) (he : xs.length ≠ ys.length) :
    Calls Try.prog 26 #[.pointer (some ⟨bf, 0, none⟩), .slice A xs.length c, .slice A' ys.length c', .int .i64 d, .int .i64 e] w (DcNo w) := by
  have hz := zeroInts
  have hB := dcB w
  have hne : (((xs.length : Int)) != ((ys.length : Int))) = true := by rw [bne_iff_ne]; omega
  have hS := Lib.hid (dc_load hB)
  clear hB
  go_enter Try.func26, Try.ntmps26
  go_wp2
  refine bodyPost_ret (results_tct rfl aggInts _ _ rfl hS.out.1) rfl ?_
  exact ⟨rfl, hS.out.2⟩

set_option maxRecDepth 100000 in
set_option maxHeartbeats 1000000 in
theorem bdec_many (bf : Nat) (A A' : Option Addr) (c c' : Nat) (xs ys : List Nat) (d e : Int) (w : World) (he : xs.length = ys.length) (hl : 255 < xs.length) :
    Calls Try.prog 26 #[.pointer (some ⟨bf, 0, none⟩), .slice A xs.length c, .slice A' ys.length c', .int .i64 d, .int .i64 e] w (DcNo w) := by
  have hz := zeroInts
  have hB := dcB w
  have hS := Lib.hid (dc_load hB)
  rw [← he]
  clear hB he
  go_enter Try.func26, Try.ntmps26
  go_wp2
  refine bodyPost_ret (results_tct rfl aggInts _ _ rfl hS.out.1) rfl ?_
  exact ⟨rfl, hS.out.2⟩

set_option maxRecDepth 100000 in
set_option maxHeartbeats 1000000 in
theorem bdec_bad (bf : Nat) (A A' : Option Addr) (c c' : Nat) (xs ys : List Nat) (d e : Int) (w : World) (hI : In w w.heap.size A c xs) (he : xs.length = ys.length) (hl : xs.length ≤ 255) (hbad : unB xs = false ∨ witB d = false ∨ witB e = false) :
    Calls Try.prog 26 #[.pointer (some ⟨bf, 0, none⟩), .slice A xs.length c, .slice A' ys.length c', .int .i64 d, .int .i64 e] w (DcNo w) := by
  have hz := zeroInts
  have hB := dcB w
  have T1 := Lib.hid (repeated_any A c xs _ ((hI.below hB.bl).more hB.bl.size) (by omega))
  have HB := Lib.hid hB
  rw [← he]
  clear hB he
  have after : ∀ w1, Below (w.alloc (.cells #[.slice none 0 0] 24)).heap.size (w.alloc (.cells #[.slice none 0 0] 24)) w1 → w1.cell? ⟨w.heap.size, 0, none⟩ = some (.slice none 0 0) ∧ w1.frozen? ⟨w.heap.size, 0, none⟩ = false ∧ Below w.heap.size w w1 := fun w1 hb => by
    have hs := HB.out.sz
    refine ⟨(hb.cell (p := ⟨w.heap.size, 0, none⟩) (by show w.heap.size < _; omega)).trans HB.out.c, (World.frozen?_of_block (hb.block w.heap.size (by omega))).trans HB.out.f, HB.out.bl.trans (hb.mono (by omega))⟩
  have HA := Lib.hid after
  clear after
  by_cases hu : unB xs = false
  · rw [hu] at T1
    clear hu hbad
    go_enter Try.func26, Try.ntmps26
    go_wp2_with fail
    refine T1.out.mono ?_
    rintro en w1 ⟨rfl, hb1⟩
    obtain ⟨hc, hf, hb⟩ := HA.out w1 hb1
    have hS := Lib.hid (dc_set hc hb)
    go_wp2
    refine bodyPost_ret (results_tct rfl aggInts _ _ rfl hS.out.1) rfl ?_
    exact ⟨rfl, hS.out.2⟩
  · have hu' : unB xs = true := by revert hu; cases unB xs <;> simp
    rw [hu'] at T1 hbad
    clear hu hu'
    have T2 := Lib.hid (within_any d)
    have T3 := Lib.hid (within_any e)
    by_cases hd : witB d = false
    · rw [hd] at T2
      clear hbad hd
      go_enter Try.func26, Try.ntmps26
      go_wp2_with fail
      refine T1.out.mono ?_
      rintro en w1 ⟨rfl, hb1⟩
      obtain ⟨hc, hf, hb⟩ := HA.out w1 hb1
      have hS := Lib.hid (dc_set hc hb)
      go_wp2_with fail
      refine (T2.out w1).mono ?_
      rintro en w2 ⟨rfl, rfl⟩
      go_wp2
      refine bodyPost_ret (results_tct rfl aggInts _ _ rfl hS.out.1) rfl ?_
      exact ⟨rfl, hS.out.2⟩
    · have hd' : witB d = true := by revert hd; cases witB d <;> simp
      have hee : witB e = false := by rw [hd'] at hbad; simpa using hbad
      rw [hd'] at T2
      rw [hee] at T3
      clear hbad hd hd' hee
      go_enter Try.func26, Try.ntmps26
      go_wp2_with fail
      refine T1.out.mono ?_
      rintro en w1 ⟨rfl, hb1⟩
      obtain ⟨hc, hf, hb⟩ := HA.out w1 hb1
      have hS := Lib.hid (dc_set hc hb)
      go_wp2_with fail
      refine (T2.out w1).mono ?_
      rintro en w2 ⟨rfl, rfl⟩
      go_wp2_with fail
      refine (T3.out w1).mono ?_
      rintro en w2 ⟨rfl, rfl⟩
      go_wp2
      refine bodyPost_ret (results_tct rfl aggInts _ _ rfl hS.out.1) rfl ?_
      exact ⟨rfl, hS.out.2⟩

set_option maxRecDepth 100000 in
set_option maxHeartbeats 1000000 in
/-- Too few, or nothing near: none. -/
theorem bdec_few (bf : Nat) (A A' : Option Addr) (c c' : Nat) (xs ys : List Nat) (D E : Nat) (w : World) (hI : In w w.heap.size A c xs) (he : xs.length = ys.length) (hl : xs.length ≤ 255) (hu : unB xs = true) (hD : D ≤ 255) (hE : E ≤ 255) (hfew : xs.length < D + 1 + E) :
    Calls Try.prog 26 #[.pointer (some ⟨bf, 0, none⟩), .slice A xs.length c, .slice A' ys.length c', .int .i64 (D : Int), .int .i64 (E : Int)] w (DcNo w) := by
  have hz := zeroInts
  have hB := dcB w
  have T1 := Lib.hid (repeated_any A c xs _ ((hI.below hB.bl).more hB.bl.size) (by omega))
  rw [hu] at T1
  have T2 := Lib.hid (within_any (D : Int))
  have T3 := Lib.hid (within_any (E : Int))
  have hwd : witB (D : Int) = true := decide_eq_true (by omega)
  have hwe : witB (E : Int) = true := decide_eq_true (by omega)
  rw [hwd] at T2
  rw [hwe] at T3
  have HB := Lib.hid hB
  rw [← he]
  clear hB he hu hwd hwe
  have after : ∀ w1, Below (w.alloc (.cells #[.slice none 0 0] 24)).heap.size (w.alloc (.cells #[.slice none 0 0] 24)) w1 → w1.cell? ⟨w.heap.size, 0, none⟩ = some (.slice none 0 0) ∧ w1.frozen? ⟨w.heap.size, 0, none⟩ = false ∧ Below w.heap.size w w1 := fun w1 hb => by
    have hs := HB.out.sz
    refine ⟨(hb.cell (p := ⟨w.heap.size, 0, none⟩) (by show w.heap.size < _; omega)).trans HB.out.c, (World.frozen?_of_block (hb.block w.heap.size (by omega))).trans HB.out.f, HB.out.bl.trans (hb.mono (by omega))⟩
  have HA := Lib.hid after
  clear after
  have hneg : (xs.length : Int) - ((D : Int) + 1 + (E : Int)) < 0 := by omega
  have hneg2 : (xs.length : Int) - ((D : Int) + 1 + (E : Int)) < (E : Int) := by omega
  go_enter Try.func26, Try.ntmps26
  go_wp2_with fail
  refine T1.out.mono ?_
  rintro en w1 ⟨rfl, hb1⟩
  obtain ⟨hc, hf, hb⟩ := HA.out w1 hb1
  have hS := Lib.hid (dc_set hc hb)
  go_wp2_with fail
  refine (T2.out w1).mono ?_
  rintro en w2 ⟨rfl, rfl⟩
  go_wp2_with fail
  refine (T3.out w1).mono ?_
  rintro en w2 ⟨rfl, rfl⟩
  go_wp2
  refine bodyPost_ret (results_tct rfl aggInts _ _ rfl hS.out.1) rfl ?_
  exact ⟨rfl, hS.out.2⟩
end Go.Proofs.Ytgikgnhpplmljaa
end
