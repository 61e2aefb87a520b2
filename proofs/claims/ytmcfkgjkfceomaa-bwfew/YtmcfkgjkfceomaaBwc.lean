/- What bw's lowRest does: the first of Euclid's rests that is low enough, and its factor. -/
import Derived.Test.YtmcfkgjkfceomaaBwb
import Derived.Test.YtmcfkgjkfceomaaPpk
import Derived.BigRegionIn
namespace Go
/-- Two results that lie in boxes. -/
theorem results_cell2 {P : Program} {fn : Func} {p u : Tmp} {t t' : TypeId} (h : fn.results = #[.cell p t, .cell u t']) (ha : ∀ w, (isAgg t).run P w = .ok false w) (ha' : ∀ w, (isAgg t').run P w = .ok false w) (tmps : Array Value) (w : World)
    {a b : Addr} {v v' : Value} (h1 : tmps.getD p undef = .pointer (some a)) (h2 : tmps.getD u undef = .pointer (some b)) (c1 : (load a).run P w = .ok v w) (c2 : (load b).run P w = .ok v' w) : (results fn tmps).run P w = .ok (.tuple #[v, v']) w := by
  have h1' : tmps[p]?.getD undef = .pointer (some a) := by simpa using h1
  have h2' : tmps[u]?.getD undef = .pointer (some b) := by simpa using h2
  simp [results, h, h1', h2', asAddr, loadVar, Sem.run_bind, Result.andThen, ha, ha', c1, c2]
end Go
namespace Go.Proofs.Ytmcfkgjkfceomaa
open Go.RowKit Go.Shelf Gw Pol Gq Go.BigFrame
attribute [local go_sem] Oper.semAt_some

/-- Four boxes, and three more. -/
structure LrB (w : World) (v0 v1 v2 v3 v4 v5 v6 : Value) (W : World) : Prop where
  c0 : W.cell? ⟨w.heap.size, 0, none⟩ = some v0
  c1 : W.cell? ⟨w.heap.size + 1, 0, none⟩ = some v1
  c2 : W.cell? ⟨w.heap.size + 2, 0, none⟩ = some v2
  c3 : W.cell? ⟨w.heap.size + 3, 0, none⟩ = some v3
  c4 : W.cell? ⟨w.heap.size + 4, 0, none⟩ = some v4
  c5 : W.cell? ⟨w.heap.size + 5, 0, none⟩ = some v5
  c6 : W.cell? ⟨w.heap.size + 6, 0, none⟩ = some v6
  f2 : W.frozen? ⟨w.heap.size + 2, 0, none⟩ = false
  f3 : W.frozen? ⟨w.heap.size + 3, 0, none⟩ = false
  sz : W.heap.size = w.heap.size + 7
  bl : Below w.heap.size w W
theorem new_frozen (w : World) (v : Value) (t : TypeId) (b : Nat) (h : b = w.heap.size) : (w.alloc (.cells #[v] t)).frozen? ⟨b, 0, none⟩ = false := by subst h; exact World.frozen?_alloc_new w #[v] t 0
theorem old_frozen {w : World} {b : Nat} (h : w.frozen? ⟨b, 0, none⟩ = false) (hb : b < w.heap.size) (ob : Obj) : (w.alloc ob).frozen? ⟨b, 0, none⟩ = false := (World.frozen?_of_block (Below.heap_alloc _ _ _ hb)).trans h
theorem lrB (w : World) (v0 v1 v2 v3 v4 v5 v6 : Value) (t0 t1 t2 t3 t4 t5 t6 : TypeId) :
    LrB w v0 v1 v2 v3 v4 v5 v6 (((((((w.alloc (.cells #[v0] t0)).alloc (.cells #[v1] t1)).alloc (.cells #[v2] t2)).alloc (.cells #[v3] t3)).alloc (.cells #[v4] t4)).alloc (.cells #[v5] t5)).alloc (.cells #[v6] t6)) := by
  refine ⟨?_, ?_, ?_, ?_, ?_, ?_, ?_, ?_, ?_, by simp, ?_⟩
  · exact old_cell (old_cell (old_cell (old_cell (old_cell (old_cell (new_cell w v0 t0 _ rfl) _) _) _) _) _) _
  · exact old_cell (old_cell (old_cell (old_cell (old_cell (new_cell _ v1 t1 _ (by simp)) _) _) _) _) _
  · exact old_cell (old_cell (old_cell (old_cell (new_cell _ v2 t2 _ (by simp)) _) _) _) _
  · exact old_cell (old_cell (old_cell (new_cell _ v3 t3 _ (by simp)) _) _) _
  · exact old_cell (old_cell (new_cell _ v4 t4 _ (by simp)) _) _
  · exact old_cell (new_cell _ v5 t5 _ (by simp)) _
  · exact new_cell _ v6 t6 _ (by simp)
  · exact old_frozen (old_frozen (old_frozen (old_frozen (new_frozen _ v2 t2 _ (by simp)) (by simp) _) (by simp) _) (by simp) _) (by simp) _
  · exact old_frozen (old_frozen (old_frozen (new_frozen _ v3 t3 _ (by simp)) (by simp) _) (by simp) _) (by simp) _
  · exact (((((((Below.refl _ w).alloc (Nat.le_refl _) _).alloc (by simp) _).alloc (by simp; omega) _).alloc (by simp; omega) _).alloc (by simp; omega) _).alloc (by simp; omega) _).alloc (by simp; omega) _

/-- The boxes of the two results. -/
def LrX (s : Nat) (b : Nat) (_ : TypeId) : Prop := s + 2 ≤ b ∧ b < s + 4
/-- Between two rounds. -/
def LrI (w : World) (A : Option Addr) (c d : Nat) (xs R0 : List Nat) (pre : List Rst) (W : World) : Prop :=
  (W.cell? ⟨w.heap.size, 0, none⟩ = some (.slice A R0.length c) ∧ W.cell? ⟨w.heap.size + 1, 0, none⟩ = some (.int .i64 (d : Int)) ∧ (∃ v v', W.cell? ⟨w.heap.size + 2, 0, none⟩ = some v ∧ W.cell? ⟨w.heap.size + 3, 0, none⟩ = some v') ∧
    W.frozen? ⟨w.heap.size + 2, 0, none⟩ = false ∧ W.frozen? ⟨w.heap.size + 3, 0, none⟩ = false ∧ xs.length + d + 3 ≤ 2 * (lastR R0 pre).length) ∧ Below w.heap.size w W
theorem LrI.own (w : World) (A : Option Addr) (c d : Nat) (xs R0 : List Nat) (B : Nat) (hB : w.heap.size ≤ B) : OwnFrom B (LrI w A c d xs R0) :=
  OwnFrom.and (Own.from (fun _ _ _ _ hs hg hr => by
    obtain ⟨h0, h1, ⟨v, v', h2, h3⟩, h4, h5, h6⟩ := hs
    exact ⟨cell_kept h0 hg hr, cell_kept h1 hg hr, ⟨v, v', cell_kept h2 hg hr, cell_kept h3 hg hr⟩, (frozen_kept h2 hg hr).trans h4, (frozen_kept h3 hg hr).trans h5, h6⟩) _) (ownFrom_below (Nat.le_refl _) hB)
/-- Where a round has left. -/
def LrIx (ID : Nat) (w : World) (d : Nat) (xs ys R0 : List Nat) (k : Code) (pre : List Rst) (W : World) : Prop :=
  (∃ (pre' : List Rst) (x : Rst), k = .exit ID ∧ pre = pre' ++ [x] ∧ W.cell? ⟨w.heap.size + 2, 0, none⟩ = some (.slice x.A x.r.length x.c) ∧ W.cell? ⟨w.heap.size + 3, 0, none⟩ = some (.slice x.A' x.v.length x.c') ∧
    W.frozen? ⟨w.heap.size + 2, 0, none⟩ = false ∧ W.frozen? ⟨w.heap.size + 3, 0, none⟩ = false ∧ RsRd (LrX w.heap.size) x W ∧ RsLk xs ys R0 pre' x ∧ xs.length + d + 3 ≤ 2 * (lastR R0 pre').length ∧ 2 * x.r.length < xs.length + d + 3) ∧ Below w.heap.size w W
theorem LrIx.own (ID : Nat) (w : World) (d : Nat) (xs ys R0 : List Nat) (k : Code) (B : Nat) (hB : w.heap.size ≤ B) : OwnFrom B (LrIx ID w d xs ys R0 k) :=
  OwnFrom.and (Own.from (fun _ _ _ _ hs hg hr => by
    obtain ⟨pre', x, e1, e2, h2, h3, h4, h5, h6, h7, h8, h9⟩ := hs
    exact ⟨pre', x, e1, e2, cell_kept h2 hg hr, cell_kept h3 hg hr, (frozen_kept h2 hg hr).trans h4, (frozen_kept h3 hg hr).trans h5, ⟨h6.1.turned hg hr, h6.2.turned hg hr⟩, h7, h8, h9⟩) _) (ownFrom_below (Nat.le_refl _) hB)

/-- What lowRest answers. -/
def LrAns (w : World) (d : Nat) (xs ys : List Nat) (e : Ending) (w' : World) : Prop :=
  ∃ (r0 v0 r1 v1 : List Nat) (A A' : Option Addr) (c c' : Nat), e = .returned (.tuple #[.slice A r1.length c, .slice A' v1.length c']) ∧ Eu xs ys r0 v0 r1 v1 ∧ xs.length + d + 3 ≤ 2 * r0.length ∧ 2 * r1.length < xs.length + d + 3 ∧
    In w' w'.heap.size A c r1 ∧ In w' w'.heap.size A' c' v1 ∧ Below w.heap.size w w'

/-- A slice whose Degree is asked. -/
def DegIn (w : World) (A : Option Addr) (c n : Nat) : Prop := ∃ l : List Nat, n = l.length ∧ tr l = l ∧ In w w.heap.size A c l ∧ l.length ≤ 140737488355328
theorem deg_drew {A : Option Addr} {c n : Nat} {w : World} (k : Nat) (h : DegIn w A c n) :
    Calls Try.prog 31 #[.slice A n c] (w.drewN k) fun e w' => e = .returned (.int .i64 ((n : Int) - 1)) ∧ ∃ m, w' = (w.drewN k).drewN m := by
  obtain ⟨l, rfl, ht, hI, hcm⟩ := h
  refine (degree_any A c l (w.drewN k) _ (hI.drewN k) hcm).mono fun e w' h => ⟨?_, 0, by rw [← h.2]; rfl⟩
  rw [h.1, ht]
/-- When a round has laid its rest and its factor. -/
structure LrS (w : World) (A : Option Addr) (c n d : Nat) (u u' : Value) (W W2 : World) : Prop where
  c0 : W2.cell? ⟨w.heap.size, 0, none⟩ = some (.slice A n c)
  c1 : W2.cell? ⟨w.heap.size + 1, 0, none⟩ = some (.int .i64 (d : Int))
  c2 : W2.cell? ⟨w.heap.size + 2, 0, none⟩ = some u
  c3 : W2.cell? ⟨w.heap.size + 3, 0, none⟩ = some u'
  f2 : W2.frozen? ⟨w.heap.size + 2, 0, none⟩ = false
  f3 : W2.frozen? ⟨w.heap.size + 3, 0, none⟩ = false
  kx : KeepX (LrX w.heap.size) W W2
  ko : KeepsOthers W W2
  bl : Below w.heap.size w W2
theorem lrS {w W : World} {A : Option Addr} {c n d : Nat} {v v' : Value} (u u' : Value) (d0 : W.cell? ⟨w.heap.size, 0, none⟩ = some (.slice A n c)) (d1 : W.cell? ⟨w.heap.size + 1, 0, none⟩ = some (.int .i64 (d : Int))) (d2 : W.cell? ⟨w.heap.size + 2, 0, none⟩ = some v)
    (d3 : W.cell? ⟨w.heap.size + 3, 0, none⟩ = some v') (f2 : W.frozen? ⟨w.heap.size + 2, 0, none⟩ = false) (f3 : W.frozen? ⟨w.heap.size + 3, 0, none⟩ = false) (hB : Below w.heap.size w W) :
    LrS w A c n d u u' W ((W.setCell ⟨w.heap.size + 2, 0, none⟩ u).setCell ⟨w.heap.size + 3, 0, none⟩ u') := by
  have ot : ∀ {V : World} {b b' : Nat} {y z : Value}, b ≠ b' → V.cell? ⟨b, 0, none⟩ = some y → (V.setCell ⟨b', 0, none⟩ z).cell? ⟨b, 0, none⟩ = some y := fun hne h => by
    rw [World.cell?_setCell_other _ _ _ _ (fun h => by injection h with h1; omega)]; exact h
  refine ⟨ot (by omega) (ot (by omega) d0), ot (by omega) (ot (by omega) d1), ot (by omega) (World.cell?_setCell_same W ⟨w.heap.size + 2, 0, none⟩ _ d2), World.cell?_setCell_same _ ⟨w.heap.size + 3, 0, none⟩ _ (ot (by omega) d3), ?_, ?_, ?_, ?_, ?_⟩
  · rw [World.frozen?_setCell, World.frozen?_setCell]; exact f2
  · rw [World.frozen?_setCell, World.frozen?_setCell]; exact f3
  · exact (KeepX.set (fun e => ⟨by omega, by omega⟩) W).trans (KeepX.set (fun e => ⟨by omega, by omega⟩) _)
  · exact (KeepsOthers.setCell _ _ _).trans (KeepsOthers.setCell _ _ _)
  · exact (hB.setCell (p := ⟨w.heap.size + 2, 0, none⟩) (by show w.heap.size ≤ w.heap.size + 2; omega) _).setCell (p := ⟨w.heap.size + 3, 0, none⟩) (by show w.heap.size ≤ w.heap.size + 3; omega) _

set_option maxRecDepth 100000 in
set_option maxHeartbeats 2000000 in
theorem lowRest_in (bf : Nat) (A A' : Option Addr) (c c' d : Nat) (xs ys R0 R1 : List Nat) (w : World) (hx : BB xs) (hy : BB ys) (hl : xs.length ≤ 255) (hd : d ≤ 255) (hF : IsField w bf) (hI : In w w.heap.size A c R0) (hI' : In w w.heap.size A' c' R1)
    (ht : tr R0 = R0) (hE : Eu xs ys R0 [] R1 [1]) (hR : R0.length = xs.length + 1) (hdn : d < xs.length) :
    CallsIn Fence.wide 6 Try.prog 28 #[.pointer (some ⟨bf, 0, none⟩), .slice A R0.length c, .slice A' R1.length c', .int .i64 (d : Int)] w (LrAns w d xs ys) := by
  have hlf := hF.lt
  have hz : ∀ w, (zeroValue 22).run Try.prog w = .ok (.slice none 0 0) w := fun w => by kernel_rfl
  have hnX : ∀ b, b < w.heap.size + 2 ∨ w.heap.size + 4 ≤ b → ∀ e, ¬ LrX w.heap.size b e := fun b h e h' => by unfold LrX at h'; omega
  have HR := Lib.hid hR
  have HE := Lib.hid hE
  have HT := Lib.hid ht
  clear hR hE ht
  refine callsIn_of_wp_marks Try.func28 rfl trivial ?_ rfl
  simp only [Try.ntmps28, List.size_toArray, List.length_cons, List.length_nil, Nat.reduceAdd, Nat.reduceSub, Array.replicate_succ, Array.replicate_zero, List.push_toArray, List.append_toArray, List.nil_append, List.cons_append]
  gi_wp2_with fail
  refine ⟨trivial, ?_⟩
  refine (callsIn_wide.2 (rests_mk bf A A' R0.length c R1.length c' _)).mono ?_
  rintro e w' ⟨rfl, rfl⟩
  gi_wp2
  have h7 := lrB w (.slice A R0.length c) (.int .i64 (d : Int)) (.slice none 0 0) (.slice none 0 0) (.pointer (some ⟨bf, 0, none⟩)) (.slice A R0.length c) (.slice A' R1.length c') 22 3 22 22 27 22 22
  have hF7 := hF.below h7.bl hlf
  have hI7 := (hI.below h7.bl).x (X := LrX w.heap.size) (fun b e h => hnX b (by omega) e)
  have hI7' := (hI'.below h7.bl).x (X := LrX w.heap.size) (fun b e h => hnX b (by omega) e)
  refine Gq.range_memX (by omega) (gf := 51) (lb := #[.pointer (some ⟨w.heap.size + 5, 0, none⟩), .pointer (some ⟨w.heap.size + 6, 0, none⟩), .pointer (some ⟨w.heap.size + 4, 0, none⟩)]) rfl (enters_of Try.func51 (by kernel_rfl) rfl)
    (rests_stops (6 - 1) (by omega) (LrX w.heap.size) (w.heap.size + 5) (w.heap.size + 6) (w.heap.size + 4) bf A A' c c' xs ys R0 R1 _ hx hy hl h7.c5 h7.c6 h7.c4 hF7 hI7 hI7' (hnX _ (by omega)) (hnX _ (by omega)) (hnX _ (by omega)) (hnX _ (by omega)) (fun b e h => hnX b (by rw [h7.sz] at h; omega) e) HT.out HE.out)
    (fun h k => KeepX.trans h k) (fun W l o o' _ h hc => KeepX.put h hc) (fun _ => rfl) (RsRd.own _ _)
    (LrI w A c d xs R0) (LrIx 0 w d xs ys R0) (LrI.own w A c d xs R0 _ (by rw [h7.sz]; omega)) (fun k => LrIx.own 0 w d xs ys R0 k _ (by rw [h7.sz]; omega))
    ⟨⟨h7.c0, h7.c1, ⟨_, _, h7.c2, h7.c3⟩, h7.f2, h7.f3, by rw [lastR_nil, HR.out]; omega⟩, h7.bl⟩
    (fun x => { tmps := #[.pointer (some ⟨bf, 0, none⟩), .slice A R0.length c, .slice A' R1.length c', .int .i64 (d : Int), undef, .pointer (some ⟨w.heap.size, 0, none⟩), undef, .pointer (some ⟨w.heap.size + 1, 0, none⟩), .pointer (some ⟨w.heap.size + 2, 0, none⟩), .pointer (some ⟨w.heap.size + 3, 0, none⟩), .slice x.A x.r.length x.c, .slice x.A' x.v.length x.c', .pointer (some ⟨bf, 0, none⟩), .slice A R0.length c, .slice A' R1.length c', .func (.func 51) #[] #[.pointer (some ⟨w.heap.size + 5, 0, none⟩), .pointer (some ⟨w.heap.size + 6, 0, none⟩), .pointer (some ⟨w.heap.size + 4, 0, none⟩)], .slice x.A x.r.length x.c, .slice x.A' x.v.length x.c', undef, undef, undef, undef, undef, undef, undef, undef, undef, undef, undef, undef, undef], defers := [] }) ?assign ?body ?done ?stop
  case assign =>
    intro l x W K hK
    gi_wp2
    exact hK
  case body =>
    rintro lb pre x W ⟨⟨d0, d1, ⟨v, v', d2, d3⟩, f2, f3, hhigh⟩, hB⟩ hrd hlk
    clear h7 hF7 hI7 hI7'
    have mixed : Try.prog.follows .mixedOrders = true := by kernel_rfl
    have HS := Lib.hid (lrS (.slice x.A x.r.length x.c) (.slice x.A' x.v.length x.c') d0 d1 d2 d3 f2 f3 hB)
    gi_wp2
    obtain ⟨W2, hW2⟩ : ∃ W2, W2 = (W.setCell ⟨w.heap.size + 2, 0, none⟩ (.slice x.A x.r.length x.c)).setCell ⟨w.heap.size + 3, 0, none⟩ (.slice x.A' x.v.length x.c') := ⟨_, rfl⟩
    have hS := HS.out
    rw [← hW2] at hS ⊢
    clear hW2 HS d0 d1 d2 d3 f2 f3
    obtain ⟨x0, x1, x2, x3, g2, g3, kx, ko, hB2⟩ := hS
    obtain ⟨v0, hEu⟩ := hlk.2
    have hxl : x.r.length ≤ 257 := by have := hEu.fall; have := hEu.sum; omega
    have q1 : DegIn W2 x.A x.c x.r.length := ⟨x.r, rfl, hEu.t1, (hrd.1.keep kx).inn, by omega⟩
    have q2 : DegIn W2 A c R0.length := ⟨R0, rfl, HT.out, (hI.below hB2).more hB2.size, by rw [HR.out]; omega⟩
    have HRD := Lib.hid (show RsRd (LrX w.heap.size) x W2 from ⟨hrd.1.keep kx, hrd.2.keep kx⟩)
    have HEU := Lib.hid hEu
    clear hEu hrd
    have hRl : R0.length ≤ 256 := by rw [HR.out]; omega
    refine Gq.region_round_all (C := fun w' => ∃ k, w' = W2.drewN k) mixed (by kernel_rfl) (by kernel_rfl) ⟨1, rfl⟩ ?_
    repeat (go_big_quiet_step ((go_at_call 31; exact Calls.quiet_of (deg_drew _ (by assumption)))))
    refine wpQuiet_nil ?_
    intro _ hw'
    obtain ⟨nq, hw''⟩ := hw'
    subst hw''
    have ko2 : KeepsOthers W (W2.drewN nq) := ko.trans ⟨Nat.le_refl _, fun _ _ h _ => h⟩
    have hB3 : Below w.heap.size w (W2.drewN nq) := Gw.Below.drewN hB2 nq
    by_cases hlow : 2 * x.r.length < xs.length + d + 3
    · have hdec : decide (2 * ((x.r.length : Int) - 1) < (R0.length : Int) - 1 + (d : Int) + 1) = true := decide_eq_true (by rw [HR.out]; omega)
      rw [hdec]
      clear hdec
      gi_wp2
      exact ⟨ko2, ⟨pre, x, rfl, rfl, x2, x3, g2, g3, ⟨HRD.out.1.keep ⟨Nat.le_refl _, fun _ _ _ _ _ h => h⟩, HRD.out.2.keep ⟨Nat.le_refl _, fun _ _ _ _ _ h => h⟩⟩, hlk, hhigh, hlow⟩, hB3⟩
    · have hdec : decide (2 * ((x.r.length : Int) - 1) < (R0.length : Int) - 1 + (d : Int) + 1) = false := decide_eq_false (by rw [HR.out]; omega)
      rw [hdec]
      clear hdec
      gi_wp2
      exact ⟨ko2, kx.trans ⟨Nat.le_refl _, fun _ _ _ _ _ h => h⟩, ⟨x0, x1, ⟨_, _, x2, x3⟩, g2, g3, by rw [lastR_snoc]; omega⟩, hB3⟩
  case done =>
    rintro D pre W hD hS ⟨⟨_, _, _, _, _, hhigh⟩, hB⟩ hK
    rw [hS] at hhigh
    simp at hhigh
  case stop =>
    rintro D k pre W hD ⟨⟨pre', x, rfl, rfl, c2, c3, f2, f3, hrd, hlk, hhigh, hlow⟩, hB⟩ hK
    rw [h7.sz] at hD
    clear h7 hF7 hI7 hI7'
    gi_wp2
    simp only [Nat.add_assoc, Nat.reduceAdd]
    gi_region
    have kx : KeepX (LrX w.heap.size) W ((W.setCell ⟨w.heap.size + 2, 0, none⟩ (.slice x.A x.r.length x.c)).setCell ⟨w.heap.size + 3, 0, none⟩ (.slice x.A' x.v.length x.c')).drew :=
      ((KeepX.set (fun e => ⟨by omega, by omega⟩) W).trans (KeepX.set (fun e => ⟨by omega, by omega⟩) _)).trans ⟨Nat.le_refl _, fun _ _ _ _ _ h => h⟩
    have ko : KeepsOthers W ((W.setCell ⟨w.heap.size + 2, 0, none⟩ (.slice x.A x.r.length x.c)).setCell ⟨w.heap.size + 3, 0, none⟩ (.slice x.A' x.v.length x.c')).drew :=
      ((KeepsOthers.setCell _ _ _).trans (KeepsOthers.setCell _ _ _)).trans ⟨Nat.le_refl _, fun _ _ h _ => h⟩
    have hb3 : Below w.heap.size w ((W.setCell ⟨w.heap.size + 2, 0, none⟩ (.slice x.A x.r.length x.c)).setCell ⟨w.heap.size + 3, 0, none⟩ (.slice x.A' x.v.length x.c')).drew :=
      Gw.Below.drewN ((hB.setCell (p := ⟨w.heap.size + 2, 0, none⟩) (by show w.heap.size ≤ w.heap.size + 2; omega) _).setCell (p := ⟨w.heap.size + 3, 0, none⟩) (by show w.heap.size ≤ w.heap.size + 3; omega) _) 1
    have y2 : ((W.setCell ⟨w.heap.size + 2, 0, none⟩ (.slice x.A x.r.length x.c)).setCell ⟨w.heap.size + 3, 0, none⟩ (.slice x.A' x.v.length x.c')).drew.cell? ⟨w.heap.size + 2, 0, none⟩ = some (.slice x.A x.r.length x.c) := by
      show ((W.setCell ⟨w.heap.size + 2, 0, none⟩ (.slice x.A x.r.length x.c)).setCell ⟨w.heap.size + 3, 0, none⟩ (.slice x.A' x.v.length x.c')).cell? _ = _
      rw [World.cell?_setCell_other _ _ _ _ (fun h => by injection h with h1; omega)]; exact World.cell?_setCell_same W ⟨w.heap.size + 2, 0, none⟩ _ c2
    have y3 : ((W.setCell ⟨w.heap.size + 2, 0, none⟩ (.slice x.A x.r.length x.c)).setCell ⟨w.heap.size + 3, 0, none⟩ (.slice x.A' x.v.length x.c')).drew.cell? ⟨w.heap.size + 3, 0, none⟩ = some (.slice x.A' x.v.length x.c') :=
      World.cell?_setCell_same _ ⟨w.heap.size + 3, 0, none⟩ _ (by rw [World.cell?_setCell_other _ _ _ _ (fun h => by injection h with h1; omega)]; exact c3)
    obtain ⟨W3, hW3⟩ : ∃ W3, W3 = ((W.setCell ⟨w.heap.size + 2, 0, none⟩ (.slice x.A x.r.length x.c)).setCell ⟨w.heap.size + 3, 0, none⟩ (.slice x.A' x.v.length x.c')).drew := ⟨_, rfl⟩
    rw [← hW3] at kx ko hb3 y2 y3 ⊢
    clear hW3 f2 f3 c2 c3
    have hK3 := ko.same _ _ hK rfl
    gi_wp2
    refine ⟨by simp, .inl ⟨_, _, rfl, run_takeDeferred hK3, ?_⟩⟩
    have hb4 : Below w.heap.size W3 (W3.putObj D (.deferred none)) := belowK_b (w := w) (Nat.le_refl _) W3 D _ _ (by omega) hK3 rfl rfl
    have kx4 : KeepX (LrX w.heap.size) W3 (W3.putObj D (.deferred none)) := KeepX.put hK3 rfl
    obtain ⟨v0, hEu⟩ := hlk.2
    have z2 : (W3.putObj D (.deferred none)).cell? ⟨w.heap.size + 2, 0, none⟩ = some (.slice x.A x.r.length x.c) := (World.cell?_of_block (w := W3) (a := ⟨w.heap.size + 2, 0, none⟩) (World.putObj_heap_other (by show w.heap.size + 2 ≠ D; omega))).trans y2
    have z3 : (W3.putObj D (.deferred none)).cell? ⟨w.heap.size + 3, 0, none⟩ = some (.slice x.A' x.v.length x.c') := (World.cell?_of_block (w := W3) (a := ⟨w.heap.size + 3, 0, none⟩) (World.putObj_heap_other (by show w.heap.size + 3 ≠ D; omega))).trans y3
    exact ⟨_, results_cell2 rfl (fun w => by kernel_rfl) (fun w => by kernel_rfl) _ _ rfl rfl (by simp [z2]) (by simp [z3]), _, v0, _, _, _, _, _, _, rfl, hEu, hhigh, hlow, ((hrd.1.keep kx).keep kx4).inn, ((hrd.2.keep kx).keep kx4).inn, hb3.trans hb4⟩
/-- The first of Euclid's rests that is low enough. -/
theorem lowRest_any (bf : Nat) (A A' : Option Addr) (c c' d : Nat) (xs ys R0 R1 : List Nat) (w : World) (hx : BB xs) (hy : BB ys) (hl : xs.length ≤ 255) (hd : d ≤ 255) (hF : IsField w bf) (hI : In w w.heap.size A c R0) (hI' : In w w.heap.size A' c' R1)
    (ht : tr R0 = R0) (hE : Eu xs ys R0 [] R1 [1]) (hR : R0.length = xs.length + 1) (hdn : d < xs.length) :
    Calls Try.prog 28 #[.pointer (some ⟨bf, 0, none⟩), .slice A R0.length c, .slice A' R1.length c', .int .i64 (d : Int)] w (LrAns w d xs ys) :=
  callsIn_wide.1 (lowRest_in bf A A' c c' d xs ys R0 R1 w hx hy hl hd hF hI hI' ht hE hR hdn)
end Go.Proofs.Ytmcfkgjkfceomaa
