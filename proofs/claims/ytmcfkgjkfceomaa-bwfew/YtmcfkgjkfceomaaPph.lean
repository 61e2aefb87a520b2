/- What poly's Eval does: a polynomial's value; nothing old is turned. -/
import Derived.Test.YtmcfkgjkfceomaaPpg
import Derived.Test.YtmcfkgjkfceomaaQti
import Derived.BigQuiet
namespace Go.Proofs.Ytmcfkgjkfceomaa
open Go.RowKit Go.Shelf Gw Pol Go.BigFrame
attribute [local go_sem] Oper.semAt_some

/-- What is summed up when some places have come. -/
def sumF (l : List Nat) (x : Nat) : List Nat → Nat
  | [] => 0
  | i :: r => Gf.gm (co l i) (Gf.gp x i) ^^^ sumF l x r
theorem sumF_snoc (l : List Nat) (x : Nat) (r : List Nat) (i : Nat) : sumF l x (r ++ [i]) = sumF l x r ^^^ Gf.gm (co l i) (Gf.gp x i) := by
  induction r with
  | nil => simp [sumF]
  | cons j r ih => show _ ^^^ sumF l x (r ++ [i]) = (_ ^^^ sumF l x r) ^^^ _; rw [ih, Nat.xor_assoc]
theorem sumF_lt (l : List Nat) (x : Nat) (r : List Nat) : sumF l x r < 256 := by
  induction r with
  | nil => simp [sumF]
  | cons j r ih => exact Gf.xor_lt (Gf.gm_lt _ _) ih
theorem sumF_all {l : List Nat} (hl : BB l) {x : Nat} (hx : x < 256) : sumF l x (List.range l.length) = ev x l := by
  have : ∀ k, k ≤ l.length → sumF l x (List.range k) = ev x (l.take k) := by
    intro k
    induction k with
    | zero => intro _; rfl
    | succ k ih =>
      intro hk
      rw [List.range_succ, sumF_snoc, ih (by omega), ev_take_succ hl (List.getElem?_eq_getElem (show k < l.length by omega)) hx, co_get (show k < l.length by omega)]
  have h := this l.length (Nat.le_refl _)
  rwa [List.take_length] at h
def plv {L : Nat} (pre : List (Plc L)) : List Nat := pre.map (fun x => x.1)
theorem plv_snoc {L : Nat} (pre : List (Plc L)) (x : Plc L) : plv (pre ++ [x]) = plv pre ++ [x.1] := by simp [plv]
theorem plv_all (L : Nat) : plv (uptoL L L (Nat.le_refl _)) = List.range L := uptoL_val L L _

theorem keeps_draw_set (W : World) (m : Nat) (a : Addr) (v : Value) : KeepsOthers W ((W.drewN m).setCell a v) :=
  KeepsOthers.trans (B := W.drewN m) ⟨Nat.le_refl _, fun _ _ h _ => h⟩ (KeepsOthers.setCell _ _ _)

/-- Between two rounds. -/
def EvI (w : World) (bf : Nat) (A : Option Addr) (c : Nat) (l : List Nat) (x : Nat) (pre : List (Plc l.length)) (W : World) : Prop :=
  (W.cell? ⟨w.heap.size, 0, none⟩ = some (.pointer (some ⟨bf, 0, none⟩)) ∧ W.cell? ⟨w.heap.size + 1, 0, none⟩ = some (.slice A l.length c) ∧
    W.cell? ⟨w.heap.size + 2, 0, none⟩ = some (.int .u8 (sumF l x (plv pre) : Int)) ∧ W.frozen? ⟨w.heap.size + 2, 0, none⟩ = false) ∧ Below w.heap.size w W
theorem EvI.own (w : World) (bf : Nat) (A : Option Addr) (c : Nat) (l : List Nat) (x B : Nat) (hB : w.heap.size ≤ B) : OwnFrom B (EvI w bf A c l x) :=
  OwnFrom.and (Own.from (fun _ _ _ _ hs hg hr => ⟨cell_kept hs.1 hg hr, cell_kept hs.2.1 hg hr, cell_kept hs.2.2.1 hg hr, (frozen_kept hs.2.2.1 hg hr).trans hs.2.2.2⟩) _) (ownFrom_below (Nat.le_refl _) hB)

theorem old_cell {w : World} {b o : Nat} {v : Value} (h : w.cell? ⟨b, o, none⟩ = some v) (ob : Obj) : (w.alloc ob).cell? ⟨b, o, none⟩ = some v := (World.cell?_alloc_lt w ob ⟨b, o, none⟩ (cell_lt h)).trans h
theorem new_cell (w : World) (v : Value) (t : TypeId) (b : Nat) (h : b = w.heap.size) : (w.alloc (.cells #[v] t)).cell? ⟨b, 0, none⟩ = some v := by subst h; exact cell_new w v t
/-- Six boxes. -/
structure Six (w : World) (v0 v1 v2 v3 v4 v5 : Value) (W : World) : Prop where
  c0 : W.cell? ⟨w.heap.size, 0, none⟩ = some v0
  c1 : W.cell? ⟨w.heap.size + 1, 0, none⟩ = some v1
  c2 : W.cell? ⟨w.heap.size + 2, 0, none⟩ = some v2
  c3 : W.cell? ⟨w.heap.size + 3, 0, none⟩ = some v3
  c4 : W.cell? ⟨w.heap.size + 4, 0, none⟩ = some v4
  c5 : W.cell? ⟨w.heap.size + 5, 0, none⟩ = some v5
  f2 : W.frozen? ⟨w.heap.size + 2, 0, none⟩ = false
  sz : W.heap.size = w.heap.size + 6
  bl : Below w.heap.size w W
theorem six (w : World) (v0 v1 v2 v3 v4 v5 : Value) (t0 t1 t2 t3 t4 t5 : TypeId) :
    Six w v0 v1 v2 v3 v4 v5 ((((((w.alloc (.cells #[v0] t0)).alloc (.cells #[v1] t1)).alloc (.cells #[v2] t2)).alloc (.cells #[v3] t3)).alloc (.cells #[v4] t4)).alloc (.cells #[v5] t5)) := by
  refine ⟨?_, ?_, ?_, ?_, ?_, ?_, ?_, by simp, ?_⟩
  · exact old_cell (old_cell (old_cell (old_cell (old_cell (new_cell w v0 t0 _ rfl) _) _) _) _) _
  · exact old_cell (old_cell (old_cell (old_cell (new_cell _ v1 t1 _ (by simp)) _) _) _) _
  · exact old_cell (old_cell (old_cell (new_cell _ v2 t2 _ (by simp)) _) _) _
  · exact old_cell (old_cell (new_cell _ v3 t3 _ (by simp)) _) _
  · exact old_cell (new_cell _ v4 t4 _ (by simp)) _
  · exact new_cell _ v5 t5 _ (by simp)
  · have h := World.frozen?_alloc_new ((w.alloc (.cells #[v0] t0)).alloc (.cells #[v1] t1)) #[v2] t2 0
    have e : ((w.alloc (.cells #[v0] t0)).alloc (.cells #[v1] t1)).heap.size = w.heap.size + 2 := by simp
    rw [e] at h
    rw [World.frozen?_of_block (Below.heap_alloc _ _ _ (by simp)), World.frozen?_of_block (Below.heap_alloc _ _ _ (by simp)), World.frozen?_of_block (Below.heap_alloc _ _ _ (by simp))]
    exact h
  · exact ((((((Below.refl _ w).alloc (Nat.le_refl _) _).alloc (by simp) _).alloc (by simp; omega) _).alloc (by simp; omega) _).alloc (by simp; omega) _).alloc (by simp; omega) _

set_option maxRecDepth 100000 in
set_option maxHeartbeats 500000 in
theorem peval_in (bf : Nat) (A : Option Addr) (c : Nat) (l : List Nat) (x : Nat) (hx : x < 256) (w : World) (hF : IsField w bf) (hI : In w w.heap.size A c l) (hcm : l.length ≤ 140737488355328) :
    CallsIn Fence.wide 5 Try.prog 42 #[.pointer (some ⟨bf, 0, none⟩), .slice A l.length c, .int .u8 (x : Int)] w fun e w' => e = .returned (.int .u8 (ev x l : Int)) ∧ Below w.heap.size w w' := by
  have hlf := hF.lt
  refine callsIn_of_wp_marks Try.func42 rfl trivial ?_ rfl
  simp only [Try.ntmps42, List.size_toArray, List.length_cons, List.length_nil, Nat.reduceAdd, Nat.reduceSub, Array.replicate_succ, Array.replicate_zero, List.push_toArray, List.append_toArray, List.nil_append, List.cons_append]
  gi_wp2_with fail
  refine ⟨trivial, ?_⟩
  refine (callsIn_wide.2 (ppowers_mk bf x l.length _)).mono ?_
  rintro e w' ⟨rfl, rfl⟩
  gi_wp2
  have h6 := six w (.pointer (some ⟨bf, 0, none⟩)) (.slice A l.length c) (.int .u8 0) (.pointer (some ⟨bf, 0, none⟩)) (.int .u8 (x : Int)) (.int .i64 (l.length : Int)) 27 22 5 27 5 3
  have hF6 := hF.below h6.bl hlf
  refine wpIn_rangeFunc_ownF rfl (by omega) (gf := 53) (lb := #[.pointer (some ⟨w.heap.size + 5, 0, none⟩), .pointer (some ⟨w.heap.size + 3, 0, none⟩), .pointer (some ⟨w.heap.size + 4, 0, none⟩)]) rfl trivial (enters_of Try.func53 (by kernel_rfl) rfl)
    (ppowers_stops (5 - 1) (by omega) (w.heap.size + 6) (w.heap.size + 2) (w.heap.size + 5) (w.heap.size + 3) (w.heap.size + 4) bf x l.length hx hcm _ (Nat.le_of_eq h6.sz.symm) h6.c5 h6.c3 h6.c4 hF6 ⟨by omega, by omega⟩ ⟨by omega, by omega⟩ ⟨by omega, by omega⟩ ⟨by omega, by omega⟩)
    (fun h k => KpB.trans h k) (fun W l o o' hl _ _ _ b h1 _ => World.putObj_heap_other (by have := h6.sz; omega)) (Below.refl _ _) (fun _ => rfl)
    (EvI w bf A c l x) (fun _ _ _ => False) (EvI.own w bf A c l x _ (by have := h6.sz; omega)) (fun _ _ _ _ _ hs _ _ => hs)
    ⟨⟨h6.c0, h6.c1, h6.c2, h6.f2⟩, h6.bl⟩
    (fun i => { tmps := #[.pointer (some ⟨bf, 0, none⟩), .slice A l.length c, .int .u8 (x : Int), .pointer (some ⟨w.heap.size, 0, none⟩), .pointer (some ⟨w.heap.size + 1, 0, none⟩), undef, .int .u8 0, .pointer (some ⟨w.heap.size + 2, 0, none⟩), .int .i64 (i.1 : Int), .int .u8 (Gf.gp x i.1 : Int), .pointer (some ⟨bf, 0, none⟩), .int .u8 (x : Int), .slice A l.length c, .int .i64 (l.length : Int), .func (.func 53) #[] #[.pointer (some ⟨w.heap.size + 5, 0, none⟩), .pointer (some ⟨w.heap.size + 3, 0, none⟩), .pointer (some ⟨w.heap.size + 4, 0, none⟩)], .int .i64 (i.1 : Int), .int .u8 (Gf.gp x i.1 : Int), undef, undef, undef, undef, undef, undef, undef, undef, undef, undef], defers := [] }) ?assign ?body ?done ?stop
  case assign =>
    intro l x W K hK
    gi_wp2
    exact hK
  case body =>
    rintro lb pre ⟨i, hi⟩ W ⟨⟨c0, c1, c2, f2⟩, hB⟩ _
    have hF' := hF.below hB hlf
    obtain ⟨y, b, off, hy, hyb, rfl, hb, hcell⟩ := (hI.below hB).sl.at_ hi
    have hv := sumF_lt l x (plv pre)
    have HE := Lib.hid (show sumF l x (plv (pre ++ [⟨i, hi⟩])) = sumF l x (plv pre) ^^^ Gf.gm y (Gf.gp x i) by rw [plv_snoc, sumF_snoc, co_of' hy])
    obtain ⟨v, hve⟩ : ∃ v, v = sumF l x (plv pre) := ⟨_, rfl⟩
    rw [← hve] at c2 hv HE
    have hxor : bits .xor .u8 (v : Int) (Gf.gm y (Gf.gp x i) : Int) = ((v ^^^ Gf.gm y (Gf.gp x i) : Nat) : Int) := u8_xor_nat _ _ hv (Gf.gm_lt _ _)
    clear hy hve h6 hF6
    have mixed : Try.prog.follows .mixedOrders = true := by kernel_rfl
    dsimp only
    gi_wp2
    refine Gq.region_round 9 mixed (by kernel_rfl) (by kernel_rfl) ?_
    simp only [List.take_succ_cons, List.take_zero, List.drop_succ_cons, List.drop_zero]
    repeat (go_big_quiet_step ((go_at_call 50; exact Calls.quiet_of (mul_any bf y (Gf.gp x i) hyb (Gf.gp_lt _ _) _ (hF'.drewN _)))))
    refine wpQuiet_nil ?_
    intro _ hw'
    obtain ⟨nq, hw''⟩ := hw'
    subst hw''
    gi_wp2
    refine ⟨keeps_draw_set W nq _ _, ((KpB.refl _ _ W).drewN nq).set _, ⟨?_, ?_, ?_, ?_⟩, (Gw.Below.drewN hB nq).setCell (p := ⟨w.heap.size + 2, 0, none⟩) (by show w.heap.size ≤ w.heap.size + 2; omega) _⟩
    · rw [World.cell?_setCell_other _ _ _ _ (fun h => by injection h with h1; omega)]; exact c0
    · rw [World.cell?_setCell_other _ _ _ _ (fun h => by injection h with h1; omega)]; exact c1
    · rw [HE.out]; exact World.cell?_setCell_same (W.drewN nq) ⟨w.heap.size + 2, 0, none⟩ _ c2
    · rw [World.frozen?_setCell]; exact f2
  case done =>
    rintro D xs W hD rfl ⟨⟨c0, c1, c2, f2⟩, hB⟩ hK
    rw [plv_all, sumF_all hI.bb hx] at c2
    have hsz := h6.sz
    clear h6 hF6
    gi_wp2
    refine ⟨by simp, .inl ⟨_, _, rfl, run_takeDeferred hK, ?_⟩⟩
    have hb2 : Below w.heap.size W (W.putObj D (.deferred none)) := belowK_b (w := w) (Nat.le_refl _) W D _ _ (by omega) hK rfl rfl
    exact ⟨_, results_tmp rfl _ _ _, rfl, hB.trans hb2⟩
  case stop =>
    rintro D c pre W _ _ h _
    exact h.elim
/-- The value. -/
theorem peval_any (bf : Nat) (A : Option Addr) (c : Nat) (l : List Nat) (x : Nat) (hx : x < 256) (w : World) (hF : IsField w bf) (hI : In w w.heap.size A c l) (hcm : l.length ≤ 140737488355328) :
    Calls Try.prog 42 #[.pointer (some ⟨bf, 0, none⟩), .slice A l.length c, .int .u8 (x : Int)] w fun e w' => e = .returned (.int .u8 (ev x l : Int)) ∧ Below w.heap.size w w' :=
  callsIn_wide.1 (peval_in bf A c l x hx w hF hI hcm)
theorem peval' (bf : Nat) (A : Option Addr) (c n : Nat) (l : List Nat) (x : Nat) (hn : n = l.length) (hx : x < 256) (w : World) (hF : IsField w bf) (hI : In w w.heap.size A c l) (hcm : l.length ≤ 140737488355328) :
    Calls Try.prog 42 #[.pointer (some ⟨bf, 0, none⟩), .slice A n c, .int .u8 (x : Int)] w fun e w' => e = .returned (.int .u8 (ev x l : Int)) ∧ Below w.heap.size w w' := by
  subst hn; exact peval_any bf A c l x hx w hF hI hcm
end Go.Proofs.Ytmcfkgjkfceomaa
