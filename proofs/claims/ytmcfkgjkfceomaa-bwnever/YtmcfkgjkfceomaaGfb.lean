/- What gf.New does: a field of its own, whose tables hold the powers of x + 1 and their logarithms; nothing else is turned. -/
import Derived.Test.YtmcfkgjkfceomaaGfa
import Derived.Test.YtmcfkgjkfceomaaBase
namespace Go.Proofs.Ytmcfkgjkfceomaa
open Go.RowKit Go.Shelf Gw
attribute [local go_sem] Oper.semAt_some

def fieldZero : Array Value := (List.replicate 255 (Value.int .u8 0) ++ List.replicate 256 (Value.int .i64 0)).toArray
theorem zeroField (w : World) : (zeroValue 49).run Try.prog w = .ok (.agg fieldZero) w := by kernel_rfl

def fcell (ex lgf : Nat → Nat) (o : Nat) : Value := if o < 255 then .int .u8 (ex o : Int) else .int .i64 (lgf (o - 255) : Int)
theorem fieldZero_get : ∀ o, o < 511 → fieldZero[o]? = some (fcell (exF []) (lgF []) o) := by
  intro o ho
  unfold fieldZero fcell
  rw [List.getElem?_toArray, List.getElem?_append, List.length_replicate]
  by_cases h : o < 255
  · rw [if_pos h, if_pos h, List.getElem?_replicate, if_pos h]; rfl
  · rw [if_neg h, if_neg h, List.getElem?_replicate, if_pos (by omega)]; rfl

def vals (pre : List Idx) : List Nat := pre.map (fun x => x.1)
theorem vals_snoc (pre : List Idx) (x : Idx) : vals (pre ++ [x]) = vals pre ++ [x.1] := by simp [vals]
theorem vals_all : vals (upto 255 (Nat.le_refl _)) = List.range 255 := upto_val 255 _
theorem fcell_step (l : List Nat) (i o : Nat) (hi : i < 255) : (if o = 255 + Gf.pw i then Value.int .i64 (i : Int) else if o = i then Value.int .u8 (Gf.pw i : Int) else fcell (exF l) (lgF l) o) = fcell (exF (l ++ [i])) (lgF (l ++ [i])) o := by
  by_cases h1 : o = 255 + Gf.pw i
  · subst h1; rw [if_pos rfl]; unfold fcell; rw [if_neg (by omega), Nat.add_sub_cancel_left, lgF_snoc, if_pos rfl]
  · rw [if_neg h1]
    by_cases h2 : o = i
    · subst h2; rw [if_pos rfl]; unfold fcell; rw [if_pos hi, exF_snoc_same]
    · rw [if_neg h2]; unfold fcell
      by_cases h3 : o < 255
      · rw [if_pos h3, if_pos h3, exF_snoc_other _ _ _ h2]
      · rw [if_neg h3, if_neg h3, lgF_snoc, if_neg (by omega)]
theorem fcell_all (o : Nat) : fcell (exF (List.range 255)) (lgF (List.range 255)) o = fcell Gf.pw Gf.lg o := by
  unfold fcell
  by_cases h : o < 255
  · rw [if_pos h, if_pos h, exF, if_pos (List.mem_range.2 h)]
  · rw [if_neg h, if_neg h, lgF_range]; rfl

set_option maxRecDepth 100000 in
set_option maxHeartbeats 1000000 in
theorem new_in (w : World) :
    CallsIn Fence.wide 5 Try.prog 10 #[] w fun e w' => e = .returned (.pointer (some ⟨w.heap.size, 0, none⟩)) ∧ Row w' w.heap.size 511 (fcell Gf.pw Gf.lg) ∧ Below w.heap.size w w' := by
  refine callsIn_of_wp_marks Try.func10 rfl trivial ?_ rfl
  simp only [Try.ntmps10, List.size_toArray, List.length_nil, Nat.reduceSub, Array.replicate_succ, Array.replicate_zero, List.push_toArray, List.append_toArray, List.nil_append, List.cons_append]
  have hzF := zeroField
  gi_wp2
  clear hzF
  have hB0 : Below w.heap.size w ((w.alloc (.cells fieldZero 49)).alloc (.cells #[.pointer (some ⟨w.heap.size, 0, none⟩)] 27)) := ((Below.refl _ w).alloc (Nat.le_refl _) _).alloc (by simp) _
  have hr0 := Row.new w fieldZero 49 511 _ fieldZero_get
  have hc0 := cell_new (w.alloc (.cells fieldZero 49)) (.pointer (some ⟨w.heap.size, 0, none⟩)) 27
  rw [World.size_alloc] at hc0
  refine wpIn_rangeFunc_ownF rfl (by omega) (gf := 23) (lb := #[]) rfl trivial (enters_of Try.func23 (by kernel_rfl) rfl)
    (powers_stops (5 - 1) (by omega) _) (fun _ _ => trivial) (fun _ _ _ _ _ _ _ _ => trivial) (Below.refl _ _) (fun _ => rfl)
    (fun pre W => (Row W w.heap.size 511 (fcell (exF (vals pre)) (lgF (vals pre))) ∧ W.cell? ⟨w.heap.size + 1, 0, none⟩ = some (.pointer (some ⟨w.heap.size, 0, none⟩))) ∧ Below w.heap.size w W)
    (fun _ _ _ => False)
    (OwnFrom.and (Own.from (fun s A B row hs hg hr => ⟨Row.own _ _ (fun pre : List Idx => fcell (exF (vals pre)) (lgF (vals pre))) s A B row hs.1 hg hr, cell_kept hs.2 hg hr⟩) _) (ownFrom_below (Nat.le_refl _) (by simp; omega)))
    (fun _ _ _ _ _ hs _ _ => hs)
    ⟨⟨hr0.below ((Below.refl _ _).alloc (Nat.le_refl _) _) (by simp), hc0⟩, hB0⟩
    (fun x => { tmps := #[.pointer none, .pointer (some ⟨w.heap.size + 1, 0, none⟩), .int .i64 (x.1 : Int), .int .u8 (Gf.pw x.1 : Int), .agg fieldZero, .pointer (some ⟨w.heap.size, 0, none⟩), .int .i64 (x.1 : Int), .int .u8 (Gf.pw x.1 : Int), undef, undef, undef, undef, undef, undef, undef, undef, undef, undef, undef, undef, undef], defers := [] }) ?assign ?body ?done ?stop
  case assign =>
    intro l x W K hK
    gi_wp2
    exact hK
  case body =>
    rintro l pre ⟨i, hi⟩ W ⟨⟨hr, hc⟩, hB⟩ _
    have hp := Gf.pw_lt i
    have c1 := (hr i (by omega)).1
    have f1 := (hr i (by omega)).2
    have hr2 := hr.set (o := i) (by omega) (.int .u8 (Gf.pw i : Int))
    have c2 := (hr2 (255 + Gf.pw i) (by omega)).1
    have f2 := (hr2 (255 + Gf.pw i) (by omega)).2
    have hr3 := Lib.hid ((hr2.set (o := 255 + Gf.pw i) (by omega) (.int .i64 (i : Int))).congr (fun o _ => fcell_step (vals pre) i o hi))
    clear hr2 hr
    dsimp only
    gi_wp2
    refine ⟨(KeepsOthers.setCell _ _ _).trans (KeepsOthers.setCell _ _ _), trivial, ⟨?_, ?_⟩, (hB.setCell (p := ⟨w.heap.size, i, none⟩) (Nat.le_refl _) _).setCell (p := ⟨w.heap.size, 255 + Gf.pw i, none⟩) (Nat.le_refl _) _⟩
    · rw [vals_snoc]; exact hr3.out
    · rw [World.cell?_setCell_other _ _ _ _ (fun h => by injection h with h1; omega), World.cell?_setCell_other _ _ _ _ (fun h => by injection h with h1; omega)]; exact hc
  case done =>
    rintro D xs W hD rfl ⟨⟨hr, hc⟩, hB⟩ hK
    gi_wp2
    refine ⟨by simp, .inl ⟨_, _, rfl, run_takeDeferred hK, ?_⟩⟩
    have hb2 : Below w.heap.size W (W.putObj D (.deferred none)) := belowK_b (w := w) (Nat.le_refl _) W D _ _ (by simp at hD; omega) hK rfl rfl
    refine ⟨_, results_tmp rfl _ _ _, rfl, ?_, hB.trans hb2⟩
    rw [vals_all] at hr
    intro o ho
    have h1 := hr o ho
    have hg := grownBy_putObj' W D (.deferred none)
    have hx : ∀ r, some D = some r → ∃ o : Obj, W.heap[r]? = some o ∧ o.isCells = false := fun r e => by cases e; exact ⟨_, hK, rfl⟩
    rw [← fcell_all o]
    exact ⟨cell_kept h1.1 hg hx, (frozen_kept h1.1 hg hx).trans h1.2⟩
  case stop =>
    rintro D c pre W _ _ h _
    exact h.elim

/-- Block b is a field that New made. -/
def IsField (W : World) (b : Nat) : Prop := Row W b 511 (fcell Gf.pw Gf.lg)
theorem IsField.ex {W : World} {b : Nat} (h : IsField W b) {i : Nat} (hi : i < 255) : W.cell? ⟨b, i, none⟩ = some (.int .u8 (Gf.pw i : Int)) := by
  have := (h i (by omega)).1; rwa [fcell, if_pos hi] at this
theorem IsField.lg {W : World} {b : Nat} (h : IsField W b) {a : Nat} (ha : a < 256) : W.cell? ⟨b, 255 + a, none⟩ = some (.int .i64 (Gf.lg a : Int)) := by
  have := (h (255 + a) (by omega)).1; rwa [fcell, if_neg (by omega), Nat.add_sub_cancel_left] at this
theorem IsField.lt {W : World} {b : Nat} (h : IsField W b) : b < W.heap.size := by
  have := (h 0 (by omega)).1
  unfold World.cell? at this
  split at this
  · rename_i hb; exact (Array.getElem?_eq_some_iff.1 hb).1
  · cases this
theorem IsField.below {W W' : World} {b B : Nat} (h : IsField W b) (hb : Below B W W') (hB : b < B) : IsField W' b := Row.below h hb hB
theorem IsField.drewN {W : World} {b : Nat} (h : IsField W b) (k : Nat) : IsField (W.drewN k) b := h

theorem new_any (w : World) : Calls Try.prog 10 #[] w fun e w' => e = .returned (.pointer (some ⟨w.heap.size, 0, none⟩)) ∧ IsField w' w.heap.size ∧ Below w.heap.size w w' :=
  callsIn_wide.1 (new_in w)
end Go.Proofs.Ytmcfkgjkfceomaa
