import Derived.Deep.RegionWith
import Derived.Laws.CopyOwn
import Derived.Test.YtaknffdokkfmgaaJ1
import Derived.Test.YtaknffdokkfmgaaJ2
import Derived.Test.YtaknffdokkfmgaaJ4
import Derived.Test.YtaknffdokkfmgaaJ6
section
/- What gf.New does: a field of its own, whose tables hold the powers of x + 1 and their logarithms; nothing else is turned. -/
namespace Go.Proofs.Ytaknffdokkfmgaa
open Go.RowKit Go.Shelf Gw
attribute [local go_sem] Oper.semAt_some

def fieldZero : Array Value := (List.replicate 255 (Value.int .u8 0) ++ List.replicate 256 (Value.int .i64 0)).toArray
theorem zeroField (w : World) : (zeroValue 70).run Try.prog w = .ok (.agg fieldZero) w := by kernel_rfl

def fcell (ex lgf : Nat → Nat) (o : Nat) : Value := if o < 255 then .int .u8 (ex o : Int) else .int .i64 (lgf (o - 255) : Int)
theorem fieldZero_get : ∀ o, o < 511 → fieldZero[o]? = some (fcell (exF []) (lgF []) o) := by
  intro o ho
  unfold fieldZero fcell
  rw [List.getElem?_toArray, List.getElem?_append, List.length_replicate]
  by_cases h : o < 255
  · rw [if_pos h, if_pos h, List.getElem?_replicate, if_pos h]; rfl
  · rw [if_neg h, if_neg h, List.getElem?_replicate, if_pos (by omega)]; rfl

def vals (pre : List Idx) : List Nat := pre.map (fun x => x.1)
theorem vals_snoc (pre : List Idx) (x : Idx) : vals (pre ++ [x]) = vals pre ++ [x.1] := by simp [vals]
theorem vals_all : vals (upto 255 (Nat.le_refl _)) = List.range 255 := upto_val 255 _
theorem fcell_step (l : List Nat) (i o : Nat) (hi : i < 255) : (if o = 255 + Gf.pw i then Value.int .i64 (i : Int) else if o = i then Value.int .u8 (Gf.pw i : Int) else fcell (exF l) (lgF l) o) = fcell (exF (l ++ [i])) (lgF (l ++ [i])) o := by
  by_cases h1 : o = 255 + Gf.pw i
  · subst h1; rw [if_pos rfl]; unfold fcell; rw [if_neg (by omega), Nat.add_sub_cancel_left, lgF_snoc, if_pos rfl]
  · rw [if_neg h1]
    by_cases h2 : o = i
    · subst h2; rw [if_pos rfl]; unfold fcell; rw [if_pos hi, exF_snoc_same]
    · rw [if_neg h2]; unfold fcell
      by_cases h3 : o < 255
      · rw [if_pos h3, if_pos h3, exF_snoc_other _ _ _ h2]
      · rw [if_neg h3, if_neg h3, lgF_snoc, if_neg (by omega)]
theorem fcell_all (o : Nat) : fcell (exF (List.range 255)) (lgF (List.range 255)) o = fcell Gf.pw Gf.lg o := by
  unfold fcell
  by_cases h : o < 255
  · rw [if_pos h, if_pos h, exF, if_pos (List.mem_range.2 h)]
  · rw [if_neg h, if_neg h, lgF_range]; rfl

set_option maxRecDepth 100000 in
set_option maxHeartbeats 1000000 in
theorem new_in (w : World) :
    CallsIn Fence.wide 5 Try.prog 21 #[] w fun e w' => e = .returned (.pointer (some ⟨w.heap.size, 0, none⟩)) ∧ Row w' w.heap.size 511 (fcell Gf.pw Gf.lg) ∧ Below w.heap.size w w' := by
  refine callsIn_of_wp_marks Try.func21 rfl trivial ?_ rfl
  simp only [Try.ntmps21, List.size_toArray, List.length_nil, Nat.reduceSub, Array.replicate_succ, Array.replicate_zero, List.push_toArray, List.append_toArray, List.nil_append, List.cons_append]
  have hzF := zeroField
  gi_wp2
  clear hzF
  have hB0 : Below w.heap.size w ((w.alloc (.cells fieldZero 70)).alloc (.cells #[.pointer (some ⟨w.heap.size, 0, none⟩)] 38)) := ((Below.refl _ w).alloc (Nat.le_refl _) _).alloc (by simp) _
  have hr0 := Row.new w fieldZero 70 511 _ fieldZero_get
  have hc0 := cell_new (w.alloc (.cells fieldZero 70)) (.pointer (some ⟨w.heap.size, 0, none⟩)) 38
  rw [World.size_alloc] at hc0
  refine wpIn_rangeFunc_ownF rfl (by omega) (gf := 45) (lb := #[]) rfl trivial (enters_of Try.func45 (by kernel_rfl) rfl)
    (powers_stops (5 - 1) (by omega) _) (fun _ _ => trivial) (fun _ _ _ _ _ _ _ _ => trivial) (Below.refl _ _) (fun _ => rfl)
    (fun pre W => (Row W w.heap.size 511 (fcell (exF (vals pre)) (lgF (vals pre))) ∧ W.cell? ⟨w.heap.size + 1, 0, none⟩ = some (.pointer (some ⟨w.heap.size, 0, none⟩))) ∧ Below w.heap.size w W)
    (fun _ _ _ => False)
    (OwnFrom.and (Own.from (fun s A B row hs hg hr => ⟨Row.own _ _ (fun pre : List Idx => fcell (exF (vals pre)) (lgF (vals pre))) s A B row hs.1 hg hr, cell_kept hs.2 hg hr⟩) _) (ownFrom_below (Nat.le_refl _) (by simp; omega)))
    (fun _ _ _ _ _ hs _ _ => hs)
    ⟨⟨hr0.below ((Below.refl _ _).alloc (Nat.le_refl _) _) (by simp), hc0⟩, hB0⟩
    (fun x => { tmps := #[.pointer none, .pointer (some ⟨w.heap.size + 1, 0, none⟩), .int .i64 (x.1 : Int), .int .u8 (Gf.pw x.1 : Int), .agg fieldZero, .pointer (some ⟨w.heap.size, 0, none⟩), .int .i64 (x.1 : Int), .int .u8 (Gf.pw x.1 : Int), undef, undef, undef, undef, undef, undef, undef, undef, undef, undef, undef, undef, undef], defers := [] }) ?assign ?body ?done ?stop
  case assign =>
    intro l x W K hK
    gi_wp2
    exact hK
  case body =>
    rintro l pre ⟨i, hi⟩ W ⟨⟨hr, hc⟩, hB⟩ _
    have hp := Gf.pw_lt i
    have c1 := (hr i (by omega)).1
    have f1 := (hr i (by omega)).2
    have hr2 := hr.set (o := i) (by omega) (.int .u8 (Gf.pw i : Int))
    have c2 := (hr2 (255 + Gf.pw i) (by omega)).1
    have f2 := (hr2 (255 + Gf.pw i) (by omega)).2
    have hr3 := Lib.hid ((hr2.set (o := 255 + Gf.pw i) (by omega) (.int .i64 (i : Int))).congr (fun o _ => fcell_step (vals pre) i o hi))
    clear hr2 hr
    dsimp only
    gi_wp2
    refine ⟨(KeepsOthers.setCell _ _ _).trans (KeepsOthers.setCell _ _ _), trivial, ⟨?_, ?_⟩, (hB.setCell (p := ⟨w.heap.size, i, none⟩) (Nat.le_refl _) _).setCell (p := ⟨w.heap.size, 255 + Gf.pw i, none⟩) (Nat.le_refl _) _⟩
    · rw [vals_snoc]; exact hr3.out
    · rw [World.cell?_setCell_other _ _ _ _ (fun h => by injection h with h1; omega), World.cell?_setCell_other _ _ _ _ (fun h => by injection h with h1; omega)]; exact hc
  case done =>
    rintro D xs W hD rfl ⟨⟨hr, hc⟩, hB⟩ hK
    gi_wp2
    refine ⟨by simp, .inl ⟨_, _, rfl, run_takeDeferred hK, ?_⟩⟩
    have hb2 : Below w.heap.size W (W.putObj D (.deferred none)) := belowK_b (w := w) (Nat.le_refl _) W D _ _ (by simp at hD; omega) hK rfl rfl
    refine ⟨_, results_tmp rfl _ _ _, rfl, ?_, hB.trans hb2⟩
    rw [vals_all] at hr
    intro o ho
    have h1 := hr o ho
    have hg := grownBy_putObj' W D (.deferred none)
    have hx : ∀ r, some D = some r → ∃ o : Obj, W.heap[r]? = some o ∧ o.isCells = false := fun r e => by cases e; exact ⟨_, hK, rfl⟩
    rw [← fcell_all o]
    exact ⟨cell_kept h1.1 hg hx, (frozen_kept h1.1 hg hx).trans h1.2⟩
  case stop =>
    rintro D c pre W _ _ h _
    exact h.elim

/-- Block b is a field that New made. -/
def IsField (W : World) (b : Nat) : Prop := Row W b 511 (fcell Gf.pw Gf.lg)
theorem IsField.ex {W : World} {b : Nat} (h : IsField W b) {i : Nat} (hi : i < 255) : W.cell? ⟨b, i, none⟩ = some (.int .u8 (Gf.pw i : Int)) := by
  have := (h i (by omega)).1; rwa [fcell, if_pos hi] at this
theorem IsField.lg {W : World} {b : Nat} (h : IsField W b) {a : Nat} (ha : a < 256) : W.cell? ⟨b, 255 + a, none⟩ = some (.int .i64 (Gf.lg a : Int)) := by
  have := (h (255 + a) (by omega)).1; rwa [fcell, if_neg (by omega), Nat.add_sub_cancel_left] at this
theorem IsField.lt {W : World} {b : Nat} (h : IsField W b) : b < W.heap.size := by
  have := (h 0 (by omega)).1
  unfold World.cell? at this
  split at this
  · rename_i hb; exact (Array.getElem?_eq_some_iff.1 hb).1
  · cases this
theorem IsField.below {W W' : World} {b B : Nat} (h : IsField W b) (hb : Below B W W') (hB : b < B) : IsField W' b := Row.below h hb hB
theorem IsField.drewN {W : World} {b : Nat} (h : IsField W b) (k : Nat) : IsField (W.drewN k) b := h

theorem new_any (w : World) : Calls Try.prog 21 #[] w fun e w' => e = .returned (.pointer (some ⟨w.heap.size, 0, none⟩)) ∧ IsField w' w.heap.size ∧ Below w.heap.size w w' :=
  callsIn_wide.1 (new_in w)
end Go.Proofs.Ytaknffdokkfmgaa
end
section
/- A table of rows of one's own that calls append to: what else stands. -/
namespace Gw
open Go Go.RowKit Go.Shelf
/-- Block b is none of the table's. -/
def NT (g R : Nat) (pa : Nat → Option Addr) (b : Nat) : Prop := b ≠ g ∧ ∀ i, i < R → ∀ o, pa i ≠ some ⟨b, o, none⟩
/-- All but the table's blocks stands; its rows lie where they lay, or in new blocks. -/
structure Tbr (g R : Nat) (pa pa' : Nat → Option Addr) (W W' : World) : Prop where
  os : W'.os = W.os
  tape : W'.tape = W.tape
  output : W'.output = W.output
  size : W.heap.size ≤ W'.heap.size
  blk : ∀ b, b < W.heap.size → NT g R pa b → W'.heap[b]? = W.heap[b]?
  loc : ∀ i, i < R → ∀ b o, pa' i = some ⟨b, o, none⟩ → W.heap.size ≤ b ∨ ∃ o', pa i = some ⟨b, o', none⟩
section
variable {g R : Nat} {pa pb pc : Nat → Option Addr} {W X Y : World}
theorem Tbr.refl (g R : Nat) (pa : Nat → Option Addr) (W : World) : Tbr g R pa pa W W := ⟨rfl, rfl, rfl, Nat.le_refl _, fun _ _ _ => rfl, fun _ _ _ o h => .inr ⟨o, h⟩⟩
theorem Tbr.nt (h : Tbr g R pa pb W X) {b : Nat} (hb : b < W.heap.size) (hn : NT g R pa b) : NT g R pb b := ⟨hn.1, fun i hi o e => by
  rcases h.loc i hi b o e with h1 | ⟨o', h1⟩
  · omega
  · exact hn.2 i hi o' h1⟩
theorem Tbr.trans (h : Tbr g R pa pb W X) (k : Tbr g R pb pc X Y) : Tbr g R pa pc W Y :=
  ⟨k.os.trans h.os, k.tape.trans h.tape, k.output.trans h.output, Nat.le_trans h.size k.size, fun b hb hn => (k.blk b (Nat.lt_of_lt_of_le hb h.size) (h.nt hb hn)).trans (h.blk b hb hn),
   fun i hi b o e => by
    rcases k.loc i hi b o e with h1 | ⟨o', h1⟩
    · exact .inl (Nat.le_trans h.size h1)
    · exact h.loc i hi b o' h1⟩
theorem Tbr.grow (hb : Below W.heap.size W X) : Tbr g R pa pa W X := ⟨hb.os, hb.tape, hb.output, hb.size, fun b h _ => hb.block b h, fun _ _ _ o h => .inr ⟨o, h⟩⟩
theorem Tbr.cell (h : Tbr g R pa pb W X) {b o : Nat} {v : Value} (hc : W.cell? ⟨b, o, none⟩ = some v) (hn : NT g R pa b) : X.cell? ⟨b, o, none⟩ = some v :=
  (World.cell?_of_block (w := W) (a := ⟨b, o, none⟩) (h.blk b (cell_lt hc) hn)).trans hc
theorem Tbr.row (h : Tbr g R pa pb W X) {b n : Nat} {f : Nat → Value} (hr : Row W b n f) (hn : NT g R pa b) : Row X b n f := fun o ho =>
  ⟨h.cell (hr o ho).1 hn, (World.frozen?_of_block (w := W) (a := ⟨b, o, none⟩) (h.blk b (cell_lt (hr o ho).1) hn)).trans (hr o ho).2⟩
/-- A slice that lies in none of the table's blocks. -/
def AT (g R : Nat) (pa : Nat → Option Addr) (A : Option Addr) : Prop := ∀ b o, A = some ⟨b, o, none⟩ → NT g R pa b
theorem Tbr.inn (h : Tbr g R pa pb W X) {A : Option Addr} {c : Nat} {l : List Nat} (hI : In W W.heap.size A c l) (hn : AT g R pa A) : In X X.heap.size A c l :=
  ⟨fun i x hx => by
    obtain ⟨h1, b, off, h2, h3, h4⟩ := hI.sl i x hx
    exact ⟨h1, b, off, h2, Nat.lt_of_lt_of_le h3 h.size, h.cell h4 (hn b off h2)⟩, hI.cap, hI.none_⟩
theorem Tbr.below (h : Tbr g R pa pb W X) {base : Nat} (hb : base ≤ W.heap.size) (hn : ∀ b, b < base → NT g R pa b) : Below base W X := ⟨h.os, h.tape, h.output, h.size, fun b hb' => h.blk b (by omega) (hn b hb')⟩
theorem Otb.nt {base : Nat} {tb : TypeId} {cp : Nat → Nat} {l : Nat → List Nat} (h : Otb W base tb g R pa cp l) {b : Nat} (hb : b < base) : NT g R pa b :=
  ⟨by have := h.glo; omega, fun i hi o e => by have h1 := h.row i hi; rw [e] at h1; have := h1.lt; omega⟩
theorem Otb.ntNew {base : Nat} {tb : TypeId} {cp : Nat → Nat} {l : Nat → List Nat} (h : Otb W base tb g R pa cp l) {b : Nat} (hb : W.heap.size ≤ b) : NT g R pa b :=
  ⟨by have := h.glo; omega, fun i hi o e => by have h1 := h.row i hi; rw [e] at h1; have := h1.lt; omega⟩
/-- Where what is turned is no cells. -/
theorem Otb.turned {base : Nat} {tb : TypeId} {cp : Nat → Nat} {l : Nat → List Nat} {row : Option Nat} (h : Otb W base tb g R pa cp l) (hg : W.grownBy X row) (hr : ∀ r, row = some r → ∃ o : Obj, W.heap[r]? = some o ∧ o.isCells = false) : Otb X base tb g R pa cp l :=
  ⟨Gw.Row.turned h.out hg hr, fun i hi => (h.row i hi).turned hg hr, h.dis, h.ne, h.glo.1, Nat.lt_of_lt_of_le h.glo.2 hg.size⟩
theorem Tbr.turned {row : Option Nat} (h : Tbr g R pa pb W X) (hg : X.grownBy Y row) (hr : ∀ r, row = some r → W.heap.size ≤ r) : Tbr g R pa pb W Y :=
  ⟨hg.os.trans h.os, hg.tape.trans h.tape, hg.output.trans h.output, Nat.le_trans h.size hg.size, fun b hb hn => (hg.block b (Nat.lt_of_lt_of_le hb h.size) (fun e => by have := hr b e.symm; omega)).trans (h.blk b hb hn), h.loc⟩
theorem gb_trans {row : Option Nat} {A B C : World} (h : A.grownBy B row) (k : B.grownBy C row) : A.grownBy C row :=
  ⟨k.os.trans h.os, k.tape.trans h.tape, k.output.trans h.output, Nat.le_trans h.size k.size, fun i hi hn => (k.block i (Nat.lt_of_lt_of_le hi h.size) hn).trans (h.block i hi hn)⟩
theorem gb_grow {row : Option Nat} {A B : World} (h : Below A.heap.size A B) : A.grownBy B row := ⟨h.os, h.tape, h.output, h.size, fun i hi _ => h.block i hi⟩
theorem Otb.gbr {base : Nat} {tb : TypeId} {cp : Nat → Nat} {l : Nat → List Nat} (h : Otb W base tb g R pa cp l) {i n : Nat} (hi : i < R) (hgr : W.grownBy X (Value.slice (pa i) n (cp i)).ownBlock) : Tbr g R pa pa W X :=
  ⟨hgr.os, hgr.tape, hgr.output, hgr.size, fun b hb hn => hgr.block b hb (fun e => hn.2 i hi 0 ((h.row i hi).at0 e.symm)), fun _ _ _ o h => .inr ⟨o, h⟩⟩
/-- Row i, onto which something was appended, is stored. -/
theorem Otb.stored {base : Nat} {tb : TypeId} {cp : Nat → Nat} {l : Nat → List Nat} (h : Otb W base tb g R pa cp l) {i : Nat} (hi : i < R) {n : Nat} (hgr : W.grownBy X (Value.slice (pa i) n (cp i)).ownBlock)
    {A2 : Option Addr} {c2 : Nat} {L2 : List Nat} (hown : Own X base tb A2 c2 L2) (hloc : ∀ b o, A2 = some ⟨b, o, none⟩ → W.heap.size ≤ b ∨ ∃ o', pa i = some ⟨b, o', none⟩) (n2 : Nat) (hn2 : n2 = L2.length) :
    X.cell? ⟨g, i, none⟩ = some (.slice (pa i) (l i).length (cp i)) ∧ X.frozen? ⟨g, i, none⟩ = false ∧ Otb (X.setCell ⟨g, i, none⟩ (.slice A2 n2 c2)) base tb g R (upd pa i A2) (upd cp i c2) (upd l i L2) ∧
      Tbr g R pa (upd pa i A2) W (X.setCell ⟨g, i, none⟩ (.slice A2 n2 c2)) ∧ KeepsOthers W (X.setCell ⟨g, i, none⟩ (.slice A2 n2 c2)) := by
  have hblk : ∀ b, b < W.heap.size → (∀ o, pa i ≠ some ⟨b, o, none⟩) → X.heap[b]? = W.heap[b]? := fun b hb hne => hgr.block b hb (fun e => hne 0 ((h.row i hi).at0 e.symm))
  have hgb := hblk g h.glo.2 (h.ne i hi)
  refine ⟨(World.cell?_of_block (w := W) (a := ⟨g, i, none⟩) hgb).trans (h.out i hi).1, (World.frozen?_of_block (w := W) (a := ⟨g, i, none⟩) hgb).trans (h.out i hi).2, h.turn hi hgr.size hblk hown hloc n2 hn2, ⟨hgr.os, hgr.tape, hgr.output, by simp [World.setCell]; exact hgr.size, fun b hb hn => ?_, fun j hj b o e => ?_⟩, ?_⟩
  · exact (Below.heap_setCell _ _ _ _ hn.1).trans (hblk b hb (hn.2 i hi))
  · by_cases e2 : j = i
    · subst e2; rw [upd_same] at e; exact hloc b o e
    · rw [upd_other e2] at e; exact .inr ⟨o, e⟩
  · refine KeepsOthers.trans (B := X) ⟨hgr.size, fun k ob hk hc => (hgr.block k (Array.getElem?_eq_some_iff.1 hk).1 (fun e => ?_)).trans hk⟩ (KeepsOthers.setCell _ _ _)
    have h1 := (h.row i hi).at0 e.symm
    have h2 := h.row i hi
    rw [h1] at h2
    have := h2.cellsAt ob hk
    rw [this] at hc; cases hc
end
end Gw
namespace Go.Proofs.Ytaknffdokkfmgaa
open Go.RowKit Go.Shelf Gw
theorem IsField.tbr {g R b : Nat} {pa pb : Nat → Option Addr} {W X : World} (hF : IsField W b) (h : Tbr g R pa pb W X) (hn : NT g R pa b) : IsField X b := h.row hF hn
end Go.Proofs.Ytaknffdokkfmgaa
end
section
/- What bytes.Clone does: a copy in memory of its own. -/
namespace Go.Proofs.Ytaknffdokkfmgaa
open Go.RowKit Go.Shelf Gw Pol

set_option maxRecDepth 100000 in
set_option maxHeartbeats 1000000 in
theorem clone_any (A : Option Addr) (c : Nat) (l : List Nat) (w : World) (hI : In w w.heap.size A c l) (hcm : l.length ≤ 140737488355328) :
    Calls Try.prog 72 #[.slice A l.length c] w fun e w' => ∃ A2 c2, e = .returned (.slice A2 l.length c2) ∧ Gw.Own w' w.heap.size 5 A2 c2 l ∧ Below w.heap.size w w' := by
  obtain ⟨i0, hi0, hz0, hz1, hz2⟩ := info_parts pbyte_info
  cases A with
  | none =>
    obtain rfl := hI.none_ rfl
    obtain rfl : l = [] := List.eq_nil_of_length_eq_zero (by have := hI.cap; omega)
    have he : ∀ w : World, (binOp .eql 28 (.slice none 0 0) (.slice none 0 0)).run Try.prog w = .ok (.bool true) w := fun _ => by kernel_rfl
    go_enter Try.func72, Try.ntmps72
    go_wp2
    go_ret
    exact ⟨none, 0, rfl, Own.none_ _ _ _, Below.refl _ _⟩
  | some ad =>
    have he : ∀ w : World, (binOp .eql 28 (.slice (some ad) l.length c) (.slice none 0 0)).run Try.prog w = .ok (.bool false) w := fun _ => by kernel_rfl
    go_enter Try.func72, Try.ntmps72
    go_wp2_with (at_builtin; refine wpList_app rfl (.tmp 5) (.tmp 6) 28 rfl w.heap.size 5 i0 _ Try.underlying28 hi0 hz0 hz1 hz2 rfl (some ⟨w.heap.size, 0, none⟩) 0 0 [] rfl rfl (Own.lit0 w w.heap.size 5 (Nat.le_refl _)) w.heap.size (some ad) l.length c l rfl rfl hI.none_ (hI.sl.alloc (Nat.le_refl _) _) (by simp; omega) (by simp) ?_; intro A2 c2 w2 hown hgr)
    have hb2 := below_lit' (Below.refl w.heap.size w) (Nat.le_refl _) hgr
    go_ret
    exact ⟨A2, c2, rfl, hown, hb2⟩

end Go.Proofs.Ytaknffdokkfmgaa
end
section
/- What Mul, Div, Inv and Pow of a field that New made do: product, quotient, inverse and power of bytes; memory stays as it is. -/
namespace Go.Proofs.Ytaknffdokkfmgaa
open Go.RowKit Go.Shelf Gw

/-- Is it not 0? -/
def nz (a : Nat) : Bool := !(a == 0)
theorem nz_pos {a : Nat} (h : a ≠ 0) : nz a = true := by simp [nz, h]
theorem nz_zero : nz 0 = false := rfl

set_option maxHeartbeats 400000 in
theorem mul_zero (b a c : Nat) (w : World) (h : a = 0 ∨ c = 0) :
    Calls Try.prog 69 #[.pointer (some ⟨b, 0, none⟩), .int .u8 (a : Int), .int .u8 (c : Int)] w fun e w' => e = .returned (.int .u8 0) ∧ w = w' := by
  by_cases a0 : a = 0
  · subst a0
    go_enter Try.func69, Try.ntmps69
    go_wp2
    go_ret
    exact ⟨rfl, rfl⟩
  · obtain rfl : c = 0 := by omega
    have h1 : ((a : Int) == 0) = false := beq_eq_false_iff_ne.2 (by omega)
    go_enter Try.func69, Try.ntmps69
    go_wp2
    go_ret
    exact ⟨rfl, rfl⟩

set_option maxRecDepth 100000 in
set_option maxHeartbeats 1000000 in
theorem mul_pos (b a c : Nat) (ha : a < 256) (hc : c < 256) (a0 : a ≠ 0) (c0 : c ≠ 0) (w : World) (hF : IsField w b) :
    Calls Try.prog 69 #[.pointer (some ⟨b, 0, none⟩), .int .u8 (a : Int), .int .u8 (c : Int)] w fun e w' => e = .returned (.int .u8 (Gf.gm a c : Int)) ∧ ∃ n, w' = w.drewN n := by
  have h1 : ((a : Int) == 0) = false := beq_eq_false_iff_ne.2 (by omega)
  have h2 : ((c : Int) == 0) = false := beq_eq_false_iff_ne.2 (by omega)
  have l1 := hF.lg ha
  have l2 := hF.lg hc
  have k1 := Gf.lg_lt' a
  have k2 := Gf.lg_lt' c
  have e1 := hF.ex (i := (Gf.lg a + Gf.lg c) % 255) (Nat.mod_lt _ (by omega))
  have hm := Lib.hid (show Gf.gm a c = Gf.pw ((Gf.lg a + Gf.lg c) % 255) by unfold Gf.gm; rw [if_neg (by omega)])
  clear hF
  go_enter Try.func69, Try.ntmps69
  go_wp2
  go_quiet (fail)
  go_wp2
  go_ret
  exact ⟨by rw [hm.out]; rfl, nq, rfl⟩

/-- The product. -/
theorem mul_any (b a c : Nat) (ha : a < 256) (hc : c < 256) (w : World) (hF : IsField w b) :
    Calls Try.prog 69 #[.pointer (some ⟨b, 0, none⟩), .int .u8 (a : Int), .int .u8 (c : Int)] w fun e w' => e = .returned (.int .u8 (Gf.gm a c : Int)) ∧ ∃ n, w' = w.drewN n := by
  by_cases h : a = 0 ∨ c = 0
  · refine (mul_zero b a c w h).mono ?_
    rintro e w' ⟨rfl, rfl⟩
    exact ⟨by rw [Gf.gm_eq_zero.2 h]; rfl, 0, rfl⟩
  · exact mul_pos b a c ha hc (by omega) (by omega) w hF

set_option maxHeartbeats 400000 in
theorem div_none (b a : Nat) (w : World) :
    Calls Try.prog 59 #[.pointer (some ⟨b, 0, none⟩), .int .u8 (a : Int), .int .u8 0] w fun e w' => e = .returned (.tuple #[.int .u8 0, .bool false]) ∧ w = w' := by
  go_enter Try.func59, Try.ntmps59
  go_wp2
  go_ret2
  exact ⟨rfl, rfl⟩
set_option maxHeartbeats 400000 in
theorem div_zero (b c : Nat) (c0 : c ≠ 0) (w : World) :
    Calls Try.prog 59 #[.pointer (some ⟨b, 0, none⟩), .int .u8 0, .int .u8 (c : Int)] w fun e w' => e = .returned (.tuple #[.int .u8 0, .bool true]) ∧ w = w' := by
  have h2 : ((c : Int) == 0) = false := beq_eq_false_iff_ne.2 (by omega)
  go_enter Try.func59, Try.ntmps59
  go_wp2
  go_ret2
  exact ⟨rfl, rfl⟩
set_option maxRecDepth 100000 in
set_option maxHeartbeats 1000000 in
theorem div_pos (b a c : Nat) (ha : a < 256) (hc : c < 256) (a0 : a ≠ 0) (c0 : c ≠ 0) (w : World) (hF : IsField w b) :
    Calls Try.prog 59 #[.pointer (some ⟨b, 0, none⟩), .int .u8 (a : Int), .int .u8 (c : Int)] w fun e w' => e = .returned (.tuple #[.int .u8 (Gf.dv a c : Int), .bool true]) ∧ ∃ n, w' = w.drewN n := by
  have h1 : ((a : Int) == 0) = false := beq_eq_false_iff_ne.2 (by omega)
  have h2 : ((c : Int) == 0) = false := beq_eq_false_iff_ne.2 (by omega)
  have l1 := hF.lg ha
  have l2 := hF.lg hc
  have k1 := Gf.lg_lt' a
  have k2 := Gf.lg_lt' c
  obtain ⟨d, hd⟩ : ∃ d : Nat, d = Gf.lg a + 255 - Gf.lg c := ⟨_, rfl⟩
  have e1 := hF.ex (i := d % 255) (Nat.mod_lt _ (by omega))
  have hm := Lib.hid (show Gf.dv a c = Gf.pw (d % 255) by rw [Gf.dv_eq a0 c0, hd])
  have hs : (Gf.lg a : Int) + 255 - (Gf.lg c : Int) = (d : Int) := by omega
  clear hF hd
  go_enter Try.func59, Try.ntmps59
  go_wp2
  go_quiet (fail)
  go_wp2
  go_ret2
  exact ⟨by rw [hm.out]; rfl, nq, rfl⟩

/-- The quotient, and that there is one. -/
theorem div_any (b a c : Nat) (ha : a < 256) (hc : c < 256) (w : World) (hF : IsField w b) :
    Calls Try.prog 59 #[.pointer (some ⟨b, 0, none⟩), .int .u8 (a : Int), .int .u8 (c : Int)] w fun e w' => e = .returned (.tuple #[.int .u8 (Gf.dv a c : Int), .bool (nz c)]) ∧ ∃ n, w' = w.drewN n := by
  by_cases c0 : c = 0
  · subst c0
    refine (div_none b a w).mono ?_
    rintro e w' ⟨rfl, rfl⟩
    exact ⟨by simp [Gf.dv, Gf.inv, Gf.gm, nz], 0, rfl⟩
  · by_cases a0 : a = 0
    · subst a0
      refine (div_zero b c c0 w).mono ?_
      rintro e w' ⟨rfl, rfl⟩
      exact ⟨by simp [Gf.dv, Gf.gm, nz_pos c0], 0, rfl⟩
    · refine (div_pos b a c ha hc a0 c0 w hF).mono ?_
      rintro e w' ⟨rfl, hn⟩
      exact ⟨by rw [nz_pos c0], hn⟩

end Go.Proofs.Ytaknffdokkfmgaa
end
section
/- What poly's Degree, trim and addTimes do: the greatest power whose byte is not 0; the same memory without the noughts at its end; c times p added to what the caller has made, and nothing else turned. -/
namespace Go.Proofs.Ytaknffdokkfmgaa
open Go.RowKit Go.Shelf Gw Pol

set_option maxRecDepth 100000 in
set_option maxHeartbeats 1000000 in
theorem degree_any (A : Option Addr) (c : Nat) (l : List Nat) (w : World) (B : Nat) (hI : In w B A c l) (hcm : l.length ≤ 140737488355328) :
    Calls Try.prog 70 #[.slice A l.length c] w fun e w' => e = .returned (.int .i64 (((tr l).length : Int) - 1)) ∧ w = w' := by
  obtain ⟨hS, hc, hnil⟩ := hI
  go_enter Try.func70, Try.ntmps70
  go_wp2
  go_loop [3] (fun i => ∃ n : Nat, n ≤ l.length ∧ i = .int .i64 ((n : Int) - 1) ∧ Dg l n) (fun i => (intOf i + 1).toNat)
  case atStart => exact ⟨l.length, Nat.le_refl _, by go_num, Dg.len (Nat.le_refl _)⟩
  case round =>
    obtain ⟨n, hn, rfl, hd⟩ := hrel
    by_cases hout : n = 0 ∨ co l (n - 1) ≠ 0
    · have hfin : (tr l).length = n := by rw [tr_take l n hn hd hout, List.length_take]; omega
      have HF := Lib.hid hfin
      clear hfin
      by_cases h0 : n = 0
      · subst h0
        clear hout
        go_wp2
        go_ret
        exact ⟨by rw [HF.out]; rfl, rfl⟩
      · obtain ⟨x, b, off, hx, hxb, rfl, hb, hcell⟩ := hS.at_ (k := n - 1) (by omega)
        have ecast : (n : Int) - 1 = ((n - 1 : Nat) : Int) := by omega
        have hx0 : x ≠ 0 := by
          rcases hout with h | h
          · exact absurd h h0
          · simpa [co, hx] using h
        have hxz : ((x : Int) == 0) = false := beq_eq_false_iff_ne.2 (by omega)
        clear hout hx hx0
        go_wp2
        go_ret
        exact ⟨by rw [HF.out, ecast]; rfl, rfl⟩
    · have h0 : n ≠ 0 := fun h => hout (.inl h)
      obtain ⟨x, b, off, hx, hxb, rfl, hb, hcell⟩ := hS.at_ (k := n - 1) (by omega)
      have ecast : (n : Int) - 1 = ((n - 1 : Nat) : Int) := by omega
      have hx0 : x = 0 := Decidable.byContradiction fun h => hout (.inr (by simpa [co, hx] using h))
      subst hx0
      clear hout
      have HX := Lib.hid hx
      clear hx
      go_wp2
      go_round
      case rel => exact ⟨n - 1, by omega, by go_num, fun i hi => by
        by_cases e : i = n - 1
        · subst e; simp [co, HX.out]
        · exact hd i (by omega)⟩
      case measure => simp [intOf]; omega

set_option maxRecDepth 100000 in
set_option maxHeartbeats 1000000 in
theorem ptrim_any (A : Option Addr) (c : Nat) (l : List Nat) (w : World) (B : Nat) (hI : In w B A c l) (hcm : l.length ≤ 140737488355328) :
    Calls Try.prog 62 #[.slice A l.length c] w fun e w' => e = .returned (.slice A (tr l).length c) ∧ w = w' := by
  have hcap := hI.cap
  have hnil := hI.none_
  obtain ⟨d, hd⟩ : ∃ d, d = (tr l).length := ⟨_, rfl⟩
  have hdl : d ≤ l.length := by rw [hd]; exact tr_len l
  have hdc : d ≤ c := by omega
  have HC := degree_any A c l w B hI hcm
  rw [← hd] at HC ⊢
  have HD := Lib.hid HC
  clear HC hd
  go_enter Try.func62, Try.ntmps62
  go_wp2_with fail
  refine HD.out.mono ?_
  rintro e w' ⟨rfl, rfl⟩
  have hs1 : IntKind.i64.wrap ((d : Int) - 1 + 1) = (d : Int) := by rw [IntKind.wrap_i64]; omega
  cases A with
  | none =>
    obtain rfl := hnil rfl
    obtain rfl : d = 0 := by omega
    go_wp2
    go_ret
    exact ⟨rfl, rfl⟩
  | some ad =>
    go_wp2
    go_ret
    exact ⟨rfl, rfl⟩
theorem ptrim' (A : Option Addr) (c n : Nat) (l : List Nat) (w : World) (B : Nat) (hn : n = l.length) (hI : In w B A c l) (hcm : l.length ≤ 140737488355328) :
    Calls Try.prog 62 #[.slice A n c] w fun e w' => e = .returned (.slice A (tr l).length c) ∧ w = w' := by
  subst hn; exact ptrim_any A c l w B hI hcm

theorem IsField.grown {w w' : World} {b g : Nat} (h : IsField w b) (hg : w.grownBy w' (some g)) (hne : b ≠ g) : IsField w' b := fun o ho =>
  ⟨hg.cell (h o ho).1 (fun e => hne (by injection e)), (World.frozen?_of_block (w := w) (a := ⟨b, o, none⟩) (hg.block b h.lt (fun e => hne (by injection e)))).trans (h o ho).2⟩

def ATRel (w : World) (base g C : Nat) (L : List Nat) (o c : Nat) (l : List Nat) (i : Value) (wr : World) : Prop :=
  ∃ k : Nat, k ≤ l.length ∧ i = .int .i64 (k : Int) ∧ Gw.Own wr base 5 (some ⟨g, 0, none⟩) C (addAt L o c (l.take k)) ∧ w.grownBy wr (some g)
set_option maxRecDepth 100000 in
set_option maxHeartbeats 1000000 in
/-- c times p is added to the caller's own row. -/
theorem addTimes_any (bf g o m cs base C : Nat) (L : List Nat) (A : Option Addr) (cp : Nat) (l : List Nat) (c : Nat) (hc : c < 256) (w : World) (hF : IsField w bf) (hne : bf ≠ g)
    (hown : Gw.Own w base 5 (some ⟨g, 0, none⟩) C L) (hfit : o + l.length ≤ L.length) (hm : l.length ≤ m) (hp : SlN w g A l) (hcm : L.length ≤ 140737488355328) :
    Calls Try.prog 61 #[.pointer (some ⟨bf, 0, none⟩), .slice (some ⟨g, o, none⟩) m cs, .slice A l.length cp, .int .u8 (c : Int)] w fun e w' =>
      e = .returned (.tuple #[]) ∧ Gw.Own w' base 5 (some ⟨g, 0, none⟩) C (addAt L o c l) ∧ w.grownBy w' (some g) := by
  go_enter Try.func61, Try.ntmps61
  go_wp2
  go_loopw [12] (ATRel w base g C L o c l) (fun i _ => l.length - (intOf i).toNat)
  case atStart => exact ⟨0, Nat.zero_le _, rfl, by rw [List.take_zero, addAt_nil]; exact hown, World.grownBy.refl _ _⟩
  case round =>
    obtain ⟨k, hk, rfl, hown', hg⟩ := hrel
    by_cases hlt : k < l.length
    · obtain ⟨x, b, off, hx, hxb, rfl, hbg, hcell⟩ := (hp.grown hg).at_ hlt
      have hkl : o + k < (addAt L o c (l.take k)).length := by rw [addAt_len]; omega
      have hkm : k < m := by omega
      have hcg := hown'.cell hkl
      have hfr := Own.frozen hown' (o + k)
      have hF' := hF.grown hg hne
      have hvl := hown'.2.co (o + k)
      obtain ⟨v, hv⟩ : ∃ v, v = co (addAt L o c (l.take k)) (o + k) := ⟨_, rfl⟩
      rw [← hv] at hcg hvl
      have hxor : bits .xor .u8 (v : Int) (Gf.gm c x : Int) = ((v ^^^ Gf.gm c x : Nat) : Int) := u8_xor_nat _ _ hvl (Gf.gm_lt _ _)
      have hset := hown'.put hkl (Gf.xor_lt hvl (Gf.gm_lt c x))
      rw [hv, addAt_snoc hfit hx, ← hv] at hset
      have HS := Lib.hid hset
      have HG := Lib.hid (grown_put (k := o + k) hg (.int .u8 ((v ^^^ Gf.gm c x : Nat) : Int)))
      clear hset hx hv hown' hg hkl
      go_wp2
      go_region_with (go_at_call 69; refine (mul_any bf c x hc hxb _ (hF'.drewN _)).mono ?_; rintro e w' ⟨rfl, n, rfl⟩)
      all_goals (
        go_wp2
        go_roundw
        case rel => exact ⟨k + 1, by omega, by go_num, HS.out, ⟨HG.out.os, HG.out.tape, HG.out.output, HG.out.size, HG.out.block⟩⟩
        case measure => simp [intOf]; omega)
    · obtain rfl : k = l.length := by omega
      rw [List.take_length] at hown'
      go_wp2
      go_end0
      exact ⟨rfl, hown', hg⟩
theorem addTimes' (bf g o m cs base C : Nat) (L : List Nat) (A : Option Addr) (cp nl : Nat) (l : List Nat) (c : Nat) (hnl : nl = l.length) (hc : c < 256) (w : World) (hF : IsField w bf) (hne : bf ≠ g)
    (hown : Gw.Own w base 5 (some ⟨g, 0, none⟩) C L) (hfit : o + l.length ≤ L.length) (hm : l.length ≤ m) (hp : SlN w g A l) (hcm : L.length ≤ 140737488355328) :
    Calls Try.prog 61 #[.pointer (some ⟨bf, 0, none⟩), .slice (some ⟨g, o, none⟩) m cs, .slice A nl cp, .int .u8 (c : Int)] w fun e w' =>
      e = .returned (.tuple #[]) ∧ Gw.Own w' base 5 (some ⟨g, 0, none⟩) C (addAt L o c l) ∧ w.grownBy w' (some g) := by
  subst hnl; exact addTimes_any bf g o m cs base C L A cp l c hc w hF hne hown hfit hm hp hcm
end Go.Proofs.Ytaknffdokkfmgaa
end
section
/- What poly's Mul does: the product, without noughts at the end, in memory of its own. -/
namespace Go.Proofs.Ytaknffdokkfmgaa
open Go.RowKit Go.Shelf Gw Pol

/-- The product's row when k powers of p are through. -/
def mulTo (p q : List Nat) (k : Nat) : List Nat := (List.range (p.length + q.length - 1)).map (co (mul (p.take k) q))
theorem mulTo_len (p q : List Nat) (k : Nat) : (mulTo p q k).length = p.length + q.length - 1 := by simp [mulTo]
theorem co_mulTo {p q : List Nat} {k j : Nat} (h : j < p.length + q.length - 1) : co (mulTo p q k) j = co (mul (p.take k) q) j := by
  rw [co_get (by rw [mulTo_len]; exact h)]; simp [mulTo]
theorem mulTo_zero (p q : List Nat) : mulTo p q 0 = List.replicate (p.length + q.length - 1) 0 := by
  refine ext_co (by rw [mulTo_len, List.length_replicate]) fun i hi => ?_
  rw [mulTo_len] at hi
  rw [co_mulTo hi]
  unfold co
  simp [mul, hi]
theorem mulTo_all (p q : List Nat) : mulTo p q p.length = pl p q := by unfold mulTo pl; rw [List.take_length]
theorem mulTo_step {p q : List Nat} {k x : Nat} (hx : p[k]? = some x) : addAt (mulTo p q k) k x q = mulTo p q (k + 1) := by
  have hk : k < p.length := (List.getElem?_eq_some_iff.1 hx).1
  have hlt : (p.take k).length = k := by rw [List.length_take]; omega
  refine ext_co (by rw [addAt_len, mulTo_len, mulTo_len]) fun i hi => ?_
  rw [addAt_len, mulTo_len] at hi
  rw [co_addAt x (by rw [mulTo_len]; omega), co_mulTo hi, co_mulTo hi, ← take_snoc hx, co_mul_snoc, hlt]

def PmRel (w : World) (p q : List Nat) (s : Nat) (i : Value) (wr : World) : Prop :=
  ∃ k : Nat, k ≤ p.length ∧ i = .int .i64 (k : Int) ∧ Gw.Own wr w.heap.size 5 (some ⟨w.heap.size, 0, none⟩) s (mulTo p q k) ∧ Below w.heap.size w wr
set_option maxRecDepth 100000 in
set_option maxHeartbeats 1000000 in
theorem pmul_any (bf : Nat) (A A' : Option Addr) (c c' : Nat) (p q : List Nat) (w : World) (hF : IsField w bf) (hp : In w w.heap.size A c p) (hq : In w w.heap.size A' c' q) (hcm : p.length + q.length ≤ 140737488355328) :
    Calls Try.prog 56 #[.pointer (some ⟨bf, 0, none⟩), .slice A p.length c, .slice A' q.length c'] w fun e w' => ∃ A2 c2, e = .returned (.slice A2 (tr (mul p q)).length c2) ∧ Gw.Own w' w.heap.size 5 A2 c2 (tr (mul p q)) ∧ Below w.heap.size w w' := by
  have T1 := Lib.hid (ptrim_any A c p w w.heap.size hp (by omega))
  have T2 := Lib.hid (ptrim_any A' c' q w w.heap.size hq (by omega))
  have hlf := hF.lt
  have hP := hp.tr
  have hQ := hq.tr
  have l1 := tr_len p
  have l2 := tr_len q
  have HN1 := Lib.hid (fun h => pl_nil_left (p := p) q h)
  have HN2 := Lib.hid (fun h => pl_nil_right p (q := q) h)
  have HPL := Lib.hid (fun h1 h2 => pl_tr (p := p) (q := q) h1 h2)
  obtain ⟨P, hPe⟩ : ∃ P, P = tr p := ⟨_, rfl⟩
  obtain ⟨Q, hQe⟩ : ∃ Q, Q = tr q := ⟨_, rfl⟩
  rw [← hPe] at T1 hP l1 HN1 HPL
  rw [← hQe] at T2 hQ l2 HN2 HPL
  clear hp hq hPe hQe
  obtain ⟨n, hn⟩ : ∃ n, n = P.length := ⟨_, rfl⟩
  obtain ⟨m, hm⟩ : ∃ m, m = Q.length := ⟨_, rfl⟩
  rw [← hn] at T1 l1
  rw [← hm] at T2 l2
  have HN := Lib.hid hn
  have HM := Lib.hid hm
  clear hn hm
  by_cases n0 : n = 0
  · subst n0
    have hP0 : P = [] := List.eq_nil_of_length_eq_zero HN.out.symm
    have HZ := Lib.hid (HN1.out hP0)
    clear hP0
    go_enter Try.func56, Try.ntmps56
    go_wp2_with fail
    refine T1.out.mono ?_
    rintro e w' ⟨rfl, rfl⟩
    go_wp2_with fail
    refine T2.out.mono ?_
    rintro e w' ⟨rfl, rfl⟩
    go_wp2
    go_ret
    exact ⟨none, 0, by rw [HZ.out]; rfl, by rw [HZ.out]; exact Own.none_ _ _ _, Below.refl _ _⟩
  · have hn0 : ((n : Int) == 0) = false := beq_eq_false_iff_ne.2 (by omega)
    by_cases m0 : m = 0
    · subst m0
      have hQ0 : Q = [] := List.eq_nil_of_length_eq_zero HM.out.symm
      have HZ := Lib.hid (HN2.out hQ0)
      clear hQ0
      go_enter Try.func56, Try.ntmps56
      go_wp2_with fail
      refine T1.out.mono ?_
      rintro e w' ⟨rfl, rfl⟩
      go_wp2_with fail
      refine T2.out.mono ?_
      rintro e w' ⟨rfl, rfl⟩
      go_wp2
      go_ret
      exact ⟨none, 0, by rw [HZ.out]; rfl, by rw [HZ.out]; exact Own.none_ _ _ _, Below.refl _ _⟩
    · have hm0 : ((m : Int) == 0) = false := beq_eq_false_iff_ne.2 (by omega)
      obtain ⟨s, hs⟩ : ∃ s, s = n + m - 1 := ⟨_, rfl⟩
      have hsb : s ≤ 140737488355328 := by omega
      have hs1 : (n : Int) + (m : Int) - 1 = (s : Int) := by omega
      have hmk := run_make_row' (P := Try.prog) 28 5 (.int .u8 0) 1 Try.underlying28 pbyte_info rfl .i64 .i64 s (by omega) (by omega)
      have HS := Lib.hid (show P.length + Q.length - 1 = s by rw [← HN.out, ← HM.out, hs])
      have hns : n ≤ s := by omega
      have hnms : n + m ≤ s + 1 := by omega
      clear hs
      have HR := Lib.hid (HPL.out (fun e => n0 (by rw [HN.out, e]; rfl)) (fun e => m0 (by rw [HM.out, e]; rfl)))
      clear HN1 HN2 HPL
      go_enter Try.func56, Try.ntmps56
      go_wp2_with fail
      refine T1.out.mono ?_
      rintro e w' ⟨rfl, rfl⟩
      go_wp2_with fail
      refine T2.out.mono ?_
      rintro e w' ⟨rfl, rfl⟩
      go_wp2
      clear hmk hs1
      go_loopw [31] (PmRel w P Q s) (fun i _ => n - (intOf i).toNat)
      case atStart =>
        refine ⟨0, Nat.zero_le _, rfl, ?_, (Below.refl _ _).alloc (Nat.le_refl _) _⟩
        rw [mulTo_zero, HS.out]
        exact Own.made w _ s hsb
      case round =>
        obtain ⟨k, hk, rfl, hown, hbel⟩ := hrel
        rw [← HN.out] at hk
        by_cases hlt : k < n
        · obtain ⟨x, b, off, hx, hxb, rfl, hb, hcell⟩ := (hP.below hbel).sl.at_ (k := k) (by rw [← HN.out]; exact hlt)
          have hF' := hF.below hbel hlf
          have hks : k < s := by omega
          have HC := Lib.hid (addTimes_any bf w.heap.size k (s - k) (s - k) w.heap.size s (mulTo P Q k) A' c' Q x hxb wr hF' (by omega) hown (by rw [mulTo_len, HS.out, ← HM.out]; omega) (by rw [← HM.out]; omega) ((hQ.below hbel).sl.away (Nat.le_refl _)) (by rw [mulTo_len, HS.out]; exact hsb))
          rw [mulTo_step hx, ← HM.out] at HC
          clear hx hown hF'
          go_wp2_with fail
          refine HC.out.mono ?_
          rintro e w2 ⟨rfl, hown2, hg2⟩
          have HB := Lib.hid (hbel.trans (Gw.Below.by hg2 hbel.size (Nat.le_refl _)))
          have HO := Lib.hid hown2
          clear hown2 hg2
          go_wp2
          go_roundw
          case rel => exact ⟨k + 1, by rw [← HN.out]; omega, by go_num, HO.out, HB.out⟩
          case measure => simp [intOf]; omega
        · obtain rfl : k = n := by omega
          have ho := hown
          rw [HN.out, mulTo_all, ← HR.out] at ho
          have HL := Lib.hid (show (tr (mul p q)).length = s by rw [HR.out, pl_len, HS.out])
          have HO := Lib.hid ho
          clear ho hown
          go_wp2
          go_ret
          exact ⟨_, s, by rw [HL.out]; rfl, HO.out, hbel⟩
theorem pmul' (bf : Nat) (A A' : Option Addr) (c c' n m : Nat) (p q : List Nat) (w : World) (hn : n = p.length) (hm : m = q.length) (hF : IsField w bf) (hp : In w w.heap.size A c p) (hq : In w w.heap.size A' c' q) (hcm : p.length + q.length ≤ 140737488355328) :
    Calls Try.prog 56 #[.pointer (some ⟨bf, 0, none⟩), .slice A n c, .slice A' m c'] w fun e w' => ∃ A2 c2, e = .returned (.slice A2 (tr (mul p q)).length c2) ∧ Gw.Own w' w.heap.size 5 A2 c2 (tr (mul p q)) ∧ Below w.heap.size w w' := by
  subst hn hm; exact pmul_any bf A A' c c' p q w hF hp hq hcm
end Go.Proofs.Ytaknffdokkfmgaa
end
section
/- What bytes.Clone and poly's Div do: a copy of its own; quotient and what is left, each in memory of its own, or that there is none. -/
namespace Go.Proofs.Ytaknffdokkfmgaa
open Go.RowKit Go.Shelf Gw Pol

set_option maxRecDepth 100000 in
set_option maxHeartbeats 1000000 in
/-- There is none. -/
theorem pdiv_none (bf : Nat) (A A' : Option Addr) (c c' : Nat) (p d : List Nat) (w : World) (hd : In w w.heap.size A' c' d) (hz : tr d = []) (hcm : d.length ≤ 140737488355328) :
    Calls Try.prog 67 #[.pointer (some ⟨bf, 0, none⟩), .slice A p.length c, .slice A' d.length c'] w fun e w' => e = .returned (.tuple #[.slice none 0 0, .slice none 0 0, .bool false]) ∧ w = w' := by
  have T := ptrim_any A' c' d w w.heap.size hd hcm
  rw [hz] at T
  have T2 := Lib.hid T
  clear T hz
  go_enter Try.func67, Try.ntmps67
  go_wp2_with fail
  refine T2.out.mono ?_
  rintro e w' ⟨rfl, rfl⟩
  go_wp2
  go_ret3
  exact ⟨rfl, rfl⟩

/-- What Div answers where there is one. -/
def DivAns (w : World) (p d : List Nat) (e : Ending) (w' : World) : Prop :=
  ∃ (q r : List Nat) (Aq Ar : Option Addr) (cq cr : Nat), e = .returned (.tuple #[.slice Aq q.length cq, .slice Ar r.length cr, .bool true]) ∧ DivOf p d q r ∧
    Gw.Own w' w.heap.size 5 Aq cq q ∧ Gw.Own w' w.heap.size 5 Ar cr r ∧ (∀ g o o' : Nat, Aq = some ⟨g, o, none⟩ → Ar ≠ some ⟨g, o', none⟩) ∧ Below w.heap.size w w'

theorem co_set_same {l : List Nat} {i c : Nat} (h : i < l.length) : co (l.set i c) i = c := by
  rw [co_get (by rw [List.length_set]; exact h)]; simp
/-- What the world is like when a byte of the quotient is laid. -/
def PdMid (w : World) (bf : Nat) (D : List Nat) (A : Option Addr) (gq gr Q cr : Nat) (q r : List Nat) (j x : Nat) (W : World) : Prop :=
  Gw.Own W w.heap.size 5 (some ⟨gq, 0, none⟩) Q (q.set j x) ∧ Gw.Own W w.heap.size 5 (some ⟨gr, 0, none⟩) cr r ∧ IsField W bf ∧ SlN W gr A D ∧ Below w.heap.size w W
theorem PdMid.mk' {w wr : World} {bf : Nat} {D : List Nat} {A : Option Addr} {c' gq gr Q cr : Nat} {q r : List Nat} {j x : Nat} (hx : x < 256) (hj : j < q.length) (hgq : w.heap.size ≤ gq) (hgr : w.heap.size ≤ gr) (hne : gq ≠ gr) (hlf : bf < w.heap.size)
    (hoq : Gw.Own wr w.heap.size 5 (some ⟨gq, 0, none⟩) Q q) (hor : Gw.Own wr w.heap.size 5 (some ⟨gr, 0, none⟩) cr r) (hF : IsField w bf) (hD : In w w.heap.size A c' D) (hb : Below w.heap.size w wr) (m : Nat) :
    PdMid w bf D A gq gr Q cr q r j x ((wr.drewN m).setCell ⟨gq, j, none⟩ (.int .u8 (x : Int))) := by
  have hbb : Below w.heap.size w ((wr.drewN m).setCell ⟨gq, j, none⟩ (.int .u8 (x : Int))) := (Gw.Below.drewN hb m).setCell (p := ⟨gq, j, none⟩) hgq _
  have hg : (wr.drewN m).grownBy ((wr.drewN m).setCell ⟨gq, j, none⟩ (.int .u8 (x : Int))) (some gq) := grown_put (World.grownBy.refl _ _) _
  refine ⟨(hoq.drewN m).put hj hx, (hor.drewN m).grown hg (fun o e => ?_), hF.below hbb hlf, (hD.sl.below hbb).away hgr, hbb⟩
  injection e with e
  injection e with e1
  exact hne e1.symm

def PdRel (w : World) (P D : List Nat) (gq gr Q n cr : Nat) (i : Value) (wr : World) : Prop :=
  ∃ (k : Nat) (q r : List Nat), k ≤ Q ∧ i = .int .i64 ((k : Int) - 1) ∧ q.length = Q ∧ r.length = n ∧ DivAt P D q r k ∧ Gw.Own wr w.heap.size 5 (some ⟨gq, 0, none⟩) Q q ∧ Gw.Own wr w.heap.size 5 (some ⟨gr, 0, none⟩) cr r ∧ Below w.heap.size w wr

set_option maxRecDepth 100000 in
set_option maxHeartbeats 2000000 in
theorem pdiv_long (bf : Nat) (A A' : Option Addr) (c c' : Nat) (p d : List Nat) (w : World) (hF : IsField w bf) (hp : In w w.heap.size A c p) (hd : In w w.heap.size A' c' d) (hz : tr d ≠ []) (hlong : (tr d).length ≤ (tr p).length) (hcm : p.length ≤ 140737488355328) (hcm2 : d.length ≤ 140737488355328) :
    Calls Try.prog 67 #[.pointer (some ⟨bf, 0, none⟩), .slice A p.length c, .slice A' d.length c'] w fun e w' => DivAns w p d e w' := by
  have T1 := Lib.hid (ptrim_any A' c' d w w.heap.size hd hcm2)
  have T2 := Lib.hid (ptrim_any A c p w w.heap.size hp hcm)
  have T3 := Lib.hid (clone_any A c (tr p) w hp.tr (Nat.le_trans (tr_len p) hcm))
  have hlf := hF.lt
  have hD := hd.tr
  have hDb := hD.bb
  have hPb := hp.tr.bb
  have l1 := tr_len p
  have l2 := tr_len d
  have htop := tr_last hz
  rw [← co_tr] at htop
  have HDone := Lib.hid (fun (q r : List Nat) (h : DivAt (tr p) (tr d) q r 0) (hl : q.length = (tr p).length - ((tr d).length - 1)) => h.done hz hl)
  obtain ⟨P, hPe⟩ : ∃ P, P = tr p := ⟨_, rfl⟩
  obtain ⟨D, hDe⟩ : ∃ D, D = tr d := ⟨_, rfl⟩
  rw [← hPe] at T2 T3 l1 hPb HDone hlong
  rw [← hDe] at T1 hD l2 hDb htop HDone hz hlong
  clear hp hd hPe hDe
  obtain ⟨n, hn⟩ : ∃ n, n = P.length := ⟨_, rfl⟩
  obtain ⟨m, hm⟩ : ∃ m, m = D.length := ⟨_, rfl⟩
  have hm1 : 0 < D.length := List.length_pos_iff.2 hz
  rw [← hn] at T2 T3 l1 hlong
  rw [← hm] at T1 l2 htop hm1 hlong
  have HN := Lib.hid hn
  have HM := Lib.hid hm
  clear hn hm hz
  have hm0 : ((m : Int) == 0) = false := beq_eq_false_iff_ne.2 (by omega)
  obtain ⟨t, ht⟩ : ∃ t, t = m - 1 := ⟨_, rfl⟩
  have ht1 : (m : Int) - 1 = (t : Int) := by omega
  have htm : t < m := by omega
  obtain ⟨Q, hQ⟩ : ∃ Q, Q = n - t := ⟨_, rfl⟩
  have hQ1 : (n : Int) - (t : Int) = (Q : Int) := by omega
  have hQt : Q + t = n := by omega
  have hQ0 : 0 < Q := by omega
  have hQ2 : ¬ ((Q : Int) < 0) := by omega
  have HT := Lib.hid ht
  rw [← ht] at htop
  clear ht hQ
  have hmk := run_make_row' (P := Try.prog) 28 5 (.int .u8 0) 1 Try.underlying28 pbyte_info rfl .i64 .i64 Q (by omega) (by omega)
  go_enter Try.func67, Try.ntmps67
  go_wp2_with fail
  refine T1.out.mono ?_
  rintro e w' ⟨rfl, rfl⟩
  go_wp2_with fail
  refine T2.out.mono ?_
  rintro e w' ⟨rfl, rfl⟩
  go_wp2_with fail
  refine T3.out.mono ?_
  rintro e w1 ⟨Ar, cr, rfl, hownr, hb1⟩
  obtain ⟨gr, rfl, hgr, _⟩ := Own.store hownr (k := 0) (by rw [← HN.out]; omega)
  have hgr2 := hownr.lt.2
  have hrcap := hownr.cap
  rw [← HN.out] at hrcap
  have hb1s := hb1.size
  go_wp2
  clear hmk
  have hown1 := hownr.alloc (.cells (madeCells #[.int .u8 0] Q) 5)
  have hownq := (Own.made w1 5 Q (by omega)).base hb1s
  have hb2 := hb1.alloc hb1s (.cells (madeCells #[.int .u8 0] Q) 5)
  have HST := Lib.hid (DivAt.start (d := D) hPb Q (by rw [← HN.out, ← HM.out]; omega))
  go_loopw [10] (PdRel w P D w1.heap.size gr Q n cr) (fun i _ => (intOf i + 1).toNat)
  case atStart => exact ⟨Q, _, P, Nat.le_refl _, by go_num, by simp, HN.out.symm, HST.out, hownq, hown1, hb2⟩
  case round =>
    clear hown1 hownq hb2 HST hownr hb1
    obtain ⟨k, q, r, hk, rfl, hql, hrl, hat, hoq, hor, hbel⟩ := hrel
    by_cases hk0 : k = 0
    · subst hk0
      have HD2 := Lib.hid (HDone.out q r hat (by rw [hql, ← HN.out, ← HM.out, ← HT.out]; omega))
      have HO1 := Lib.hid hoq
      have HO2 := Lib.hid hor
      have HRL := Lib.hid hrl
      have HQL := Lib.hid hql
      have HI := Lib.hid hor.inn
      clear hoq hor hat hrl hql hQ1 ht1
      go_wp2_with fail
      refine (ptrim' (some ⟨gr, 0, none⟩) cr n r _ _ HRL.out.symm HI.out (by rw [HRL.out]; omega)).mono ?_
      rintro e w' ⟨rfl, rfl⟩
      go_wp2
      go_ret3
      exact ⟨q, tr r, some ⟨w1.heap.size, 0, none⟩, some ⟨gr, 0, none⟩, Q, cr, by rw [HQL.out]; rfl, HD2.out, HO1.out, HO2.out.tr, fun g o o' e e' => by injection e with e; injection e' with e'; injection e with e1; injection e' with e2; omega, hbel⟩
    · obtain ⟨j, rfl⟩ : ∃ j, k = j + 1 := ⟨k - 1, by omega⟩
      have hj : ((j + 1 : Nat) : Int) - 1 = (j : Int) := by omega
      rw [hj]
      have hjQ : j < Q := by omega
      obtain ⟨s, hs⟩ : ∃ s, s = j + t := ⟨_, rfl⟩
      have hsw : IntKind.i64.wrap ((j : Int) + (t : Int)) = (s : Int) := by rw [IntKind.wrap_i64]; omega
      have hsn : s < n := by omega
      have hsn2 : (s : Int) < (n : Int) := by omega
      obtain ⟨y, b, off, hy, hyb, rfl, hb, hcy⟩ := (hD.below hbel).sl.at_ (k := t) (by rw [← HM.out]; exact htm)
      have hcr := hor.cell (k := s) (by rw [hrl]; exact hsn)
      have hvr := hor.2.co s
      obtain ⟨v, hv⟩ : ∃ v, v = co r s := ⟨_, rfl⟩
      rw [← hv] at hcr hvr
      have hfq := Own.frozen hoq j
      have hcq := hoq.cell (k := j) (by rw [hql]; exact hjQ)
      have hF' := hF.below hbel hlf
      have HY := Lib.hid (co_of' hy)
      have HV := Lib.hid hv
      have HSJ := Lib.hid hs
      have HQL := Lib.hid hql
      have HRL := Lib.hid hrl
      have HA := Lib.hid hat
      have HOQ := Lib.hid hoq
      have HOR := Lib.hid hor
      have HSTEP := Lib.hid (hat.step (c := Gf.dv v y) hDb (by rw [← HM.out]; exact hm1) (by rw [← HM.out, ← HT.out]; exact htop) (by rw [hql]; exact hjQ) (by rw [hrl, ← HM.out]; omega) (by
        rw [hv, ← co_of' hy, ← HM.out, ← HT.out, hs]; congr 2; have := HT.out; omega))
      have HM2 := Lib.hid (PdMid.mk' (x := Gf.dv v y) (Gf.gm_lt _ _) (by rw [hql]; exact hjQ) hb1s hgr (by omega) hlf hoq hor hF hD hbel)
      clear hy hv hs hql hrl hat hoq hor hj
      go_wp2
      go_region_with (go_at_call 59; refine (div_any bf v y hvr hyb _ (hF'.drewN _)).mono ?_; rintro e w' ⟨rfl, n1, rfl⟩)
      all_goals (
        obtain ⟨W2, hW2⟩ : ∃ W2, W2 = (wr.drewN (1 + n1)).setCell ⟨w1.heap.size, j, none⟩ (.int .u8 (Gf.dv v y : Int)) := ⟨_, rfl⟩
        have h2 := HM2.out (1 + n1)
        rw [← hW2] at h2 ⊢
        clear hW2 hcy hcr hfq hcq hF'
        obtain ⟨hoq2, hor2, hF2, hD2, hb2⟩ := h2
        have hcq2 := hoq2.cell (k := j) (by rw [List.length_set, HQL.out]; exact hjQ)
        rw [co_set_same (by rw [HQL.out]; exact hjQ)] at hcq2
        have hjn : j < n := by omega
        have hjc : j < cr := by omega
        have HO2 := Lib.hid hoq2
        clear hoq2
        go_wp2
        go_region_with (go_at_call 61; refine (addTimes' bf gr j _ _ w.heap.size cr r (some ⟨b, off, none⟩) c' m D (Gf.dv v y) HM.out (Gf.gm_lt _ _) _ (hF2.drewN _) (by omega) (hor2.drewN _) (by rw [← HM.out, HRL.out]; omega) (by rw [← HM.out]; omega) (hD2.drewN _) (by rw [HRL.out]; omega)).mono ?_; rintro e w3 ⟨rfl, hown3, hg3⟩))
      all_goals (
        have hoq3 := (HO2.out.drewN 1).grown hg3 (fun o e => by injection e with e; injection e with e1; omega)
        have hb3 := (Gw.Below.drewN hb2 1).trans (Gw.Below.by hg3 hb2.size hgr)
        have H3 := Lib.hid hoq3
        have H4 := Lib.hid hown3
        have H5 := Lib.hid hb3
        clear hoq3 hown3 hb3 hg3 hb2 hor2 hF2 hD2 hcq2
        go_wp2
        go_roundw
        case rel => exact ⟨j, q.set j (Gf.dv v y), addAt r j (Gf.dv v y) D, by omega, by go_num, by rw [List.length_set]; exact HQL.out, by rw [addAt_len]; exact HRL.out, HSTEP.out, H3.out, H4.out, H5.out⟩
        case measure => simp [intOf])
end Go.Proofs.Ytaknffdokkfmgaa
end
section
/- What poly's Div does where there is nothing to take off, and what it does at all. -/
namespace Go.Proofs.Ytaknffdokkfmgaa
open Go.RowKit Go.Shelf Gw Pol

theorem pdiv_apart {w : World} {base g o c : Nat} {e : TypeId} {A : Option Addr} {l : List Nat} (h : Gw.Own w base e A c l) (hA : A = some ⟨g, o, none⟩) : g < w.heap.size := by
  subst hA; exact h.lt.2
set_option maxRecDepth 100000 in
set_option maxHeartbeats 2000000 in
theorem pdiv_short (bf : Nat) (A A' : Option Addr) (c c' : Nat) (p d : List Nat) (w : World) (hp : In w w.heap.size A c p) (hd : In w w.heap.size A' c' d) (hshort : (tr p).length < (tr d).length) (hcm : p.length ≤ 140737488355328) (hcm2 : d.length ≤ 140737488355328) :
    Calls Try.prog 67 #[.pointer (some ⟨bf, 0, none⟩), .slice A p.length c, .slice A' d.length c'] w fun e w' => DivAns w p d e w' := by
  have T1 := Lib.hid (ptrim_any A' c' d w w.heap.size hd hcm2)
  have T2 := Lib.hid (ptrim_any A c p w w.heap.size hp hcm)
  have T3 := Lib.hid (clone_any A c (tr p) w hp.tr (Nat.le_trans (tr_len p) hcm))
  have l1 := tr_len p
  have l2 := tr_len d
  have HD := Lib.hid ((DivAt.start (d := tr d) hp.tr.bb 0 (by omega)).done (fun e => by rw [e] at hshort; simp at hshort) (by simp; omega))
  obtain ⟨P, hPe⟩ : ∃ P, P = tr p := ⟨_, rfl⟩
  rw [← hPe] at T2 T3 l1 HD hshort
  clear hp hd hPe
  obtain ⟨n, hn⟩ : ∃ n, n = P.length := ⟨_, rfl⟩
  obtain ⟨m, hm⟩ : ∃ m, m = (tr d).length := ⟨_, rfl⟩
  rw [← hn] at T2 T3 l1 hshort
  rw [← hm] at T1 l2 hshort
  have HN := Lib.hid hn
  clear hn hm
  have hm0 : ((m : Int) == 0) = false := beq_eq_false_iff_ne.2 (by omega)
  obtain ⟨t, ht⟩ : ∃ t, t = m - 1 := ⟨_, rfl⟩
  have ht1 : (m : Int) - 1 = (t : Int) := by omega
  have hnt : n < t ∨ n = t := by omega
  have hmk := run_make_row' (P := Try.prog) 28 5 (.int .u8 0) 1 Try.underlying28 pbyte_info rfl .i64 .i64 0 (by omega) (by omega)
  rw [show ((0 : Nat) : Int) = 0 from rfl] at hmk
  clear ht
  rcases hnt with hnt | hnt
  · have hneg : (n : Int) - (t : Int) < 0 := by omega
    go_enter Try.func67, Try.ntmps67
    go_wp2_with fail
    refine T1.out.mono ?_
    rintro e w' ⟨rfl, rfl⟩
    go_wp2_with fail
    refine T2.out.mono ?_
    rintro e w' ⟨rfl, rfl⟩
    go_wp2_with fail
    refine T3.out.mono ?_
    rintro e w1 ⟨Ar, cr, rfl, hownr, hb1⟩
    have hb1s := hb1.size
    go_wp2
    clear hmk
    have hown1 := hownr.alloc (.cells (madeCells #[.int .u8 0] 0) 5)
    have hownq := (Own.made w1 5 0 (by omega)).base hb1s
    have hb2 := hb1.alloc hb1s (.cells (madeCells #[.int .u8 0] 0) 5)
    have hap : ∀ g o o' : Nat, some (⟨w1.heap.size, 0, none⟩ : Addr) = some ⟨g, o, none⟩ → Ar ≠ some ⟨g, o', none⟩ := fun g o o' e e' => by
      injection e with e; injection e with e1; subst e1; have := pdiv_apart hownr e'; omega
    have HAP := Lib.hid hap
    clear hap hownr
    obtain ⟨W0, hW0⟩ : ∃ W0, W0 = w1.alloc (.cells (madeCells #[.int .u8 0] 0) 5) := ⟨_, rfl⟩
    rw [← hW0] at hown1 hownq hb2 ⊢
    have HI := Lib.hid hown1.inn
    have HO1 := Lib.hid hown1.tr
    have HO2 := Lib.hid hownq
    clear hW0 hown1 hownq
    go_loopw [10] (fun i wr => i = .int .i64 (-1) ∧ wr = W0) (fun _ _ => 0)
    case atStart => exact ⟨rfl, rfl⟩
    case round =>
      obtain ⟨rfl, rfl⟩ := hrel
      go_wp2_with fail
      refine (ptrim' Ar cr n P _ _ HN.out HI.out (by rw [← HN.out]; omega)).mono ?_
      rintro e w' ⟨rfl, rfl⟩
      go_wp2
      go_ret3
      exact ⟨[], tr P, some ⟨w1.heap.size, 0, none⟩, Ar, 0, cr, rfl, HD.out, HO2.out, HO1.out, HAP.out, hb2⟩
  · subst hnt
    go_enter Try.func67, Try.ntmps67
    go_wp2_with fail
    refine T1.out.mono ?_
    rintro e w' ⟨rfl, rfl⟩
    go_wp2_with fail
    refine T2.out.mono ?_
    rintro e w' ⟨rfl, rfl⟩
    go_wp2_with fail
    refine T3.out.mono ?_
    rintro e w1 ⟨Ar, cr, rfl, hownr, hb1⟩
    have hb1s := hb1.size
    go_wp2
    clear hmk
    have hown1 := hownr.alloc (.cells (madeCells #[.int .u8 0] 0) 5)
    have hownq := (Own.made w1 5 0 (by omega)).base hb1s
    have hb2 := hb1.alloc hb1s (.cells (madeCells #[.int .u8 0] 0) 5)
    have hap : ∀ g o o' : Nat, some (⟨w1.heap.size, 0, none⟩ : Addr) = some ⟨g, o, none⟩ → Ar ≠ some ⟨g, o', none⟩ := fun g o o' e e' => by
      injection e with e; injection e with e1; subst e1; have := pdiv_apart hownr e'; omega
    have HAP := Lib.hid hap
    clear hap hownr
    obtain ⟨W0, hW0⟩ : ∃ W0, W0 = w1.alloc (.cells (madeCells #[.int .u8 0] 0) 5) := ⟨_, rfl⟩
    rw [← hW0] at hown1 hownq hb2 ⊢
    have HI := Lib.hid hown1.inn
    have HO1 := Lib.hid hown1.tr
    have HO2 := Lib.hid hownq
    clear hW0 hown1 hownq
    go_loopw [10] (fun i wr => i = .int .i64 (-1) ∧ wr = W0) (fun _ _ => 0)
    case atStart => exact ⟨rfl, rfl⟩
    case round =>
      obtain ⟨rfl, rfl⟩ := hrel
      go_wp2_with fail
      refine (ptrim' Ar cr n P _ _ HN.out HI.out (by rw [← HN.out]; omega)).mono ?_
      rintro e w' ⟨rfl, rfl⟩
      go_wp2
      go_ret3
      exact ⟨[], tr P, some ⟨w1.heap.size, 0, none⟩, Ar, 0, cr, rfl, HD.out, HO2.out, HO1.out, HAP.out, hb2⟩

/-- Quotient, and what is left. -/
theorem pdiv_any (bf : Nat) (A A' : Option Addr) (c c' : Nat) (p d : List Nat) (w : World) (hF : IsField w bf) (hp : In w w.heap.size A c p) (hd : In w w.heap.size A' c' d) (hz : tr d ≠ []) (hcm : p.length ≤ 140737488355328) (hcm2 : d.length ≤ 140737488355328) :
    Calls Try.prog 67 #[.pointer (some ⟨bf, 0, none⟩), .slice A p.length c, .slice A' d.length c'] w fun e w' => DivAns w p d e w' := by
  by_cases h : (tr p).length < (tr d).length
  · exact pdiv_short bf A A' c c' p d w hp hd h hcm hcm2
  · exact pdiv_long bf A A' c c' p d w hF hp hd hz (by omega) hcm hcm2
theorem pdiv' (bf : Nat) (A A' : Option Addr) (c c' n m : Nat) (p d : List Nat) (w : World) (hn : n = p.length) (hm : m = d.length) (hF : IsField w bf) (hp : In w w.heap.size A c p) (hd : In w w.heap.size A' c' d) (hz : tr d ≠ []) (hcm : p.length ≤ 140737488355328) (hcm2 : d.length ≤ 140737488355328) :
    Calls Try.prog 67 #[.pointer (some ⟨bf, 0, none⟩), .slice A n c, .slice A' m c'] w fun e w' => DivAns w p d e w' := by
  subst hn hm; exact pdiv_any bf A A' c c' p d w hF hp hd hz hcm hcm2
end Go.Proofs.Ytaknffdokkfmgaa
end
