import Derived.BigQuiet
import Derived.Laws.CopyOwn
import Derived.Lib.QuietBelow
import Derived.Test.YtgikgnhpplmljaaJ3
import Derived.Test.YtgikgnhpplmljaaJ4
import Derived.Test.YtgikgnhpplmljaaJ7
section
/- What poly's Eval does: a polynomial's value; nothing old is turned. -/
namespace Go.Proofs.Ytgikgnhpplmljaa
open Go.RowKit Go.Shelf Gw Pol Go.BigFrame
attribute [local go_sem] Oper.semAt_some

/-- What is summed up when some places have come. -/
def sumF (l : List Nat) (x : Nat) : List Nat → Nat
  | [] => 0
  | i :: r => Gf.gm (co l i) (Gf.gp x i) ^^^ sumF l x r
theorem sumF_snoc (l : List Nat) (x : Nat) (r : List Nat) (i : Nat) : sumF l x (r ++ [i]) = sumF l x r ^^^ Gf.gm (co l i) (Gf.gp x i) := by
  induction r with
  | nil => simp [sumF]
  | cons j r ih => show _ ^^^ sumF l x (r ++ [i]) = (_ ^^^ sumF l x r) ^^^ _; rw [ih, Nat.xor_assoc]
theorem sumF_lt (l : List Nat) (x : Nat) (r : List Nat) : sumF l x r < 256 := by
  induction r with
  | nil => simp [sumF]
  | cons j r ih => exact Gf.xor_lt (Gf.gm_lt _ _) ih
theorem sumF_all {l : List Nat} (hl : BB l) {x : Nat} (hx : x < 256) : sumF l x (List.range l.length) = ev x l := by
  have : ∀ k, k ≤ l.length → sumF l x (List.range k) = ev x (l.take k) := by
    intro k
    induction k with
    | zero => intro _; rfl
    | succ k ih =>
      intro hk
      rw [List.range_succ, sumF_snoc, ih (by omega), ev_take_succ hl (List.getElem?_eq_getElem (show k < l.length by omega)) hx, co_get (show k < l.length by omega)]
  have h := this l.length (Nat.le_refl _)
  rwa [List.take_length] at h
def plv {L : Nat} (pre : List (Plc L)) : List Nat := pre.map (fun x => x.1)
theorem plv_snoc {L : Nat} (pre : List (Plc L)) (x : Plc L) : plv (pre ++ [x]) = plv pre ++ [x.1] := by simp [plv]
theorem plv_all (L : Nat) : plv (uptoL L L (Nat.le_refl _)) = List.range L := uptoL_val L L _

theorem keeps_draw_set (W : World) (m : Nat) (a : Addr) (v : Value) : KeepsOthers W ((W.drewN m).setCell a v) :=
  KeepsOthers.trans (B := W.drewN m) ⟨Nat.le_refl _, fun _ _ h _ => h⟩ (KeepsOthers.setCell _ _ _)

/-- Between two rounds. -/
def EvI (w : World) (bf : Nat) (A : Option Addr) (c : Nat) (l : List Nat) (x : Nat) (pre : List (Plc l.length)) (W : World) : Prop :=
  (W.cell? ⟨w.heap.size, 0, none⟩ = some (.pointer (some ⟨bf, 0, none⟩)) ∧ W.cell? ⟨w.heap.size + 1, 0, none⟩ = some (.slice A l.length c) ∧
    W.cell? ⟨w.heap.size + 2, 0, none⟩ = some (.int .u8 (sumF l x (plv pre) : Int)) ∧ W.frozen? ⟨w.heap.size + 2, 0, none⟩ = false) ∧ Below w.heap.size w W
theorem EvI.own (w : World) (bf : Nat) (A : Option Addr) (c : Nat) (l : List Nat) (x B : Nat) (hB : w.heap.size ≤ B) : OwnFrom B (EvI w bf A c l x) :=
  OwnFrom.and (Own.from (fun _ _ _ _ hs hg hr => ⟨cell_kept hs.1 hg hr, cell_kept hs.2.1 hg hr, cell_kept hs.2.2.1 hg hr, (frozen_kept hs.2.2.1 hg hr).trans hs.2.2.2⟩) _) (ownFrom_below (Nat.le_refl _) hB)

theorem old_cell {w : World} {b o : Nat} {v : Value} (h : w.cell? ⟨b, o, none⟩ = some v) (ob : Obj) : (w.alloc ob).cell? ⟨b, o, none⟩ = some v := (World.cell?_alloc_lt w ob ⟨b, o, none⟩ (cell_lt h)).trans h
theorem new_cell (w : World) (v : Value) (t : TypeId) (b : Nat) (h : b = w.heap.size) : (w.alloc (.cells #[v] t)).cell? ⟨b, 0, none⟩ = some v := by subst h; exact cell_new w v t
/-- Six boxes. -/
structure Six (w : World) (v0 v1 v2 v3 v4 v5 : Value) (W : World) : Prop where
  c0 : W.cell? ⟨w.heap.size, 0, none⟩ = some v0
  c1 : W.cell? ⟨w.heap.size + 1, 0, none⟩ = some v1
  c2 : W.cell? ⟨w.heap.size + 2, 0, none⟩ = some v2
  c3 : W.cell? ⟨w.heap.size + 3, 0, none⟩ = some v3
  c4 : W.cell? ⟨w.heap.size + 4, 0, none⟩ = some v4
  c5 : W.cell? ⟨w.heap.size + 5, 0, none⟩ = some v5
  f2 : W.frozen? ⟨w.heap.size + 2, 0, none⟩ = false
  sz : W.heap.size = w.heap.size + 6
  bl : Below w.heap.size w W
theorem six (w : World) (v0 v1 v2 v3 v4 v5 : Value) (t0 t1 t2 t3 t4 t5 : TypeId) :
    Six w v0 v1 v2 v3 v4 v5 ((((((w.alloc (.cells #[v0] t0)).alloc (.cells #[v1] t1)).alloc (.cells #[v2] t2)).alloc (.cells #[v3] t3)).alloc (.cells #[v4] t4)).alloc (.cells #[v5] t5)) := by
  refine ⟨?_, ?_, ?_, ?_, ?_, ?_, ?_, by simp, ?_⟩
  · exact old_cell (old_cell (old_cell (old_cell (old_cell (new_cell w v0 t0 _ rfl) _) _) _) _) _
  · exact old_cell (old_cell (old_cell (old_cell (new_cell _ v1 t1 _ (by simp)) _) _) _) _
  · exact old_cell (old_cell (old_cell (new_cell _ v2 t2 _ (by simp)) _) _) _
  · exact old_cell (old_cell (new_cell _ v3 t3 _ (by simp)) _) _
  · exact old_cell (new_cell _ v4 t4 _ (by simp)) _
  · exact new_cell _ v5 t5 _ (by simp)
  · have h := World.frozen?_alloc_new ((w.alloc (.cells #[v0] t0)).alloc (.cells #[v1] t1)) #[v2] t2 0
    have e : ((w.alloc (.cells #[v0] t0)).alloc (.cells #[v1] t1)).heap.size = w.heap.size + 2 := by simp
    rw [e] at h
    rw [World.frozen?_of_block (Below.heap_alloc _ _ _ (by simp)), World.frozen?_of_block (Below.heap_alloc _ _ _ (by simp)), World.frozen?_of_block (Below.heap_alloc _ _ _ (by simp))]
    exact h
  · exact ((((((Below.refl _ w).alloc (Nat.le_refl _) _).alloc (by simp) _).alloc (by simp; omega) _).alloc (by simp; omega) _).alloc (by simp; omega) _).alloc (by simp; omega) _

set_option maxRecDepth 100000 in
set_option maxHeartbeats 500000 in
theorem peval_in (bf : Nat) (A : Option Addr) (c : Nat) (l : List Nat) (x : Nat) (hx : x < 256) (w : World) (hF : IsField w bf) (hI : In w w.heap.size A c l) (hcm : l.length ≤ 140737488355328) :
    CallsIn Fence.wide 5 Try.prog 42 #[.pointer (some ⟨bf, 0, none⟩), .slice A l.length c, .int .u8 (x : Int)] w fun e w' => e = .returned (.int .u8 (ev x l : Int)) ∧ Below w.heap.size w w' := by
  have hlf := hF.lt
  refine callsIn_of_wp_marks Try.func42 rfl trivial ?_ rfl
  simp only [Try.ntmps42, List.size_toArray, List.length_cons, List.length_nil, Nat.reduceAdd, Nat.reduceSub, Array.replicate_succ, Array.replicate_zero, List.push_toArray, List.append_toArray, List.nil_append, List.cons_append]
  gi_wp2_with fail
  refine ⟨trivial, ?_⟩
  refine (callsIn_wide.2 (ppowers_mk bf x l.length _)).mono ?_
  rintro e w' ⟨rfl, rfl⟩
  gi_wp2
  have h6 := six w (.pointer (some ⟨bf, 0, none⟩)) (.slice A l.length c) (.int .u8 0) (.pointer (some ⟨bf, 0, none⟩)) (.int .u8 (x : Int)) (.int .i64 (l.length : Int)) 30 36 5 30 5 3
  have hF6 := hF.below h6.bl hlf
  refine wpIn_rangeFunc_ownF rfl (by omega) (gf := 88) (lb := #[.pointer (some ⟨w.heap.size + 5, 0, none⟩), .pointer (some ⟨w.heap.size + 3, 0, none⟩), .pointer (some ⟨w.heap.size + 4, 0, none⟩)]) rfl trivial (enters_of Try.func88 (by kernel_rfl) rfl)
    (ppowers_stops (5 - 1) (by omega) (w.heap.size + 6) (w.heap.size + 2) (w.heap.size + 5) (w.heap.size + 3) (w.heap.size + 4) bf x l.length hx hcm _ (Nat.le_of_eq h6.sz.symm) h6.c5 h6.c3 h6.c4 hF6 ⟨by omega, by omega⟩ ⟨by omega, by omega⟩ ⟨by omega, by omega⟩ ⟨by omega, by omega⟩)
    (fun h k => KpB.trans h k) (fun W l o o' hl _ _ _ b h1 _ => World.putObj_heap_other (by have := h6.sz; omega)) (Below.refl _ _) (fun _ => rfl)
    (EvI w bf A c l x) (fun _ _ _ => False) (EvI.own w bf A c l x _ (by have := h6.sz; omega)) (fun _ _ _ _ _ hs _ _ => hs)
    ⟨⟨h6.c0, h6.c1, h6.c2, h6.f2⟩, h6.bl⟩
    (fun i => { tmps := #[.pointer (some ⟨bf, 0, none⟩), .slice A l.length c, .int .u8 (x : Int), .pointer (some ⟨w.heap.size, 0, none⟩), .pointer (some ⟨w.heap.size + 1, 0, none⟩), undef, .int .u8 0, .pointer (some ⟨w.heap.size + 2, 0, none⟩), .int .i64 (i.1 : Int), .int .u8 (Gf.gp x i.1 : Int), .pointer (some ⟨bf, 0, none⟩), .int .u8 (x : Int), .slice A l.length c, .int .i64 (l.length : Int), .func (.func 88) #[] #[.pointer (some ⟨w.heap.size + 5, 0, none⟩), .pointer (some ⟨w.heap.size + 3, 0, none⟩), .pointer (some ⟨w.heap.size + 4, 0, none⟩)], .int .i64 (i.1 : Int), .int .u8 (Gf.gp x i.1 : Int), undef, undef, undef, undef, undef, undef, undef, undef, undef, undef], defers := [] }) ?assign ?body ?done ?stop
  case assign =>
    intro l x W K hK
    gi_wp2
    exact hK
  case body =>
    rintro lb pre ⟨i, hi⟩ W ⟨⟨c0, c1, c2, f2⟩, hB⟩ _
    have hF' := hF.below hB hlf
    obtain ⟨y, b, off, hy, hyb, rfl, hb, hcell⟩ := (hI.below hB).sl.at_ hi
    have hv := sumF_lt l x (plv pre)
    have HE := Lib.hid (show sumF l x (plv (pre ++ [⟨i, hi⟩])) = sumF l x (plv pre) ^^^ Gf.gm y (Gf.gp x i) by rw [plv_snoc, sumF_snoc, co_of' hy])
    obtain ⟨v, hve⟩ : ∃ v, v = sumF l x (plv pre) := ⟨_, rfl⟩
    rw [← hve] at c2 hv HE
    have hxor : bits .xor .u8 (v : Int) (Gf.gm y (Gf.gp x i) : Int) = ((v ^^^ Gf.gm y (Gf.gp x i) : Nat) : Int) := u8_xor_nat _ _ hv (Gf.gm_lt _ _)
    clear hy hve h6 hF6
    have mixed : Try.prog.follows .mixedOrders = true := by kernel_rfl
    dsimp only
    gi_wp2
    refine Gq.region_round 9 mixed (by kernel_rfl) (by kernel_rfl) ?_
    simp only [List.take_succ_cons, List.take_zero, List.drop_succ_cons, List.drop_zero]
    repeat (go_big_quiet_step ((go_at_call 63; exact Calls.quiet_of (mul_any bf y (Gf.gp x i) hyb (Gf.gp_lt _ _) _ (hF'.drewN _)))))
    refine wpQuiet_nil ?_
    intro _ hw'
    obtain ⟨nq, hw''⟩ := hw'
    subst hw''
    gi_wp2
    refine ⟨keeps_draw_set W nq _ _, ((KpB.refl _ _ W).drewN nq).set _, ⟨?_, ?_, ?_, ?_⟩, (Gw.Below.drewN hB nq).setCell (p := ⟨w.heap.size + 2, 0, none⟩) (by show w.heap.size ≤ w.heap.size + 2; omega) _⟩
    · rw [World.cell?_setCell_other _ _ _ _ (fun h => by injection h with h1; omega)]; exact c0
    · rw [World.cell?_setCell_other _ _ _ _ (fun h => by injection h with h1; omega)]; exact c1
    · rw [HE.out]; exact World.cell?_setCell_same (W.drewN nq) ⟨w.heap.size + 2, 0, none⟩ _ c2
    · rw [World.frozen?_setCell]; exact f2
  case done =>
    rintro D xs W hD rfl ⟨⟨c0, c1, c2, f2⟩, hB⟩ hK
    rw [plv_all, sumF_all hI.bb hx] at c2
    have hsz := h6.sz
    clear h6 hF6
    gi_wp2
    refine ⟨by simp, .inl ⟨_, _, rfl, run_takeDeferred hK, ?_⟩⟩
    have hb2 : Below w.heap.size W (W.putObj D (.deferred none)) := belowK_b (w := w) (Nat.le_refl _) W D _ _ (by omega) hK rfl rfl
    exact ⟨_, results_tmp rfl _ _ _, rfl, hB.trans hb2⟩
  case stop =>
    rintro D c pre W _ _ h _
    exact h.elim
/-- The value. -/
theorem peval_any (bf : Nat) (A : Option Addr) (c : Nat) (l : List Nat) (x : Nat) (hx : x < 256) (w : World) (hF : IsField w bf) (hI : In w w.heap.size A c l) (hcm : l.length ≤ 140737488355328) :
    Calls Try.prog 42 #[.pointer (some ⟨bf, 0, none⟩), .slice A l.length c, .int .u8 (x : Int)] w fun e w' => e = .returned (.int .u8 (ev x l : Int)) ∧ Below w.heap.size w w' :=
  callsIn_wide.1 (peval_in bf A c l x hx w hF hI hcm)
theorem peval' (bf : Nat) (A : Option Addr) (c n : Nat) (l : List Nat) (x : Nat) (hn : n = l.length) (hx : x < 256) (w : World) (hF : IsField w bf) (hI : In w w.heap.size A c l) (hcm : l.length ≤ 140737488355328) :
    Calls Try.prog 42 #[.pointer (some ⟨bf, 0, none⟩), .slice A n c, .int .u8 (x : Int)] w fun e w' => e = .returned (.int .u8 (ev x l : Int)) ∧ Below w.heap.size w w' := by
  subst hn; exact peval_any bf A c l x hx w hF hI hcm
end Go.Proofs.Ytgikgnhpplmljaa
end
section
/- What poly's pieces hands out: each place of xs, and the polynomial of all other roots, in memory of its own. -/
namespace Go.Proofs.Ytgikgnhpplmljaa
open Go.RowKit Go.Shelf Gw Pol
attribute [local go_sem] Oper.semAt_some

/-- Blocks of cells but g stand. -/
structure KeepC (g : Nat) (W W' : World) : Prop where
  size : W.heap.size ≤ W'.heap.size
  same : ∀ b o, b ≠ g → W.heap[b]? = some o → o.isCells = true → W'.heap[b]? = some o
theorem KeepC.refl (g : Nat) (W : World) : KeepC g W W := ⟨Nat.le_refl _, fun _ _ _ h _ => h⟩
theorem KeepC.trans {g : Nat} {A B C : World} (h : KeepC g A B) (k : KeepC g B C) : KeepC g A C := ⟨Nat.le_trans h.size k.size, fun b o h1 h2 h3 => k.same b o h1 (h.same b o h1 h2 h3) h3⟩
theorem KeepC.by {g : Nat} {A B : World} (h : A.grownBy B (some g)) : KeepC g A B := ⟨h.size, fun b o h1 h2 _ => (h.block b (Array.getElem?_eq_some_iff.1 h2).1 (fun e => h1 (by injection e))).trans h2⟩
theorem KeepC.below {g : Nat} {A B : World} (h : Below A.heap.size A B) : KeepC g A B := KeepC.by (Gw.Below.grown h)
theorem KeepC.put {g l : Nat} {W : World} {o o' : Obj} (h : W.heap[l]? = some o) (hc : o.isCells = false) : KeepC g W (W.putObj l o') := ⟨by simp, fun b o2 _ h2 h3 => by
  by_cases e : b = l
  · subst e; rw [h] at h2; injection h2 with h2; subst h2; rw [hc] at h3; cases h3
  · exact (World.putObj_heap_other e).trans h2⟩
theorem KeepC.cell {g b o : Nat} {A B : World} {v : Value} (h : KeepC g A B) (hv : A.cell? ⟨b, o, none⟩ = some v) (hb : b ≠ g) : B.cell? ⟨b, o, none⟩ = some v := by
  obtain ⟨ob, h1, h2⟩ := cells_of_cell hv
  exact (World.cell?_of_block (w := A) (a := ⟨b, o, none⟩) ((h.same b ob hb h1 h2).trans h1.symm)).trans hv
theorem KeepC.field {g b : Nat} {A B : World} (h : KeepC g A B) (hF : IsField A b) (hb : b ≠ g) : IsField B b := fun o ho => by
  obtain ⟨ob, h1, h2⟩ := cells_of_cell (hF o ho).1
  exact ⟨h.cell (hF o ho).1 hb, (World.frozen?_of_block (w := A) (a := ⟨b, o, none⟩) ((h.same b ob hb h1 h2).trans h1.symm)).trans (hF o ho).2⟩
theorem KeepC.sl {g n : Nat} {A B : World} {ad : Option Addr} {l : List Nat} (h : KeepC g A B) (hs : Sl A n ad l) (hn : n ≤ g) : Sl B n ad l := fun i x hx => by
  obtain ⟨h1, b, off, h2, h3, h4⟩ := hs i x hx
  exact ⟨h1, b, off, h2, h3, h.cell h4 (by omega)⟩
theorem KeepC.inn {g n c : Nat} {A B : World} {ad : Option Addr} {l : List Nat} (h : KeepC g A B) (hs : In A n ad c l) (hn : n ≤ g) : In B n ad c l := ⟨h.sl hs.sl hn, hs.cap, hs.none_⟩
theorem KeepC.own {g base c : Nat} {A B : World} {e : TypeId} {ad : Option Addr} {l : List Nat} (h : KeepC g A B) (hs : Gw.Own A base e ad c l) (hb : g < base) : Gw.Own B base e ad c l := by
  refine ⟨⟨hs.1.1, ?_⟩, hs.2⟩
  rcases hs.1.2 with h0 | ⟨k, cap, cur, hv, h1, h2, h3⟩
  · exact .inl h0
  · exact .inr ⟨k, cap, cur, hv, h1, h.same k _ (by omega) h2 rfl, h3⟩
/-- The same, where what is turned is no cells. -/
theorem own_turned {base c : Nat} {A B : World} {row : Option Nat} {e : TypeId} {ad : Option Addr} {l : List Nat} (hs : Gw.Own A base e ad c l) (hg : A.grownBy B row) (hr : ∀ r, row = some r → ∃ o : Obj, A.heap[r]? = some o ∧ o.isCells = false) : Gw.Own B base e ad c l := by
  refine ⟨⟨hs.1.1, ?_⟩, hs.2⟩
  rcases hs.1.2 with h0 | ⟨k, cap, cur, hv, h1, h2, h3⟩
  · exact .inl h0
  · refine .inr ⟨k, cap, cur, hv, h1, ?_, h3⟩
    refine (hg.block k (Array.getElem?_eq_some_iff.1 h2).1 (fun e => ?_)).trans h2
    obtain ⟨o, h4, h5⟩ := hr k e.symm
    rw [h2] at h4
    injection h4 with h4
    subst h4
    cases h5

/-- A place, and the polynomial of all other roots. -/
structure Pc (xs : List Nat) where
  i : Nat
  hi : i < xs.length
  A : Option Addr
  c : Nat
  q : List Nat
  hq : ∃ r, DivOf (rt xs) [xs[i], 1] q r
abbrev cencs (xs : List Nat) (x : Pc xs) : Array Value := #[.int .i64 (x.i : Int), .slice x.A x.q.length x.c]
def PcRd (g : Nat) (xs : List Nat) (x : Pc xs) (W : World) : Prop := Gw.Own W (g + 1) 5 x.A x.c x.q
theorem PcRd.own (g : Nat) (xs : List Nat) (B : Nat) : OwnFrom B (PcRd g xs) := fun _ _ _ _ hs hg hr => own_turned hs hg (fun r e => (hr r e).2)

theorem ppieces_mk (bf : Nat) (A : Option Addr) (n c : Nat) (w : World) :
    Calls Try.prog 90 #[.pointer (some ⟨bf, 0, none⟩), .slice A n c] w fun e w' =>
      e = .returned (.func (.func 103) #[] #[.pointer (some ⟨w.heap.size, 0, none⟩), .pointer (some ⟨w.heap.size + 1, 0, none⟩)]) ∧
      w' = (w.alloc (.cells #[.pointer (some ⟨bf, 0, none⟩)] 30)).alloc (.cells #[.slice A n c] 36) := by
  go_enter Try.func90, Try.ntmps90
  go_wp2
  go_ret
  exact ⟨rfl, rfl⟩

def PpRel (xs : List Nat) (J : List (Pc xs) → World → Prop) (g : Nat) (W : World) (Aa : Option Addr) (ca : Nat) (i : Value) (wr : World) : Prop :=
  ∃ (k : Nat) (pre : List (Pc xs)), k ≤ xs.length ∧ i = .int .i64 (k : Int) ∧ pre.map Pc.i = List.range k ∧ J pre wr ∧ KeepC g W wr ∧ Gw.Own wr W.heap.size 5 Aa ca (rt xs)
set_option maxRecDepth 100000 in
set_option maxHeartbeats 1000000 in
theorem ppieces_stops (n : Nat) (hn : 1 ≤ n) (g bb bx bf B : Nat) (A : Option Addr) (c : Nat) (xs : List Nat) (hcm : xs.length ≤ 70368744177664) (w : World) (hg : g < w.heap.size)
    (h1 : w.cell? ⟨bb, 0, none⟩ = some (.pointer (some ⟨bf, 0, none⟩))) (h2 : w.cell? ⟨bx, 0, none⟩ = some (.slice A xs.length c)) (hF : IsField w bf) (hI : In w B A c xs) (hB : B ≤ g) (k1 : bb ≠ g) (k2 : bx ≠ g) (k3 : bf ≠ g) :
    Gq.SeqMem n Try.prog 103 #[.pointer (some ⟨bb, 0, none⟩), .pointer (some ⟨bx, 0, none⟩)] (cencs xs) (PcRd g xs) (KeepC g) (fun l => l.map Pc.i = List.range xs.length) xs.length w := fun l J W hW hJ hY h0 => by
  have q0 : KeepC g w W := KeepC.below hW
  have c1 := q0.cell h1 k1
  have c2 := q0.cell h2 k2
  have hFW := q0.field hF k3
  have hIW := q0.inn hI hB
  have hWs := hW.size
  have HR := Lib.hid (proots' bf A c xs.length xs W rfl hFW (hIW.more (by omega)) hcm)
  have hrl := (rt_top xs).1
  refine callsIn_of_wp Try.func103 rfl trivial ?_ rfl
  simp only [Try.ntmps103, List.size_toArray, List.length_cons, List.length_nil, Nat.reduceAdd, Nat.reduceSub, Array.replicate_succ, Array.replicate_zero, List.push_toArray, List.append_toArray, List.nil_append, List.cons_append]
  gi_wp2_with fail
  refine ⟨trivial, ?_⟩
  refine (callsIn_wide.2 HR.out).mono ?_
  rintro e W1 ⟨Aa, ca, rfl, hown1, hb1⟩
  have c3 := (KeepC.below (g := g) hb1).cell c2 k2
  have hJ1 := hJ [] W W1 h0 ⟨hb1.os, hb1.tape, hb1.output, hb1.size, fun k hk _ => hb1.block k hk⟩
  have HL := Lib.hid hrl
  clear hrl
  gi_wp2
  gi_loopw [15] (PpRel xs J g W Aa ca) (fun i _ => xs.length - (intOf i).toNat)
  case atStart => exact ⟨0, [], Nat.zero_le _, rfl, rfl, hJ1, KeepC.below hb1, hown1⟩
  case round =>
    obtain ⟨k, pre, hk, rfl, hpre, hJs, hq, hown⟩ := hrel
    have hps : pre.length = k := by have := congrArg List.length hpre; simpa using this
    by_cases hlt : k < xs.length
    · have d1 := hq.cell c1 k1
      have hFr := hq.field hFW k3
      obtain ⟨x, b, off, hx, hxb, rfl, hb, hcell⟩ := (hq.inn hIW hB).sl.at_ hlt
      have hxe : x = xs[k] := by rw [List.getElem?_eq_getElem hlt] at hx; injection hx with hx; exact hx.symm
      have HXE := Lib.hid hxe
      clear hxe hx
      have hqs := hq.size
      have HD := Lib.hid (pdiv' bf Aa (some ⟨wr.heap.size, 0, none⟩) ca 2 (rt xs).length 2 (rt xs) [x, 1] (wr.alloc (.cells #[.int .u8 (x : Int), .int .u8 1] 5)) rfl rfl (hFr.below ((Below.refl _ _).alloc (Nat.le_refl _) _) hFr.lt) (hown.alloc _).inn ⟨(Sl.two wr 5 x 1 hxb (by omega)).more (by simp), by simp, fun h => by cases h⟩ (by rw [tr_lin]; simp) (by rw [HL.out]; omega) (by simp))
      gi_wp2_with fail
      refine ⟨trivial, ?_⟩
      refine (callsIn_wide.2 HD.out).mono ?_
      rintro e w2 ⟨q, r, Aq, Ar, cq, cr, rfl, hdiv, hoq, hor, _, hb2⟩
      have hb3 : Below wr.heap.size wr w2 := ((Below.refl _ wr).alloc (Nat.le_refl _) _).trans (hb2.mono (by simp))
      have hJ2 := hJ pre wr w2 hJs ⟨hb3.os, hb3.tape, hb3.output, hb3.size, fun k hk _ => hb3.block k hk⟩
      have hdx : ∃ r, DivOf (rt xs) [xs[k], 1] q r := ⟨r, HXE.out ▸ hdiv⟩
      obtain ⟨fn, tmps, assign, body, hy, hR⟩ := hY pre ⟨k, hlt, Aq, cq, q, hdx⟩ w2 hJ2 (hoq.base (by simp; omega)) (by rw [hps]; exact hlt)
      have HK := Lib.hid (hq.trans (KeepC.below hb3))
      have HO := Lib.hid (hown.kept hb3)
      have HP := Lib.hid hpre
      clear hdiv hoq hor hb2 hb3 HD hown hq hpre hJs hJ2 hFr d1 hcell
      dsimp only [cencs] at hy
      gi_wp2_with fail
      refine hR.mono ?_
      rintro e W3 ⟨rfl, hJ3, hK3⟩
      have HK3 := Lib.hid (HK.out.trans hK3)
      have HO3 := Lib.hid (hK3.own HO.out (by omega))
      clear hK3
      gi_wp2
      go_roundw
      case rel => exact ⟨k + 1, pre ++ [⟨k, hlt, Aq, cq, q, hdx⟩], by omega, by go_num, by rw [List.map_append, HP.out, List.range_succ]; rfl, hJ3, HK3.out, HO3.out⟩
      case measure => simp [intOf]; omega
    · obtain rfl : k = xs.length := by omega
      gi_wp2
      go_end0
      exact ⟨⟨_, rfl⟩, pre, hpre, hJs⟩
end Go.Proofs.Ytgikgnhpplmljaa
end
section
/- A range over a function that hands out memory, and whose rounds may leave: what is handed out is told of the world in which the round begins, and of what came ahead of it. -/
namespace Gq
open Go Go.RowKit

section
variable {P : Program} {n : Nat}

/-- The function's contract: in whatever world it hands x out, Rd x holds of that world, and Lk of what came ahead and x; where a round leaves, nothing more is done. -/
def SeqMemX {α : Type} (n : Nat) (P : Program) (gf : Nat) (lb : Array Value) (encs : α → Array Value) (Rd : α → World → Prop) (Kp : World → World → Prop) (Lk : List α → α → Prop) (S : List α → Prop) (w : World) : Prop :=
  ∀ (l : Nat) (J Jx : List α → World → Prop) (W : World), Below w.heap.size w W → (∀ s A B, J s A → A.grownBy B none → J s B) →
    (∀ pre x W1, J pre W1 → Rd x W1 → Lk pre x → YieldAt Fence.wide (n - 1) P l (encs x) W1 fun e W' => (e = .returned (.bool true) ∧ J (pre ++ [x]) W' ∧ Kp W1 W') ∨ (e = .returned (.bool false) ∧ Jx (pre ++ [x]) W')) →
    J [] W → CallsIn Fence.wide n P gf (#[.func (.yield l) #[] #[]] ++ lb) W fun e W' => (∃ v, e = .returned v) ∧ ((∃ xs, S xs ∧ J xs W') ∨ (∃ xs, Jx xs W'))

/-- How a round is left. -/
def memPostX {α : Type} (Kp : World → World → Prop) (I : List α → World → Prop) (Ix : Code → List α → World → Prop) (xs : List α) (W : World) : Exit → Act → World → Prop
  | .normal, _, W' => KeepsOthers W W' ∧ Kp W W' ∧ I xs W'
  | .exit id, _, W' => KeepsOthers W W' ∧ Ix (.exit id) xs W'
  | _, _, _ => False

theorem range_memX {α : Type} {g : Operand} {ps : Array Tmp} {assign body : Code} {Q : Exit → Act → World → Prop} {a : Act} {w : World} (h1 : 1 ≤ n) {gf : Nat} {lb : Array Value} (hg : a.eval g = .func (.func gf) #[] lb)
    (eg : ∀ args w, (callFunc gf args).run P w = .ok (.enter gf args) w) {encs : α → Array Value} {Rd : α → World → Prop} {Kp : World → World → Prop} {Lk : List α → α → Prop} {S : List α → Prop} (hseq : SeqMemX (n - 1) P gf lb encs Rd Kp Lk S w)
    (hKt : ∀ {A B C : World}, Kp A B → Kp B C → Kp A C) (hKb : ∀ (W : World) (l : Nat) (o o' : Obj), w.heap.size ≤ l → W.heap[l]? = some o → o.isCells = false → Kp W (W.putObj l o')) (hps : ∀ x, (encs x).size = ps.size)
    (hRd : OwnFrom w.heap.size Rd) (I : List α → World → Prop) (Ix : Code → List α → World → Prop) (hI : OwnFrom w.heap.size I) (hIx : ∀ c, OwnFrom w.heap.size (Ix c)) (h0 : I [] w) (a₁ : α → Act)
    (hassign : ∀ (l : Nat) (x : α) (W : World) (K : Act → World → Prop), K (a₁ x) W →
      assign.wpIn (Fence.wide.inRound l) (n - 1 - 1) P (Exit.then K (fun _ _ _ => False)) { tmps := (ps.zip (encs x)).foldl (fun t (p, v) => t.setIfInBounds p v) a.tmps, defers := [] } W)
    (hbody : ∀ (l : Nat) (pre : List α) (x : α) (W : World), I pre W → Rd x W → Lk pre x → body.wpIn (Fence.wide.inRound l) (n - 1 - 1) P (memPostX Kp I Ix (pre ++ [x]) W) (a₁ x) W)
    (hdone : ∀ (D : Nat) (xs : List α) (W : World), w.heap.size ≤ D → S xs → I xs W → W.heap[D]? = some (.deferred (some [])) → Q .normal { a with defers := { target := .collected D, args := #[] } :: a.defers } W)
    (hstop : ∀ (D : Nat) (c : Code) (xs : List α) (W : World), w.heap.size ≤ D → Ix c xs W → W.heap[D]? = some (.deferred (some [])) → c.wpIn Fence.wide n P Q { a with defers := { target := .collected D, args := #[] } :: a.defers } W) :
    (Code.rangeFunc g ps assign body).wpIn Fence.wide n P Q a w := by
  refine wpIn_rangeFunc fun fn hfn => ?_
  obtain ⟨rc, hrc⟩ : ∃ rc : LoopState → Option Code → Loop, rc = fun st pe => { state := st, pending := pe, fn, tmps := a.tmps, params := ps, assign, body, defers := w.heap.size } := ⟨_, rfl⟩
  obtain ⟨W1, hW1⟩ : ∃ W1, W1 = (w.alloc (.deferred (some []))).alloc (.loop (rc .ready none)) := ⟨_, rfl⟩
  have hsz : W1.heap.size = w.heap.size + 2 := by rw [hW1]; simp
  have hL1 : W1.heap[w.heap.size + 1]? = some (.loop (rc .ready none)) := by
    have := World.alloc_heap_new (w.alloc (.deferred (some []))) (.loop (rc .ready none)); rw [World.size_alloc] at this; rw [hW1]; exact this
  have hK1 : W1.heap[w.heap.size]? = some (.deferred (some [])) := by
    rw [hW1]; exact (Below.heap_alloc _ _ _ (by simp)).trans (World.alloc_heap_new w _)
  have hI1 : I [] W1 := by rw [hW1]; exact hI.alloc _ (hI.alloc _ h0)
  have hb1 : Below w.heap.size w W1 := by rw [hW1]; exact ((Below.refl _ w).alloc (Nat.le_refl _) _).alloc (by simp) _
  refine ⟨w.heap.size + 1, [{ target := .collected w.heap.size, args := #[] }], W1, { target := .fn (.func gf) lb, args := #[.func (.yield (w.heap.size + 1)) #[] #[]] }, W1, gf, #[.func (.yield (w.heap.size + 1)) #[] #[]] ++ lb, W1, ?_, ?_, ?_, ?_, fun _ => h1, ?_⟩
  · rw [hW1, hrc]; exact run_enterLoop_outer _ _ _ _ _
  · simp only [resolve, hg]; simp [go_sem]
  · intro _ _; exact trivial
  · simp [invoke, go_sem, eg]
  · refine (hseq (w.heap.size + 1) (fun pre W => I pre W ∧ W.heap[w.heap.size + 1]? = some (.loop (rc .ready none)) ∧ W.heap[w.heap.size]? = some (.deferred (some [])))
      (fun pre W => ∃ c, Ix c pre W ∧ W.heap[w.heap.size + 1]? = some (.loop (rc .done (some c))) ∧ W.heap[w.heap.size]? = some (.deferred (some []))) W1 hb1 ?_ ?_ ⟨hI1, hL1, hK1⟩).mono ?_
    · rintro s A B ⟨h2, h3, h4⟩ hgr
      refine ⟨hI s A B none h2 hgr (fun r e => by cases e), ?_, ?_⟩
      · exact (hgr.block _ (Array.getElem?_eq_some_iff.1 h3).1 (by simp)).trans h3
      · exact (hgr.block _ (Array.getElem?_eq_some_iff.1 h4).1 (by simp)).trans h4
    · rintro pre x W ⟨hi, hl, hk⟩ hrd hlk
      have hlt := (Array.getElem?_eq_some_iff.1 hl).1
      have hy := run_yield (P := P) (args := encs x) hl (by rw [hrc]; exact hps x)
      rw [hrc] at hy
      obtain ⟨W2, hW2⟩ : ∃ W2, W2 = W.putObj (w.heap.size + 1) (.loop { rc .ready none with state := .busy }) := ⟨_, rfl⟩
      have hl2 : W2.heap[w.heap.size + 1]? = some (.loop { rc .ready none with state := .busy }) := by rw [hW2]; exact World.putObj_heap_same hlt
      have hk2 : W2.heap[w.heap.size]? = some (.deferred (some [])) := by rw [hW2]; exact (World.putObj_heap_other (by omega)).trans hk
      have hq2 : Kp W W2 := by rw [hW2]; exact hKb _ _ _ _ (by omega) hl rfl
      have hi2 : I pre W2 := by rw [hW2]; exact hI.putObj _ hi (by omega) hl rfl
      have hr2 : Rd x W2 := by rw [hW2]; exact hRd.putObj _ hrd (by omega) hl rfl
      refine ⟨fn, _, assign, body, hy, roundIn_of_wpIn hfn (hassign _ x W _ ⟨W2, by rw [hW2]; exact run_beginRound hl (by rw [hrc]), ?_⟩)⟩
      refine wpIn_mono (hbody _ pre x W2 hi2 hr2 hlk) ?_
      have fin : ∀ (jump : Option Code) (W3 : World), KeepsOthers W2 W3 →
          (Instr.endRound (w.heap.size + 1) jump).run P W3 = .ok (.bool jump.isNone) (W3.putObj (w.heap.size + 1) (.loop (rc (if jump.isNone then .ready else .done) jump))) ∧
          W3.heap[w.heap.size + 1]? = some (.loop { rc .ready none with state := .busy }) ∧
          (W3.putObj (w.heap.size + 1) (.loop (rc (if jump.isNone then .ready else .done) jump))).heap[w.heap.size + 1]? = some (.loop (rc (if jump.isNone then .ready else .done) jump)) ∧
          (W3.putObj (w.heap.size + 1) (.loop (rc (if jump.isNone then .ready else .done) jump))).heap[w.heap.size]? = some (.deferred (some [])) := fun jump W3 hk3 => by
        have hl3 := hk3.same _ _ hl2 rfl
        have := run_endRound (P := P) jump hl3
        rw [hrc] at this ⊢
        exact ⟨this, by rw [hrc] at hl3; exact hl3, World.putObj_heap_same (Array.getElem?_eq_some_iff.1 hl3).1, (World.putObj_heap_other (by omega)).trans (hk3.same _ _ hk2 rfl)⟩
      intro e a3 W3 hp
      cases e with
      | normal =>
        obtain ⟨hk3, hq3, hi3⟩ := hp
        obtain ⟨hr, hl3, hl4, hk4⟩ := fin none W3 hk3
        exact ⟨_, _, hr, .inl ⟨rfl, ⟨hI.putObj _ hi3 (by omega) hl3 rfl, hl4, hk4⟩, hKt (hKt hq2 hq3) (hKb _ _ _ _ (by omega) hl3 rfl)⟩⟩
      | exit id =>
        obtain ⟨hk3, hi3⟩ := hp
        obtain ⟨hr, hl3, hl4, hk4⟩ := fin (some (.exit id)) W3 hk3
        exact ⟨_, _, hr, .inr ⟨rfl, .exit id, (hIx _).putObj _ hi3 (by omega) hl3 rfl, hl4, hk4⟩⟩
      | _ => exact hp.elim
    · rintro e W2 ⟨⟨v, rfl⟩, (⟨xs, hS, hi, hl, hk⟩ | ⟨pre, c, hi, hl, hk⟩)⟩
      · exact ⟨none, _, by have := run_endLoop (P := P) hl (by rw [hrc]; simp); rw [hrc] at this; exact this, hdone _ xs _ (Nat.le_refl _) hS (hI.putObj _ hi (by omega) hl rfl) ((World.putObj_heap_other (by omega)).trans hk)⟩
      · exact ⟨some c, _, by have := run_endLoop (P := P) hl (by rw [hrc]; simp); rw [hrc] at this; exact this, hstop _ c pre _ (Nat.le_refl _) ((hIx c).putObj _ hi (by omega) hl rfl) ((World.putObj_heap_other (by omega)).trans hk)⟩
end

/-- Blocks of cells stand, but those that X names (by number and type). -/
structure KeepX (X : Nat → TypeId → Prop) (W W' : World) : Prop where
  size : W.heap.size ≤ W'.heap.size
  same : ∀ b cs e z, ¬ X b e → W.heap[b]? = some (.cells cs e z) → W'.heap[b]? = some (.cells cs e z)
section
variable {X : Nat → TypeId → Prop} {A B C : World}
theorem KeepX.refl (W : World) : KeepX X W W := ⟨Nat.le_refl _, fun _ _ _ _ _ h => h⟩
theorem KeepX.trans (h : KeepX X A B) (k : KeepX X B C) : KeepX X A C := ⟨Nat.le_trans h.size k.size, fun b cs e z h1 h2 => k.same b cs e z h1 (h.same b cs e z h1 h2)⟩
theorem KeepX.below (h : Below A.heap.size A B) : KeepX X A B := ⟨h.size, fun b _ _ _ _ h2 => (h.block b (Array.getElem?_eq_some_iff.1 h2).1).trans h2⟩
theorem KeepX.by {g : Option Nat} (h : A.grownBy B g) (hx : ∀ r, g = some r → ∀ cs e z, A.heap[r]? = some (.cells cs e z) → X r e) : KeepX X A B := ⟨h.size, fun b cs e z h1 h2 => (h.block b (Array.getElem?_eq_some_iff.1 h2).1 (fun e' => h1 (hx b e'.symm cs e z h2))).trans h2⟩
theorem KeepX.put {l : Nat} {W : World} {o o' : Obj} (h : W.heap[l]? = some o) (hc : o.isCells = false) : KeepX X W (W.putObj l o') := ⟨by simp, fun b cs e z _ h2 => by
  by_cases e' : b = l
  · subst e'; rw [h] at h2; injection h2 with h2; subst h2; cases hc
  · exact (World.putObj_heap_other e').trans h2⟩
theorem KeepX.set {g k : Nat} {v : Value} (hx : ∀ e, X g e) (W : World) : KeepX X W (W.setCell ⟨g, k, none⟩ v) :=
  ⟨((Below.refl 0 W).setCell (p := ⟨g, k, none⟩) (Nat.zero_le _) v).size, fun b _ e _ h1 h2 => (Below.heap_setCell W ⟨g, k, none⟩ v b (fun e' => h1 (e' ▸ hx e))).trans h2⟩
theorem KeepX.cell {b o : Nat} {v : Value} (h : KeepX X A B) (hv : A.cell? ⟨b, o, none⟩ = some v) (hb : ∀ e, ¬ X b e) : B.cell? ⟨b, o, none⟩ = some v := by
  obtain ⟨ob, h1, h2⟩ := cells_of_cell hv
  cases ob with
  | cells cs e z => exact (World.cell?_of_block (w := A) (a := ⟨b, o, none⟩) ((h.same b cs e z (hb e) h1).trans h1.symm)).trans hv
  | _ => cases h2
theorem KeepX.field {b : Nat} (h : KeepX X A B) (hF : Go.Proofs.Ytgikgnhpplmljaa.IsField A b) (hb : ∀ e, ¬ X b e) : Go.Proofs.Ytgikgnhpplmljaa.IsField B b := fun o ho => by
  obtain ⟨ob, h1, h2⟩ := cells_of_cell (hF o ho).1
  cases ob with
  | cells cs e z => exact ⟨h.cell (hF o ho).1 hb, (World.frozen?_of_block (w := A) (a := ⟨b, o, none⟩) ((h.same b cs e z (hb e) h1).trans h1.symm)).trans (hF o ho).2⟩
  | _ => cases h2
theorem KeepX.sl {n : Nat} {ad : Option Addr} {l : List Nat} (h : KeepX X A B) (hs : Gw.Sl A n ad l) (hn : ∀ b e, b < n → ¬ X b e) : Gw.Sl B n ad l := fun i x hx => by
  obtain ⟨h1, b, off, h2, h3, h4⟩ := hs i x hx
  exact ⟨h1, b, off, h2, h3, h.cell h4 (fun e => hn b e h3)⟩
theorem KeepX.inn {n c : Nat} {ad : Option Addr} {l : List Nat} (h : KeepX X A B) (hs : Gw.In A n ad c l) (hn : ∀ b e, b < n → ¬ X b e) : Gw.In B n ad c l := ⟨h.sl hs.sl hn, hs.cap, hs.none_⟩
theorem KeepX.own {base c : Nat} {e : TypeId} {ad : Option Addr} {l : List Nat} (h : KeepX X A B) (hs : Gw.Own A base e ad c l) (hb : ∀ b, base ≤ b → ¬ X b e) : Gw.Own B base e ad c l := by
  refine ⟨⟨hs.1.1, ?_⟩, hs.2⟩
  rcases hs.1.2 with h0 | ⟨k, cap, cur, hv, h1, h2, h3⟩
  · exact .inl h0
  · exact .inr ⟨k, cap, cur, hv, h1, h.same k _ _ _ (hb k h1) h2, h3⟩
end
end Gq
end
section
/- What poly's Add and Mul do: the sum and the product, without noughts at the end, in memory of their own. -/
namespace Go.Proofs.Ytgikgnhpplmljaa
open Go.RowKit Go.Shelf Gw Pol

theorem co_pad (p : List Nat) (n j : Nat) : co (p ++ List.replicate n 0) j = co p j := by
  by_cases h : j < p.length
  · exact co_append_left h
  · rw [co_append_right (by omega), co_far (p := p) (by omega)]
    unfold co
    rw [List.getD_eq_getElem?_getD, List.getElem?_replicate]
    split <;> rfl
theorem padd_tr {p q L : List Nat} (hq : BB q) (hL : ∀ j, co L j = co p j) (hn : q.length ≤ L.length) : tr (addAt L 0 1 q) = tr (add p q) := tr_ext fun j => by
  rw [co_addAt 1 (by omega), co_add, hL, if_pos (Nat.zero_le _), Nat.sub_zero, Gf.gm_one_left (hq.co j)]

def PaRel (w : World) (n : Nat) (L q : List Nat) (i : Value) (wr : World) : Prop :=
  ∃ k : Nat, k ≤ q.length ∧ i = .int .i64 (k : Int) ∧ Gw.Own wr w.heap.size 5 (some ⟨w.heap.size, 0, none⟩) n (addAt L 0 1 (q.take k)) ∧ Below w.heap.size w wr
set_option maxRecDepth 100000 in
set_option maxHeartbeats 1000000 in
theorem padd_any (A A' : Option Addr) (c c' : Nat) (p q : List Nat) (w : World) (hp : In w w.heap.size A c p) (hq : In w w.heap.size A' c' q) (hcm : p.length + q.length ≤ 140737488355328) :
    Calls Try.prog 105 #[.slice A p.length c, .slice A' q.length c'] w fun e w' => ∃ A2 c2, e = .returned (.slice A2 (tr (add p q)).length c2) ∧ Gw.Own w' w.heap.size 5 A2 c2 (tr (add p q)) ∧ Below w.heap.size w w' := by
  have hu := Try.underlying36
  obtain ⟨n, hn⟩ : ∃ n, n = max p.length q.length := ⟨_, rfl⟩
  have hpn : p.length ≤ n := by omega
  have hqn : q.length ≤ n := by omega
  have hnb : n ≤ 140737488355328 := by omega
  have hmk := run_make_row' (P := Try.prog) 36 5 (.int .u8 0) 1 Try.underlying36 pbyte_info rfl .i64 .i64 n (by omega) (by omega)
  obtain ⟨L, hL⟩ : ∃ L, L = p ++ List.replicate (n - p.length) 0 := ⟨_, rfl⟩
  have HL := Lib.hid (show L.length = n by rw [hL]; simp; omega)
  have HC := Lib.hid (show ∀ j, co L j = co p j by rw [hL]; exact co_pad p _)
  have hpq : (p.length < q.length ∧ n = q.length) ∨ (¬ p.length < q.length ∧ n = p.length) := by omega
  clear hn
  rcases hpq with ⟨hpq, hn⟩ | ⟨hpq, hn⟩
  all_goals (
    obtain ⟨w2, hcp, hown0, hB2⟩ := run_copied (P := Try.prog) (w := w) 36 3 5 Try.underlying36 pbyte_size n p.length c hp.sl (Nat.le_refl _) rfl hpn hnb
    rw [← hL] at hown0
    clear hL
    have HN := Lib.hid hn
    rw [hn] at hmk hcp
    clear hn
    go_enter Try.func105, Try.ntmps105
    go_wp2
    clear hmk hcp
    go_loopw [19] (PaRel w n L q) (fun i _ => q.length - (intOf i).toNat)
    case atStart => exact ⟨0, Nat.zero_le _, rfl, by rw [List.take_zero, addAt_nil]; exact hown0, hB2⟩
    case round =>
      obtain ⟨k, hk, rfl, hown', hbel⟩ := hrel
      by_cases hlt : k < q.length
      · obtain ⟨x, b, off, hx, hxb, rfl, hb, hcell⟩ := (hq.below hbel).sl.at_ hlt
        have hkl : 0 + k < (addAt L 0 1 (q.take k)).length := by rw [addAt_len, HL.out]; omega
        have hfitl : 0 + q.length ≤ L.length := by rw [HL.out]; omega
        have hcg := hown'.cell hkl
        have hfr := Own.frozen hown' (0 + k)
        have hvl := hown'.2.co (0 + k)
        obtain ⟨v, hv⟩ : ∃ v, v = co (addAt L 0 1 (q.take k)) (0 + k) := ⟨_, rfl⟩
        rw [← hv] at hcg hvl
        have hxor : bits .xor .u8 (v : Int) (x : Int) = ((v ^^^ x : Nat) : Int) := u8_xor_nat _ _ hvl hxb
        have hset := hown'.put hkl (Gf.xor_lt hvl (Gf.gm_lt 1 x))
        rw [hv, addAt_snoc hfitl hx, ← hv, Gf.gm_one_left hxb] at hset
        rw [Nat.zero_add] at hset hcg hfr
        have HS := Lib.hid hset
        have HG := Lib.hid (hbel.setCell (p := ⟨w.heap.size, k, none⟩) (Nat.le_refl _) (.int .u8 ((v ^^^ x : Nat) : Int)))
        have hkn : k < n := by omega
        have hkn2 := hkn
        rw [HN.out] at hkn2
        clear hset hx hv hown' hkl hfitl
        go_wp2
        go_roundw
        case rel => exact ⟨k + 1, by omega, by go_num, HS.out, HG.out⟩
        case measure => simp [intOf]; omega
      · obtain rfl : k = q.length := by omega
        rw [List.take_length] at hown'
        have hin := hown'.inn
        rw [HN.out] at hin
        have HI := Lib.hid hin
        have HO := Lib.hid hown'.tr
        clear hin hown'
        go_wp2_with fail
        refine (ptrim' (some ⟨w.heap.size, 0, none⟩) _ _ _ _ _ (by rw [← HN.out, addAt_len, HL.out]) HI.out (by rw [addAt_len, HL.out]; exact hnb)).mono ?_
        rintro e w' ⟨rfl, rfl⟩
        go_wp2
        go_ret
        have ho := HO.out
        rw [padd_tr hq.bb HC.out (by rw [HL.out]; exact hqn)] at ho
        refine ⟨_, n, ?_, ho, hbel⟩
        rw [← HN.out, padd_tr hq.bb HC.out (by rw [HL.out]; exact hqn)]; rfl)
theorem padd' (A A' : Option Addr) (c c' n m : Nat) (p q : List Nat) (w : World) (hn : n = p.length) (hm : m = q.length) (hp : In w w.heap.size A c p) (hq : In w w.heap.size A' c' q) (hcm : p.length + q.length ≤ 140737488355328) :
    Calls Try.prog 105 #[.slice A n c, .slice A' m c'] w fun e w' => ∃ A2 c2, e = .returned (.slice A2 (tr (add p q)).length c2) ∧ Gw.Own w' w.heap.size 5 A2 c2 (tr (add p q)) ∧ Below w.heap.size w w' := by
  subst hn hm; exact padd_any A A' c c' p q w hp hq hcm
end Go.Proofs.Ytgikgnhpplmljaa
end
section
/- What bw's within and repeated do; rows that are read and lie not in some blocks. -/
namespace Gw
open Go Go.RowKit Go.Shelf Gq
/-- The bytes of a slice, in blocks that X does not name. -/
def SlX (X : Nat → TypeId → Prop) (w : World) (A : Option Addr) (l : List Nat) : Prop :=
  ∀ (i x : Nat), l[i]? = some x → x < 256 ∧ ∃ b off, A = some ⟨b, off, none⟩ ∧ (∀ e, ¬ X b e) ∧ w.cell? ⟨b, off + i, none⟩ = some (.int .u8 (x : Int))
structure InX (X : Nat → TypeId → Prop) (w : World) (A : Option Addr) (c : Nat) (l : List Nat) : Prop where
  sl : SlX X w A l
  cap : l.length ≤ c
  none_ : A = none → c = 0
section
variable {X : Nat → TypeId → Prop} {w w' : World} {A : Option Addr} {c : Nat} {l : List Nat}
theorem InX.inn (h : InX X w A c l) : In w w.heap.size A c l := ⟨fun i x hx => by
  obtain ⟨h1, b, off, h2, _, h4⟩ := h.sl i x hx
  exact ⟨h1, b, off, h2, cell_lt h4, h4⟩, h.cap, h.none_⟩
theorem InX.bb (h : InX X w A c l) : Pol.BB l := h.inn.bb
theorem InX.keep (h : InX X w A c l) (hk : KeepX X w w') : InX X w' A c l := ⟨fun i x hx => by
  obtain ⟨h1, b, off, h2, h3, h4⟩ := h.sl i x hx
  exact ⟨h1, b, off, h2, h3, hk.cell h4 h3⟩, h.cap, h.none_⟩
theorem InX.below (h : InX X w A c l) (hb : Below w.heap.size w w') : InX X w' A c l := h.keep (KeepX.below hb)
theorem InX.turned {row : Option Nat} (h : InX X w A c l) (hg : w.grownBy w' row) (hr : ∀ r, row = some r → ∃ o : Obj, w.heap[r]? = some o ∧ o.isCells = false) : InX X w' A c l :=
  h.keep (KeepX.by hg (fun r e cs ty z h2 => by obtain ⟨o, h3, h4⟩ := hr r e; rw [h2] at h3; injection h3 with h3; subst h3; cases h4))
theorem In.x {B : Nat} (h : In w B A c l) (hX : ∀ b e, b < B → ¬ X b e) : InX X w A c l := ⟨fun i x hx => by
  obtain ⟨h1, b, off, h2, h3, h4⟩ := h.sl i x hx
  exact ⟨h1, b, off, h2, fun e => hX b e h3, h4⟩, h.cap, h.none_⟩
theorem Own.x {base : Nat} {e : TypeId} (h : Own w base e A c l) (hX : ∀ b e, base ≤ b → ¬ X b e) : InX X w A c l := ⟨fun i x hx => by
  obtain ⟨h1, b, off, h2, h3, h4⟩ := h.sl i x hx
  obtain ⟨g, hg, hb, _⟩ := h.store (k := i) ((List.getElem?_eq_some_iff.1 hx).1)
  rw [h2] at hg
  injection hg with hg
  injection hg with hg
  exact ⟨h1, b, off, h2, fun e => hX b e (by omega), h4⟩, h.cap, h.inn.none_⟩
end
end Gw
namespace Go.Proofs.Ytgikgnhpplmljaa
open Go.RowKit Go.Shelf Gw Pol

/-- May n be d, or e? -/
def witB (n : Int) : Bool := decide (0 ≤ n ∧ n ≤ 255)
theorem within_any (n : Int) (w : World) : Calls Try.prog 52 #[.int .i64 n] w fun e w' => e = .returned (.bool (witB n)) ∧ w = w' := by
  by_cases h0 : 0 ≤ n
  · by_cases h1 : n ≤ 255
    · have hw : witB n = true := decide_eq_true ⟨h0, h1⟩
      rw [hw]
      clear hw
      go_enter Try.func52, Try.ntmps52
      go_wp2
      go_ret
      first | exact ⟨rfl, rfl⟩ | exact ⟨by simp; omega, rfl⟩
    · have hw : witB n = false := decide_eq_false (by omega)
      rw [hw]
      clear hw
      go_enter Try.func52, Try.ntmps52
      go_wp2
      go_ret
      first | exact ⟨rfl, rfl⟩ | exact ⟨by simp; omega, rfl⟩
  · have hw : witB n = false := decide_eq_false (by omega)
    rw [hw]
    clear hw
    go_enter Try.func52, Try.ntmps52
    go_wp2
    go_ret
    first | exact ⟨rfl, rfl⟩ | exact ⟨by simp; omega, rfl⟩

set_option maxRecDepth 100000 in
set_option maxHeartbeats 1000000 in
theorem repeated_any (A : Option Addr) (c : Nat) (xs : List Nat) (w : World) (hI : In w w.heap.size A c xs) (hcm : xs.length ≤ 140737488355328) :
    Calls Try.prog 51 #[.slice A xs.length c] w fun e w' => e = .returned (.bool (!unB xs)) ∧ Below w.heap.size w w' := by
  have hz := zeroSeen
  go_enter Try.func51, Try.ntmps51
  go_wp2
  clear hz
  go_loopw [8] (PsRel w xs) (fun i _ => xs.length - (intOf i).toNat)
  case atStart => exact ⟨0, rfl, Nat.zero_le _, fun i j h => by omega, seen_new w, (Below.refl _ _).alloc (Nat.le_refl _) _⟩
  case round =>
    obtain ⟨k, rfl, hk, hun, hrow, hbel⟩ := hrel
    by_cases hkp : k < xs.length
    · obtain ⟨x, b, off, hx, hxb, rfl, hb, hcell⟩ := (hI.below hbel).sl.at_ hkp
      have hc1 := (hrow x hxb).1
      have hf1 := (hrow x hxb).2
      by_cases hin : x ∈ xs.take k
      · have hs : seenF (xs.take k) x = .bool true := by unfold seenF; simp [hin]
        rw [hs] at hc1
        obtain ⟨j, hj, hje⟩ := List.getElem_of_mem hin
        have hjk : j < k := by rw [List.length_take] at hj; omega
        have HN := Lib.hid (unB_no hkp hjk (by rw [co_of' hx, co_get (by omega), ← hje, List.getElem_take]))
        clear hs hx hje hj hin
        go_wp2
        go_ret
        exact ⟨by rw [HN.out]; rfl, hbel⟩
      · have hs : seenF (xs.take k) x = .bool false := by unfold seenF; simp [hin]
        rw [hs] at hc1
        have hrow2 := (hrow.set hxb (.bool true)).congr (g := seenF (xs.take (k + 1))) (fun o _ => by
          unfold seenF
          rw [← take_snoc hx]
          by_cases e : o = x
          · rw [if_pos e, e]; simp
          · rw [if_neg e]; simp [e])
        have hun2 : UnTo xs (k + 1) := fun i j hi hj => by
          by_cases e : i = k
          · subst e
            rw [co_of' hx]
            intro h
            refine hin ?_
            rw [h, co_get (by omega), ← List.getElem_take (j := i) (h := by rw [List.length_take]; omega)]
            exact List.getElem_mem _
          · exact hun i j (by omega) hj
        have H1 := Lib.hid hrow2
        have H2 := Lib.hid hun2
        have H3 := Lib.hid (hbel.setCell (p := ⟨w.heap.size, x, none⟩) (Nat.le_refl _) (.bool true))
        clear hs hx hrow hrow2 hun2 hun hin
        go_wp2
        go_roundw
        case rel => exact ⟨k + 1, by go_num, by omega, H2.out, H1.out, H3.out⟩
        case measure => simp [intOf]; omega
    · obtain rfl : k = xs.length := by omega
      have HN := Lib.hid (unB_yes hun)
      go_wp2
      go_ret
      exact ⟨by rw [HN.out]; rfl, hbel⟩
end Go.Proofs.Ytgikgnhpplmljaa
end
section
/- What bw's rests hands out: Euclid's rests, and their factors, one by one. -/
namespace Go.Proofs.Ytgikgnhpplmljaa
open Go.RowKit Go.Shelf Gw Pol Gq
attribute [local go_sem] Oper.semAt_some

/-- A rest, and its factor. -/
structure Rst where
  A : Option Addr
  c : Nat
  r : List Nat
  A' : Option Addr
  c' : Nat
  v : List Nat
abbrev rencs (x : Rst) : Array Value := #[.slice x.A x.r.length x.c, .slice x.A' x.v.length x.c']
def RsRd (X : Nat → TypeId → Prop) (x : Rst) (W : World) : Prop := InX X W x.A x.c x.r ∧ InX X W x.A' x.c' x.v
theorem RsRd.own (X : Nat → TypeId → Prop) (B : Nat) : OwnFrom B (RsRd X) := fun _ _ _ _ hs hg hr => ⟨hs.1.turned hg (fun r e => (hr r e).2), hs.2.turned hg (fun r e => (hr r e).2)⟩
/-- The rest ahead. -/
def lastR (R0 : List Nat) (pre : List Rst) : List Nat := ((pre.getLast?).map Rst.r).getD R0
theorem lastR_nil (R0 : List Nat) : lastR R0 [] = R0 := rfl
theorem lastR_snoc (R0 : List Nat) (pre : List Rst) (x : Rst) : lastR R0 (pre ++ [x]) = x.r := by simp [lastR]
def RsLk (xs ys R0 : List Nat) (pre : List Rst) (x : Rst) : Prop := tr (lastR R0 pre) = lastR R0 pre ∧ ∃ v0, Eu xs ys (lastR R0 pre) v0 x.r x.v

theorem rests_mk (bf : Nat) (A A' : Option Addr) (n c n' c' : Nat) (w : World) :
    Calls Try.prog 94 #[.pointer (some ⟨bf, 0, none⟩), .slice A n c, .slice A' n' c'] w fun e w' =>
      e = .returned (.func (.func 104) #[] #[.pointer (some ⟨w.heap.size + 1, 0, none⟩), .pointer (some ⟨w.heap.size + 2, 0, none⟩), .pointer (some ⟨w.heap.size, 0, none⟩)]) ∧
      w' = ((w.alloc (.cells #[.pointer (some ⟨bf, 0, none⟩)] 30)).alloc (.cells #[.slice A n c] 36)).alloc (.cells #[.slice A' n' c'] 36) := by
  go_enter Try.func94, Try.ntmps94
  go_wp2
  go_ret
  exact ⟨rfl, rfl⟩

def lenOf (v : Value) : Nat := match v with | .slice _ n _ => n | _ => 0
def RsRel (X : Nat → TypeId → Prop) (xs ys R0 : List Nat) (J : List Rst → World → Prop) (W : World) (a fa b fb : Value) (wr : World) : Prop :=
  ∃ (pre : List Rst) (r0 v0 r1 v1 : List Nat) (A0 B0 A1 B1 : Option Addr) (c0 d0 c1 d1 : Nat), a = .slice A0 r0.length c0 ∧ fa = .slice B0 v0.length d0 ∧ b = .slice A1 r1.length c1 ∧ fb = .slice B1 v1.length d1 ∧
    lastR R0 pre = r0 ∧ tr r0 = r0 ∧ Eu xs ys r0 v0 r1 v1 ∧ J pre wr ∧ InX X wr A0 c0 r0 ∧ InX X wr B0 d0 v0 ∧ InX X wr A1 c1 r1 ∧ InX X wr B1 d1 v1 ∧ KeepX X W wr
theorem one_bb : BB [1] := BB.cons (by omega) BB.nil
set_option maxRecDepth 100000 in
set_option maxHeartbeats 2000000 in
theorem rests_stops (n : Nat) (hn : 1 ≤ n) (X : Nat → TypeId → Prop) (p1 p2 p3 bf : Nat) (A A' : Option Addr) (c c' : Nat) (xs ys R0 R1 : List Nat) (w : World) (hx : BB xs) (hy : BB ys) (hl : xs.length ≤ 255)
    (h1 : w.cell? ⟨p1, 0, none⟩ = some (.slice A R0.length c)) (h2 : w.cell? ⟨p2, 0, none⟩ = some (.slice A' R1.length c')) (h3 : w.cell? ⟨p3, 0, none⟩ = some (.pointer (some ⟨bf, 0, none⟩))) (hF : IsField w bf)
    (hI : InX X w A c R0) (hI' : InX X w A' c' R1) (k1 : ∀ e, ¬ X p1 e) (k2 : ∀ e, ¬ X p2 e) (k3 : ∀ e, ¬ X p3 e) (k4 : ∀ e, ¬ X bf e) (hX : ∀ b e, w.heap.size ≤ b → ¬ X b e)
    (ht : tr R0 = R0) (hE : Eu xs ys R0 [] R1 [1]) :
    SeqMemX n Try.prog 104 #[.pointer (some ⟨p1, 0, none⟩), .pointer (some ⟨p2, 0, none⟩), .pointer (some ⟨p3, 0, none⟩)] rencs (RsRd X) (KeepX X) (RsLk xs ys R0) (fun pre => lastR R0 pre = []) w := fun l J Jx W hW hJ hY h0 => by
  have q0 : KeepX X w W := KeepX.below hW
  have c1 := q0.cell h1 k1
  have c2 := q0.cell h2 k2
  have c3 := q0.cell h3 k3
  have hFW := q0.field hF k4
  have hIW := hI.keep q0
  have hIW' := hI'.keep q0
  have hWs := hW.size
  have hJ1 : J [] (W.alloc (.cells #[.int .u8 1] 5)) := hJ [] W _ h0 ⟨rfl, rfl, rfl, by simp, fun k hk _ => Below.heap_alloc _ _ _ hk⟩
  have HE := Lib.hid hE
  have HT := Lib.hid ht
  clear hE ht
  refine callsIn_of_wp Try.func104 rfl trivial ?_ rfl
  simp only [Try.ntmps104, List.size_toArray, List.length_cons, List.length_nil, Nat.reduceAdd, Nat.reduceSub, Array.replicate_succ, Array.replicate_zero, List.push_toArray, List.append_toArray, List.nil_append, List.cons_append]
  gi_wp2
  have hb1 : Below W.heap.size W (W.alloc (.cells #[.int .u8 1] 5)) := (Below.refl _ _).alloc (Nat.le_refl _) _
  have hone : InX X (W.alloc (.cells #[.int .u8 1] 5)) (some ⟨W.heap.size, 0, none⟩) 1 [1] := Own.x (base := W.heap.size) (e := 5) ⟨World.ownsRow_lit W #[.int .u8 1] 1 (Nat.le_refl _) (by simp [maxLen]) rfl, one_bb⟩ (fun b e h => hX b e (by omega))
  gi_loopw [5, 6, 7, 8] (RsRel X xs ys R0 J W) (fun _ _ b _ _ => lenOf b)
  case atStart => exact ⟨[], R0, [], R1, [1], A, none, A', some ⟨W.heap.size, 0, none⟩, c, 0, c', 1, rfl, rfl, rfl, rfl, rfl, HT.out, HE.out, hJ1, hIW.below hb1, ⟨fun i x h => by simp at h, Nat.le_refl _, fun _ => rfl⟩, hIW'.below hb1, hone, KeepX.below hb1⟩
  case round =>
    clear hone hJ1 hb1
    obtain ⟨pre, r0, v0, r1, v1, A0, B0, A1, B1, e0, d0, e1, d1, rfl, rfl, rfl, rfl, hlast, ht0, hEu, hJs, i0, i1, i2, i3, hK⟩ := hrel
    obtain ⟨fn, tmps, assign, body, hyy, hR⟩ := hY pre ⟨A1, e1, r1, B1, d1, v1⟩ wr hJs ⟨i2, i3⟩ ⟨by rw [hlast]; exact ht0, v0, by rw [hlast]; exact hEu⟩
    dsimp only [rencs] at hyy
    have HL := Lib.hid hlast
    have HEU := Lib.hid hEu
    have HT0 := Lib.hid ht0
    have HI0 := Lib.hid i0
    have HI1 := Lib.hid i1
    have HI2 := Lib.hid i2
    have HI3 := Lib.hid i3
    have HK := Lib.hid hK
    clear hlast hEu ht0 i0 i1 i2 i3 hJs hK
    gi_wp2_with fail
    refine hR.mono ?_
    rintro e W3 (⟨rfl, hJ3, hK3⟩ | ⟨rfl, hJx3⟩)
    · have hK4 := HK.out.trans hK3
      have g3 := hK4.cell c3 k3
      have hF3 := hK4.field hFW k4
      have g0 := HI0.out.keep hK3
      have g1 := HI1.out.keep hK3
      have g2 := HI2.out.keep hK3
      have g4 := HI3.out.keep hK3
      have hsum := HEU.out.sum
      have hfall := HEU.out.fall
      have hrise := HEU.out.rise
      have hsz := HK.out.size
      have hsz3 := hK3.size
      by_cases hz : r1 = []
      · subst hz
        have HD := Lib.hid (pdiv_none bf A0 A1 e0 e1 r0 [] W3 g2.inn rfl (by simp))
        clear hyy
        gi_wp2_with fail
        refine ⟨trivial, ?_⟩
        refine (callsIn_wide.2 HD.out).mono ?_
        rintro e w4 ⟨rfl, rfl⟩
        gi_wp2
        refine bodyPost_ret (results_none rfl _ _ _) rfl ?_
        exact ⟨⟨_, rfl⟩, .inl ⟨_, lastR_snoc _ _ _, hJ3⟩⟩
      · have HD := Lib.hid (pdiv_any bf A0 A1 e0 e1 r0 r1 W3 hF3 g0.inn g2.inn (by rw [HEU.out.t1]; exact hz) (by omega) (by omega))
        have HZ := Lib.hid hz
        clear hyy hz
        gi_wp2_with fail
        refine ⟨trivial, ?_⟩
        refine (callsIn_wide.2 HD.out).mono ?_
        rintro e w4 ⟨q, r2, Aq, Ar, cq, cr, rfl, hdiv, hoq, hor, _, hb4⟩
        have hql := hdiv.lq
        have hF4 := hF3.below hb4 hF3.lt
        have g5 := (KeepX.below (X := X) hb4).cell g3 k3
        have HM := Lib.hid (pmul_any bf Aq B1 cq d1 q v1 w4 hF4 hoq.inn (g4.below hb4).inn (by omega))
        have HDV := Lib.hid hdiv
        clear hdiv g3
        gi_wp2_with fail
        refine ⟨trivial, ?_⟩
        refine (callsIn_wide.2 HM.out).mono ?_
        rintro e w5 ⟨Am, cm, rfl, hom, hb5⟩
        have hml : (tr (mul q v1)).length ≤ q.length + v1.length := Nat.le_trans (tr_len _) (mul_len _ _)
        have HA := Lib.hid (padd_any B0 Am d0 cm v0 (tr (mul q v1)) w5 ((g1.below hb4).below hb5).inn hom.inn (by omega))
        have HML := Lib.hid hml
        clear hml
        gi_wp2_with fail
        refine ⟨trivial, ?_⟩
        refine (callsIn_wide.2 HA.out).mono ?_
        rintro e w6 ⟨Ap, cp, rfl, hop, hb6⟩
        have hb46 : Below W3.heap.size W3 w6 := (hb4.trans (hb5.mono hb4.size)).trans (hb6.mono (Nat.le_trans hb4.size hb5.size))
        have hJ6 := Lib.hid (hJ _ W3 w6 hJ3 ⟨hb46.os, hb46.tape, hb46.output, hb46.size, fun k hk _ => hb46.block k hk⟩)
        have H1 := Lib.hid (g2.below hb46)
        have H2 := Lib.hid (g4.below hb46)
        have H3 := Lib.hid (((hor.kept hb5).kept hb6).x (X := X) (fun b e h => hX b e (by omega)))
        have H4 := Lib.hid (hop.x (X := X) (fun b e h => hX b e (by have := hb4.size; have := hb5.size; omega)))
        have H5 := Lib.hid (hK4.trans (KeepX.below hb46))
        have HST := Lib.hid (HEU.out.step hx hy HT0.out HZ.out HDV.out)
        have HTT := Lib.hid HEU.out.t1
        have hlt := HDV.out.lr
        rw [HTT.out] at hlt
        clear hor hop hom hoq hb4 hb5 hb6 hb46 g0 g1 g2 g4 g5 hF4 hF3 hK4 hJ3 hK3
        gi_wp2
        go_roundw
        case rel => exact ⟨pre ++ [⟨A1, e1, r1, B1, d1, v1⟩], r1, v1, r2, _, A1, B1, Ar, Ap, e1, d1, cr, cp, rfl, rfl, rfl, rfl, lastR_snoc _ _ _, HTT.out, HST.out, hJ6.out, H1.out, H2.out, H3.out, H4.out, H5.out⟩
        case measure => simp only [lenOf]; omega
    · clear hyy
      gi_wp2
      go_end0
      exact ⟨⟨_, rfl⟩, .inr ⟨_, hJx3⟩⟩
end Go.Proofs.Ytgikgnhpplmljaa
end
section
/- The polynomial through points, piece by piece, in plain numbers; small facts on worlds for it. -/
namespace Go.Proofs.Ytgikgnhpplmljaa
open Go.RowKit Go.Shelf Gw Pol

/-- What a piece is multiplied by. -/
def pcF (xs ys : List Nat) (x : Pc xs) : Nat := Gf.dv (co ys x.i) (ev (co xs x.i) x.q)
/-- The sum, when some pieces have come. -/
def accF (xs ys : List Nat) (pre : List (Pc xs)) : List Nat := pre.foldl (fun L x => addAt L 0 (pcF xs ys x) x.q) (List.replicate xs.length 0)
theorem accF_snoc (xs ys : List Nat) (pre : List (Pc xs)) (x : Pc xs) : accF xs ys (pre ++ [x]) = addAt (accF xs ys pre) 0 (pcF xs ys x) x.q := by simp [accF]
theorem pcF_lt (xs ys : List Nat) (x : Pc xs) : pcF xs ys x < 256 := Gf.gm_lt _ _
theorem pc_len {xs : List Nat} (x : Pc xs) : x.q.length = xs.length := by
  obtain ⟨r, hr⟩ := x.hq; exact piece_len x.hi hr
theorem pc_bb {xs : List Nat} (x : Pc xs) : BB x.q := by
  obtain ⟨r, hr⟩ := x.hq; exact hr.bq
theorem accF_ok (xs ys : List Nat) (pre : List (Pc xs)) : (accF xs ys pre).length = xs.length ∧ BB (accF xs ys pre) := by
  have : ∀ r : List (Pc xs), (accF xs ys r.reverse).length = xs.length ∧ BB (accF xs ys r.reverse) := by
    intro r
    induction r with
    | nil => exact ⟨by simp [accF], fun x hx => by rw [List.eq_of_mem_replicate hx]; omega⟩
    | cons x r ih => rw [List.reverse_cons, accF_snoc]; exact ⟨by rw [addAt_len]; exact ih.1, addAt_bb ih.2 _ _ _⟩
  have h := this pre.reverse
  rwa [List.reverse_reverse] at h
theorem accF_ev {xs ys : List Nat} (hx : BB xs) (hy : BB ys) (hn : xs.Nodup) {j : Nat} (hj : j < xs.length) : ∀ (k : Nat) (pre : List (Pc xs)), pre.map Pc.i = List.range k → ev xs[j] (accF xs ys pre) = if j < k then co ys j else 0 := by
  intro k
  induction k with
  | zero =>
    intro pre hp
    have : pre = [] := by simpa using hp
    subst this
    rw [if_neg (by omega)]
    exact ev_zero _ (fun i => by simp [accF, co, List.getElem?_replicate]; split <;> rfl)
  | succ k ih =>
    intro pre hp
    rw [List.range_succ, List.map_eq_append_iff] at hp
    obtain ⟨l1, l2, rfl, h1, h2⟩ := hp
    obtain ⟨x, l3, rfl, h3, h4⟩ := List.map_eq_cons_iff.1 h2
    have : l3 = [] := by simpa using h4
    subst this
    have hok := accF_ok xs ys l1
    rw [accF_snoc, ev_addAt hok.2 (pc_bb x) (pcF_lt _ _ _) (hx.get hj) (by rw [pc_len, hok.1]; exact Nat.le_refl _), ih l1 h1]
    obtain ⟨r, hr⟩ := x.hq
    have hi := x.hi
    by_cases e : j = k
    · have exi : x.i = j := by omega
      have hself := piece_self hx hn hi hr
      have : Gf.gm (pcF xs ys x) (ev xs[j] x.q) = co ys j := by
        have e2 : ev (co xs x.i) x.q = ev xs[j] x.q := by rw [co_get hi]; congr 1; simp [exi]
        unfold pcF
        rw [e2, exi]
        refine Gf.gm_dv (hy.co j) (ev_lt (pc_bb x) _) ?_
        rw [← e2, co_get hi]; exact hself
      rw [this, if_neg (by omega), if_pos (by omega), Nat.zero_xor]
    · rw [piece_other hx hn hi hj (by omega) hr, Gf.gm_zero_right, Nat.xor_zero]
      by_cases h5 : j < k
      · rw [if_pos h5, if_pos (by omega)]
      · rw [if_neg h5, if_neg (by omega)]
theorem accF_all {xs ys : List Nat} (hx : BB xs) (hy : BB ys) (hn : xs.Nodup) {pre : List (Pc xs)} (hp : pre.map Pc.i = List.range xs.length) : tr (accF xs ys pre) = thr xs ys := by
  have hok := accF_ok xs ys pre
  exact thr_only hx hy hn hok.2 (Dg.len (Nat.le_of_eq hok.1)) (fun j hj => by rw [accF_ev hx hy hn hj xs.length pre hp, if_pos hj])

theorem keeps_below {W X : World} (h : Below W.heap.size W X) : KeepsOthers W X := ⟨h.size, fun k _ hk _ => (h.block k (Array.getElem?_eq_some_iff.1 hk).1).trans hk⟩
theorem keeps_row {X W' : World} {base g c : Nat} {e : TypeId} {l : List Nat} (ho : Gw.Own X base e (some ⟨g, 0, none⟩) c l) (h : X.grownBy W' (some g)) : KeepsOthers X W' := ⟨h.size, fun k _ hk hc => by
  refine (h.block k (Array.getElem?_eq_some_iff.1 hk).1 (fun e2 => ?_)).trans hk
  injection e2 with e2
  subst e2
  rcases ho.1.2 with ⟨hv, _⟩ | ⟨k2, cap, cur, hv, _, h2, _⟩
  · injection hv with hv; cases hv
  · injection hv with hv
    injection hv with hv
    injection hv with hv
    subst hv
    rw [hk] at h2
    injection h2 with h2
    subst h2
    cases hc⟩
end Go.Proofs.Ytgikgnhpplmljaa
end
section
/- What poly's Through does: the polynomial through points, in memory of its own, or that there is none. -/
namespace Go.Proofs.Ytgikgnhpplmljaa
open Go.RowKit Go.Shelf Gw Pol Go.BigFrame Go.Sort
attribute [local go_sem] Oper.semAt_some

/-- Three boxes. -/
structure Three (w : World) (v0 v1 v2 : Value) (W : World) : Prop where
  c0 : W.cell? ⟨w.heap.size, 0, none⟩ = some v0
  c1 : W.cell? ⟨w.heap.size + 1, 0, none⟩ = some v1
  c2 : W.cell? ⟨w.heap.size + 2, 0, none⟩ = some v2
  sz : W.heap.size = w.heap.size + 3
  bl : Below w.heap.size w W
theorem three (w : World) (v0 v1 v2 : Value) (t0 t1 t2 : TypeId) : Three w v0 v1 v2 (((w.alloc (.cells #[v0] t0)).alloc (.cells #[v1] t1)).alloc (.cells #[v2] t2)) := by
  refine ⟨?_, ?_, ?_, by simp, ?_⟩
  · exact old_cell (old_cell (new_cell w v0 t0 _ rfl) _) _
  · exact old_cell (new_cell _ v1 t1 _ (by simp)) _
  · exact new_cell _ v2 t2 _ (by simp)
  · exact (((Below.refl _ w).alloc (Nat.le_refl _) _).alloc (by simp) _).alloc (by simp; omega) _

set_option maxRecDepth 100000 in
set_option maxHeartbeats 500000 in
theorem pthr_lens (bf : Nat) (A A' : Option Addr) (c c' : Nat) (xs ys : List Nat) (w : World) (hne : xs.length ≠ ys.length) :
    Calls Try.prog 70 #[.pointer (some ⟨bf, 0, none⟩), .slice A xs.length c, .slice A' ys.length c'] w fun e w' => e = .returned (.tuple #[.slice none 0 0, .bool false]) ∧ Below w.heap.size w w' := by
  have hb : (((xs.length : Int)) != ((ys.length : Int))) = true := by rw [bne_iff_ne]; omega
  have HB := Lib.hid (three w (.pointer (some ⟨bf, 0, none⟩)) (.slice A xs.length c) (.slice A' ys.length c') 30 36 36).bl
  go_enter Try.func70, Try.ntmps70
  go_wp2
  go_ret2
  exact ⟨rfl, HB.out⟩
set_option maxRecDepth 100000 in
set_option maxHeartbeats 500000 in
theorem pthr_twice (bf : Nat) (A A' : Option Addr) (c c' : Nat) (xs ys : List Nat) (w : World) (hI : In w w.heap.size A c xs) (hcm : xs.length ≤ 140737488355328) (he : xs.length = ys.length) (hun : unB xs = false) :
    Calls Try.prog 70 #[.pointer (some ⟨bf, 0, none⟩), .slice A xs.length c, .slice A' ys.length c'] w fun e w' => e = .returned (.tuple #[.slice none 0 0, .bool false]) ∧ Below w.heap.size w w' := by
  have h3 := three w (.pointer (some ⟨bf, 0, none⟩)) (.slice A xs.length c) (.slice A' ys.length c') 30 36 36
  have HB := Lib.hid h3.bl
  have hd := distinct_any A c xs _ ((hI.below h3.bl).more h3.bl.size) hcm
  rw [hun] at hd
  have HD := Lib.hid hd
  clear hd h3 hun
  rw [← he] at *
  go_enter Try.func70, Try.ntmps70
  go_wp2_with fail
  refine HD.out.mono ?_
  rintro e w1 ⟨rfl, hb1⟩
  go_wp2
  go_ret2
  exact ⟨rfl, HB.out.trans (hb1.mono HB.out.size)⟩
end Go.Proofs.Ytgikgnhpplmljaa
end
