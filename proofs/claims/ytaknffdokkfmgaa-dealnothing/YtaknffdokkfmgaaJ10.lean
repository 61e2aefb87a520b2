import Derived.RegionIn
import Derived.BigRegionIn
import Derived.Laws.Rows
import Derived.Deep.RegionLaw
import Derived.Test.YtaknffdokkfmgaaJ2
import Derived.Test.YtaknffdokkfmgaaJ3
import Derived.Test.YtaknffdokkfmgaaJ6
import Derived.Test.YtaknffdokkfmgaaJ7
import Derived.Test.YtaknffdokkfmgaaJ9
section
/- stripe: Split. -/
namespace Go.Proofs.Ytaknffdokkfmgaa
open Go.RowKit Go.Shelf Gw Pol
attribute [local go_sem] Oper.semAt_some

theorem ocell {w : World} {b o : Nat} {v : Value} (h : w.cell? ⟨b, o, none⟩ = some v) (ob : Obj) : (w.alloc ob).cell? ⟨b, o, none⟩ = some v := (World.cell?_alloc_lt w ob ⟨b, o, none⟩ (cell_lt h)).trans h
theorem ncell (w : World) (v : Value) (t : TypeId) (b : Nat) (h : b = w.heap.size) : (w.alloc (.cells #[v] t)).cell? ⟨b, 0, none⟩ = some v := by
  subst h; exact World.cell?_alloc_new w #[v] t 0
theorem nrow (w : World) (z : Value) (t : TypeId) (n b : Nat) (h : b = w.heap.size) : Row (w.alloc (.cells (madeCells #[z] n) t)) b n (fun _ => z) := fun o ho => by
  subst h
  refine ⟨?_, World.frozen?_alloc_new w _ t o⟩
  rw [World.cell?_alloc_new w _ t o]
  simp [madeCells, ho, Nat.mod_one]
theorem orow {w : World} {b n : Nat} {f : Nat → Value} (h : Row w b n f) (hb : b < w.heap.size) (ob : Obj) : Row (w.alloc ob) b n f := h.below ((Below.refl _ _).alloc (Nat.le_refl _) ob) hb
/-- Split's boxes ahead of the range. -/
structure Five (w : World) (R k : Nat) (vd : Value) (W : World) : Prop where
  row : Row W (w.heap.size + 1) R (fun _ => .slice none 0 0)
  c0 : W.cell? ⟨w.heap.size, 0, none⟩ = some (.int .i64 (k : Int))
  c2 : W.cell? ⟨w.heap.size + 2, 0, none⟩ = some (.slice (some ⟨w.heap.size + 1, 0, none⟩) R R)
  c3 : W.cell? ⟨w.heap.size + 3, 0, none⟩ = some vd
  c4 : W.cell? ⟨w.heap.size + 4, 0, none⟩ = some (.int .i64 (k : Int))
  sz : W.heap.size = w.heap.size + 5
  bl : Below w.heap.size w W
theorem five (w : World) (R k : Nat) (vd : Value) (t0 t1 t2 t3 t4 : TypeId) :
    Five w R k vd (((((w.alloc (.cells #[.int .i64 (k : Int)] t0)).alloc (.cells (madeCells #[.slice none 0 0] R) t1)).alloc (.cells #[.slice (some ⟨w.heap.size + 1, 0, none⟩) R R] t2)).alloc (.cells #[vd] t3)).alloc (.cells #[.int .i64 (k : Int)] t4)) := by
  refine ⟨orow (orow (orow (nrow _ _ _ _ _ (by simp)) (by simp) _) (by simp) _) (by simp) _, ?_, ?_, ?_, ?_, by simp, ?_⟩
  · exact ocell (ocell (ocell (ocell (ncell _ _ _ _ rfl) _) _) _) _
  · exact ocell (ocell (ncell _ _ _ _ (by simp)) _) _
  · exact ocell (ncell _ _ _ _ (by simp)) _
  · exact ncell _ _ _ _ (by simp)
  · exact ((((Below.refl _ w).alloc (Nat.le_refl _) _).alloc (by simp) _).alloc (by simp; omega) _).alloc (by simp; omega) _ |>.alloc (by simp; omega) _

/-- Between two rounds: q columns are there. -/
def SpI (w : World) (R k : Nat) (d : List Nat) (pre : List Nat) (W : World) : Prop :=
  ∃ bs : Nat → Nat, (W.cell? ⟨w.heap.size, 0, none⟩ = some (.int .i64 (k : Int)) ∧ W.cell? ⟨w.heap.size + 2, 0, none⟩ = some (.slice (some ⟨w.heap.size + 1, 0, none⟩) R R) ∧
    Row W (w.heap.size + 1) R (fun i => if i < pre.length then .slice (some ⟨bs i, 0, none⟩) k k else .slice none 0 0) ∧
    ∀ i, i < pre.length → Gw.Own W (w.heap.size + 5) 5 (some ⟨bs i, 0, none⟩) k (Sp.col d k i)) ∧ Below w.heap.size w W ∧ w.heap.size + 5 ≤ W.heap.size
theorem SpI.own (w : World) (R k : Nat) (d : List Nat) (B : Nat) (hB : w.heap.size ≤ B) : OwnFrom B (SpI w R k d) := by
  rintro pre A C row ⟨bs, ⟨h1, h2, h3, h4⟩, h5, h6⟩ hg hr
  have hr' : ∀ r, row = some r → ∃ o : Obj, A.heap[r]? = some o ∧ o.isCells = false := fun r e => (hr r e).2
  exact ⟨bs, ⟨cell_kept h1 hg hr', cell_kept h2 hg hr', Gw.Row.turned h3 hg hr', fun i hi => (h4 i hi).turned hg hr'⟩, ownFrom_below (β := Nat) (Nat.le_refl _) hB 0 A C row h5 hg hr, Nat.le_trans h6 hg.size⟩

/-- What a round has done. -/
theorem spl_round {w W X W3 : World} {R k q : Nat} {d : List Nat} {bs : Nat → Nat} {ob : Obj} (hB : Below w.heap.size w W) (hWs : w.heap.size + 5 ≤ W.heap.size)
    (d0 : W.cell? ⟨w.heap.size, 0, none⟩ = some (.int .i64 (k : Int))) (d2 : W.cell? ⟨w.heap.size + 2, 0, none⟩ = some (.slice (some ⟨w.heap.size + 1, 0, none⟩) R R))
    (hrow : Row W (w.heap.size + 1) R (fun i => if i < q then .slice (some ⟨bs i, 0, none⟩) k k else .slice none 0 0)) (hcols : ∀ i, i < q → Gw.Own W (w.heap.size + 5) 5 (some ⟨bs i, 0, none⟩) k (Sp.col d k i)) (hq : q < R)
    (hX : X = ((W.alloc ob).setCell ⟨w.heap.size + 1, q, none⟩ (.slice (some ⟨W.heap.size, 0, none⟩) k k)).drew) (hown : Gw.Own W3 W.heap.size 5 (some ⟨W.heap.size, 0, none⟩) k (Sp.col d k q)) (hg : X.grownBy W3 (some W.heap.size)) :
    KeepsOthers W W3 ∧ KpT (w.heap.size + 3) (w.heap.size + 4) W W3 ∧ SpI w R k d (List.range q ++ [q]) W3 := by
  have hsX : X.heap.size = W.heap.size + 1 := by rw [hX]; simp [World.drew, World.setCell]
  have kX : Gw.Kt (w.heap.size + 1) (w.heap.size + 2) W X := by
    rw [hX]
    exact (((Gw.Kt.refl _ _ W).alloc ob).set (p := ⟨w.heap.size + 1, q, none⟩) ⟨Nat.le_refl _, by show w.heap.size + 1 < _; omega⟩ _).drew
  have k3 : Gw.Kt (w.heap.size + 1) (w.heap.size + 2) W W3 := ⟨hg.os.trans kX.os, hg.tape.trans kX.tape, hg.output.trans kX.output, by have := hg.size; omega, fun i h1 h2 => (hg.block i (by omega) (fun e => by injection e with e; omega)).trans (kX.block i h1 h2)⟩
  have f1 := (hrow q hq).1
  have hrX : Row X (w.heap.size + 1) R (fun i => if i < q + 1 then .slice (some ⟨if i = q then W.heap.size else bs i, 0, none⟩) k k else .slice none 0 0) := by
    have h1 := (orow hrow (cell_lt f1) ob).set hq (.slice (some ⟨W.heap.size, 0, none⟩) k k)
    rw [hX]
    refine Row.congr (fun o ho => ⟨(h1 o ho).1, (h1 o ho).2⟩) fun i hi => ?_
    by_cases e : i = q
    · subst e; simp
    · by_cases e2 : i < q
      · simp [e, e2, show i < q + 1 by omega]
      · simp [e, e2, show ¬ i < q + 1 by omega]
  have hb1 : W3.heap[w.heap.size + 1]? = X.heap[w.heap.size + 1]? := hg.block _ (by omega) (fun e => by injection e with e; omega)
  refine ⟨⟨k3.size, fun j o hj hc => ?_⟩, fun j hj => k3.block j (by omega) (by omega), ⟨fun i => if i = q then W.heap.size else bs i, ⟨k3.cell d0 (by omega), k3.cell d2 (by omega), ?_, fun i hi => ?_⟩, hB.trans ((k3.below (by omega)).mono (by omega)), by have := k3.size; omega⟩⟩
  · refine (k3.block j (Array.getElem?_eq_some_iff.1 hj).1 (fun h => ?_)).trans hj
    obtain rfl : j = w.heap.size + 1 := by omega
    obtain ⟨ob', h1, h2⟩ := cells_of_cell f1
    rw [hj] at h1
    injection h1 with h1
    subst h1
    rw [hc] at h2; cases h2
  · rw [List.length_append, List.length_range]
    exact fun o ho => ⟨(World.cell?_of_block (w := X) (a := ⟨w.heap.size + 1, o, none⟩) hb1).trans (hrX o ho).1, (World.frozen?_of_block (w := X) (a := ⟨w.heap.size + 1, o, none⟩) hb1).trans (hrX o ho).2⟩
  · rw [List.length_append, List.length_range] at hi
    by_cases e : i = q
    · subst e
      simp only [if_true]
      exact hown.base hWs
    · simp only [if_neg e]
      exact (hcols i (by simp at hi; omega)).kt k3 (by omega)

set_option maxRecDepth 100000 in
set_option maxHeartbeats 500000 in
theorem ssplit_in (A : Option Addr) (c N k : Nat) (d : List Nat) (w : World) (hN : N = d.length) (hI : In w w.heap.size A c d) (hk0 : 0 < k) (hk : k ≤ 255) (hNb : N ≤ 1048577) :
    CallsIn Fence.wide 6 Try.prog 40 #[.slice A N c, .int .i64 (k : Int)] w fun e w' => ∃ A2 c2 pa cp, e = .returned (.slice A2 (Sp.cnt N k) c2) ∧ Cs w w' A2 c2 (Sp.cnt N k) k pa cp (Sp.col d k) := by
  have hcap := hI.cap
  obtain ⟨b, off, hA⟩ : ∃ b off, 0 < N → A = some ⟨b, off, none⟩ := by
    by_cases h0 : 0 < N
    · obtain ⟨x, b, off, _, _, h, _, _⟩ := hI.sl.at_ (k := 0) (by omega)
      exact ⟨b, off, fun _ => h⟩
    · exact ⟨0, 0, fun h => absurd h h0⟩
  have hRN := Sp.cnt_le N k
  have HC := Lib.hid (scols_nat N k (by omega) (by omega) (w.alloc (.cells #[.int .i64 (k : Int)] 3)))
  obtain ⟨R, hR⟩ : ∃ R, R = Sp.cnt N k := ⟨_, rfl⟩
  rw [← hR] at HC hRN ⊢
  have HR := Lib.hid hR
  clear hR
  have HN := Lib.hid hN
  clear hN
  have hmk := run_make_row' (P := Try.prog) 35 28 (.slice none 0 0) 24 Try.underlying35 srow_info rfl .i64 .i64 R (by omega) (by omega)
  have hmk2 := run_make_row' (P := Try.prog) 28 5 (.int .u8 0) 1 Try.underlying28 pbyte_info rfl .i64 .i64 k (by omega) (by omega)
  refine callsIn_of_wp_marks Try.func40 rfl trivial ?_ rfl
  simp only [Try.ntmps40, List.size_toArray, List.length_cons, List.length_nil, Nat.reduceAdd, Nat.reduceSub, Array.replicate_succ, Array.replicate_zero, List.push_toArray, List.append_toArray, List.nil_append, List.cons_append]
  gi_wp2_with fail
  refine ⟨trivial, ?_⟩
  refine (callsIn_wide.2 HC.out).mono ?_
  rintro e w1 ⟨rfl, rfl⟩
  have e0 := ocell (ocell (ncell w (.int .i64 (k : Int)) 3 _ rfl) (.cells (madeCells #[.slice none 0 0] R) 28)) (.cells #[.slice (some ⟨w.heap.size + 1, 0, none⟩) R R] 35)
  gi_wp2_with fail
  refine ⟨trivial, ?_⟩
  refine (callsIn_wide.2 (spieces_mk A N c k _)).mono ?_
  rintro e w' ⟨rfl, rfl⟩
  gi_wp2
  clear e0 hmk
  have h5 := five w R k (.slice A N c) 3 28 35 28 3
  have hsz := h5.sz
  refine Gq.range_pre (by omega) (gf := 65) (lb := #[.pointer (some ⟨w.heap.size + 3, 0, none⟩), .pointer (some ⟨w.heap.size + 4, 0, none⟩)]) rfl (enters_of Try.func65 (by kernel_rfl) rfl)
    (spieces_pre (6 - 1) (by omega) (w.heap.size + 3) (w.heap.size + 4) b off N c k A hA hk0 (by omega) (by omega) (by rw [HN.out]; exact hcap) _ h5.c3 h5.c4)
    (fun h k => KpT.trans h k) (fun W l o o' hl _ _ b hb => World.putObj_heap_other (by omega)) (fun _ => rfl) (fun _ _ _ _ _ hs _ _ => hs)
    (SpI w R k d) (SpI.own w R k d _ (by omega))
    ⟨fun _ => 0, ⟨h5.c0, h5.c2, h5.row.congr (fun o _ => by simp), fun i hi => by simp at hi⟩, h5.bl, by omega⟩
    (fun i => { tmps := #[.slice A N c, .int .i64 (k : Int), undef, .pointer (some ⟨w.heap.size, 0, none⟩), .slice none 0 0, .pointer (some ⟨w.heap.size + 2, 0, none⟩), .int .i64 (i : Int), .slice (some ⟨b, off + i * k, none⟩) (min k (N - i * k)) (c - i * k), .int .i64 (k : Int), .bool (decide ((k : Int) < 1)), .bool (decide ((k : Int) < 1)), .int .i64 (k : Int), .bool (decide (2147483647 < (k : Int))), .bool (decide ((k : Int) < 1) || decide (2147483647 < (k : Int))), .slice A N c, .int .i64 (N : Int), .int .i64 (k : Int), .int .i64 (R : Int), .slice (some ⟨w.heap.size + 1, 0, none⟩) R R, .slice A N c, .int .i64 (k : Int), .func (.func 65) #[] #[.pointer (some ⟨w.heap.size + 3, 0, none⟩), .pointer (some ⟨w.heap.size + 4, 0, none⟩)], .int .i64 (i : Int), .slice (some ⟨b, off + i * k, none⟩) (min k (N - i * k)) (c - i * k), undef, undef, undef, undef, undef, undef, undef, undef, undef, undef, undef, undef], defers := [] }) ?assign ?body ?done
  case assign =>
    intro l x W K hK
    gi_wp2
    exact hK
  case body =>
    rintro lb pre q W ⟨bs, ⟨d0, d2, hrow, hcols⟩, hB, hWs⟩ ⟨rfl, hq⟩
    rw [List.length_range] at hrow hcols
    rw [← HR.out] at hq
    clear h5
    have hqi : (q : Int) < (R : Int) := by omega
    have f1 : W.cell? ⟨w.heap.size + 1, q, none⟩ = some (.slice none 0 0) := by
      have := (hrow q hq).1
      simpa using this
    have f2 := (hrow q hq).2
    have g0 := ocell d0 (.cells (madeCells #[.int .u8 0] k) 5)
    have g2 := ocell d2 (.cells (madeCells #[.int .u8 0] k) 5)
    have g1 := ocell f1 (.cells (madeCells #[.int .u8 0] k) 5)
    have g3 : (W.alloc (.cells (madeCells #[.int .u8 0] k) 5)).frozen? ⟨w.heap.size + 1, q, none⟩ = false := (orow hrow (cell_lt f1) _ q hq).2
    have hqk := (Sp.cnt_lt (n := N) hk0).1 (by rw [← HR.out]; exact hq)
    have hAe := hA (by omega)
    obtain ⟨X, hX⟩ : ∃ X, X = ((W.alloc (.cells (madeCells #[.int .u8 0] k) 5)).setCell ⟨w.heap.size + 1, q, none⟩ (.slice (some ⟨W.heap.size, 0, none⟩) k k)).drew := ⟨_, rfl⟩
    have hownX : Gw.Own X W.heap.size 5 (some ⟨W.heap.size, 0, none⟩) k (List.replicate k 0) := by
      rw [hX]
      have h1 := Own.made W 5 k (by omega)
      refine ⟨⟨h1.1.1, ?_⟩, h1.2⟩
      rcases h1.1.2 with h0 | ⟨g, cap, cur, hv, hb, hgb, h0⟩
      · exact .inl h0
      · refine .inr ⟨g, cap, cur, hv, hb, ?_, h0⟩
        exact (Below.heap_setCell _ ⟨w.heap.size + 1, q, none⟩ _ g (by show g ≠ w.heap.size + 1; omega)).trans hgb
    have hBX : Below w.heap.size w X := by
      rw [hX]
      exact ((hB.alloc (by omega) _).setCell (p := ⟨w.heap.size + 1, q, none⟩) (by show w.heap.size ≤ w.heap.size + 1; omega) _).drew
    obtain ⟨m, hm⟩ : ∃ m, m = min k (N - q * k) := ⟨_, rfl⟩
    have hp : Sl X w.heap.size (some ⟨b, off + q * k, none⟩) ((d.drop (q * k)).take m) := by
      have h1 := ((hI.sl.drop (q * k)).take m).below hBX
      rw [hAe] at h1
      exact h1
    have hpl : m = ((d.drop (q * k)).take m).length := by rw [List.length_take, List.length_drop, ← HN.out]; omega
    obtain ⟨W3, hrun, hown3, hg3⟩ := run_copy_into (P := Try.prog) 28 3 5 Try.underlying28 (by kernel_rfl) hownX 0 k k (by simp) m (c - q * k) hp hpl
    have hcol : (List.replicate k 0).take 0 ++ (((d.drop (q * k)).take m).take k ++ (List.replicate k 0).drop (0 + min m k)) = Sp.col d k q := by
      rw [Sp.col_piece d k q m (by rw [← HN.out]; exact hm), List.take_zero, List.nil_append, List.take_of_length_le (by omega), List.drop_replicate]
      congr 2; omega
    rw [hcol] at hown3
    have HFIN := Lib.hid (spl_round hB hWs d0 d2 hrow hcols hq hX hown3 hg3)
    rw [hX] at hrun
    rw [← hm]
    clear hX hm hown3 hg3 hcol hrow hcols hownX hBX hp hpl hqk hAe hA
    gi_wp2
    gi_region
    all_goals (gi_wp2; exact HFIN.out)
  case done =>
    rintro D pre W hD hS ⟨bs, ⟨d0, d2, hrow, hcols⟩, hB, hWs⟩ hK
    subst hS
    rw [List.length_range, ← HR.out] at hrow hcols
    clear h5
    gi_wp2
    refine ⟨by simp, .inl ⟨_, _, rfl, run_takeDeferred hK, ?_⟩⟩
    have hb2 : Below w.heap.size W (W.putObj D (.deferred none)) := belowK_b (w := w) (Nat.le_refl _) W D _ _ (by omega) hK rfl rfl
    have hg2 := grownBy_putObj' W D (.deferred none)
    have hr2 : ∀ r, some D = some r → ∃ o : Obj, W.heap[r]? = some o ∧ o.isCells = false := fun r e => by cases e; exact ⟨_, hK, rfl⟩
    have hrow2 := Gw.Row.turned hrow hg2 hr2
    have hcols2 := fun i hi => (hcols i hi).turned hg2 hr2
    have hbe := hB.trans hb2
    refine ⟨_, results_tmp rfl _ _ _, some ⟨w.heap.size + 1, 0, none⟩, R, fun i => some ⟨bs i, 0, none⟩, fun _ => k, rfl, ⟨⟨fun i hi => ?_, Nat.le_refl _, fun h => by cases h⟩, hbe, fun g o h _ => by injection h with h; injection h with h; omega, fun i hi b o h => ?_⟩⟩
    · have h1 := (hrow2 i hi).1
      simp only [if_pos hi] at h1
      exact ⟨_, 0, rfl, cell_lt h1, by rw [Nat.zero_add, h1, Sp.col_len], (hcols2 i hi).inn⟩
    · injection h with h
      injection h with h1 h2
      subst h1 h2
      have h3 := (hcols2 i hi).lt
      exact ⟨by omega, fun g o' h => by injection h with h; injection h with h; omega, fun j hj => by rw [Nat.zero_add]; exact (hcols2 i hi).frozen j⟩
theorem ssplit_any (A : Option Addr) (c N k : Nat) (d : List Nat) (w : World) (hN : N = d.length) (hI : In w w.heap.size A c d) (hk : k ≤ 255) (hNb : N ≤ 1048577) : Calls Try.prog 40 #[.slice A N c, .int .i64 (k : Int)] w fun e w' => ∃ A2 c2 pa cp, e = .returned (.slice A2 (Sp.cnt N k) c2) ∧ Cs w w' A2 c2 (Sp.cnt N k) k pa cp (Sp.col d k) := by
  by_cases hk0 : 0 < k
  · exact callsIn_wide.1 (ssplit_in A c N k d w hN hI hk0 hk hNb)
  · obtain rfl : k = 0 := by omega
    have HZ := Lib.hid (Sp.cnt_none N)
    go_enter Try.func40, Try.ntmps40
    go_wp2
    go_ret
    rw [HZ.out]
    exact ⟨none, 0, fun _ => none, fun _ => 0, rfl, ⟨⟨fun i hi => by omega, Nat.le_refl _, fun _ => rfl⟩, (Below.refl _ _).alloc (Nat.le_refl _) _, fun _ _ h _ => (by cases h), fun i hi => by omega⟩⟩
end Go.Proofs.Ytaknffdokkfmgaa
end
section
/- deal: multiples: each column, and the product of all roots times that column's random bytes, in memory of its own. -/
namespace Go.Proofs.Ytaknffdokkfmgaa
open Go.RowKit Go.Shelf Gw Pol
attribute [local go_sem] Oper.semAt_some

theorem dmul_mk (bf : Nat) (Ax Ar : Option Addr) (nx cx nr cr n : Nat) (w : World) :
    Calls Try.prog 41 #[.pointer (some ⟨bf, 0, none⟩), .slice Ax nx cx, .slice Ar nr cr, .int .i64 (n : Int)] w fun e w' =>
      e = .returned (.func (.func 54) #[] #[.pointer (some ⟨w.heap.size, 0, none⟩), .pointer (some ⟨w.heap.size + 1, 0, none⟩), .pointer (some ⟨w.heap.size + 2, 0, none⟩), .pointer (some ⟨w.heap.size + 3, 0, none⟩)]) ∧
      w' = (((w.alloc (.cells #[.pointer (some ⟨bf, 0, none⟩)] 38)).alloc (.cells #[.slice Ax nx cx] 28)).alloc (.cells #[.slice Ar nr cr] 28)).alloc (.cells #[.int .i64 (n : Int)] 3) := by
  go_enter Try.func41, Try.ntmps41
  go_wp2
  go_ret
  exact ⟨rfl, rfl⟩
/-- A column's number, and where its polynomial lies. -/
structure Mp where
  i : Nat
  A : Option Addr
  c : Nat
abbrev mencs (xs rnd : List Nat) (n : Nat) (x : Mp) : Array Value := #[.int .i64 (x.i : Int), .slice x.A (timL (rt xs) rnd n x.i).length x.c]
def MpRd (B g R : Nat) (xs rnd : List Nat) (n C : Nat) (pre : List Mp) (x : Mp) (W : World) : Prop :=
  x.i = pre.length ∧ x.i < C ∧ Gw.Own W B 5 x.A x.c (timL (rt xs) rnd n x.i) ∧ g < W.heap.size ∧ ∀ b o, x.A = some ⟨b, o, none⟩ → NotT g R W b
theorem MpRd.own (B g R B' : Nat) (hB : g < B') (xs rnd : List Nat) (n C : Nat) (pre : List Mp) : OwnFrom B' (MpRd B g R xs rnd n C pre) := by
  rintro x A D row ⟨h1, h2, h3, h4, h5⟩ hg hr
  have hgb : D.heap[g]? = A.heap[g]? := hg.block g h4 (fun e => by have := (hr g e.symm).1; omega)
  exact ⟨h1, h2, own_turned h3 hg (fun r e => (hr r e).2), Nat.lt_of_lt_of_le h4 hg.size, fun b o e => (h5 b o e).same hgb⟩
def MuRel (J : List Mp → World → Prop) (g R C : Nat) (w1 : World) (i : Value) (wr : World) : Prop :=
  ∃ (k : Nat) (pre : List Mp), k ≤ C ∧ i = .int .i64 (k : Int) ∧ pre.map Mp.i = List.range k ∧ J pre wr ∧ KpR g R w1 wr
set_option maxRecDepth 100000 in
set_option maxHeartbeats 1000000 in
theorem dmul_pre (m : Nat) (hm : 1 ≤ m) (g R bb bx br bn bf : Nat) (Ax Ar : Option Addr) (cx cr nx nr n C : Nat) (xs rnd : List Nat) (w : World) (hg : g < w.heap.size) (hfr : ∀ b, w.heap.size ≤ b → NotT g R w b)
    (h1 : w.cell? ⟨bb, 0, none⟩ = some (.pointer (some ⟨bf, 0, none⟩))) (h2 : w.cell? ⟨bx, 0, none⟩ = some (.slice Ax nx cx)) (h3 : w.cell? ⟨br, 0, none⟩ = some (.slice Ar nr cr)) (h4 : w.cell? ⟨bn, 0, none⟩ = some (.int .i64 (n : Int)))
    (k1 : NotT g R w bb) (kf : NotT g R w bf) (hF : IsField w bf) (hnx : nx = xs.length) (hnr : nr = rnd.length) (hI : In w w.heap.size Ax cx xs) (hIr : In w w.heap.size Ar cr rnd) (hn0 : 0 < n) (hn : n ≤ 255) (hlen : rnd.length = n * C) (hC : C ≤ 4096) (hxl : xs.length ≤ 255) :
    Gq.SeqPre m Try.prog 54 #[.pointer (some ⟨bb, 0, none⟩), .pointer (some ⟨bx, 0, none⟩), .pointer (some ⟨br, 0, none⟩), .pointer (some ⟨bn, 0, none⟩)] (mencs xs rnd n) (MpRd w.heap.size g R xs rnd n C) (KpR g R) (fun l => l.map Mp.i = List.range C) w := fun l J W hW hJ hY h0 => by
  have q0 : KpR g R w W := KpR.below hW hg
  have c1 := q0.cell h1 k1
  have c2 := (hW.cell (p := ⟨bx, 0, none⟩) (cell_lt h2)).trans h2
  have c3 := (hW.cell (p := ⟨br, 0, none⟩) (cell_lt h3)).trans h3
  have c4 := (hW.cell (p := ⟨bn, 0, none⟩) (cell_lt h4)).trans h4
  have hFW := hF.below hW hF.lt
  have hWs := hW.size
  have HR := Lib.hid (proots' bf Ax cx nx xs W hnx hFW ((hI.below hW).more hWs) (by omega))
  have hrl := (rt_top xs).1
  have hlb : rnd.length ≤ 1048576 := by rw [hlen]; exact Nat.le_trans (Nat.mul_le_mul hn hC) (by decide)
  have hcnt : Sp.cnt nr n = C := by rw [hnr, hlen]; exact cnt_mul hn0
  have HNR := Lib.hid hnr
  have HLEN := Lib.hid hlen
  have HCNT := Lib.hid hcnt
  have HL := Lib.hid hrl
  have hgw : g < W.heap.size := by omega
  have hfrW : ∀ b, w.heap.size ≤ b → NotT g R W b := fun b hb => (hfr b hb).same (hW.block g hg)
  have HFR := Lib.hid hfrW
  clear hnx hnr hlen hcnt hrl hfr hfrW h2 h3 h4
  refine callsIn_of_wp Try.func54 rfl trivial ?_ rfl
  simp only [Try.ntmps54, List.size_toArray, List.length_cons, List.length_nil, Nat.reduceAdd, Nat.reduceSub, Array.replicate_succ, Array.replicate_zero, List.push_toArray, List.append_toArray, List.nil_append, List.cons_append]
  gi_wp2_with fail
  refine ⟨trivial, ?_⟩
  refine (callsIn_wide.2 HR.out).mono ?_
  rintro e W1 ⟨Aa, ca, rfl, hown1, hb1⟩
  have e3 := (hb1.cell (p := ⟨br, 0, none⟩) (cell_lt c3)).trans c3
  have e4 := (hb1.cell (p := ⟨bn, 0, none⟩) (cell_lt c4)).trans c4
  have HS := Lib.hid (ssplit_any Ar cr nr n rnd W1 HNR.out ((hIr.below (hW.trans (hb1.mono hWs))).more (Nat.le_trans hWs hb1.size)) hn (by rw [HNR.out]; omega))
  rw [HCNT.out] at HS
  have hJ1 := hJ [] W W1 h0 ⟨hb1.os, hb1.tape, hb1.output, hb1.size, fun k hk _ => hb1.block k hk⟩
  clear c2 c3 c4
  gi_wp2_with fail
  refine ⟨trivial, ?_⟩
  refine (callsIn_wide.2 HS.out).mono ?_
  rintro e W2 ⟨As, cs, ps, qs, rfl, hcs⟩
  have hb2 : Below W.heap.size W W2 := hb1.trans (hcs.bel.mono hb1.size)
  have hJ2 := hJ [] W1 W2 hJ1 ⟨hcs.bel.os, hcs.bel.tape, hcs.bel.output, hcs.bel.size, fun k hk _ => hcs.bel.block k hk⟩
  have hk2 : KpR g R W W2 := KpR.below hb2 hgw
  have hfr2 : ∀ b, w.heap.size ≤ b → NotT g R W2 b := fun b hb => (HFR.out b hb).same (hb2.block g hgw)
  have d1 := hk2.cell c1 (k1.same (hW.block g hg))
  have kb2 : NotT g R W2 bb := (k1.same (hW.block g hg)).same (hb2.block g hgw)
  have kf2 : NotT g R W2 bf := (kf.same (hW.block g hg)).same (hb2.block g hgw)
  have hF2 := hFW.below hb2 hFW.lt
  have hown2 := hown1.kept hcs.bel
  have hka : ∀ b o, Aa = some ⟨b, o, none⟩ → NotT g R W2 b := fun b o e => hfr2 b (by have h := hown1; rw [e] at h; have := h.lt; omega)
  have hksp : ∀ b o, As = some ⟨b, o, none⟩ → 0 < C → NotT g R W2 b := fun b o e hc => hfr2 b (by have := hcs.spine b o e hc; have := hb1.size; omega)
  have hkrow : ∀ i, i < C → ∀ b o, ps i = some ⟨b, o, none⟩ → NotT g R W2 b := fun i hi b o e => hfr2 b (by have := (hcs.rows i hi b o e).1; have := hb1.size; omega)
  have HCS := Lib.hid hcs
  have HKA := Lib.hid hka
  have HSP := Lib.hid hksp
  have HRW := Lib.hid hkrow
  have HF2 := Lib.hid hF2
  have HO2 := Lib.hid hown2
  have hs2 : w.heap.size ≤ W2.heap.size := by have := hb2.size; omega
  clear HR HS hJ1 hb1 hb2 hcs e3 e4 hk2 hka hksp hkrow hF2 hown1 hown2 c1 hFW q0
  gi_wp2
  gi_loopw [16] (MuRel J g R C W2) (fun i _ => C - (intOf i).toNat)
  case atStart => exact ⟨0, [], Nat.zero_le _, rfl, rfl, hJ2, KpR.refl _ _ _⟩
  case round =>
    obtain ⟨k, pre, hk, rfl, hpre, hJs, hq⟩ := hrel
    have hps : pre.length = k := by have := congrArg List.length hpre; simpa using this
    by_cases hlt : k < C
    · have e1 := hq.cell d1 kb2
      obtain ⟨b, off, rfl, hbl, hcell, hrow⟩ := HCS.out.min.rd k hlt
      have ecol := hq.cell hcell (HSP.out b off rfl (by omega))
      have hrow' := hq.inn hrow (HRW.out k hlt)
      have hcap := HCS.out.min.cap
      have hqs := hq.size
      have hfr := (hq.new (fun b hb => hfr2 b (by omega)))
      rw [col_chunk HLEN.out hlt] at ecol hrow'
      have hcl : (chunk rnd n k).length = n := chunk_len (n := C) (by rw [HLEN.out, Nat.mul_comm]; exact Nat.le_refl _) hlt
      have hwr : IsField wr bf := hq.row HF2.out kf2
      have hor := hq.own HO2.out HKA.out
      have HM := Lib.hid (pmul' bf Aa (ps k) ca (qs k) (rt xs).length (chunk rnd n k).length (rt xs) (chunk rnd n k) wr rfl rfl hwr hor.inn (hrow'.more hqs) (by rw [HL.out, hcl]; omega))
      clear hor hrow' hcell hcl hrow hwr
      gi_wp2_with fail
      refine ⟨trivial, ?_⟩
      refine (callsIn_wide.2 HM.out).mono ?_
      rintro e W3 ⟨Aq, cq, rfl, hoq, hb3⟩
      have hgr : g < wr.heap.size := by omega
      have hJ3 := hJ pre wr W3 hJs ⟨hb3.os, hb3.tape, hb3.output, hb3.size, fun k hk _ => hb3.block k hk⟩
      have hqt : ∀ b o, Aq = some ⟨b, o, none⟩ → NotT g R W3 b := fun b o e => (hfr b (by rw [e] at hoq; exact hoq.lt.1)).same (hb3.block g hgr)
      have hg3 : g < W3.heap.size := Nat.lt_of_lt_of_le hgr hb3.size
      obtain ⟨fn, tmps, assign, body, hy, hRd⟩ := hY pre ⟨k, Aq, cq⟩ W3 hJ3 ⟨hps.symm, hlt, hoq.base (by omega), hg3, hqt⟩
      have HK := Lib.hid (hq.trans (KpR.below hb3 hgr))
      have HP := Lib.hid hpre
      clear hqt hg3 hoq hb3 HM hq hpre hJs hJ3 e1 ecol hfr
      dsimp only [mencs, timL] at hy
      gi_wp2_with fail
      refine hRd.mono ?_
      rintro e W4 ⟨rfl, hJ4, hK4⟩
      have HK4 := Lib.hid (HK.out.trans hK4)
      clear hK4
      gi_wp2
      go_roundw
      case rel => exact ⟨k + 1, pre ++ [⟨k, Aq, cq⟩], by omega, by go_num, by rw [List.map_append, HP.out, List.range_succ]; rfl, hJ4, HK4.out⟩
      case measure => simp [intOf]; omega
    · obtain rfl : k = C := by omega
      gi_wp2
      go_end0
      exact ⟨⟨_, rfl⟩, pre, hpre, hJs⟩
end Go.Proofs.Ytaknffdokkfmgaa
end
section
/- Calls, and arrays that are loaded and stored whole, as steps of a region that leaves its order open. -/
namespace Gw
open Go Go.RowKit Go.Shelf
/-- A call of a named function as one step of a region that leaves its order open. -/
theorem step_call {P : Program} {w : World} {ops : Array Oper} {o : Oper} {a : Act} {K : Act → World → Prop} {Q : Exit → Act → World → Prop} {E : Prop} (hgd : o.guard = none) (f : FuncId) (xs : Array Operand) (ts : Array TypeId)
    (ho : o.op = .call { callee := .value (.func f), args := xs, argTypes := ts }) (vs : Array Value) (hen : (callFunc f vs).run P w = .ok (.enter f vs) w) (hv : xs.map a.eval = vs) {Z : Ending → World → Prop} (hc : Calls P f vs w Z)
    (h : ∀ e w', Z e w' → ∃ v, e = .returned v ∧ K (a.put o.dst v) w') : if Region.wanted o (yielded ops a.tmps) = true then Oper.wp P o a w K Q else E := by
  have hw : Region.wanted o (yielded ops a.tmps) = true := by simp [Region.wanted, hgd]
  rw [if_pos hw]
  obtain ⟨dst, op, ty, pos, after, guard⟩ := o
  simp only at ho
  subst ho
  unfold Oper.wp
  rw [execOp_call_go, hv]
  have e : #[] ++ vs ++ #[] = vs := by simp
  rw [e, hen, Oper.upon_enter]
  refine hc.mono fun e w' he => ?_
  obtain ⟨v, rfl, hk⟩ := h e w' he
  exact hk
/-- The same, where the call is guarded and wanted: a step of a region that leaves its order open. -/
theorem step_callG {P : Program} {w : World} {ops : Array Oper} {o : Oper} {a : Act} {K : Act → World → Prop} {Q : Exit → Act → World → Prop} {E : Prop} (hw : Region.wanted o (yielded ops a.tmps) = true) (f : FuncId) (xs : Array Operand) (ts : Array TypeId)
    (ho : o.op = .call { callee := .value (.func f), args := xs, argTypes := ts }) (vs : Array Value) (hen : (callFunc f vs).run P w = .ok (.enter f vs) w) (hv : xs.map a.eval = vs) {Z : Ending → World → Prop} (hc : Calls P f vs w Z)
    (h : ∀ e w', Z e w' → ∃ v, e = .returned v ∧ K (a.put o.dst v) w') : if Region.wanted o (yielded ops a.tmps) = true then Oper.wp P o a w K Q else E := by
  rw [if_pos hw]
  obtain ⟨dst, op, ty, pos, after, guard⟩ := o
  simp only at ho
  subst ho
  unfold Oper.wp
  rw [execOp_call_go, hv]
  have e : #[] ++ vs ++ #[] = vs := by simp
  rw [e, hen, Oper.upon_enter]
  refine hc.mono fun e w' he => ?_
  obtain ⟨v, rfl, hk⟩ := h e w' he
  exact hk
/-- A whole array is loaded. -/
theorem step_loadrow {P : Program} {w : World} {ops : Array Oper} {o : Oper} {a : Act} {K : Act → World → Prop} {Q : Exit → Act → World → Prop} {E : Prop} (hgd : o.guard = none) (ty : TypeId) (x : Operand) (ho : o.op = .load ty x)
    (g : Nat) (hx : a.eval x = .pointer (some ⟨g, 0, none⟩)) (t : TypeId) (cs : Array Value) (fr : Nat × Nat) (d : TypeDesc) (hg : w.heap[g]? = some (.cells cs t fr))
    (hu : P.underlying ty = some d) (hd : (match d with | .struct _ | .array _ _ => true | _ => false) = true) (hi : (P.info? ty).map (·.size) = some cs.size)
    (h : K (a.put o.dst (.agg cs)) w) : if Region.wanted o (yielded ops a.tmps) = true then Oper.wp P o a w K Q else E := by
  have hw : Region.wanted o (yielded ops a.tmps) = true := by simp [Region.wanted, hgd]
  rw [if_pos hw]
  exact wp_load_row ty x ho g hx t cs fr d hg hu hd hi h
/-- A whole array is stored. -/
theorem step_storerow {P : Program} {w : World} {ops : Array Oper} {o : Oper} {a : Act} {K : Act → World → Prop} {Q : Exit → Act → World → Prop} {E : Prop} (hgd : o.guard = none) (ty : TypeId) (x y : Operand) (ho : o.op = .store ty x y)
    (g : Nat) (cells : Array Value) (hx : a.eval x = .pointer (some ⟨g, 0, none⟩)) (hy : a.eval y = .agg cells)
    (t : TypeId) (old : Array Value) (hg : w.heap[g]? = some (.cells old t (0, 0))) (hi : (P.info? ty).map (·.size) = some cells.size)
    (hold : old.size = cells.size) (h1 : cells.all (·.oneCell') = true)
    (h : K (a.put o.dst undef) (w.setRow g cells)) : if Region.wanted o (yielded ops a.tmps) = true then Oper.wp P o a w K Q else E := by
  have hw : Region.wanted o (yielded ops a.tmps) = true := by simp [Region.wanted, hgd]
  rw [if_pos hw]
  exact wp_store_row ty x y ho g cells hx hy t old hg hi hold h1 h
end Gw
end
section
/- What the definition's own Shares (package shamrockref10) does. -/
namespace Go.Proofs.Ytaknffdokkfmgaa
open Go.RowKit Go.Shelf Gw Pol
theorem wrap_byte {x : Nat} (h : x < 256) : IntKind.u8.wrap (x : Int) = (x : Int) := by
  rw [IntKind.wrap_u8]; omega
/-- Holder h's share of the first C polynomials l. -/
def shRow (l : Nat → List Nat) (C h : Nat) : List Nat := (List.range C).map fun c => ev (h + 1) (l c)
theorem shRow_len (l : Nat → List Nat) (C h : Nat) : (shRow l C h).length = C := by simp [shRow]
theorem shRow_succ (l : Nat → List Nat) (C h : Nat) : shRow l (C + 1) h = shRow l C h ++ [ev (h + 1) (l C)] := by simp [shRow, List.range_succ]
/-- Some are done. -/
def shPart (l : Nat → List Nat) (C h c i : Nat) : List Nat := if i < h then shRow l C i else if i = h then shRow l c i else []
theorem shPart_step {l : Nat → List Nat} {C h c i : Nat} : upd (shPart l C h c) h (shRow l (c + 1) h) i = shPart l C h (c + 1) i := by
  unfold shPart upd
  by_cases e : i = h
  · subst e; simp
  · simp [e]
theorem shPart_next {l : Nat → List Nat} {C h i : Nat} : shPart l C h C i = shPart l C (h + 1) 0 i := by
  unfold shPart
  by_cases e : i < h
  · simp [e, show i < h + 1 by omega]
  · by_cases e2 : i = h
    · subst e2; simp
    · by_cases e3 : i = h + 1
      · subst e3; simp [shRow, show ¬ h + 1 < h by omega]
      · simp [e, e2, e3, show ¬ i < h + 1 by omega]
def ShRelO (w0 : World) (b0 n C : Nat) (l : Nat → List Nat) (i : Value) (wr : World) : Prop :=
  ∃ (h : Nat) (pa : Nat → Option Addr) (cp : Nat → Nat), i = .int .i64 (h : Int) ∧ h ≤ n ∧ Otb wr b0 5 b0 n pa cp (shPart l C h 0) ∧ Below b0 w0 wr
def ShRelI (w0 : World) (b0 n C h : Nat) (l : Nat → List Nat) (i : Value) (wr : World) : Prop :=
  ∃ (c : Nat) (pa : Nat → Option Addr) (cp : Nat → Nat), i = .int .i64 (c : Int) ∧ c ≤ C ∧ Otb wr b0 5 b0 n pa cp (shPart l C h c) ∧ Below b0 w0 wr
set_option maxRecDepth 100000 in
set_option maxHeartbeats 2000000 in
theorem rshares_any (n : Nat) (T K E R : Int) (hn : n ≤ 254) (A : Option Addr) (cc C : Nat) (P : Nat → Option Addr) (Cp : Nat → Nat) (l : Nat → List Nat) (w : World) (hM : MIn w w.heap.size A cc C P Cp l) (hC : C ≤ 4096) (hL : ∀ i, i < C → (l i).length ≤ 4096) :
    Calls Try.prog 24 #[pv n T K E R, .slice A C cc] w fun e w' => ∃ A2 c2 pa cp, e = .returned (.slice A2 n c2) ∧ MIn w' w'.heap.size A2 c2 n pa cp (shRow l C) ∧ Below w.heap.size w w' := by
  obtain ⟨i0, hi0, hz0, hz1, hz2⟩ := info_parts pbyte_info
  have hmk := run_make_row' (P := Try.prog) 35 28 (.slice none 0 0) 24 Try.underlying35 srow_info rfl .i64 .i64 n (by omega) (by omega)
  have hb0 : Below w.heap.size w (w.alloc (.cells #[.int .i64 (n : Int), .int .i64 T, .int .i64 K, .int .i64 E, .int .i64 R] 23)) := (Below.refl _ w).alloc (Nat.le_refl _) _
  have hpb0 := Pbx.new w 23 n T K E R
  obtain ⟨w0, hw0⟩ : ∃ w0, w0 = w.alloc (.cells #[.int .i64 (n : Int), .int .i64 T, .int .i64 K, .int .i64 E, .int .i64 R] 23) := ⟨_, rfl⟩
  have hO0 := Otb.made w0 28 5 n w0.heap.size (Nat.le_refl _)
  have hbm : Below w0.heap.size w0 (w0.alloc (.cells (madeCells #[.slice none 0 0] n) 28)) := (Below.refl _ _).alloc (Nat.le_refl _) _
  have hg0 : w0.heap.size = w.heap.size + 1 := by rw [hw0]; simp
  go_enter Try.func24, Try.ntmps24
  rw [← hw0] at hb0 hpb0
  obtain ⟨b0, hb0'⟩ : ∃ b0, b0 = w0.heap.size := ⟨_, rfl⟩
  rw [← hb0'] at hO0 hbm hg0
  have hO1 := hO0.congr (m := shPart l C 0 0) (fun i _ => by unfold shPart; by_cases e : i = 0 <;> simp [e, shRow])
  have HBW := Lib.hid hb0
  have hM0 := (hM.below hb0).more hb0.size
  clear hO0 hb0
  go_wp2
  rw [← hw0, ← hg0]
  have hlt0 : w.heap.size < b0 := by omega
  have hle0 : b0 ≤ w0.heap.size := by omega
  have hge0 : w0.heap.size ≤ b0 := by omega
  clear hw0 hmk hg0 hb0'
  go_loopw [6] (ShRelO w0 b0 n C l) (fun i _ => n - (intOf i).toNat)
  case atStart => exact ⟨0, _, _, rfl, Nat.zero_le _, hO1, hbm⟩
  case round =>
    clear hO1 hbm
    obtain ⟨h, pa, cp, rfl, hhn, hO, hbr⟩ := hrel
    have hpb := hpb0.below hbr (by omega)
    obtain ⟨c0, c1, c2, c3, c4⟩ := hpb
    by_cases hh : h < n
    · have HO := Lib.hid hO
      have HBR := Lib.hid hbr
      clear hO hbr
      go_wp2
      go_loopw [7] (ShRelI w0 b0 n C h l) (fun i _ => C - (intOf i).toNat)
      case atStart => exact ⟨0, _, _, rfl, Nat.zero_le _, HO.out, HBR.out⟩
      case round =>
        clear HO HBR c0 c1 c2 c3 c4
        obtain ⟨c, pa, cp, rfl, hcC, hO, hbr⟩ := hrel
        by_cases hc : c < C
        · have hhi : (h : Int) < (n : Int) := by omega
          have hci : (c : Int) < (C : Int) := by omega
          have hbs := hbr.size
          obtain ⟨bp, op, rfl, hbl, hcc, hIc⟩ := (hM0.below (hbr.mono (by omega))).rd c hc
          have hLc := hL c hc
          have hcap := hM0.cap
          obtain ⟨m, hm⟩ : ∃ m, m = (l c).length := ⟨_, rfl⟩
          rw [← hm] at hcc
          obtain ⟨x, hx⟩ : ∃ x, x = h + 1 := ⟨_, rfl⟩
          have e1 : (h : Int) + 1 = (x : Int) := by omega
          have hxb : x < 256 := by omega
          have e2 : IntKind.i64.wrap (x : Int) = (x : Int) := by rw [IntKind.wrap_i64]; omega
          have e3 : IntKind.u8.wrap (x : Int) = (x : Int) := wrap_byte hxb
          obtain ⟨y, hy⟩ : ∃ y, y = ev x (l c) := ⟨_, rfl⟩
          have hyb : y < 256 := by rw [hy]; exact ev_lt hIc.bb _
          have HEV : Hid (Calls Try.prog 31 #[.slice (P c) m (Cp c), .int .u8 (x : Int)] wr.drew fun e w' => e = .returned (.int .u8 (y : Int)) ∧ w' = wr.drew) :=
            Lib.hid ((reval' (P c) (Cp c) m (l c) x hxb wr.drew _ hm (hIc.drewN 1) (by omega)).mono fun e w' h => ⟨by rw [h.1, hy], h.2.symm⟩)
          have hrl : shPart l C h c h = shRow l c h := by simp [shPart]
          have hgc : wr.cell? ⟨b0, h, none⟩ = some (.slice (pa h) (shPart l C h c h).length (cp h)) := (hO.out h hh).1
          rw [hrl, shRow_len] at hgc
          have hrow := hO.row h hh
          rw [hrl] at hrow
          have HROW := Lib.hid hrow
          have HSR := Lib.hid (show shRow l (c + 1) h = shRow l c h ++ [y] by rw [shRow_succ, hy, hx])
          have HRLEN := Lib.hid (shRow_len l c h)
          have HL1 := Lib.hid (show (shRow l c h ++ [y]).length = c + 1 by rw [List.length_append, shRow_len]; rfl)
          have q1 : ∀ o, (wr.alloc o).cell? ⟨b0, h, none⟩ = some (.slice (pa h) c (cp h)) := fun o => (World.cell?_alloc_lt wr o _ (by show b0 < _; exact hO.glo.2)).trans hgc
          have HO := Lib.hid hO
          have HBR := Lib.hid hbr
          have hob := hO.glo
          clear hO hbr hrow hrl hIc hy hx hm hM0
          go_wp2
          go_region_law (first
            | (refine step_call rfl 31 _ _ rfl #[.slice (P c) m (Cp c), .int .u8 (x : Int)] (by kernel_rfl) (by first | rfl | (simp [Act.eval]; done) | (simp [Act.eval, Act.put]; done)) HEV.out ?_
               rintro e w2 ⟨rfl, rfl⟩
               refine ⟨_, rfl, ?_⟩)
            | (refine step_app_at rfl (.tmp 28) (.tmp 37) 28 rfl b0 5 i0 _ Try.underlying28 hi0 hz0 hz1 hz2 rfl (pa h) c (cp h) (shRow l c h) (by first | rfl | (simp [Act.eval]; done) | (simp [Act.eval, Act.put]; done)) HRLEN.out.symm ((HROW.out.alloc _).drewN 1) (wr.heap.size + 1) ⟨wr.heap.size, 0, none⟩ 1 1 [y] (by first | rfl | (simp [Act.eval]; done) | (simp [Act.eval, Act.put]; done)) rfl ((Sl.one wr 5 y hyb).drewN 1) (by rw [HRLEN.out]; simp; omega) (by show b0 ≤ (wr.alloc _).heap.size; rw [World.size_alloc]; omega) ?_
               intro A2 c2 w2 hown2 hgr2 hloc2
               obtain ⟨k5, f5, hfin⟩ := HO.out.app hh _ hgr2 hown2 hloc2
               rw [HL1.out]))
          all_goals (
            have HF := Lib.hid (hfin (c + 1) HL1.out.symm)
            clear hfin hown2 hgr2 hloc2 k5 f5 q1 hgc hcc
            go_wp2
            go_roundw
            case rel => exact ⟨c + 1, _, _, by go_num, by omega, HF.out.1.congr (fun i _ => by rw [← HSR.out]; exact shPart_step), HBR.out.trans HF.out.2⟩
            case measure => simp [intOf]; omega)
        · obtain rfl : c = C := by omega
          have HO := Lib.hid (hO.congr (m := shPart l c (h + 1) 0) (fun i _ => shPart_next))
          have HBR := Lib.hid hbr
          clear hO hbr
          go_wp2
          go_roundw
          case rel => exact ⟨h + 1, _, _, by go_num, by omega, HO.out, HBR.out⟩
          case measure => simp [intOf]; omega
    · obtain rfl : h = n := by omega
      have HMM := Lib.hid ((hO.congr (m := shRow l C) (fun i hi => by unfold shPart; rw [if_pos hi])).min h (Nat.le_refl _))
      have HB2 := Lib.hid (HBW.out.trans (hbr.mono (by omega)))
      clear hO hbr
      go_wp2
      go_ret
      exact ⟨_, _, _, _, rfl, HMM.out, HB2.out⟩
end Go.Proofs.Ytaknffdokkfmgaa
end
