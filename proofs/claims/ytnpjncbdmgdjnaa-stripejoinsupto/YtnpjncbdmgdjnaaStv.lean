/- stripe: Split. -/
import Derived.Test.YtnpjncbdmgdjnaaSty
import Derived.Test.YtnpjncbdmgdjnaaCpw
import Derived.Test.YtnpjncbdmgdjnaaSpn
import Derived.Test.YtnpjncbdmgdjnaaRsp
import Derived.RegionIn
import Derived.BigRegionIn
namespace Go.Proofs.Ytnpjncbdmgdjnaa
open Go.RowKit Go.Shelf Gw Pol
attribute [local go_sem] Oper.semAt_some

theorem ocell {w : World} {b o : Nat} {v : Value} (h : w.cell? ⟨b, o, none⟩ = some v) (ob : Obj) : (w.alloc ob).cell? ⟨b, o, none⟩ = some v := (World.cell?_alloc_lt w ob ⟨b, o, none⟩ (cell_lt h)).trans h
theorem ncell (w : World) (v : Value) (t : TypeId) (b : Nat) (h : b = w.heap.size) : (w.alloc (.cells #[v] t)).cell? ⟨b, 0, none⟩ = some v := by
  subst h; exact World.cell?_alloc_new w #[v] t 0
theorem nrow (w : World) (z : Value) (t : TypeId) (n b : Nat) (h : b = w.heap.size) : Row (w.alloc (.cells (madeCells #[z] n) t)) b n (fun _ => z) := fun o ho => by
  subst h
  refine ⟨?_, World.frozen?_alloc_new w _ t o⟩
  rw [World.cell?_alloc_new w _ t o]
  simp [madeCells, ho, Nat.mod_one]
theorem orow {w : World} {b n : Nat} {f : Nat → Value} (h : Row w b n f) (hb : b < w.heap.size) (ob : Obj) : Row (w.alloc ob) b n f := h.below ((Below.refl _ _).alloc (Nat.le_refl _) ob) hb
/-- Split's boxes ahead of the range. -/
structure Five (w : World) (R k : Nat) (vd : Value) (W : World) : Prop where
  row : Row W (w.heap.size + 1) R (fun _ => .slice none 0 0)
  c0 : W.cell? ⟨w.heap.size, 0, none⟩ = some (.int .i64 (k : Int))
  c2 : W.cell? ⟨w.heap.size + 2, 0, none⟩ = some (.slice (some ⟨w.heap.size + 1, 0, none⟩) R R)
  c3 : W.cell? ⟨w.heap.size + 3, 0, none⟩ = some vd
  c4 : W.cell? ⟨w.heap.size + 4, 0, none⟩ = some (.int .i64 (k : Int))
  sz : W.heap.size = w.heap.size + 5
  bl : Below w.heap.size w W
theorem five (w : World) (R k : Nat) (vd : Value) (t0 t1 t2 t3 t4 : TypeId) :
    Five w R k vd (((((w.alloc (.cells #[.int .i64 (k : Int)] t0)).alloc (.cells (madeCells #[.slice none 0 0] R) t1)).alloc (.cells #[.slice (some ⟨w.heap.size + 1, 0, none⟩) R R] t2)).alloc (.cells #[vd] t3)).alloc (.cells #[.int .i64 (k : Int)] t4)) := by
  refine ⟨orow (orow (orow (nrow _ _ _ _ _ (by simp)) (by simp) _) (by simp) _) (by simp) _, ?_, ?_, ?_, ?_, by simp, ?_⟩
  · exact ocell (ocell (ocell (ocell (ncell _ _ _ _ rfl) _) _) _) _
  · exact ocell (ocell (ncell _ _ _ _ (by simp)) _) _
  · exact ocell (ncell _ _ _ _ (by simp)) _
  · exact ncell _ _ _ _ (by simp)
  · exact ((((Below.refl _ w).alloc (Nat.le_refl _) _).alloc (by simp) _).alloc (by simp; omega) _).alloc (by simp; omega) _ |>.alloc (by simp; omega) _

/-- Between two rounds: q columns are there. -/
def SpI (w : World) (R k : Nat) (d : List Nat) (pre : List Nat) (W : World) : Prop :=
  ∃ bs : Nat → Nat, (W.cell? ⟨w.heap.size, 0, none⟩ = some (.int .i64 (k : Int)) ∧ W.cell? ⟨w.heap.size + 2, 0, none⟩ = some (.slice (some ⟨w.heap.size + 1, 0, none⟩) R R) ∧
    Row W (w.heap.size + 1) R (fun i => if i < pre.length then .slice (some ⟨bs i, 0, none⟩) k k else .slice none 0 0) ∧
    ∀ i, i < pre.length → Gw.Own W (w.heap.size + 5) 5 (some ⟨bs i, 0, none⟩) k (Sp.col d k i)) ∧ Below w.heap.size w W ∧ w.heap.size + 5 ≤ W.heap.size
theorem SpI.own (w : World) (R k : Nat) (d : List Nat) (B : Nat) (hB : w.heap.size ≤ B) : OwnFrom B (SpI w R k d) := by
  rintro pre A C row ⟨bs, ⟨h1, h2, h3, h4⟩, h5, h6⟩ hg hr
  have hr' : ∀ r, row = some r → ∃ o : Obj, A.heap[r]? = some o ∧ o.isCells = false := fun r e => (hr r e).2
  exact ⟨bs, ⟨cell_kept h1 hg hr', cell_kept h2 hg hr', Gw.Row.turned h3 hg hr', fun i hi => (h4 i hi).turned hg hr'⟩, ownFrom_below (β := Nat) (Nat.le_refl _) hB 0 A C row h5 hg hr, Nat.le_trans h6 hg.size⟩

/-- What a round has done. -/
theorem spl_round {w W X W3 : World} {R k q : Nat} {d : List Nat} {bs : Nat → Nat} {ob : Obj} (hB : Below w.heap.size w W) (hWs : w.heap.size + 5 ≤ W.heap.size)
    (d0 : W.cell? ⟨w.heap.size, 0, none⟩ = some (.int .i64 (k : Int))) (d2 : W.cell? ⟨w.heap.size + 2, 0, none⟩ = some (.slice (some ⟨w.heap.size + 1, 0, none⟩) R R))
    (hrow : Row W (w.heap.size + 1) R (fun i => if i < q then .slice (some ⟨bs i, 0, none⟩) k k else .slice none 0 0)) (hcols : ∀ i, i < q → Gw.Own W (w.heap.size + 5) 5 (some ⟨bs i, 0, none⟩) k (Sp.col d k i)) (hq : q < R)
    (hX : X = ((W.alloc ob).setCell ⟨w.heap.size + 1, q, none⟩ (.slice (some ⟨W.heap.size, 0, none⟩) k k)).drew) (hown : Gw.Own W3 W.heap.size 5 (some ⟨W.heap.size, 0, none⟩) k (Sp.col d k q)) (hg : X.grownBy W3 (some W.heap.size)) :
    KeepsOthers W W3 ∧ KpT (w.heap.size + 3) (w.heap.size + 4) W W3 ∧ SpI w R k d (List.range q ++ [q]) W3 := by
  have hsX : X.heap.size = W.heap.size + 1 := by rw [hX]; simp [World.drew, World.setCell]
  have kX : Gw.Kt (w.heap.size + 1) (w.heap.size + 2) W X := by
    rw [hX]
    exact (((Gw.Kt.refl _ _ W).alloc ob).set (p := ⟨w.heap.size + 1, q, none⟩) ⟨Nat.le_refl _, by show w.heap.size + 1 < _; omega⟩ _).drew
  have k3 : Gw.Kt (w.heap.size + 1) (w.heap.size + 2) W W3 := ⟨hg.os.trans kX.os, hg.tape.trans kX.tape, hg.output.trans kX.output, by have := hg.size; omega, fun i h1 h2 => (hg.block i (by omega) (fun e => by injection e with e; omega)).trans (kX.block i h1 h2)⟩
  have f1 := (hrow q hq).1
  have hrX : Row X (w.heap.size + 1) R (fun i => if i < q + 1 then .slice (some ⟨if i = q then W.heap.size else bs i, 0, none⟩) k k else .slice none 0 0) := by
    have h1 := (orow hrow (cell_lt f1) ob).set hq (.slice (some ⟨W.heap.size, 0, none⟩) k k)
    rw [hX]
    refine Row.congr (fun o ho => ⟨(h1 o ho).1, (h1 o ho).2⟩) fun i hi => ?_
    by_cases e : i = q
    · subst e; simp
    · by_cases e2 : i < q
      · simp [e, e2, show i < q + 1 by omega]
      · simp [e, e2, show ¬ i < q + 1 by omega]
  have hb1 : W3.heap[w.heap.size + 1]? = X.heap[w.heap.size + 1]? := hg.block _ (by omega) (fun e => by injection e with e; omega)
  refine ⟨⟨k3.size, fun j o hj hc => ?_⟩, fun j hj => k3.block j (by omega) (by omega), ⟨fun i => if i = q then W.heap.size else bs i, ⟨k3.cell d0 (by omega), k3.cell d2 (by omega), ?_, fun i hi => ?_⟩, hB.trans ((k3.below (by omega)).mono (by omega)), by have := k3.size; omega⟩⟩
  · refine (k3.block j (Array.getElem?_eq_some_iff.1 hj).1 (fun h => ?_)).trans hj
    obtain rfl : j = w.heap.size + 1 := by omega
    obtain ⟨ob', h1, h2⟩ := cells_of_cell f1
    rw [hj] at h1
    injection h1 with h1
    subst h1
    rw [hc] at h2; cases h2
  · rw [List.length_append, List.length_range]
    exact fun o ho => ⟨(World.cell?_of_block (w := X) (a := ⟨w.heap.size + 1, o, none⟩) hb1).trans (hrX o ho).1, (World.frozen?_of_block (w := X) (a := ⟨w.heap.size + 1, o, none⟩) hb1).trans (hrX o ho).2⟩
  · rw [List.length_append, List.length_range] at hi
    by_cases e : i = q
    · subst e
      simp only [if_true]
      exact hown.base hWs
    · simp only [if_neg e]
      exact (hcols i (by simp at hi; omega)).kt k3 (by omega)

set_option maxRecDepth 100000 in
set_option maxHeartbeats 500000 in
theorem ssplit_in (A : Option Addr) (c N k : Nat) (d : List Nat) (w : World) (hN : N = d.length) (hI : In w w.heap.size A c d) (hk0 : 0 < k) (hk : k ≤ 255) (hNb : N ≤ 1048577) :
    CallsIn Fence.wide 6 Try.prog 9 #[.slice A N c, .int .i64 (k : Int)] w fun e w' => ∃ A2 c2 pa cp, e = .returned (.slice A2 (Sp.cnt N k) c2) ∧ Cs w w' A2 c2 (Sp.cnt N k) k pa cp (Sp.col d k) := by
  have hcap := hI.cap
  obtain ⟨b, off, hA⟩ : ∃ b off, 0 < N → A = some ⟨b, off, none⟩ := by
    by_cases h0 : 0 < N
    · obtain ⟨x, b, off, _, _, h, _, _⟩ := hI.sl.at_ (k := 0) (by omega)
      exact ⟨b, off, fun _ => h⟩
    · exact ⟨0, 0, fun h => absurd h h0⟩
  have hRN := Sp.cnt_le N k
  have HC := Lib.hid (scols_nat N k (by omega) (by omega) (w.alloc (.cells #[.int .i64 (k : Int)] 3)))
  obtain ⟨R, hR⟩ : ∃ R, R = Sp.cnt N k := ⟨_, rfl⟩
  rw [← hR] at HC hRN ⊢
  have HR := Lib.hid hR
  clear hR
  have HN := Lib.hid hN
  clear hN
  have hmk := run_make_row' (P := Try.prog) 24 22 (.slice none 0 0) 24 Try.underlying24 srow_info rfl .i64 .i64 R (by omega) (by omega)
  have hmk2 := run_make_row' (P := Try.prog) 22 5 (.int .u8 0) 1 Try.underlying22 pbyte_info rfl .i64 .i64 k (by omega) (by omega)
  refine callsIn_of_wp_marks Try.func9 rfl trivial ?_ rfl
  simp only [Try.ntmps9, List.size_toArray, List.length_cons, List.length_nil, Nat.reduceAdd, Nat.reduceSub, Array.replicate_succ, Array.replicate_zero, List.push_toArray, List.append_toArray, List.nil_append, List.cons_append]
  gi_wp2_with fail
  refine ⟨trivial, ?_⟩
  refine (callsIn_wide.2 HC.out).mono ?_
  rintro e w1 ⟨rfl, rfl⟩
  have e0 := ocell (ocell (ncell w (.int .i64 (k : Int)) 3 _ rfl) (.cells (madeCells #[.slice none 0 0] R) 22)) (.cells #[.slice (some ⟨w.heap.size + 1, 0, none⟩) R R] 24)
  gi_wp2_with fail
  refine ⟨trivial, ?_⟩
  refine (callsIn_wide.2 (spieces_mk A N c k _)).mono ?_
  rintro e w' ⟨rfl, rfl⟩
  gi_wp2
  clear e0 hmk
  have h5 := five w R k (.slice A N c) 3 22 24 22 3
  have hsz := h5.sz
  refine Gq.range_pre (by omega) (gf := 16) (lb := #[.pointer (some ⟨w.heap.size + 3, 0, none⟩), .pointer (some ⟨w.heap.size + 4, 0, none⟩)]) rfl (enters_of Try.func16 (by kernel_rfl) rfl)
    (spieces_pre (6 - 1) (by omega) (w.heap.size + 3) (w.heap.size + 4) b off N c k A hA hk0 (by omega) (by omega) (by rw [HN.out]; exact hcap) _ h5.c3 h5.c4)
    (fun h k => KpT.trans h k) (fun W l o o' hl _ _ b hb => World.putObj_heap_other (by omega)) (fun _ => rfl) (fun _ _ _ _ _ hs _ _ => hs)
    (SpI w R k d) (SpI.own w R k d _ (by omega))
    ⟨fun _ => 0, ⟨h5.c0, h5.c2, h5.row.congr (fun o _ => by simp), fun i hi => by simp at hi⟩, h5.bl, by omega⟩
    (fun i => { tmps := #[.slice A N c, .int .i64 (k : Int), undef, .pointer (some ⟨w.heap.size, 0, none⟩), .slice none 0 0, .pointer (some ⟨w.heap.size + 2, 0, none⟩), .int .i64 (i : Int), .slice (some ⟨b, off + i * k, none⟩) (min k (N - i * k)) (c - i * k), .int .i64 (k : Int), .bool (decide ((k : Int) < 1)), .bool (decide ((k : Int) < 1)), .int .i64 (k : Int), .bool (decide (2147483647 < (k : Int))), .bool (decide ((k : Int) < 1) || decide (2147483647 < (k : Int))), .slice A N c, .int .i64 (N : Int), .int .i64 (k : Int), .int .i64 (R : Int), .slice (some ⟨w.heap.size + 1, 0, none⟩) R R, .slice A N c, .int .i64 (k : Int), .func (.func 16) #[] #[.pointer (some ⟨w.heap.size + 3, 0, none⟩), .pointer (some ⟨w.heap.size + 4, 0, none⟩)], .int .i64 (i : Int), .slice (some ⟨b, off + i * k, none⟩) (min k (N - i * k)) (c - i * k), undef, undef, undef, undef, undef, undef, undef, undef, undef, undef, undef, undef], defers := [] }) ?assign ?body ?done
  case assign =>
    intro l x W K hK
    gi_wp2
    exact hK
  case body =>
    rintro lb pre q W ⟨bs, ⟨d0, d2, hrow, hcols⟩, hB, hWs⟩ ⟨rfl, hq⟩
    rw [List.length_range] at hrow hcols
    rw [← HR.out] at hq
    clear h5
    have hqi : (q : Int) < (R : Int) := by omega
    have f1 : W.cell? ⟨w.heap.size + 1, q, none⟩ = some (.slice none 0 0) := by
      have := (hrow q hq).1
      simpa using this
    have f2 := (hrow q hq).2
    have g0 := ocell d0 (.cells (madeCells #[.int .u8 0] k) 5)
    have g2 := ocell d2 (.cells (madeCells #[.int .u8 0] k) 5)
    have g1 := ocell f1 (.cells (madeCells #[.int .u8 0] k) 5)
    have g3 : (W.alloc (.cells (madeCells #[.int .u8 0] k) 5)).frozen? ⟨w.heap.size + 1, q, none⟩ = false := (orow hrow (cell_lt f1) _ q hq).2
    have hqk := (Sp.cnt_lt (n := N) hk0).1 (by rw [← HR.out]; exact hq)
    have hAe := hA (by omega)
    obtain ⟨X, hX⟩ : ∃ X, X = ((W.alloc (.cells (madeCells #[.int .u8 0] k) 5)).setCell ⟨w.heap.size + 1, q, none⟩ (.slice (some ⟨W.heap.size, 0, none⟩) k k)).drew := ⟨_, rfl⟩
    have hownX : Gw.Own X W.heap.size 5 (some ⟨W.heap.size, 0, none⟩) k (List.replicate k 0) := by
      rw [hX]
      have h1 := Own.made W 5 k (by omega)
      refine ⟨⟨h1.1.1, ?_⟩, h1.2⟩
      rcases h1.1.2 with h0 | ⟨g, cap, cur, hv, hb, hgb, h0⟩
      · exact .inl h0
      · refine .inr ⟨g, cap, cur, hv, hb, ?_, h0⟩
        exact (Below.heap_setCell _ ⟨w.heap.size + 1, q, none⟩ _ g (by show g ≠ w.heap.size + 1; omega)).trans hgb
    have hBX : Below w.heap.size w X := by
      rw [hX]
      exact ((hB.alloc (by omega) _).setCell (p := ⟨w.heap.size + 1, q, none⟩) (by show w.heap.size ≤ w.heap.size + 1; omega) _).drew
    obtain ⟨m, hm⟩ : ∃ m, m = min k (N - q * k) := ⟨_, rfl⟩
    have hp : Sl X w.heap.size (some ⟨b, off + q * k, none⟩) ((d.drop (q * k)).take m) := by
      have h1 := ((hI.sl.drop (q * k)).take m).below hBX
      rw [hAe] at h1
      exact h1
    have hpl : m = ((d.drop (q * k)).take m).length := by rw [List.length_take, List.length_drop, ← HN.out]; omega
    obtain ⟨W3, hrun, hown3, hg3⟩ := run_copy_into (P := Try.prog) 22 3 5 Try.underlying22 (by kernel_rfl) hownX 0 k k (by simp) m (c - q * k) hp hpl
    have hcol : (List.replicate k 0).take 0 ++ (((d.drop (q * k)).take m).take k ++ (List.replicate k 0).drop (0 + min m k)) = Sp.col d k q := by
      rw [Sp.col_piece d k q m (by rw [← HN.out]; exact hm), List.take_zero, List.nil_append, List.take_of_length_le (by omega), List.drop_replicate]
      congr 2; omega
    rw [hcol] at hown3
    have HFIN := Lib.hid (spl_round hB hWs d0 d2 hrow hcols hq hX hown3 hg3)
    rw [hX] at hrun
    rw [← hm]
    clear hX hm hown3 hg3 hcol hrow hcols hownX hBX hp hpl hqk hAe hA
    gi_wp2
    gi_region
    all_goals (gi_wp2; exact HFIN.out)
  case done =>
    rintro D pre W hD hS ⟨bs, ⟨d0, d2, hrow, hcols⟩, hB, hWs⟩ hK
    subst hS
    rw [List.length_range, ← HR.out] at hrow hcols
    clear h5
    gi_wp2
    refine ⟨by simp, .inl ⟨_, _, rfl, run_takeDeferred hK, ?_⟩⟩
    have hb2 : Below w.heap.size W (W.putObj D (.deferred none)) := belowK_b (w := w) (Nat.le_refl _) W D _ _ (by omega) hK rfl rfl
    have hg2 := grownBy_putObj' W D (.deferred none)
    have hr2 : ∀ r, some D = some r → ∃ o : Obj, W.heap[r]? = some o ∧ o.isCells = false := fun r e => by cases e; exact ⟨_, hK, rfl⟩
    have hrow2 := Gw.Row.turned hrow hg2 hr2
    have hcols2 := fun i hi => (hcols i hi).turned hg2 hr2
    have hbe := hB.trans hb2
    refine ⟨_, results_tmp rfl _ _ _, some ⟨w.heap.size + 1, 0, none⟩, R, fun i => some ⟨bs i, 0, none⟩, fun _ => k, rfl, ⟨⟨fun i hi => ?_, Nat.le_refl _, fun h => by cases h⟩, hbe, fun g o h _ => by injection h with h; injection h with h; omega, fun i hi b o h => ?_⟩⟩
    · have h1 := (hrow2 i hi).1
      simp only [if_pos hi] at h1
      exact ⟨_, 0, rfl, cell_lt h1, by rw [Nat.zero_add, h1, Sp.col_len], (hcols2 i hi).inn⟩
    · injection h with h
      injection h with h1 h2
      subst h1 h2
      have h3 := (hcols2 i hi).lt
      exact ⟨by omega, fun g o' h => by injection h with h; injection h with h; omega, fun j hj => by rw [Nat.zero_add]; exact (hcols2 i hi).frozen j⟩
theorem ssplit_any (A : Option Addr) (c N k : Nat) (d : List Nat) (w : World) (hN : N = d.length) (hI : In w w.heap.size A c d) (hk : k ≤ 255) (hNb : N ≤ 1048577) : Calls Try.prog 9 #[.slice A N c, .int .i64 (k : Int)] w fun e w' => ∃ A2 c2 pa cp, e = .returned (.slice A2 (Sp.cnt N k) c2) ∧ Cs w w' A2 c2 (Sp.cnt N k) k pa cp (Sp.col d k) := by
  by_cases hk0 : 0 < k
  · exact callsIn_wide.1 (ssplit_in A c N k d w hN hI hk0 hk hNb)
  · obtain rfl : k = 0 := by omega
    have HZ := Lib.hid (Sp.cnt_none N)
    go_enter Try.func9, Try.ntmps9
    go_wp2
    go_ret
    rw [HZ.out]
    exact ⟨none, 0, fun _ => none, fun _ => 0, rfl, ⟨⟨fun i hi => by omega, Nat.le_refl _, fun _ => rfl⟩, (Below.refl _ _).alloc (Nat.le_refl _) _, fun _ _ h _ => (by cases h), fun i hi => by omega⟩⟩
end Go.Proofs.Ytnpjncbdmgdjnaa
