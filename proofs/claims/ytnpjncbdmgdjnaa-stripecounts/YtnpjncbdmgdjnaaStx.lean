/- stripe: Join. -/
import Derived.Test.YtnpjncbdmgdjnaaStv
import Derived.Sort.QuietIn
import Derived.BigQuiet
namespace Go.Proofs.Ytnpjncbdmgdjnaa
open Go.RowKit Go.Shelf Gw Pol Go.BigFrame
attribute [local go_sem] Oper.semAt_some
theorem wide_fn (f : FuncId) : Fence.wide.fn f = True := rfl
attribute [local go_sem] wide_fn

/-- Has each column k bytes? -/
def allK (l : Nat → List Nat) (R : Nat) (k : Int) : Bool := decide (∀ i, i < R → ((l i).length : Int) = k)
theorem sall_any (A : Option Addr) (c R B : Nat) (k : Int) (P : Nat → Option Addr) (C : Nat → Nat) (l : Nat → List Nat) (w : World) (h : MIn w B A c R P C l) (hR : R ≤ 9223372036854775807) :
    Calls Try.prog 15 #[.slice A R c, .int .i64 k] w fun e w' => e = .returned (.bool (allK l R k)) ∧ w' = w := by
  go_enter Try.func15, Try.ntmps15
  go_wp2
  go_loop [9] (fun i => ∃ q : Nat, q ≤ R ∧ i = .int .i64 (q : Int) ∧ ∀ j, j < q → ((l j).length : Int) = k) (fun i => R - (intOf i).toNat)
  case atStart => exact ⟨0, Nat.zero_le _, rfl, fun j hj => by omega⟩
  case round =>
    obtain ⟨q, hq, rfl, hall⟩ := hrel
    by_cases hlt : q < R
    · obtain ⟨b, off, rfl, _, hc, _⟩ := h.rd q hlt
      by_cases he : ((l q).length : Int) = k
      · have HA := Lib.hid (show ∀ j, j < q + 1 → ((l j).length : Int) = k from fun j hj => by
          by_cases e : j = q
          · subst e; exact he
          · exact hall j (by omega))
        clear hall
        have hb : (((l q).length : Int) == k) = true := by rw [beq_iff_eq]; exact he
        obtain ⟨m, hm⟩ : ∃ m, m = (l q).length := ⟨_, rfl⟩
        rw [← hm] at hc he hb
        clear hm
        subst he
        go_wp2
        go_round
        case rel => exact ⟨q + 1, by omega, by go_num, HA.out⟩
        case measure => simp [intOf]; omega
      · have HF := Lib.hid (show allK l R k = false from decide_eq_false fun h => he (h q hlt))
        have hb : (((l q).length : Int) == k) = false := by rw [beq_eq_false_iff_ne]; exact he
        clear hall
        go_wp2
        go_ret
        exact ⟨by rw [HF.out]; rfl, rfl⟩
    · obtain rfl : q = R := by omega
      have HT := Lib.hid (show allK l q k = true from decide_eq_true hall)
      go_wp2
      go_ret
      exact ⟨by rw [HT.out]; rfl, rfl⟩
theorem sjoin_no (A : Option Addr) (c R : Nat) (s k : Int) (P : Nat → Option Addr) (C : Nat → Nat) (l : Nat → List Nat) (w : World) (h : MIn w w.heap.size A c R P C l) (hs : (Lit.int .i64 s).wf = true) (hk : (Lit.int .i64 k).wf = true) (hT : tot l R + R ≤ 1048576) (hno : s < 0 ∨ k < 1 ∨ (R : Int) ≠ Sp.colsZ s k ∨ ∃ i, i < R ∧ ((l i).length : Int) ≠ k) : Calls Try.prog 11 #[.slice A R c, .int .i64 s, .int .i64 k] w fun e w' => ∃ A2 c2, e = .returned (.tuple #[.slice A2 0 c2, .bool false]) ∧ Below w.heap.size w w' := by
  have hbel : ∀ n, Below w.heap.size w ((w.alloc (.cells #[.slice A R c] 24)).drewN n) := fun n => Gw.Below.drewN ((Below.refl _ _).alloc (Nat.le_refl _) _) n
  have HC : ∀ W, Calls Try.prog 10 #[.int .i64 s, .int .i64 k] W fun e w' => e = .returned (.int .i64 (Sp.colsZ s k)) ∧ w' = W := scols_same s k hs hk
  have HL : ∀ n, Calls Try.prog 15 #[.slice A R c, .int .i64 k] ((w.alloc (.cells #[.slice A R c] 24)).drewN n) fun e w' => e = .returned (.bool (allK l R k)) ∧ w' = ((w.alloc (.cells #[.slice A R c] 24)).drewN n) := fun n => sall_any A c R w.heap.size k P C l _ (h.below (hbel n)) (by omega)
  by_cases h1 : s < 0
  · have d1 : decide (s < 0) = true := decide_eq_true h1
    clear hno HC HL
    go_enter Try.func11, Try.ntmps11
    go_wp2
    go_quiet (fail)
    go_wp2
    go_ret2
    exact ⟨_, _, rfl, hbel _⟩
  have d1 : decide (s < 0) = false := decide_eq_false h1
  by_cases h2 : k < 1
  · have d2 : decide (k < 1) = true := decide_eq_true h2
    clear hno HC HL
    go_enter Try.func11, Try.ntmps11
    go_wp2
    go_quiet (fail)
    go_wp2
    go_ret2
    exact ⟨_, _, rfl, hbel _⟩
  have d2 : decide (k < 1) = false := decide_eq_false h2
  obtain ⟨z, hz⟩ : ∃ z, z = Sp.colsZ s k := ⟨_, rfl⟩
  rw [← hz] at HC hno
  clear hz
  by_cases h3 : (R : Int) ≠ z
  · have d3 : ((R : Int) == z) = false := beq_eq_false_iff_ne.2 h3
    clear hno HL
    go_enter Try.func11, Try.ntmps11
    go_wp2
    go_quiet ((go_at_call 10; exact Calls.quiet_of_same (HC _)))
    go_wp2
    go_ret2
    exact ⟨_, _, rfl, hbel _⟩
  · have d3 : (R : Int) = z := by omega
    subst d3
    have hF : allK l R k = false := decide_eq_false fun h => by
      rcases hno with h4 | h4 | h4 | ⟨i, hi, h4⟩
      · exact h1 h4
      · exact h2 h4
      · exact h4 rfl
      · exact h4 (h i hi)
    rw [hF] at HL
    clear hno
    go_enter Try.func11, Try.ntmps11
    go_wp2
    go_quiet ((first | (go_at_call 10; exact Calls.quiet_of_same (HC _)) | (go_at_call 15; exact Calls.quiet_of_same (HL _))))
    go_wp2
    go_ret2
    exact ⟨_, _, rfl, hbel _⟩

/-- Join's boxes ahead of the range. -/
structure Jbx (w : World) (sz k : Nat) (vc : Value) (W : World) : Prop where
  own : Gw.Own W (w.heap.size + 1) 5 (some ⟨w.heap.size + 1, 0, none⟩) sz (List.replicate sz 0)
  c0 : W.cell? ⟨w.heap.size, 0, none⟩ = some vc
  c2 : W.cell? ⟨w.heap.size + 2, 0, none⟩ = some (.slice (some ⟨w.heap.size + 1, 0, none⟩) sz sz)
  c3 : W.cell? ⟨w.heap.size + 3, 0, none⟩ = some (.int .i64 (k : Int))
  sz' : W.heap.size = w.heap.size + 4
  bl : Below w.heap.size w W
theorem jbx (w : World) (sz k n : Nat) (hsz : sz ≤ 140737488355328) (vc : Value) (t0 t2 t3 : TypeId) :
    Jbx w sz k vc (((((w.alloc (.cells #[vc] t0)).drewN n).alloc (.cells (madeCells #[.int .u8 0] sz) 5)).alloc (.cells #[.slice (some ⟨w.heap.size + 1, 0, none⟩) sz sz] t2)).alloc (.cells #[.int .i64 (k : Int)] t3)) := by
  have hs : ((w.alloc (.cells #[vc] t0)).drewN n).heap.size = w.heap.size + 1 := by simp [World.drewN]
  refine ⟨?_, ?_, ?_, ?_, by simp [World.drewN], ?_⟩
  · have h := Own.made ((w.alloc (.cells #[vc] t0)).drewN n) 5 sz hsz
    rw [hs] at h
    exact (h.alloc _).alloc _
  · exact ocell (ocell (ocell (w := (w.alloc (.cells #[vc] t0)).drewN n) (ncell w vc t0 _ rfl) _) _) _
  · exact ocell (ncell _ _ _ _ (by simp [World.drewN])) _
  · exact ncell _ _ _ _ (by simp [World.drewN])
  · exact (((Gw.Below.drewN ((Below.refl _ w).alloc (Nat.le_refl _) _) n).alloc (by omega) _).alloc (by simp [World.drewN]; omega) _).alloc (by simp [World.drewN]; omega) _
def JnI (w : World) (vc : Value) (l : Nat → List Nat) (sz k : Nat) (pre : List Nat) (W : World) : Prop :=
  (W.cell? ⟨w.heap.size, 0, none⟩ = some vc ∧ Gw.Own W (w.heap.size + 1) 5 (some ⟨w.heap.size + 1, 0, none⟩) sz (Sp.part l sz k pre.length)) ∧ Below w.heap.size w W ∧ w.heap.size + 4 ≤ W.heap.size
theorem JnI.own (w : World) (vc : Value) (l : Nat → List Nat) (sz k : Nat) (B : Nat) (hB : w.heap.size ≤ B) : OwnFrom B (JnI w vc l sz k) := by
  rintro pre A C row ⟨⟨h1, h2⟩, h5, h6⟩ hg hr
  have hr' : ∀ r, row = some r → ∃ o : Obj, A.heap[r]? = some o ∧ o.isCells = false := fun r e => (hr r e).2
  exact ⟨⟨cell_kept h1 hg hr', h2.turned hg hr'⟩, ownFrom_below (β := Nat) (Nat.le_refl _) hB 0 A C row h5 hg hr, Nat.le_trans h6 hg.size⟩

set_option maxRecDepth 100000 in
set_option maxHeartbeats 500000 in
theorem sjoin_in (A : Option Addr) (c R k sz : Nat) (P : Nat → Option Addr) (C : Nat → Nat) (l : Nat → List Nat) (w : World) (h : MIn w w.heap.size A c R P C l) (hR : R = Sp.cnt sz k) (hk : 0 < k) (hk2 : k ≤ 9223372036854775807) (hl : ∀ i, i < R → (l i).length = k) (hT : R * k ≤ 2097152) :
    CallsIn Fence.wide 6 Try.prog 11 #[.slice A R c, .int .i64 (sz : Int), .int .i64 (k : Int)] w fun e w' => ∃ A2 c2, e = .returned (.tuple #[.slice A2 sz c2, .bool true]) ∧ In w' w'.heap.size A2 c2 ((Sp.cat l R).take sz) ∧ Below w.heap.size w w' := by
  have hall := Sp.cnt_all (n := sz) hk
  rw [← hR] at hall
  have hszb : sz ≤ 2097152 := by omega
  have hRb : R ≤ sz := by rw [hR]; exact Sp.cnt_le sz k
  have d1 : decide ((sz : Int) < 0) = false := decide_eq_false (by omega)
  have d2 : decide ((k : Int) < 1) = false := decide_eq_false (by omega)
  have hT' : allK l R (k : Int) = true := decide_eq_true fun i hi => by rw [hl i hi]
  have hbel : ∀ n, Below w.heap.size w ((w.alloc (.cells #[.slice A R c] 24)).drewN n) := fun n => Gw.Below.drewN ((Below.refl _ _).alloc (Nat.le_refl _) _) n
  have HC : ∀ W, CallsIn Fence.wide 5 Try.prog 10 #[.int .i64 (sz : Int), .int .i64 (k : Int)] W fun e w' => e = .returned (.int .i64 (R : Int)) ∧ w' = W := fun W => callsIn_wide.2 (by rw [hR]; exact scols_nat sz k (by omega) hk2 W)
  have HL : ∀ n, CallsIn Fence.wide 5 Try.prog 15 #[.slice A R c, .int .i64 (k : Int)] ((w.alloc (.cells #[.slice A R c] 24)).drewN n) fun e w' => e = .returned (.bool true) ∧ w' = ((w.alloc (.cells #[.slice A R c] 24)).drewN n) := fun n => callsIn_wide.2 (by
    rw [← hT']; exact sall_any A c R w.heap.size k P C l _ (h.below (hbel n)) (by omega))
  have HR := Lib.hid hR
  clear hR hT'
  have hmk := run_make_row' (P := Try.prog) 22 5 (.int .u8 0) 1 Try.underlying22 pbyte_info rfl .i64 .i64 sz (by omega) (by omega)
  refine callsIn_of_wp_marks Try.func11 rfl trivial ?_ rfl
  simp only [Try.ntmps11, List.size_toArray, List.length_cons, List.length_nil, Nat.reduceAdd, Nat.reduceSub, Array.replicate_succ, Array.replicate_zero, List.push_toArray, List.append_toArray, List.nil_append, List.cons_append]
  gi_wp2
  gi_quiet ((first | (gi_at_call 10; exact CallsIn.quiet_of_same (HC _)) | (gi_at_call 15; exact CallsIn.quiet_of_same (HL _))))
  gi_wp2_with fail
  refine (callsIn_wide.2 (spieces_mk _ sz sz k _)).mono ?_
  rintro e w' ⟨rfl, rfl⟩
  gi_wp2
  clear hmk HC HL
  have h5 := jbx w sz k nq (by omega) (.slice A R c) 24 22 3
  have hsz := h5.sz'
  refine Gq.range_pre (by omega) (gf := 16) (lb := #[.pointer (some ⟨w.heap.size + 2, 0, none⟩), .pointer (some ⟨w.heap.size + 3, 0, none⟩)]) rfl (enters_of Try.func16 (by kernel_rfl) rfl)
    (spieces_pre (6 - 1) (by omega) (w.heap.size + 2) (w.heap.size + 3) (w.heap.size + 1) 0 sz sz k _ (fun _ => rfl) hk (by omega) (by omega) (Nat.le_refl _) _ h5.c2 h5.c3)
    (fun h k => KpT.trans h k) (fun W l o o' hl _ _ b hb => World.putObj_heap_other (by omega)) (fun _ => rfl) (fun _ _ _ _ _ hs _ _ => hs)
    (JnI w (.slice A R c) l sz k) (JnI.own w (.slice A R c) l sz k _ (by omega))
    ⟨⟨h5.c0, by rw [List.length_nil, Sp.part_zero]; exact h5.own⟩, h5.bl, by omega⟩
    (fun i => { tmps := #[.slice A R c, .int .i64 (sz : Int), .int .i64 (k : Int), .pointer (some ⟨w.heap.size, 0, none⟩), undef, undef, .slice none 0 0, .bool false, .slice (some ⟨w.heap.size + 1, 0, none⟩) sz sz, .int .i64 (i : Int), .slice (some ⟨w.heap.size + 1, i * k, none⟩) (min k (sz - i * k)) (sz - i * k), .int .i64 (sz : Int), .bool false, .bool false, .int .i64 (k : Int), .bool false, .bool false, .bool false, .slice A R c, .int .i64 (R : Int), .int .i64 (sz : Int), .int .i64 (k : Int), .int .i64 (R : Int), .bool false, .bool false, .bool false, .slice A R c, .int .i64 (k : Int), .bool true, .bool false, .bool false, .int .i64 (sz : Int), .slice (some ⟨w.heap.size + 1, 0, none⟩) sz sz, .slice (some ⟨w.heap.size + 1, 0, none⟩) sz sz, .int .i64 (k : Int), .func (.func 16) #[] #[.pointer (some ⟨w.heap.size + 2, 0, none⟩), .pointer (some ⟨w.heap.size + 3, 0, none⟩)], .int .i64 (i : Int), .slice (some ⟨w.heap.size + 1, i * k, none⟩) (min k (sz - i * k)) (sz - i * k), undef, undef, undef, undef, undef, undef, undef], defers := [] }) ?assign ?body ?done
  case assign =>
    intro l x W K hK
    gi_wp2
    exact hK
  case body =>
    rintro lb pre q W ⟨⟨d0, hown⟩, hB, hWs⟩ ⟨rfl, hq⟩
    rw [List.length_range] at hown
    rw [← HR.out] at hq
    clear h5 hsz
    have hqk := (Sp.cnt_lt (n := sz) hk).1 (by rw [← HR.out]; exact hq)
    obtain ⟨b, off, hAe, hbl, hc, hIr⟩ := (h.below hB).rd q hq
    obtain ⟨m, hm⟩ : ∃ m, m = min k (sz - q * k) := ⟨_, rfl⟩
    have hpl := Sp.part_len (l := l) (s := sz) (k := k) (q := q) (fun i hi => hl i (by omega))
    obtain ⟨W3, hrun, hown3, hg3⟩ := run_copy_into (P := Try.prog) 22 3 5 Try.underlying22 (by kernel_rfl) hown (q * k) m (sz - q * k) (by rw [hpl]; omega) k (C q) hIr.sl (hl q hq).symm
    have hst := Sp.part_step (l := l) (s := sz) (k := k) (q := q) (m := m) (fun i hi => hl i (by omega)) hqk hm
    have hmk : min k m = m := by omega
    rw [hmk, hst] at hown3
    have HFIN := Lib.hid (show KeepsOthers W W3 ∧ KpT (w.heap.size + 2) (w.heap.size + 3) W W3 ∧ JnI w (.slice A R c) l sz k (List.range q ++ [q]) W3 from by
      refine ⟨others_cells hown.cellsAt hg3, fun j hj => hg3.block j (by omega) (fun e => by injection e with e; omega), ⟨⟨?_, ?_⟩, hB.trans (Gw.Below.by hg3 (by omega) (by omega)), by have := hg3.size; omega⟩⟩
      · exact (World.cell?_of_block (w := W) (a := ⟨w.heap.size, 0, none⟩) (hg3.block w.heap.size (by omega) (fun e => by injection e with e; omega))).trans d0
      · rw [List.length_append, List.length_range]; exact hown3)
    rw [hl q hq] at hc
    rw [← hm]
    have hqi : (q : Int) < (R : Int) := by omega
    clear hm hown3 hg3 hst hpl hown hIr hqk hmk
    subst hAe
    gi_wp2
    exact HFIN.out
  case done =>
    rintro D pre W hD hS ⟨⟨d0, hown⟩, hB, hWs⟩ hK
    subst hS
    rw [List.length_range, ← HR.out, Sp.part_done hall] at hown
    clear h5
    have HE := Lib.hid (show ((Sp.cat l R).take sz).length = sz by rw [List.length_take, Sp.cat_len hl]; omega)
    gi_wp2
    refine ⟨by simp, .inl ⟨_, _, rfl, run_takeDeferred hK, ?_⟩⟩
    have hb2 : Below w.heap.size W (W.putObj D (.deferred none)) := belowK_b (w := w) (Nat.le_refl _) W D _ _ (by omega) hK rfl rfl
    have ho := hown.turned (grownBy_putObj' W D (.deferred none)) (fun r e => by cases e; exact ⟨_, hK, rfl⟩)
    exact ⟨_, results_tmp2 rfl _ _ _, _, _, rfl, ho.inn, hB.trans hb2⟩
theorem sjoin_yes (A : Option Addr) (c R k sz : Nat) (P : Nat → Option Addr) (C : Nat → Nat) (l : Nat → List Nat) (w : World) (h : MIn w w.heap.size A c R P C l) (hR : R = Sp.cnt sz k) (hk : 0 < k) (hk2 : k ≤ 9223372036854775807) (hl : ∀ i, i < R → (l i).length = k) (hT : R * k ≤ 2097152) : Calls Try.prog 11 #[.slice A R c, .int .i64 (sz : Int), .int .i64 (k : Int)] w fun e w' => ∃ A2 c2, e = .returned (.tuple #[.slice A2 sz c2, .bool true]) ∧ In w' w'.heap.size A2 c2 ((Sp.cat l R).take sz) ∧ Below w.heap.size w w' :=
  callsIn_wide.1 (sjoin_in A c R k sz P C l w h hR hk hk2 hl hT)
end Go.Proofs.Ytnpjncbdmgdjnaa
