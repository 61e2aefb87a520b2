/- What Solve and Rank do: the bytes that solve the equations, or that there are none; how many columns are not free. -/
import Derived.Test.YtkgbmkbbkaifmaaSvb
import Derived.Test.YtkgbmkbbkaifmaaSvf
namespace Gw
open Go Go.RowKit Go.Shelf
/-- The first n bytes of X. -/
def rg (n : Nat) (X : Nat → Nat) : List Nat := (List.range n).map X
theorem rg_len (n : Nat) (X : Nat → Nat) : (rg n X).length = n := by simp [rg]
theorem rg_co {n j : Nat} (X : Nat → Nat) (h : j < n) : Pol.co (rg n X) j = X j := by simp [rg, Pol.co, h]
theorem rg_set (n l y : Nat) (X : Nat → Nat) : (rg n X).set l y = rg n (fun j => if j = l then y else X j) := by
  refine List.ext_getElem (by simp [rg]) fun i h1 h2 => ?_
  simp [rg, List.getElem_set]
  by_cases e : l = i
  · simp [e]
  · simp [e, show ¬ i = l from fun h => e h.symm]
theorem rg_zero (n : Nat) : rg n (fun _ => 0) = List.replicate n 0 := by
  refine List.ext_getElem (by simp [rg]) fun i h1 h2 => ?_
  simp [rg]
theorem rg_ext {n : Nat} {X Y : Nat → Nat} : rg n X = rg n Y ↔ ∀ j, j < n → X j = Y j := by
  constructor
  · intro h j hj
    have := congrArg (fun l => Pol.co l j) h
    simpa [rg_co, hj] using this
  · intro h
    exact List.map_congr_left fun j hj => h j (List.mem_range.1 hj)
theorem rg_of (l : List Nat) : rg l.length (fun j => Pol.co l j) = l := by
  refine List.ext_getElem (by simp [rg]) fun i h1 h2 => ?_
  simp [rg, Pol.co, h2]
end Gw
namespace Go.Proofs.Ytkgbmkbbkaifmaa
open Go.RowKit Go.Shelf Gw Pol

theorem width_any (b off c R n c0 : Nat) (A0 : Option Addr) (w : World) (h0 : R = 0 → n = 0) (hcell : 0 < R → w.cell? ⟨b, off, none⟩ = some (.slice A0 n c0)) :
    Calls Try.prog 18 #[.slice (some ⟨b, off, none⟩) R c] w fun e w' => e = .returned (.int .i64 (n : Int)) ∧ w = w' := by
  by_cases h : R = 0
  · rw [h0 h, h]; exact width_zero _ _ _
  · exact width_pos b off c R n c0 A0 w (by omega) (hcell (by omega))
/-- How wide rows are that are read. -/
theorem width_min {W : World} {B c R n : Nat} {A : Option Addr} {A' : Nat → Option Addr} {c' : Nat → Nat} {l : Nat → List Nat} (h : MIn W B A c R A' c' l) (hn : ∀ i, i < R → (l i).length = n) (h0 : R = 0 → n = 0) :
    Calls Try.prog 18 #[.slice A R c] W fun e w' => e = .returned (.int .i64 (n : Int)) ∧ W = w' := by
  by_cases hR : R = 0
  · rw [h0 hR, hR]; exact width_zero _ _ _
  · obtain ⟨b, off, A0, c0, m, rfl, hm, hc, _⟩ := MIn.len h (i := 0) (by omega)
    rw [hn 0 (by omega)] at hm
    subst hm
    exact width_pos b off c R m c0 A0 W (by omega) hc

/-- Rows of bytes as a matrix; bytes as a column. -/
abbrev mx (l : Nat → List Nat) : Sv.Mx := fun i j => co (l i) j
theorem co_lt {l : List Nat} (h : BB l) (j : Nat) : co l j < 256 := by
  unfold co
  cases e : l[j]? with
  | none => simp [e]
  | some x => simp [e]; exact h x (List.mem_of_getElem? e)
/-- What Solve tells. -/
def SolAns (w : World) (R n : Nat) (l : Nat → List Nat) (b : List Nat) (e : Ending) (w' : World) : Prop :=
  Below w.heap.size w w' ∧
  ((n ∈ (Sv.red R (Sv.aug n (mx l) (co b)) (n + 1)).2 ∧ e = .returned (.tuple #[.slice none 0 0, .bool false])) ∨
   (n ∉ (Sv.red R (Sv.aug n (mx l) (co b)) (n + 1)).2 ∧ ∃ X A2 c2, Sv.IsX (Sv.red R (Sv.aug n (mx l) (co b)) (n + 1)).2 (Sv.red R (Sv.aug n (mx l) (co b)) (n + 1)).1 n (Sv.red R (Sv.aug n (mx l) (co b)) (n + 1)).2.length X ∧
      e = .returned (.tuple #[.slice A2 n c2, .bool true]) ∧ Gw.Own w' w.heap.size 5 A2 c2 (rg n X)))

def SoRel (w W3 : World) (gx n : Nat) (L : List Nat) (T : Sv.Mx) (i : Value) (wr : World) : Prop :=
  ∃ (k : Nat) (X : Nat → Nat), k ≤ L.length ∧ i = .int .i64 (k : Int) ∧ (∀ (i : Nat), i < k → L[i]? ≠ some n) ∧ Sv.IsX L T n k X ∧ Gw.Own wr w.heap.size 5 (some ⟨gx, 0, none⟩) n (rg n X) ∧ W3.grownBy wr (some gx)

set_option maxRecDepth 100000 in
set_option maxHeartbeats 4000000 in
theorem solve_any (bf : Nat) (A Ab : Option Addr) (c R n cb : Nat) (A' : Nat → Option Addr) (c' : Nat → Nat) (l : Nat → List Nat) (b : List Nat) (w : World) (hF : IsField w bf) (h : MIn w w.heap.size A c R A' c' l) (hI : In w w.heap.size Ab cb b)
    (hn : ∀ i, i < R → (l i).length = n) (hb : b.length = R) (h0 : R = 0 → n = 0) (hR : R ≤ 1073741824) (hnm : n ≤ 1073741824) (hl : ∀ i, BB (l i)) :
    Calls Try.prog 9 #[.pointer (some ⟨bf, 0, none⟩), .slice A R c, .slice Ab R cb] w fun e w' => SolAns w R n l b e w' := by
  have hlf := hF.lt
  have HA : Sv.Bm (Sv.aug n (mx l) (co b)) := Sv.aug_b (fun i j => co_lt (hl i) j) (fun i => co_lt hI.bb i)
  have HR := Lib.hid (sright_any A c R _ A' c' l w h (by omega) true ⟨fun _ i hi => by rw [hn i hi, hn 0 (by omega)], fun _ => rfl⟩)
  have HW := Lib.hid (width_min h hn h0)
  have HB := Lib.hid (beside_any A Ab c R n cb A' c' l b w h hI hn hb (by omega) (by omega))
  have hmk := run_make_row' (P := Try.prog) 23 5 (.int .u8 0) 1 Try.underlying23 pbyte_info rfl .i64 .i64 n (by omega) (by omega)
  unfold SolAns
  obtain ⟨T, hT⟩ : ∃ T, T = (Sv.red R (Sv.aug n (mx l) (co b)) (n + 1)).1 := ⟨_, rfl⟩
  obtain ⟨L, hL⟩ : ∃ L, L = (Sv.red R (Sv.aug n (mx l) (co b)) (n + 1)).2 := ⟨_, rfl⟩
  have hE := Sv.red_ech R HA (n + 1)
  rw [← hT, ← hL] at hE ⊢
  have hee : ((R : Int) == (R : Int)) = true := by simp
  have hHI := Lib.hid hI
  clear h hI hn hb hl
  go_enter Try.func9, Try.ntmps9
  go_wp2_with (first
    | (go_at_call 17; refine HR.out.mono ?_; rintro e w' ⟨rfl, rfl⟩)
    | (go_at_call 18; refine HW.out.mono ?_; rintro e w' ⟨rfl, rfl⟩)
    | (go_at_call 19; refine HB.out.mono ?_; rintro e w1 ⟨g, bs, cp, rfl, T1, B1⟩; have HT1 := Lib.hid T1; clear T1; have hs1 := B1.size))
  clear HR HW HB hmk
  have K2 : Below w1.heap.size w1 (w1.alloc (.cells (madeCells #[.int .u8 0] n) 5)) := (Below.refl _ _).alloc (Nat.le_refl _) _
  have B2 : Below w.heap.size w (w1.alloc (.cells (madeCells #[.int .u8 0] n) 5)) := B1.trans (K2.mono hs1)
  have X2 := Own.made w1 5 n (by omega)
  have s2 : (w1.alloc (.cells (madeCells #[.int .u8 0] n) 5)).heap.size = w1.heap.size + 1 := World.size_alloc _ _
  have T2 := HT1.out.alloc (.cells (madeCells #[.int .u8 0] n) 5)
  have hglo := HT1.out.glo
  generalize w1.alloc (.cells (madeCells #[.int .u8 0] n) 5) = W2 at *
  have HC : Hid (Calls Try.prog 20 #[.pointer (some ⟨bf, 0, none⟩), .slice (some ⟨g, 0, none⟩) R R] W2 fun e w' => ∃ (bs cp : Nat → Nat) (A : Option Addr) (cl : Nat), e = .returned (.slice A L.length cl) ∧ OwnI w' W2.heap.size 3 A cl L ∧
      Tab w' w.heap.size w1.heap.size g bs cp T R (n + 1) ∧ Kt w.heap.size w1.heap.size W2 w') := Lib.hid (by
    have := reduce_all bf w.heap.size w1.heap.size g R (n + 1) R bs cp (Sv.aug n (mx l) (co b)) W2 T2 (hF.below B2 hlf) hlf (by omega) (by omega) HA
    unfold RdAns at this
    rw [← hT, ← hL] at this
    exact this)
  have HL := Lib.hid hL
  have HT := Lib.hid hT
  clear hL hT HA HT1 T2
  refine HC.out.mono ?_
  rintro e W3 ⟨bs3, cp3, Al, cl, rfl, hO3, hT3, hK3⟩
  clear HC
  have hs3 := hK3.size
  have B3 : Below w.heap.size w W3 := B2.trans (hK3.below (by omega))
  have X3 := X2.kt hK3 (Nat.le_refl _)
  rw [← rg_zero] at X3
  have HX3 := Lib.hid (X3.base hs1)
  have hlen := hE.len
  have hgx : w1.heap.size < W3.heap.size := by omega
  obtain ⟨m, hm⟩ : ∃ m, m = L.length := ⟨_, rfl⟩
  have hcl := hO3.capl
  rw [← hm] at hlen hcl ⊢
  have HM := Lib.hid hm
  have HE := Lib.hid hE
  have HO3 := Lib.hid hO3
  have HT3 := Lib.hid hT3
  have HB3 := Lib.hid B3
  clear hm hE hO3 hT3 hK3 B3 X3 X2 B2 B1 K2
  go_wp2
  go_loopw [34] (SoRel w W3 w1.heap.size n L T) (fun i _ => m - (intOf i).toNat)
  case atStart => exact ⟨0, fun _ => 0, Nat.zero_le _, rfl, fun i hi => by omega, Sv.isx_start _ _ _, HX3.out, World.grownBy.refl _ _⟩
  case round =>
    clear HX3
    obtain ⟨k, X, hk, rfl, hno, hX, hOx, hG⟩ := hrel
    have HNO := Lib.hid hno
    have HX := Lib.hid hX
    rw [← HM.out] at hk
    clear hno hX
    have Bf : Below w.heap.size w wr := HB3.out.trans (Gw.Below.by hG (by omega) hs1)
    have HBf := Lib.hid Bf
    clear Bf
    by_cases hlt : k < m
    · obtain ⟨lk, hlk⟩ : ∃ lk, L[k]? = some lk := ⟨_, List.getElem?_eq_getElem (by rw [← HM.out]; exact hlt)⟩
      obtain ⟨gl, rfl, hgl, hcl3⟩ := HO3.out.at_ hlk
      have hcl4 := hG.cell hcl3 (fun e => by injection e with e; have e2 : gl = w1.heap.size := e; omega)
      have hlkn := HE.out.lt k lk hlk
      have HLK := Lib.hid hlk
      clear hlk hcl3
      by_cases en : lk = n
      · have b1 : ((lk : Int) == (n : Int)) = true := by rw [en]; simp
        clear hOx hG
        go_wp2
        go_ret2
        exact ⟨HBf.out, .inl ⟨by rw [← en]; exact List.mem_of_getElem? HLK.out, rfl⟩⟩
      · have b1 : ((lk : Int) == (n : Int)) = false := beq_eq_false_iff_ne.2 (by omega)
        have hln : lk < n := by omega
        have T4 : Tab wr w.heap.size w1.heap.size g bs3 cp3 T R (n + 1) := HT3.out.below (Gw.Below.by hG (by omega) (Nat.le_refl _)) (Nat.le_refl _)
        have c1 := T4.rowc (show k < R by omega)
        have c2 := T4.byc (show k < R by omega) (show n < n + 1 by omega)
        have c3 := hOx.cell (k := lk) (by rw [rg_len]; exact hln)
        have f3 := hOx.frozen lk
        have HS := Lib.hid (hOx.put (k := lk) (by rw [rg_len]; exact hln) (y := T k n) (HE.out.byt _ _))
        have HG := Lib.hid (grown_put (k := lk) hG (.int .u8 (T k n : Int)))
        clear T4 hOx hG
        go_wp2
        go_roundw
        case rel => exact ⟨k + 1, _, by rw [← HM.out]; omega, by go_num, fun i hi e => by
            by_cases ei : i = k
            · subst ei; rw [HLK.out] at e; injection e with e; exact en e
            · exact HNO.out i (by omega) e, HX.out.put (fun i hi => HE.out.nod hi HLK.out) HLK.out, by have := HS.out; rw [rg_set] at this; exact this, HG.out⟩
        case measure => simp [intOf]; omega
    · have ek : k = m := by omega
      subst ek
      have HOx := Lib.hid hOx
      clear hOx hG
      go_wp2
      go_ret2
      refine ⟨HBf.out, .inr ⟨fun hin => ?_, X, _, _, by rw [← HM.out]; exact HX.out, rfl, HOx.out⟩⟩
      obtain ⟨i, hi⟩ := List.getElem?_of_mem hin
      exact HNO.out i (by rw [HM.out]; exact Sv.at_lt hi) hi

set_option maxRecDepth 100000 in
set_option maxHeartbeats 1000000 in
/-- Rows that are not right, or not as many as bytes. -/
theorem solve_bad (bf : Nat) (A Ab : Option Addr) (c R cb m : Nat) (A' : Nat → Option Addr) (c' : Nat → Nat) (l : Nat → List Nat) (w : World) (B : Nat) (h : MIn w B A c R A' c' l) (hR : R ≤ 140737488355328) (y : Bool) (hy : y = true ↔ ∀ i, i < R → (l i).length = (l 0).length) (hb : y = false ∨ m ≠ R) :
    Calls Try.prog 9 #[.pointer (some ⟨bf, 0, none⟩), .slice A R c, .slice Ab m cb] w fun e w' => e = .returned (.tuple #[.slice none 0 0, .bool false]) ∧ w = w' := by
  have HR := Lib.hid (sright_any A c R _ A' c' l w h (by omega) y hy)
  clear hy
  cases y with
  | false =>
    go_enter Try.func9, Try.ntmps9
    go_wp2_with (go_at_call 17; refine HR.out.mono ?_; rintro e w' ⟨rfl, rfl⟩)
    go_ret2
    exact ⟨rfl, rfl⟩
  | true =>
    have hne : ((m : Int) == (R : Int)) = false := beq_eq_false_iff_ne.2 (by rcases hb with h | h; cases h; omega)
    clear hb
    go_enter Try.func9, Try.ntmps9
    go_wp2_with (go_at_call 17; refine HR.out.mono ?_; rintro e w' ⟨rfl, rfl⟩)
    go_ret2
    exact ⟨rfl, rfl⟩

set_option maxRecDepth 100000 in
set_option maxHeartbeats 1000000 in
theorem rank_bad (bf : Nat) (A : Option Addr) (c R : Nat) (A' : Nat → Option Addr) (c' : Nat → Nat) (l : Nat → List Nat) (w : World) (B : Nat) (h : MIn w B A c R A' c' l) (hR : R ≤ 140737488355328) (hy : ¬ ∀ i, i < R → (l i).length = (l 0).length) :
    Calls Try.prog 15 #[.pointer (some ⟨bf, 0, none⟩), .slice A R c] w fun e w' => e = .returned (.int .i64 0) ∧ w = w' := by
  have HR := Lib.hid (sright_any A c R _ A' c' l w h (by omega) false ⟨fun h => (Bool.noConfusion h), fun h => absurd h hy⟩)
  clear hy
  go_enter Try.func15, Try.ntmps15
  go_wp2_with (go_at_call 17; refine HR.out.mono ?_; rintro e w' ⟨rfl, rfl⟩)
  go_ret
  exact ⟨rfl, rfl⟩

theorem co_zeros (R i : Nat) : co (List.replicate R 0) i = 0 := by
  unfold co
  by_cases h : i < R
  · simp [h]
  · simp [List.getElem?_eq_none (show (List.replicate R 0).length ≤ i by simp; omega)]
set_option maxRecDepth 100000 in
set_option maxHeartbeats 1000000 in
theorem rank_any (bf : Nat) (A : Option Addr) (c R n : Nat) (A' : Nat → Option Addr) (c' : Nat → Nat) (l : Nat → List Nat) (w : World) (hF : IsField w bf) (h : MIn w w.heap.size A c R A' c' l)
    (hn : ∀ i, i < R → (l i).length = n) (hR : R ≤ 1073741824) (hnm : n ≤ 1073741824) (hl : ∀ i, BB (l i)) :
    Calls Try.prog 15 #[.pointer (some ⟨bf, 0, none⟩), .slice A R c] w fun e w' => e = .returned (.int .i64 ((Sv.red R (mx l) n).2.length : Int)) ∧ Below w.heap.size w w' := by
  have hlf := hF.lt
  have HA : Sv.Bm (Sv.aug n (mx l) (co (List.replicate R 0))) := Sv.aug_b (fun i j => co_lt (hl i) j) (fun i => by rw [co_zeros]; omega)
  have HR := Lib.hid (sright_any A c R _ A' c' l w h (by omega) true ⟨fun _ i hi => by rw [hn i hi, hn 0 (by omega)], fun _ => rfl⟩)
  have hmk := run_make_row' (P := Try.prog) 23 5 (.int .u8 0) 1 Try.underlying23 pbyte_info rfl .i64 .i64 R (by omega) (by omega)
  have B2 : Below w.heap.size w (w.alloc (.cells (madeCells #[.int .u8 0] R) 5)) := (Below.refl _ _).alloc (Nat.le_refl _) _
  have s2 : (w.alloc (.cells (madeCells #[.int .u8 0] R) 5)).heap.size = w.heap.size + 1 := World.size_alloc _ _
  have HB := Lib.hid (beside_any A (some ⟨w.heap.size, 0, none⟩) c R n R A' c' l (List.replicate R 0) (w.alloc (.cells (madeCells #[.int .u8 0] R) 5)) ((h.below B2).more (by omega)) (Own.made w 5 R (by omega)).inn hn (by simp) (by omega) (by omega))
  have HZ : Hid ((Sv.red R (Sv.aug n (mx l) (co (List.replicate R 0))) (n + 1)).2 = (Sv.red R (mx l) n).2) := Lib.hid (by
    rw [show co (List.replicate R 0) = (fun _ => 0) from funext fun i => co_zeros R i]; exact Sv.aug_rank)
  have F2 := hF.below B2 hlf
  clear h hn hl
  go_enter Try.func15, Try.ntmps15
  go_wp2_with (first
    | (go_at_call 17; refine HR.out.mono ?_; rintro e w' ⟨rfl, rfl⟩)
    | (go_at_call 19; refine HB.out.mono ?_; rintro e w1 ⟨g, bs, cp, rfl, T1, B1⟩; have HT1 := Lib.hid T1; clear T1; have hs1 := B1.size)
    | (go_at_call 20; refine (reduce_all bf _ _ g R (n + 1) R bs cp _ w1 HT1.out (F2.below B1 (by omega)) (by omega) (by omega) (by omega) HA).mono ?_; rintro e w2 ⟨bs2, cp2, A2, cl2, rfl, _, _, hK2⟩))
  go_ret
  refine ⟨by rw [← HZ.out]; rfl, ?_⟩
  exact (B2.trans (B1.mono (by omega))).trans ((hK2.below (by omega)).mono (by omega))
end Go.Proofs.Ytkgbmkbbkaifmaa
