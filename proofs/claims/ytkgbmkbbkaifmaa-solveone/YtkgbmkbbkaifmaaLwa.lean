/- What the statements' own answers (package shamrocklaw03) does: true, whatever memory there is. -/
import Derived.Test.YtkgbmkbbkaifmaaSvg
namespace Gw
open Go Go.RowKit Go.Shelf
/-- Two rows, as a function. -/
def two (a b : List Nat) : Nat → List Nat := fun i => if i = 0 then a else if i = 1 then b else []
theorem two_bb {a b : List Nat} (ha : Pol.BB a) (hb : Pol.BB b) (i : Nat) : Pol.BB (two a b i) := by
  unfold two; split; exact ha; split; exact hb; exact Pol.BB.nil
theorem MIn.two {W : World} {B g : Nat} {A0 A1 : Option Addr} {c0 c1 : Nat} {l0 l1 : List Nat} (h0 : In W B A0 c0 l0) (h1 : In W B A1 c1 l1) (hg : g < B) (e0 : W.cell? ⟨g, 0, none⟩ = some (.slice A0 l0.length c0)) (e1 : W.cell? ⟨g, 1, none⟩ = some (.slice A1 l1.length c1)) :
    MIn W B (some ⟨g, 0, none⟩) 2 2 (fun i => if i = 0 then A0 else A1) (fun i => if i = 0 then c0 else c1) (two l0 l1) := by
  refine ⟨fun i hi => ⟨g, 0, rfl, hg, ?_, ?_⟩, Nat.le_refl _, fun h => by cases h⟩
  · match i, hi with
    | 0, _ => exact e0
    | 1, _ => exact e1
  · match i, hi with
    | 0, _ => exact h0
    | 1, _ => exact h1
theorem bb2 {x y : Nat} (hx : x < 256) (hy : y < 256) : Pol.BB [x, y] := fun z hz => by
  simp at hz
  rcases hz with h | h <;> omega
theorem bb1 {x : Nat} (hx : x < 256) : Pol.BB [x] := fun z hz => by simp at hz; omega
theorem Sl.lit (w : World) (e : TypeId) {l : List Nat} (hb : Pol.BB l) : Sl (w.alloc (.cells (bys l).toArray e)) (w.heap.size + 1) (some ⟨w.heap.size, 0, none⟩) l := fun i x hx => by
  refine ⟨hb x (List.mem_of_getElem? hx), w.heap.size, 0, rfl, by omega, ?_⟩
  rw [Nat.zero_add, World.cell?_alloc_new w (bys l).toArray e i]
  simpa using bys_at hx
/-- Two rows, as literals lay them. -/
theorem lit2 (w : World) (tb tr : TypeId) {a b : List Nat} (ha : Pol.BB a) (hb : Pol.BB b) (n m : Nat) (hn : n = a.length) (hm : m = b.length) (W : World)
    (hW : W = ((w.alloc (.cells (bys a).toArray tb)).alloc (.cells (bys b).toArray tb)).alloc (.cells #[.slice (some ⟨w.heap.size, 0, none⟩) n n, .slice (some ⟨w.heap.size + 1, 0, none⟩) m m] tr)) :
    MIn W W.heap.size (some ⟨w.heap.size + 2, 0, none⟩) 2 2 (fun i => if i = 0 then some ⟨w.heap.size, 0, none⟩ else some ⟨w.heap.size + 1, 0, none⟩) (fun i => if i = 0 then n else m) (two a b) ∧ Below w.heap.size w W ∧ W.heap.size = w.heap.size + 3 := by
  subst hn hm
  have s1 : W.heap.size = w.heap.size + 3 := by rw [hW]; simp
  have h0 := Sl.lit w tb ha
  have h1 := Sl.lit (w.alloc (.cells (bys a).toArray tb)) tb hb
  simp only [World.size_alloc] at h1
  have i0 : In W W.heap.size (some ⟨w.heap.size, 0, none⟩) a.length a := ⟨by rw [s1, hW]; exact ((h0.alloc (by simp) _).alloc (by simp <;> omega) _).more (by omega), Nat.le_refl _, fun h => by cases h⟩
  have i1 : In W W.heap.size (some ⟨w.heap.size + 1, 0, none⟩) b.length b := ⟨by rw [s1, hW]; exact (h1.alloc (by simp) _).more (by omega), Nat.le_refl _, fun h => by cases h⟩
  have hn := World.cell?_alloc_new ((w.alloc (.cells (bys a).toArray tb)).alloc (.cells (bys b).toArray tb)) #[.slice (some ⟨w.heap.size, 0, none⟩) a.length a.length, .slice (some ⟨w.heap.size + 1, 0, none⟩) b.length b.length] tr
  simp only [World.size_alloc] at hn
  refine ⟨MIn.two i0 i1 (by omega) ?_ ?_, ?_, s1⟩
  · rw [hW]; exact hn 0
  · rw [hW]; exact hn 1
  · rw [hW]
    exact (((Below.refl _ _).alloc (Nat.le_refl _) _).alloc (by simp) _).alloc (by simp <;> omega) _
end Gw
namespace Go.Proofs.Ytkgbmkbbkaifmaa
open Go.RowKit Go.Shelf Gw Pol
theorem a3_1 : (Sv.red 2 (Sv.aug 2 (mx (two [1, 1] [0, 2])) (co [3, 4])) 3).2 = [0, 1] := by decide +kernel
theorem a3_2 : (Sv.red 2 (Sv.aug 2 (mx (two [1, 1] [0, 2])) (co [3, 4])) 3).1 0 2 = 1 ∧ (Sv.red 2 (Sv.aug 2 (mx (two [1, 1] [0, 2])) (co [3, 4])) 3).1 1 2 = 2 := by decide +kernel
theorem a3_3 : (Sv.red 2 (Sv.aug 1 (mx (two [1] [1])) (co [3, 4])) 2).2 = [0, 1] := by decide +kernel
theorem a3_4 : (Sv.red 2 (mx (two [1, 1] [2, 2])) 2).2 = [0] := by decide +kernel
theorem a3_s : str [1, 2] = { data := #[1, 2] } := by decide +kernel
theorem two_len {a b : List Nat} {n : Nat} (ha : a.length = n) (hb : b.length = n) : ∀ i, i < 2 → (two a b i).length = n := fun i hi => by
  match i, hi with
  | 0, _ => exact ha
  | 1, _ => exact hb
/-- Solve, and Rank, of two rows that literals lay. -/
theorem sol_lit (bf : Nat) (w : World) (hF : IsField w bf) {a b r : List Nat} (n : Nat) (ha : BB a) (hb : BB b) (hr : BB r) (la : a.length = n) (lb : b.length = n) (lr : r.length = 2) (hn : n ≤ 2) :
    Calls Try.prog 9 #[.pointer (some ⟨bf, 0, none⟩), .slice (some ⟨w.heap.size + 1 + 1, 0, none⟩) 2 2, .slice (some ⟨w.heap.size + 1 + 1 + 1, 0, none⟩) 2 2]
      ((((w.alloc (.cells (bys a).toArray 5)).alloc (.cells (bys b).toArray 5)).alloc (.cells #[.slice (some ⟨w.heap.size, 0, none⟩) n n, .slice (some ⟨w.heap.size + 1, 0, none⟩) n n] 23)).alloc (.cells (bys r).toArray 5))
      fun e w' => Below w.heap.size w w' ∧
  ((n ∈ (Sv.red 2 (Sv.aug n (mx (two a b)) (co r)) (n + 1)).2 ∧ e = .returned (.tuple #[.slice none 0 0, .bool false])) ∨
   (n ∉ (Sv.red 2 (Sv.aug n (mx (two a b)) (co r)) (n + 1)).2 ∧ ∃ X A2 c2, Sv.IsX (Sv.red 2 (Sv.aug n (mx (two a b)) (co r)) (n + 1)).2 (Sv.red 2 (Sv.aug n (mx (two a b)) (co r)) (n + 1)).1 n (Sv.red 2 (Sv.aug n (mx (two a b)) (co r)) (n + 1)).2.length X ∧
      e = .returned (.tuple #[.slice A2 n c2, .bool true]) ∧ Gw.Own w' w.heap.size 5 A2 c2 (rg n X))) := by
  obtain ⟨h1, h2, h3⟩ := lit2 w 5 23 ha hb n n la.symm lb.symm _ rfl
  generalize ((w.alloc (.cells (bys a).toArray 5)).alloc (.cells (bys b).toArray 5)).alloc (.cells #[.slice (some ⟨w.heap.size, 0, none⟩) n n, .slice (some ⟨w.heap.size + 1, 0, none⟩) n n] 23) = W at *
  have hB : Below W.heap.size W (W.alloc (.cells (bys r).toArray 5)) := (Below.refl _ _).alloc (Nat.le_refl _) _
  have hs : (W.alloc (.cells (bys r).toArray 5)).heap.size = W.heap.size + 1 := World.size_alloc _ _
  have hl := Sl.lit W 5 hr
  have e3 : w.heap.size + 1 + 1 + 1 = W.heap.size := by omega
  have hBw := h2.trans (hB.mono h2.size)
  rw [e3]
  refine (solve_any bf (some ⟨w.heap.size + 1 + 1, 0, none⟩) (some ⟨W.heap.size, 0, none⟩) 2 2 n 2 _ _ (two a b) r _ (hF.below hBw hF.lt) ((h1.below hB).more (by omega)) ⟨by rw [hs]; exact hl, by omega, fun h => by cases h⟩ (two_len la lb) lr (fun h => by omega) (by omega) (by omega) (two_bb ha hb)).mono ?_
  rintro e w' ⟨hb1, hor⟩
  refine ⟨hBw.trans (hb1.mono (by omega)), ?_⟩
  rcases hor with h | ⟨h, X, A2, c2, hX, he, ho⟩
  · exact .inl h
  · exact .inr ⟨h, X, A2, c2, hX, he, ho.base (by omega)⟩
theorem rank_lit (bf : Nat) (w : World) (hF : IsField w bf) {a b : List Nat} (n : Nat) (ha : BB a) (hb : BB b) (la : a.length = n) (lb : b.length = n) (hn : n ≤ 2) :
    Calls Try.prog 15 #[.pointer (some ⟨bf, 0, none⟩), .slice (some ⟨w.heap.size + 1 + 1, 0, none⟩) 2 2]
      (((w.alloc (.cells (bys a).toArray 5)).alloc (.cells (bys b).toArray 5)).alloc (.cells #[.slice (some ⟨w.heap.size, 0, none⟩) n n, .slice (some ⟨w.heap.size + 1, 0, none⟩) n n] 23))
      fun e w' => e = .returned (.int .i64 ((Sv.red 2 (mx (two a b)) n).2.length : Int)) ∧ Below w.heap.size w w' := by
  obtain ⟨h1, h2, h3⟩ := lit2 w 5 23 ha hb n n la.symm lb.symm _ rfl
  generalize ((w.alloc (.cells (bys a).toArray 5)).alloc (.cells (bys b).toArray 5)).alloc (.cells #[.slice (some ⟨w.heap.size, 0, none⟩) n n, .slice (some ⟨w.heap.size + 1, 0, none⟩) n n] 23) = W at *
  refine (rank_any bf (some ⟨w.heap.size + 1 + 1, 0, none⟩) 2 2 n _ _ (two a b) W (hF.below h2 hF.lt) h1 (two_len la lb) (by omega) (by omega) (two_bb ha hb)).mono ?_
  rintro e w' ⟨rfl, hb1⟩
  exact ⟨rfl, h2.trans (hb1.mono h2.size)⟩
set_option maxRecDepth 100000 in
set_option maxHeartbeats 2000000 in
theorem answers_any (w : World) : Calls Try.prog 8 #[] w fun e w' => e = .returned (.bool true) ∧ Below w.heap.size w w' := by
  have A5 := Lib.hid a3_s
  go_enter Try.func8, Try.ntmps8
  go_wp2_with fail
  refine (new_any _).mono ?_
  rintro e w1 ⟨rfl, hF, hB⟩
  have hlf := hF.lt
  have H1 := Lib.hid (sol_lit w.heap.size w1 hF (a := [1, 1]) (b := [0, 2]) (r := [3, 4]) 2 (bb2 (by omega) (by omega)) (bb2 (by omega) (by omega)) (bb2 (by omega) (by omega)) rfl rfl rfl (by omega))
  rw [a3_1] at H1
  go_wp2_with fail
  refine H1.out.mono ?_
  clear H1
  rintro e w2 ⟨hb2, ⟨hin, _⟩ | ⟨_, X, A2, c2, hX, rfl, ho2⟩⟩
  · exact absurd hin (by decide)
  have hx0 : rg 2 X = [1, 2] := by
    have h0 := hX.1 0 0 (by decide) rfl
    have h1 := hX.1 1 1 (by decide) rfl
    rw [a3_2.1] at h0
    rw [a3_2.2] at h1
    simp [rg, List.range_succ, h0, h1]
  rw [hx0] at ho2
  have hcv := conv_sl (P := Try.prog) ho2.sl Try.underlying23 Try.underlying5 Try.underlying9 c2
  rw [A5.out] at hcv
  have hF2 := hF.below hb2 hlf
  have hB2 := hB.trans (hb2.mono (by omega))
  have hlf2 := hF2.lt
  clear hX hx0 hb2 hF hB
  have H2 := Lib.hid (sol_lit w.heap.size w2 hF2 (a := [1]) (b := [1]) (r := [3, 4]) 1 (bb1 (by omega)) (bb1 (by omega)) (bb2 (by omega) (by omega)) rfl rfl rfl (by omega))
  rw [a3_3] at H2
  go_wp2_with fail
  refine H2.out.mono ?_
  clear H2
  rintro e w3 ⟨hb3, ⟨_, rfl⟩ | ⟨hin, _⟩⟩
  rotate_left
  · exact absurd (by decide) hin
  have hcv3 := conv_sl (P := Try.prog) (ho2.kept hb3).sl Try.underlying23 Try.underlying5 Try.underlying9 c2
  rw [A5.out] at hcv3
  have hcv' : (convert 23 9 (.slice A2 2 c2)).run Try.prog w3 = .ok (.string { data := #[1, 2] }) w3 := hcv3
  have hF3 := hF2.below hb3 hlf2
  have hB3 := hB2.trans (hb3.mono (by omega))
  clear hb3 hF2 hB2 ho2 hcv hcv3
  have H3 := Lib.hid (rank_lit w.heap.size w3 hF3 (a := [1, 1]) (b := [2, 2]) 2 (bb2 (by omega) (by omega)) (bb2 (by omega) (by omega)) rfl rfl (by omega))
  rw [a3_4] at H3
  have hs3 := hB3.size
  go_wp2_with fail
  refine H3.out.mono ?_
  rintro e w4 ⟨rfl, hb4⟩
  go_wp2
  go_ret
  exact ⟨rfl, hB3.trans (hb4.mono (by omega))⟩
end Go.Proofs.Ytkgbmkbbkaifmaa
