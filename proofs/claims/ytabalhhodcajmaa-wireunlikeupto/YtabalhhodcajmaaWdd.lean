/- What the definition's Int and Bytes do, and Book's Lay and Put. -/
import Derived.Test.YtabalhhodcajmaaWda
import Derived.Test.YtabalhhodcajmaaPby
import Derived.Test.YtabalhhodcajmaaGtw
import Derived.Test.YtabalhhodcajmaaOpi
import Derived.Test.YtabalhhodcajmaaLawi
namespace Gw
open Go Go.RowKit Go.Shelf Pol
/-- A new block of bytes of one's own. -/
theorem Own.litn (w : World) (e : TypeId) (l : List Nat) (h : BB l) (hl : l.length ≤ 140737488355328) : Own (w.alloc (.cells (bys l).toArray e)) w.heap.size e (some ⟨w.heap.size, 0, none⟩) l.length l := by
  have h1 := World.ownsRow_lit (base := w.heap.size) (e := e) (size := 1) w (bys l).toArray l.length (Nat.le_refl _) (by simp only [maxLen]; omega) (by simp [bys_len])
  exact ⟨h1, h⟩
end Gw
namespace Gw
open Go Go.RowKit Go.Shelf Pol
/-- What an append onto a book's row, and what is stored behind it, make of the world. -/
theorem book_app {P : Program} (t e : TypeId) (i : TypeInfo) (z : Value) (ht : P.underlying t = some (.slice e)) (hi : P.info? e = some i) (hz : i.zero = some z) (hsize : i.size = 1) (hby : i.bytes = 1) (hzc : z.cells = #[z])
    (p g : Nat) (l : List Nat) (bad : Bool) (W1 : World) (h : Bx W1 p g l bad) (A2 : Option Addr) (N c2 : Nat) (b : List Nat) (hS : Sl W1 W1.heap.size A2 b) (hN : N = b.length) (hl : l.length + b.length ≤ 140737488355328) :
    ∃ Ao n co' A3 M c3 g3 w3, W1.cell? ⟨p, 0, none⟩ = some (.slice Ao n co') ∧ W1.cell? ⟨p, 1, none⟩ = some (.bool bad) ∧ (Builtin.append_ #[t, t] t #[.slice Ao n co', .slice A2 N c2]).run P W1 = .ok (.slice A3 M c3) w3 ∧
      w3.cell? ⟨p, 0, none⟩ = some (.slice Ao n co') ∧ w3.cell? ⟨p, 1, none⟩ = some (.bool bad) ∧ (∀ k, w3.frozen? ⟨p, k, none⟩ = false) ∧ (∀ b', Bx ((w3.setCell ⟨p, 0, none⟩ (.slice A3 M c3)).setCell ⟨p, 1, none⟩ (.bool b')) p g3 (l ++ b) b') ∧
      (g3 = g ∨ W1.heap.size ≤ g3) ∧ ∀ v v', K2 W1 ((w3.setCell ⟨p, 0, none⟩ v).setCell ⟨p, 1, none⟩ v') p g := by
  obtain ⟨Ao, co', hc, hR⟩ := h.row
  obtain ⟨A3, c3, g3, w3, hrun, hR3, hg3, hlt3, hk3, hp3⟩ := run_tape (P := P) t t e i z ht hi hz hsize hby hzc p g l.length co' N c2 Ao A2 l b rfl hN hR h.lt h.glt hS hl
  have hf3 : ∀ k, w3.frozen? ⟨p, k, none⟩ = false := fun k => (frozen_heap hp3).trans (h.fr k)
  have hc3 : w3.cell? ⟨p, 0, none⟩ = some (.slice Ao l.length co') := (cell_heap hp3).trans hc
  have hu3 : w3.cell? ⟨p, 1, none⟩ = some (.bool bad) := (cell_heap hp3).trans h.flag
  exact ⟨Ao, l.length, co', A3, _, c3, g3, w3, hc, h.flag, hrun, hc3, hu3, hf3, fun b' => Bx.turn (Bx.put (Nat.lt_of_lt_of_le h.lt hk3.size) hlt3 hu3 hf3 hc3 rfl hR3) b', hg3,
    fun v v' => (hk3.trans (K2.set _ _ _ _ _) (.inl rfl)).trans (K2.set _ _ _ _ _) (.inl rfl)⟩
def orN (b : Bool) (l : List Nat) : List Nat := if b then l else []
theorem bkN_eq (l : List Nat) (bad : Bool) (n : Int) : bkN l bad n = (l ++ orN (okN n) (num n), bad || !okN n) := by
  unfold bkN orN
  cases okN n <;> simp
theorem bkL_eq (l : List Nat) (bad : Bool) (b : List Nat) : bkL l bad b = (l ++ orN (okL b) (lay b), bad || !okL b) := by
  unfold bkL orN
  cases okL b <;> simp
theorem orN_num (n : Int) : (orN (okN n) (num n)).length ≤ 4 := by
  unfold orN; split
  · exact Nat.le_refl 4
  · simp
theorem orN_lay (b : List Nat) : (orN (okL b) (lay b)).length ≤ b.length + 2 := by
  unfold orN; split
  · exact Nat.le_refl _
  · simp
/-- What a book is behind numbers. -/
def bkNs (l : List Nat) (bad : Bool) : List Int → List Nat × Bool
  | [] => (l, bad)
  | n :: t => bkNs (bkN l bad n).1 (bkN l bad n).2 t
theorem bkNs_len (l : List Nat) (bad : Bool) (z : List Int) : (bkNs l bad z).1.length ≤ l.length + 4 * z.length := by
  induction z generalizing l bad with
  | nil => exact Nat.le_refl _
  | cons n t ih =>
    have h1 := ih (bkN l bad n).1 (bkN l bad n).2
    have h2 := orN_num n
    show (bkNs (bkN l bad n).1 (bkN l bad n).2 t).1.length ≤ _
    rw [bkN_eq] at h1 ⊢
    simp only [List.length_append, List.length_cons] at h1 ⊢
    omega
end Gw
namespace Go.Proofs.Ytabalhhodcajmaa
open Go.RowKit Go.Shelf Gw Pol
set_option maxRecDepth 100000 in
theorem fint_no (n : Int) (w : World) (hn : n < -2 ∨ 2147483645 < n) : Calls Try.prog 35 #[.int .i64 n] w fun e w' => e = .returned (.tuple #[.slice none 0 0, .bool false]) ∧ w' = w := by
  by_cases h0 : n < -2
  · clear hn
    go_enter Try.func35, Try.ntmps35
    go_wp2
    go_ret2
    exact ⟨rfl, rfl⟩
  · have hn' : 2147483645 < n := by omega
    clear hn
    go_enter Try.func35, Try.ntmps35
    go_wp2
    go_ret2
    exact ⟨rfl, rfl⟩
theorem i4_int' (v : Nat) (hv : v ≤ 2147483647) : num ((v : Int) - 2) = [v / 16777216, v / 65536 % 256, v / 256 % 256, v % 256] := by
  have h1 : ((v : Int) - 2 + 2).toNat = v := by omega
  have h2 : v / 16777216 % 256 = v / 16777216 := by omega
  unfold num i4
  rw [h1, h2]
set_option maxRecDepth 100000 in
theorem fint_yes (n : Int) (w : World) (h0 : -2 ≤ n) (h1 : n ≤ 2147483645) : Calls Try.prog 35 #[.int .i64 n] w fun e w' => e = .returned (.tuple #[.slice (some ⟨w.heap.size, 0, none⟩) 4 4, .bool true]) ∧ w' = w.alloc (.cells (bys (num n)).toArray 5) := by
  obtain ⟨v, hv⟩ : ∃ v : Nat, n + 2 = (v : Int) := ⟨(n + 2).toNat, by omega⟩
  have hvb : v ≤ 2147483647 := by omega
  have hn : n = (v : Int) - 2 := by omega
  have hnum : num n = [v / 16777216, v / 65536 % 256, v / 256 % 256, v % 256] := by rw [hn]; exact i4_int' v hvb
  have hw : IntKind.i64.wrap (n + 2) = (v : Int) := by rw [IntKind.wrap_i64]; omega
  have HN := Lib.hid hnum
  clear hv hn hnum
  go_enter Try.func35, Try.ntmps35
  go_wp2
  go_ret2
  exact ⟨rfl, by rw [HN.out]; rfl⟩
set_option maxRecDepth 100000 in
theorem fbytes_no (A : Option Addr) (m c : Nat) (w : World) (hm : 65535 < m) : Calls Try.prog 36 #[.slice A m c] w fun e w' => e = .returned (.tuple #[.slice none 0 0, .bool false]) ∧ w' = w := by
  go_enter Try.func36, Try.ntmps36
  go_wp2
  go_ret2
  exact ⟨rfl, rfl⟩
set_option maxRecDepth 100000 in
theorem fbytes_yes (A : Option Addr) (m c : Nat) (b : List Nat) (w : World) (hm : m = b.length) (hI : In w w.heap.size A c b) (hl : m ≤ 65535) : Calls Try.prog 36 #[.slice A m c] w fun e w' =>
    ∃ A2 N c2, e = .returned (.tuple #[.slice A2 N c2, .bool true]) ∧ N = (lay b).length ∧ Gw.Own w' w.heap.size 5 A2 c2 (lay b) ∧ Below w.heap.size w w' := by
  obtain ⟨i0, hi0, hz0, hz1, hz2⟩ := info_parts pbyte_info
  have hlay : lay b = [m / 256, m % 256] ++ b := by
    have : m / 256 % 256 = m / 256 := by omega
    unfold lay; rw [← hm, this]; rfl
  have h2 : BB [m / 256, m % 256] := BB.cons (by omega) (BB.cons (by omega) BB.nil)
  obtain ⟨l2, hl2⟩ : ∃ l2, l2 = [m / 256, m % 256] := ⟨_, rfl⟩
  have hlit : Gw.Own (w.alloc (.cells #[.int .u8 ((m / 256 : Nat) : Int), .int .u8 ((m % 256 : Nat) : Int)] 5)) w.heap.size 5 (some ⟨w.heap.size, 0, none⟩) 2 l2 := by rw [hl2]; exact Own.litn w 5 [m / 256, m % 256] h2 (by show 2 ≤ _; omega)
  have hll : 2 = l2.length := by rw [hl2]; rfl
  rw [← hl2] at hlay
  have e1 : ((m : Int) / 256) = ((m / 256 : Nat) : Int) := by omega
  have e2 : ((m : Int) % 256) = ((m % 256 : Nat) : Int) := by omega
  have HM := Lib.hid hm
  have HLIT := Lib.hid hlit
  have HLL := Lib.hid hll
  have HLAY := Lib.hid hlay
  have E1 := Lib.hid e1
  have E2 := Lib.hid e2
  clear hm hlit hll hlay e1 e2 h2 hl2
  go_enter Try.func36, Try.ntmps36
  go_wp2_with (at_builtin; rw [E1.out, E2.out]; refine wpList_app rfl (.tmp 15) (.tmp 16) 25 rfl w.heap.size 5 i0 _ Try.underlying25 hi0 hz0 hz1 hz2 rfl (some ⟨w.heap.size, 0, none⟩) 2 2 l2 rfl HLL.out HLIT.out w.heap.size A m c b rfl HM.out hI.none_ (hI.sl.alloc (Nat.le_refl _) _) (by rw [← HLL.out, ← HM.out]; omega) (by simp) ?_; intro A2 c2 w2 hown hgr)
  have hb2 := below_app0 (((Below.refl w.heap.size w).alloc (Nat.le_refl _) _)) (by simp) HLIT.out hgr
  go_wp2
  go_ret2
  exact ⟨A2, l2.length + b.length, c2, rfl, by rw [HLAY.out]; exact List.length_append.symm, by rw [HLAY.out]; exact hown, hb2⟩
/-- What the definition's Int answers, in any world. -/
theorem fint_any (n : Int) (w : World) : Calls Try.prog 35 #[.int .i64 n] w fun e w' => ∃ A2 N c2, e = .returned (.tuple #[.slice A2 N c2, .bool (okN n)]) ∧ Below w.heap.size w w' ∧ Sl w' w'.heap.size A2 (orN (okN n) (num n)) ∧ N = (orN (okN n) (num n)).length := by
  by_cases ho : okN n = true
  · have h := okN_iff.1 ho
    refine (fint_yes n w h.1 h.2).mono ?_
    rintro e w' ⟨rfl, rfl⟩
    rw [ho]
    exact ⟨_, 4, 4, rfl, (Below.refl _ _).alloc (Nat.le_refl _) _, (Sl.lit w _ (num n) (num_bb n)).more (by simp), rfl⟩
  · refine (fint_no n w (okN_not ho)).mono ?_
    rintro e w' ⟨rfl, rfl⟩
    have : okN n = false := by simpa using ho
    rw [this]
    exact ⟨none, 0, 0, rfl, Below.refl _ _, Sl.nil, rfl⟩
theorem fbytes_any (A : Option Addr) (m c : Nat) (b : List Nat) (w : World) (hm : m = b.length) (hI : In w w.heap.size A c b) : Calls Try.prog 36 #[.slice A m c] w fun e w' =>
    ∃ A2 N c2, e = .returned (.tuple #[.slice A2 N c2, .bool (okL b)]) ∧ Below w.heap.size w w' ∧ Sl w' w'.heap.size A2 (orN (okL b) (lay b)) ∧ N = (orN (okL b) (lay b)).length := by
  by_cases ho : m ≤ 65535
  · refine (fbytes_yes A m c b w hm hI ho).mono ?_
    rintro e w' ⟨A2, N, c2, rfl, hN, hown, hb⟩
    have : okL b = true := okL_iff.2 (by omega)
    rw [this]
    exact ⟨A2, N, c2, rfl, hb, hown.sl, hN⟩
  · refine (fbytes_no A m c w (by omega)).mono ?_
    rintro e w' ⟨rfl, rfl⟩
    have : okL b = false := by
      cases h : okL b with
      | false => rfl
      | true => exact absurd (okL_iff.1 h) (by omega)
    rw [this]
    exact ⟨none, 0, 0, rfl, Below.refl _ _, Sl.nil, rfl⟩
/-- What Put has made behind some numbers. -/
def PtRel (w : World) (p g : Nat) (l : List Nat) (bad : Bool) (z : List Int) (i : Value) (wr : World) : Prop :=
  ∃ (k g' : Nat) (lc : List Nat) (bc : Bool), k ≤ z.length ∧ i = .int .i64 (k : Int) ∧ Bx wr p g' lc bc ∧ bkNs lc bc (z.drop k) = bkNs l bad z ∧ lc.length ≤ l.length + 4 * k ∧ (g' = g ∨ w.heap.size ≤ g') ∧ K2 w wr p g
set_option maxRecDepth 100000 in
set_option maxHeartbeats 1000000 in
/-- What Lay does to any book. -/
theorem blay_any (p g : Nat) (l : List Nat) (bad : Bool) (A : Option Addr) (m c : Nat) (d : List Nat) (w : World) (h : Bx w p g l bad) (hm : m = d.length) (hI : In w w.heap.size A c d) (hl : l.length + d.length ≤ 140737488355326) :
    Calls Try.prog 23 #[.pointer (some ⟨p, 0, none⟩), .slice A m c] w fun e w' => e = .returned (.tuple #[]) ∧ ∃ g', Bx w' p g' (bkL l bad d).1 (bkL l bad d).2 ∧ (g' = g ∨ w.heap.size ≤ g') ∧ K2 w w' p g := by
  obtain ⟨i0, hi0, hz0, hz1, hz2⟩ := info_parts pbyte_info
  rw [bkL_eq]
  have hbl := orN_lay d
  have HC := Lib.hid (fbytes_any A m c d w hm hI)
  obtain ⟨b, hb⟩ : ∃ b, b = orN (okL d) (lay d) := ⟨_, rfl⟩
  obtain ⟨ok, hok⟩ : ∃ ok, ok = okL d := ⟨_, rfl⟩
  rw [← hb] at HC hbl ⊢
  rw [← hok] at HC ⊢
  have hlen : l.length + b.length ≤ 140737488355328 := by omega
  clear hm hI hb hok hl hbl
  cases bad with
  | true =>
    go_enter Try.func23, Try.ntmps23
    go_wp2_with fail
    refine HC.out.mono ?_
    rintro e w1 ⟨A2, N, c2, rfl, hb1, hS, hN⟩
    obtain ⟨W1, hW1⟩ : ∃ W1, w1.drew = W1 := ⟨_, rfl⟩
    have hBx : Bx W1 p g l true := by rw [← hW1]; exact (h.below hb1 (Nat.le_refl _)).drew
    have hSl : Sl W1 W1.heap.size A2 b := by rw [← hW1]; exact hS
    obtain ⟨Ao, n, co', A3, M, c3, g3, w3, c10, c11, hrun, c30, c31, hf, hfin, hg3, hK⟩ := book_app (P := Try.prog) 25 5 i0 _ Try.underlying25 hi0 hz0 hz1 hz2 rfl p g l true W1 hBx A2 N c2 b hSl hN hlen
    have hK0 : K2 w W1 p g := by rw [← hW1]; exact (K2.ofBelow (p := p) (g := g) hb1 (Nat.le_refl _)).drew
    have f0 := hf 0
    have f1 := hf 1
    have hgg : g3 = g ∨ w.heap.size ≤ g3 := by
      have := hK0.size
      omega
    have HR := Lib.hid hrun
    have HF := Lib.hid hfin
    have HK := Lib.hid (fun v v' => hK0.trans (hK v v') (.inl rfl))
    have HW1 := Lib.hid hW1
    clear hrun hfin hK hW1 hBx hSl hN hS hf hg3 hK0 hb1 h hlen
    go_wp2
    refine Gt.regionW (fun k => ([fun w => w = W1, fun w => w = w3, fun w => w = w3.setCell ⟨p, 0, none⟩ (.slice A3 M c3), fun w => w = (w3.setCell ⟨p, 0, none⟩ (.slice A3 M c3)).setCell ⟨p, 1, none⟩ (.bool true)] : List (World → Prop)).getD k (fun _ => False)) [Gt.Is (.pointer (some ⟨p, 0, none⟩)), Gt.Is (.pointer (some ⟨p, 0, none⟩)), Gt.Is (.pointer (some ⟨p, 0, none⟩)), Gt.Is (.pointer (some ⟨p, 0, none⟩)), Gt.Is (.pointer (some ⟨p, 0, none⟩)), Gt.Is (.slice Ao n co'), Gt.Is (.slice A2 N c2), Gt.Is (.slice A3 M c3), Gt.Is (.pointer (some ⟨p, 0, none⟩)), Gt.Is (.pointer (some ⟨p, 0, none⟩)), Gt.Is (.pointer (some ⟨p, 1, none⟩)), Gt.Is (.bool true), Gt.Is (.bool true), Gt.Is (undef), Gt.Is (undef), Gt.Is (.bool true), Gt.Is (.pointer (some ⟨p, 0, none⟩)), Gt.Is (.pointer (some ⟨p, 0, none⟩)), fun _ _ => True, Gt.Is (.pointer (some ⟨p, 0, none⟩)), Gt.Is (.pointer (some ⟨p, 1, none⟩)), fun _ _ => True] [7, 18, 21] [0, 0, 0, 0, 0, 0, 0, 0, 0, 0, 0, 0, 1, 1, 1, 1, 1, 1, 1, 2, 2, 2] [1, 2, 1, 1, 1, 0, 0, 0, 2, 2, 2, 1, 1, 2, 2, 2, 2, 1, 1, 3, 2, 2] 3 31
      [⟨[], [0], none⟩, ⟨[], [0], none⟩, ⟨[], [0], none⟩, ⟨[(2, 13)], [], none⟩, ⟨[(3, 14)], [], none⟩, ⟨[(4, 15)], [], none⟩, ⟨[], [4], none⟩, ⟨[(5, 16), (6, 17)], [], none⟩, ⟨[], [0], none⟩, ⟨[(8, 19)], [], none⟩, ⟨[(9, 20)], [], none⟩, ⟨[(10, 21)], [], none⟩, ⟨[(11, 22)], [], none⟩, ⟨[(12, 23)], [5], some (23, false)⟩, ⟨[(12, 23), (13, 24)], [], some (23, false)⟩, ⟨[(12, 23), (14, 25)], [], none⟩, ⟨[(0, 11)], [], none⟩, ⟨[(16, 27)], [], none⟩, ⟨[(17, 28), (7, 18)], [], none⟩, ⟨[(1, 12)], [], none⟩, ⟨[(19, 29)], [], none⟩, ⟨[(20, 30), (15, 26)], [], none⟩]
      [(0, 11), (1, 12), (2, 13), (3, 14), (4, 15), (5, 16), (6, 17), (7, 18), (8, 19), (9, 20), (10, 21), (11, 22), (12, 23), (13, 24), (14, 25), (15, 26), (16, 27), (17, 28), (19, 29), (20, 30)] (by kernel_rfl) (by kernel_rfl) rfl (by kernel_rfl) (by kernel_rfl) (by kernel_rfl) ?_ ?_ ?_ ?_
    · simp only [Gt.Firm]
      refine ⟨?_, ?_, ?_, ?_, ?_, ?_, ?_, ?_, ?_, ?_, ?_, ?_, ?_, ?_, ?_, ?_, ?_, ?_, ?_, ?_, ?_, ?_, trivial⟩
      all_goals (first
        | exact fun h => absurd h (by decide)
        | exact fun _ _ _ _ h => h
        | exact fun _ _ _ _ _ => trivial)
    · show (fun w => w = W1) _
      exact HW1.out
    · simp only [Gt.ObsW]
      refine ⟨?_, ?_, ?_, ?_, ?_, ?_, ?_, ?_, ?_, ?_, ?_, ?_, ?_, ?_, ?_, ?_, ?_, ?_, ?_, ?_, ?_, ?_, trivial⟩
      all_goals (first
        | (refine ⟨fun _ k hlo hhi a w5 hw => ?_, fun h => absurd h (by decide)⟩)
        | (refine ⟨fun h => absurd h (by decide), fun _ y hy hlt a w5 hw => ?_⟩
           have hyj : Gt.at0 [7, 18, 21] y = 7 := hy
           have hlt' : y < 3 := hlt
           obtain rfl : y = 0 := by
             rcases (show y = 0 ∨ y = 1 ∨ y = 2 by omega) with rfl | rfl | rfl
             · first | rfl | (exact absurd hyj (by decide))
             · first | rfl | (exact absurd hyj (by decide))
             · first | rfl | (exact absurd hyj (by decide))
           have hw' : (fun w => w = W1) w5 := hw)
        | (refine ⟨fun h => absurd h (by decide), fun _ y hy hlt a w5 hw => ?_⟩
           have hyj : Gt.at0 [7, 18, 21] y = 18 := hy
           have hlt' : y < 3 := hlt
           obtain rfl : y = 1 := by
             rcases (show y = 0 ∨ y = 1 ∨ y = 2 by omega) with rfl | rfl | rfl
             · first | rfl | (exact absurd hyj (by decide))
             · first | rfl | (exact absurd hyj (by decide))
             · first | rfl | (exact absurd hyj (by decide))
           have hw' : (fun w => w = w3) w5 := hw)
        | (refine ⟨fun h => absurd h (by decide), fun _ y hy hlt a w5 hw => ?_⟩
           have hyj : Gt.at0 [7, 18, 21] y = 21 := hy
           have hlt' : y < 3 := hlt
           obtain rfl : y = 2 := by
             rcases (show y = 0 ∨ y = 1 ∨ y = 2 by omega) with rfl | rfl | rfl
             · first | rfl | (exact absurd hyj (by decide))
             · first | rfl | (exact absurd hyj (by decide))
             · first | rfl | (exact absurd hyj (by decide))
           have hw' : (fun w => w = w3.setCell ⟨p, 0, none⟩ (.slice A3 M c3)) w5 := hw))
      all_goals simp only [Gt.Pre, Gt.Kept, Gt.Guarded, Gt.tys, List.getD_cons_zero, List.getD_cons_succ, Gt.Is, Nat.zero_add, Nat.reduceAdd]
      · intros
        exact Gt.okw_move rfl (by assumption)
      · intros
        exact Gt.okw_move rfl (by assumption)
      · intros
        exact Gt.okw_move rfl (by assumption)
      intros
      refine Gt.okw_run ?_ (by first | rfl | trivial)
      rotate_left
      intros
      refine Gt.okw_run ?_ (by first | rfl | trivial)
      rotate_left
      intros
      obtain rfl : k = 0 := Nat.le_antisymm hhi hlo
      have hw' : (fun w => w = W1) w5 := hw
      obtain rfl : w5 = W1 := hw'
      refine Gt.okw_run ?_ (by first | rfl | trivial)
      rotate_left
      · intros
        exact Gt.okw_move rfl (by assumption)
      · intros
        obtain rfl : w5 = W1 := hw'
        exact Gt.okt_append rfl (by assumption) (by assumption) HR.out rfl rfl
      · intros
        exact Gt.okw_move rfl (by assumption)
      intros
      refine Gt.okw_run ?_ (by first | rfl | trivial)
      rotate_left
      intros
      refine Gt.okw_run ?_ (by first | rfl | trivial)
      rotate_left
      intros
      have h1 : 0 ≤ k := hlo
      have h2 : k ≤ 1 := hhi
      rcases (show k = 0 ∨ k = 1 by omega) with rfl | rfl
      have hw' : (fun w => w = W1) w5 := hw
      obtain rfl : w5 = W1 := hw'
      refine Gt.okw_run ?_ (by first | rfl | trivial)
      rotate_left
      have hw' : (fun w => w = w3) w5 := hw
      obtain rfl : w5 = w3 := hw'
      refine Gt.okw_run ?_ (by first | rfl | trivial)
      rotate_left
      · intros
        exact Gt.okw_move rfl (by assumption)
      · intro hg0
        intros
        refine Gt.guard_no hg0 ?_ ?_
        · decide
        · first | rfl | trivial
      · intro hg0
        intros
        refine Gt.guard_no hg0 ?_ ?_
        · decide
        · first | rfl | trivial
      · intros
        first | exact Gt.okw_pick rfl (by assumption) (by rw [if_pos rfl]; first | assumption | rfl) | exact Gt.okw_pick rfl (by assumption) (by rw [if_neg (by simp)]; first | assumption | rfl)
      intros
      refine Gt.okw_run ?_ (by first | rfl | trivial)
      rotate_left
      intros
      refine Gt.okw_run ?_ (by first | rfl | trivial)
      rotate_left
      intros
      obtain rfl : w5 = w3 := hw'
      refine Gt.okt_skip (w' := w5.setCell ⟨p, 0, none⟩ (.slice A3 M c3)) ?_ rfl trivial
      rotate_left
      intros
      refine Gt.okw_run ?_ (by first | rfl | trivial)
      rotate_left
      intros
      refine Gt.okw_run ?_ (by first | rfl | trivial)
      rotate_left
      intros
      obtain rfl : w5 = w3.setCell ⟨p, 0, none⟩ (.slice A3 M c3) := hw'
      refine Gt.okt_skip (w' := (w3.setCell ⟨p, 0, none⟩ (.slice A3 M c3)).setCell ⟨p, 1, none⟩ (.bool true)) ?_ rfl trivial
      rotate_left
      all_goals (
        simp only [execOp, *]
        go_simp
        done)
    · intro a w5 hw
      have hw' : (fun w => w = (w3.setCell ⟨p, 0, none⟩ (.slice A3 M c3)).setCell ⟨p, 1, none⟩ (.bool true)) w5 := hw
      simp only [Gt.Pre, Gt.tys, List.getD_cons_zero, List.getD_cons_succ, Gt.Is]
      intro h0 h1 h2 h3 h4 h5 h6 h7 h8 h9 h10 h11 h12 h13 h14 h15 h16 h17 h19 h20
      simp only [Gt.puts, List.foldl_cons, List.foldl_nil, h0, h1, h2, h3, h4, h5, h6, h7, h8, h9, h10, h11, h12, h13, h14, h15, h16, h17, h19, h20]
      simp only [Act.put, List.setIfInBounds_toArray, List.set_cons_zero, List.set_cons_succ]
      go_end0
      rw [show w5 = _ from hw']
      exact ⟨rfl, g3, HF.out true, hgg, HK.out _ _⟩
  | false =>
    go_enter Try.func23, Try.ntmps23
    go_wp2_with fail
    refine HC.out.mono ?_
    rintro e w1 ⟨A2, N, c2, rfl, hb1, hS, hN⟩
    obtain ⟨W1, hW1⟩ : ∃ W1, w1.drew = W1 := ⟨_, rfl⟩
    have hBx : Bx W1 p g l false := by rw [← hW1]; exact (h.below hb1 (Nat.le_refl _)).drew
    have hSl : Sl W1 W1.heap.size A2 b := by rw [← hW1]; exact hS
    obtain ⟨Ao, n, co', A3, M, c3, g3, w3, c10, c11, hrun, c30, c31, hf, hfin, hg3, hK⟩ := book_app (P := Try.prog) 25 5 i0 _ Try.underlying25 hi0 hz0 hz1 hz2 rfl p g l false W1 hBx A2 N c2 b hSl hN hlen
    have hK0 : K2 w W1 p g := by rw [← hW1]; exact (K2.ofBelow (p := p) (g := g) hb1 (Nat.le_refl _)).drew
    have f0 := hf 0
    have f1 := hf 1
    have hgg : g3 = g ∨ w.heap.size ≤ g3 := by
      have := hK0.size
      omega
    have HR := Lib.hid hrun
    have HF := Lib.hid hfin
    have HK := Lib.hid (fun v v' => hK0.trans (hK v v') (.inl rfl))
    have HW1 := Lib.hid hW1
    clear hrun hfin hK hW1 hBx hSl hN hS hf hg3 hK0 hb1 h hlen
    go_wp2
    refine Gt.regionW (fun k => ([fun w => w = W1, fun w => w = w3, fun w => w = w3.setCell ⟨p, 0, none⟩ (.slice A3 M c3), fun w => w = (w3.setCell ⟨p, 0, none⟩ (.slice A3 M c3)).setCell ⟨p, 1, none⟩ (.bool (!ok))] : List (World → Prop)).getD k (fun _ => False)) [Gt.Is (.pointer (some ⟨p, 0, none⟩)), Gt.Is (.pointer (some ⟨p, 0, none⟩)), Gt.Is (.pointer (some ⟨p, 0, none⟩)), Gt.Is (.pointer (some ⟨p, 0, none⟩)), Gt.Is (.pointer (some ⟨p, 0, none⟩)), Gt.Is (.slice Ao n co'), Gt.Is (.slice A2 N c2), Gt.Is (.slice A3 M c3), Gt.Is (.pointer (some ⟨p, 0, none⟩)), Gt.Is (.pointer (some ⟨p, 0, none⟩)), Gt.Is (.pointer (some ⟨p, 1, none⟩)), Gt.Is (.bool false), Gt.Is (.bool false), Gt.Is (.bool ok), Gt.Is (.bool (!ok)), Gt.Is (.bool (!ok)), Gt.Is (.pointer (some ⟨p, 0, none⟩)), Gt.Is (.pointer (some ⟨p, 0, none⟩)), fun _ _ => True, Gt.Is (.pointer (some ⟨p, 0, none⟩)), Gt.Is (.pointer (some ⟨p, 1, none⟩)), fun _ _ => True] [7, 18, 21] [0, 0, 0, 0, 0, 0, 0, 0, 0, 0, 0, 0, 1, 1, 1, 1, 1, 1, 1, 2, 2, 2] [1, 2, 1, 1, 1, 0, 0, 0, 2, 2, 2, 1, 1, 2, 2, 2, 2, 1, 1, 3, 2, 2] 3 31
      [⟨[], [0], none⟩, ⟨[], [0], none⟩, ⟨[], [0], none⟩, ⟨[(2, 13)], [], none⟩, ⟨[(3, 14)], [], none⟩, ⟨[(4, 15)], [], none⟩, ⟨[], [4], none⟩, ⟨[(5, 16), (6, 17)], [], none⟩, ⟨[], [0], none⟩, ⟨[(8, 19)], [], none⟩, ⟨[(9, 20)], [], none⟩, ⟨[(10, 21)], [], none⟩, ⟨[(11, 22)], [], none⟩, ⟨[(12, 23)], [5], some (23, false)⟩, ⟨[(12, 23), (13, 24)], [], some (23, false)⟩, ⟨[(12, 23), (14, 25)], [], none⟩, ⟨[(0, 11)], [], none⟩, ⟨[(16, 27)], [], none⟩, ⟨[(17, 28), (7, 18)], [], none⟩, ⟨[(1, 12)], [], none⟩, ⟨[(19, 29)], [], none⟩, ⟨[(20, 30), (15, 26)], [], none⟩]
      [(0, 11), (1, 12), (2, 13), (3, 14), (4, 15), (5, 16), (6, 17), (7, 18), (8, 19), (9, 20), (10, 21), (11, 22), (12, 23), (13, 24), (14, 25), (15, 26), (16, 27), (17, 28), (19, 29), (20, 30)] (by kernel_rfl) (by kernel_rfl) rfl (by kernel_rfl) (by kernel_rfl) (by kernel_rfl) ?_ ?_ ?_ ?_
    · simp only [Gt.Firm]
      refine ⟨?_, ?_, ?_, ?_, ?_, ?_, ?_, ?_, ?_, ?_, ?_, ?_, ?_, ?_, ?_, ?_, ?_, ?_, ?_, ?_, ?_, ?_, trivial⟩
      all_goals (first
        | exact fun h => absurd h (by decide)
        | exact fun _ _ _ _ h => h
        | exact fun _ _ _ _ _ => trivial)
    · show (fun w => w = W1) _
      exact HW1.out
    · simp only [Gt.ObsW]
      refine ⟨?_, ?_, ?_, ?_, ?_, ?_, ?_, ?_, ?_, ?_, ?_, ?_, ?_, ?_, ?_, ?_, ?_, ?_, ?_, ?_, ?_, ?_, trivial⟩
      all_goals (first
        | (refine ⟨fun _ k hlo hhi a w5 hw => ?_, fun h => absurd h (by decide)⟩)
        | (refine ⟨fun h => absurd h (by decide), fun _ y hy hlt a w5 hw => ?_⟩
           have hyj : Gt.at0 [7, 18, 21] y = 7 := hy
           have hlt' : y < 3 := hlt
           obtain rfl : y = 0 := by
             rcases (show y = 0 ∨ y = 1 ∨ y = 2 by omega) with rfl | rfl | rfl
             · first | rfl | (exact absurd hyj (by decide))
             · first | rfl | (exact absurd hyj (by decide))
             · first | rfl | (exact absurd hyj (by decide))
           have hw' : (fun w => w = W1) w5 := hw)
        | (refine ⟨fun h => absurd h (by decide), fun _ y hy hlt a w5 hw => ?_⟩
           have hyj : Gt.at0 [7, 18, 21] y = 18 := hy
           have hlt' : y < 3 := hlt
           obtain rfl : y = 1 := by
             rcases (show y = 0 ∨ y = 1 ∨ y = 2 by omega) with rfl | rfl | rfl
             · first | rfl | (exact absurd hyj (by decide))
             · first | rfl | (exact absurd hyj (by decide))
             · first | rfl | (exact absurd hyj (by decide))
           have hw' : (fun w => w = w3) w5 := hw)
        | (refine ⟨fun h => absurd h (by decide), fun _ y hy hlt a w5 hw => ?_⟩
           have hyj : Gt.at0 [7, 18, 21] y = 21 := hy
           have hlt' : y < 3 := hlt
           obtain rfl : y = 2 := by
             rcases (show y = 0 ∨ y = 1 ∨ y = 2 by omega) with rfl | rfl | rfl
             · first | rfl | (exact absurd hyj (by decide))
             · first | rfl | (exact absurd hyj (by decide))
             · first | rfl | (exact absurd hyj (by decide))
           have hw' : (fun w => w = w3.setCell ⟨p, 0, none⟩ (.slice A3 M c3)) w5 := hw))
      all_goals simp only [Gt.Pre, Gt.Kept, Gt.Guarded, Gt.tys, List.getD_cons_zero, List.getD_cons_succ, Gt.Is, Nat.zero_add, Nat.reduceAdd]
      · intros
        exact Gt.okw_move rfl (by assumption)
      · intros
        exact Gt.okw_move rfl (by assumption)
      · intros
        exact Gt.okw_move rfl (by assumption)
      intros
      refine Gt.okw_run ?_ (by first | rfl | trivial)
      rotate_left
      intros
      refine Gt.okw_run ?_ (by first | rfl | trivial)
      rotate_left
      intros
      obtain rfl : k = 0 := Nat.le_antisymm hhi hlo
      have hw' : (fun w => w = W1) w5 := hw
      obtain rfl : w5 = W1 := hw'
      refine Gt.okw_run ?_ (by first | rfl | trivial)
      rotate_left
      · intros
        exact Gt.okw_move rfl (by assumption)
      · intros
        obtain rfl : w5 = W1 := hw'
        exact Gt.okt_append rfl (by assumption) (by assumption) HR.out rfl rfl
      · intros
        exact Gt.okw_move rfl (by assumption)
      intros
      refine Gt.okw_run ?_ (by first | rfl | trivial)
      rotate_left
      intros
      refine Gt.okw_run ?_ (by first | rfl | trivial)
      rotate_left
      intros
      have h1 : 0 ≤ k := hlo
      have h2 : k ≤ 1 := hhi
      rcases (show k = 0 ∨ k = 1 by omega) with rfl | rfl
      have hw' : (fun w => w = W1) w5 := hw
      obtain rfl : w5 = W1 := hw'
      refine Gt.okw_run ?_ (by first | rfl | trivial)
      rotate_left
      have hw' : (fun w => w = w3) w5 := hw
      obtain rfl : w5 = w3 := hw'
      refine Gt.okw_run ?_ (by first | rfl | trivial)
      rotate_left
      · intros
        exact Gt.okw_move rfl (by assumption)
      · intros
        refine Gt.guard_yes (by assumption) ?_
        exact Gt.okw_move rfl (by assumption)
      intros
      refine Gt.guard_yes (by assumption) ?_
      refine Gt.okw_run ?_ (by first | rfl | trivial)
      rotate_left
      · intros
        first | exact Gt.okw_pick rfl (by assumption) (by rw [if_pos rfl]; first | assumption | rfl) | exact Gt.okw_pick rfl (by assumption) (by rw [if_neg (by simp)]; first | assumption | rfl)
      intros
      refine Gt.okw_run ?_ (by first | rfl | trivial)
      rotate_left
      intros
      refine Gt.okw_run ?_ (by first | rfl | trivial)
      rotate_left
      intros
      obtain rfl : w5 = w3 := hw'
      refine Gt.okt_skip (w' := w5.setCell ⟨p, 0, none⟩ (.slice A3 M c3)) ?_ rfl trivial
      rotate_left
      intros
      refine Gt.okw_run ?_ (by first | rfl | trivial)
      rotate_left
      intros
      refine Gt.okw_run ?_ (by first | rfl | trivial)
      rotate_left
      intros
      obtain rfl : w5 = w3.setCell ⟨p, 0, none⟩ (.slice A3 M c3) := hw'
      refine Gt.okt_skip (w' := (w3.setCell ⟨p, 0, none⟩ (.slice A3 M c3)).setCell ⟨p, 1, none⟩ (.bool (!ok))) ?_ rfl trivial
      rotate_left
      all_goals (
        simp only [execOp, *]
        go_simp
        done)
    · intro a w5 hw
      have hw' : (fun w => w = (w3.setCell ⟨p, 0, none⟩ (.slice A3 M c3)).setCell ⟨p, 1, none⟩ (.bool (!ok))) w5 := hw
      simp only [Gt.Pre, Gt.tys, List.getD_cons_zero, List.getD_cons_succ, Gt.Is]
      intro h0 h1 h2 h3 h4 h5 h6 h7 h8 h9 h10 h11 h12 h13 h14 h15 h16 h17 h19 h20
      simp only [Gt.puts, List.foldl_cons, List.foldl_nil, h0, h1, h2, h3, h4, h5, h6, h7, h8, h9, h10, h11, h12, h13, h14, h15, h16, h17, h19, h20]
      simp only [Act.put, List.setIfInBounds_toArray, List.set_cons_zero, List.set_cons_succ]
      go_end0
      rw [show w5 = _ from hw']
      exact ⟨rfl, g3, HF.out (!ok), hgg, HK.out _ _⟩
set_option maxRecDepth 100000 in
set_option maxHeartbeats 2000000 in
/-- What Put does to any book. -/
theorem bput_any (p g : Nat) (l : List Nat) (bad : Bool) (A : Option Addr) (m c B : Nat) (z : List Int) (w : World) (h : Bx w p g l bad) (hm : m = z.length) (hI : InZ w B A c z) (hB : ∀ b off, A = some ⟨b, off, none⟩ → z ≠ [] → b ≠ p ∧ b ≠ g) (hl : l.length + 4 * z.length ≤ 140737488355328) :
    Calls Try.prog 21 #[.pointer (some ⟨p, 0, none⟩), .slice A m c] w fun e w' => e = .returned (.tuple #[]) ∧ ∃ g', Bx w' p g' (bkNs l bad z).1 (bkNs l bad z).2 ∧ (g' = g ∨ w.heap.size ≤ g') ∧ K2 w w' p g := by
  obtain ⟨i0, hi0, hz0, hz1, hz2⟩ := info_parts pbyte_info
  have HM := Lib.hid hm
  have hmb : m ≤ 35184372088832 := by omega
  clear hm
  go_enter Try.func21, Try.ntmps21
  go_wp2
  go_loopw [4] (PtRel w p g l bad z) (fun i _ => m - (intOf i).toNat)
  case atStart => exact ⟨0, g, l, bad, Nat.zero_le _, rfl, h, rfl, Nat.le_refl _, .inl rfl, K2.refl _ _ _⟩
  case round =>
    obtain ⟨k, g', lc, bc, hk, rfl, hbx, hrest, hlc, hg', hkw⟩ := hrel
    by_cases hkm : k < m
    · have hkz : k < z.length := by rw [← HM.out]; exact hkm
      obtain ⟨x, hx⟩ : ∃ x, z[k]? = some x := ⟨_, List.getElem?_eq_getElem hkz⟩
      obtain ⟨hwf, b0, off, rfl, hbB, hc⟩ := hI.sl k x hx
      have hne := hB b0 off rfl (fun e => by rw [e] at hkz; simp at hkz)
      have hcr : wr.cell? ⟨b0, off + k, none⟩ = some (.int .i64 x) := (cell_heap (hkw.block b0 (cell_lt hc) hne.1 hne.2)).trans hc
      have hbl := orN_num x
      have hstep := bkN_eq lc bc x
      have HC := Lib.hid (fint_any x wr)
      obtain ⟨b, hb⟩ : ∃ b, b = orN (okN x) (num x) := ⟨_, rfl⟩
      obtain ⟨ok, hok⟩ : ∃ ok, ok = okN x := ⟨_, rfl⟩
      rw [← hb] at HC hbl hstep
      rw [← hok] at HC hstep
      have hlen : lc.length + b.length ≤ 140737488355328 := by rw [HM.out] at hkm; omega
      have hrest2 : bkNs (lc ++ b) (bc || !ok) (z.drop (k + 1)) = bkNs l bad z := by
        rw [← hrest, List.drop_eq_getElem_cons hkz]
        have : z[k] = x := by rw [List.getElem?_eq_getElem hkz] at hx; injection hx
        rw [this]
        show _ = bkNs (bkN lc bc x).1 (bkN lc bc x).2 _
        rw [hstep]
      have HRE := Lib.hid hrest2
      have HLB := Lib.hid (show (lc ++ b).length ≤ l.length + 4 * (k + 1) by rw [List.length_append]; omega)
      have HKW := Lib.hid hkw
      have HX := Lib.hid hbx
      have HLN := Lib.hid hlen
      have hin : (k : Int) < (m : Int) := by omega
      have hgw := hkw.size
      have HGW := Lib.hid hgw
      clear hI hrest hb hok hbl hlc hx hc hwf hl hstep hlen hrest2 hkw h hbx hgw hne
      cases bc with
      | true =>
        go_wp2_with fail
        refine HC.out.mono ?_
        rintro e w1 ⟨A2, N, c2, rfl, hb1, hS, hN⟩
        obtain ⟨W1, hW1⟩ : ∃ W1, w1.drew = W1 := ⟨_, rfl⟩
        have hBx : Bx W1 p g' lc true := by rw [← hW1]; exact (HX.out.below hb1 (Nat.le_refl _)).drew
        have hSl : Sl W1 W1.heap.size A2 b := by rw [← hW1]; exact hS
        obtain ⟨Ao, n, co', A3, M, c3, g3, w3, c10, c11, hrun, c30, c31, hf, hfin, hg3, hK⟩ := book_app (P := Try.prog) 25 5 i0 _ Try.underlying25 hi0 hz0 hz1 hz2 rfl p g' lc true W1 hBx A2 N c2 b hSl hN HLN.out
        have hK0 : K2 wr W1 p g' := by rw [← hW1]; exact (K2.ofBelow (p := p) (g := g') hb1 (Nat.le_refl _)).drew
        have f0 := hf 0
        have f1 := hf 1
        have hgg : g3 = g' ∨ wr.heap.size ≤ g3 := by
          have := hK0.size
          omega
        have HR := Lib.hid hrun
        have HF := Lib.hid hfin
        have HK := Lib.hid (fun v v' => hK0.trans (hK v v') (.inl rfl))
        have HW1 := Lib.hid hW1
        clear hrun hfin hK hW1 hBx hSl hN hS hf hg3 hK0 hb1 
        go_wp2
        refine Gt.regionW (fun k => ([fun w => w = W1, fun w => w = w3, fun w => w = w3.setCell ⟨p, 0, none⟩ (.slice A3 M c3), fun w => w = (w3.setCell ⟨p, 0, none⟩ (.slice A3 M c3)).setCell ⟨p, 1, none⟩ (.bool true)] : List (World → Prop)).getD k (fun _ => False)) [Gt.Is (.pointer (some ⟨p, 0, none⟩)), Gt.Is (.pointer (some ⟨p, 0, none⟩)), Gt.Is (.pointer (some ⟨p, 0, none⟩)), Gt.Is (.pointer (some ⟨p, 0, none⟩)), Gt.Is (.pointer (some ⟨p, 0, none⟩)), Gt.Is (.slice Ao n co'), Gt.Is (.slice A2 N c2), Gt.Is (.slice A3 M c3), Gt.Is (.pointer (some ⟨p, 0, none⟩)), Gt.Is (.pointer (some ⟨p, 0, none⟩)), Gt.Is (.pointer (some ⟨p, 1, none⟩)), Gt.Is (.bool true), Gt.Is (.bool true), Gt.Is (undef), Gt.Is (undef), Gt.Is (.bool true), Gt.Is (.pointer (some ⟨p, 0, none⟩)), Gt.Is (.pointer (some ⟨p, 0, none⟩)), fun _ _ => True, Gt.Is (.pointer (some ⟨p, 0, none⟩)), Gt.Is (.pointer (some ⟨p, 1, none⟩)), fun _ _ => True] [7, 18, 21] [0, 0, 0, 0, 0, 0, 0, 0, 0, 0, 0, 0, 1, 1, 1, 1, 1, 1, 1, 2, 2, 2] [1, 2, 1, 1, 1, 0, 0, 0, 2, 2, 2, 1, 1, 2, 2, 2, 2, 1, 1, 3, 2, 2] 3 41
          [⟨[], [0], none⟩, ⟨[], [0], none⟩, ⟨[], [0], none⟩, ⟨[(2, 23)], [], none⟩, ⟨[(3, 24)], [], none⟩, ⟨[(4, 25)], [], none⟩, ⟨[], [5], none⟩, ⟨[(5, 26), (6, 27)], [], none⟩, ⟨[], [0], none⟩, ⟨[(8, 29)], [], none⟩, ⟨[(9, 30)], [], none⟩, ⟨[(10, 31)], [], none⟩, ⟨[(11, 32)], [], none⟩, ⟨[(12, 33)], [6], some (33, false)⟩, ⟨[(12, 33), (13, 34)], [], some (33, false)⟩, ⟨[(12, 33), (14, 35)], [], none⟩, ⟨[(0, 21)], [], none⟩, ⟨[(16, 37)], [], none⟩, ⟨[(17, 38), (7, 28)], [], none⟩, ⟨[(1, 22)], [], none⟩, ⟨[(19, 39)], [], none⟩, ⟨[(20, 40), (15, 36)], [], none⟩]
          [(0, 21), (1, 22), (2, 23), (3, 24), (4, 25), (5, 26), (6, 27), (7, 28), (8, 29), (9, 30), (10, 31), (11, 32), (12, 33), (13, 34), (14, 35), (15, 36), (16, 37), (17, 38), (19, 39), (20, 40)] (by kernel_rfl) (by kernel_rfl) rfl (by kernel_rfl) (by kernel_rfl) (by kernel_rfl) ?_ ?_ ?_ ?_
        · simp only [Gt.Firm]
          refine ⟨?_, ?_, ?_, ?_, ?_, ?_, ?_, ?_, ?_, ?_, ?_, ?_, ?_, ?_, ?_, ?_, ?_, ?_, ?_, ?_, ?_, ?_, trivial⟩
          all_goals (first
            | exact fun h => absurd h (by decide)
            | exact fun _ _ _ _ h => h
            | exact fun _ _ _ _ _ => trivial)
        · show (fun w => w = W1) _
          exact HW1.out
        · simp only [Gt.ObsW]
          refine ⟨?_, ?_, ?_, ?_, ?_, ?_, ?_, ?_, ?_, ?_, ?_, ?_, ?_, ?_, ?_, ?_, ?_, ?_, ?_, ?_, ?_, ?_, trivial⟩
          all_goals (first
            | (refine ⟨fun _ k hlo hhi a w5 hw => ?_, fun h => absurd h (by decide)⟩)
            | (refine ⟨fun h => absurd h (by decide), fun _ y hy hlt a w5 hw => ?_⟩
               have hyj : Gt.at0 [7, 18, 21] y = 7 := hy
               have hlt' : y < 3 := hlt
               obtain rfl : y = 0 := by
                 rcases (show y = 0 ∨ y = 1 ∨ y = 2 by omega) with rfl | rfl | rfl
                 · first | rfl | (exact absurd hyj (by decide))
                 · first | rfl | (exact absurd hyj (by decide))
                 · first | rfl | (exact absurd hyj (by decide))
               have hw' : (fun w => w = W1) w5 := hw)
            | (refine ⟨fun h => absurd h (by decide), fun _ y hy hlt a w5 hw => ?_⟩
               have hyj : Gt.at0 [7, 18, 21] y = 18 := hy
               have hlt' : y < 3 := hlt
               obtain rfl : y = 1 := by
                 rcases (show y = 0 ∨ y = 1 ∨ y = 2 by omega) with rfl | rfl | rfl
                 · first | rfl | (exact absurd hyj (by decide))
                 · first | rfl | (exact absurd hyj (by decide))
                 · first | rfl | (exact absurd hyj (by decide))
               have hw' : (fun w => w = w3) w5 := hw)
            | (refine ⟨fun h => absurd h (by decide), fun _ y hy hlt a w5 hw => ?_⟩
               have hyj : Gt.at0 [7, 18, 21] y = 21 := hy
               have hlt' : y < 3 := hlt
               obtain rfl : y = 2 := by
                 rcases (show y = 0 ∨ y = 1 ∨ y = 2 by omega) with rfl | rfl | rfl
                 · first | rfl | (exact absurd hyj (by decide))
                 · first | rfl | (exact absurd hyj (by decide))
                 · first | rfl | (exact absurd hyj (by decide))
               have hw' : (fun w => w = w3.setCell ⟨p, 0, none⟩ (.slice A3 M c3)) w5 := hw))
          all_goals simp only [Gt.Pre, Gt.Kept, Gt.Guarded, Gt.tys, List.getD_cons_zero, List.getD_cons_succ, Gt.Is, Nat.zero_add, Nat.reduceAdd]
          · intros
            exact Gt.okw_move rfl (by assumption)
          · intros
            exact Gt.okw_move rfl (by assumption)
          · intros
            exact Gt.okw_move rfl (by assumption)
          intros
          refine Gt.okw_run ?_ (by first | rfl | trivial)
          rotate_left
          intros
          refine Gt.okw_run ?_ (by first | rfl | trivial)
          rotate_left
          intros
          obtain rfl : k = 0 := Nat.le_antisymm hhi hlo
          have hw' : (fun w => w = W1) w5 := hw
          obtain rfl : w5 = W1 := hw'
          refine Gt.okw_run ?_ (by first | rfl | trivial)
          rotate_left
          · intros
            exact Gt.okw_move rfl (by assumption)
          · intros
            obtain rfl : w5 = W1 := hw'
            exact Gt.okt_append rfl (by assumption) (by assumption) HR.out rfl rfl
          · intros
            exact Gt.okw_move rfl (by assumption)
          intros
          refine Gt.okw_run ?_ (by first | rfl | trivial)
          rotate_left
          intros
          refine Gt.okw_run ?_ (by first | rfl | trivial)
          rotate_left
          intros
          have h1 : 0 ≤ k := hlo
          have h2 : k ≤ 1 := hhi
          rcases (show k = 0 ∨ k = 1 by omega) with rfl | rfl
          have hw' : (fun w => w = W1) w5 := hw
          obtain rfl : w5 = W1 := hw'
          refine Gt.okw_run ?_ (by first | rfl | trivial)
          rotate_left
          have hw' : (fun w => w = w3) w5 := hw
          obtain rfl : w5 = w3 := hw'
          refine Gt.okw_run ?_ (by first | rfl | trivial)
          rotate_left
          · intros
            exact Gt.okw_move rfl (by assumption)
          · intro hg0
            intros
            refine Gt.guard_no hg0 ?_ ?_
            · decide
            · first | rfl | trivial
          · intro hg0
            intros
            refine Gt.guard_no hg0 ?_ ?_
            · decide
            · first | rfl | trivial
          · intros
            first | exact Gt.okw_pick rfl (by assumption) (by rw [if_pos rfl]; first | assumption | rfl) | exact Gt.okw_pick rfl (by assumption) (by rw [if_neg (by simp)]; first | assumption | rfl)
          intros
          refine Gt.okw_run ?_ (by first | rfl | trivial)
          rotate_left
          intros
          refine Gt.okw_run ?_ (by first | rfl | trivial)
          rotate_left
          intros
          obtain rfl : w5 = w3 := hw'
          refine Gt.okt_skip (w' := w5.setCell ⟨p, 0, none⟩ (.slice A3 M c3)) ?_ rfl trivial
          rotate_left
          intros
          refine Gt.okw_run ?_ (by first | rfl | trivial)
          rotate_left
          intros
          refine Gt.okw_run ?_ (by first | rfl | trivial)
          rotate_left
          intros
          obtain rfl : w5 = w3.setCell ⟨p, 0, none⟩ (.slice A3 M c3) := hw'
          refine Gt.okt_skip (w' := (w3.setCell ⟨p, 0, none⟩ (.slice A3 M c3)).setCell ⟨p, 1, none⟩ (.bool true)) ?_ rfl trivial
          rotate_left
          all_goals (
            simp only [execOp, *]
            go_simp
            done)
        · intro a w5 hw
          have hw' : (fun w => w = (w3.setCell ⟨p, 0, none⟩ (.slice A3 M c3)).setCell ⟨p, 1, none⟩ (.bool true)) w5 := hw
          simp only [Gt.Pre, Gt.tys, List.getD_cons_zero, List.getD_cons_succ, Gt.Is]
          intro h0 h1 h2 h3 h4 h5 h6 h7 h8 h9 h10 h11 h12 h13 h14 h15 h16 h17 h19 h20
          simp only [Gt.puts, List.foldl_cons, List.foldl_nil, h0, h1, h2, h3, h4, h5, h6, h7, h8, h9, h10, h11, h12, h13, h14, h15, h16, h17, h19, h20]
          simp only [Act.put, List.setIfInBounds_toArray, List.set_cons_zero, List.set_cons_succ]
          go_wp2
          have hFF := HF.out true
          have hKK := HK.out (.slice A3 M c3) (.bool true)
          go_roundw
          case rel => exact ⟨k + 1, g3, lc ++ b, true, by rw [← HM.out]; omega, by go_num, hFF, HRE.out, HLB.out, by have := HGW.out; omega, HKW.out.then (g1 := g') hKK (by omega)⟩
          case measure => simp [intOf]; omega
      | false =>
        go_wp2_with fail
        refine HC.out.mono ?_
        rintro e w1 ⟨A2, N, c2, rfl, hb1, hS, hN⟩
        obtain ⟨W1, hW1⟩ : ∃ W1, w1.drew = W1 := ⟨_, rfl⟩
        have hBx : Bx W1 p g' lc false := by rw [← hW1]; exact (HX.out.below hb1 (Nat.le_refl _)).drew
        have hSl : Sl W1 W1.heap.size A2 b := by rw [← hW1]; exact hS
        obtain ⟨Ao, n, co', A3, M, c3, g3, w3, c10, c11, hrun, c30, c31, hf, hfin, hg3, hK⟩ := book_app (P := Try.prog) 25 5 i0 _ Try.underlying25 hi0 hz0 hz1 hz2 rfl p g' lc false W1 hBx A2 N c2 b hSl hN HLN.out
        have hK0 : K2 wr W1 p g' := by rw [← hW1]; exact (K2.ofBelow (p := p) (g := g') hb1 (Nat.le_refl _)).drew
        have f0 := hf 0
        have f1 := hf 1
        have hgg : g3 = g' ∨ wr.heap.size ≤ g3 := by
          have := hK0.size
          omega
        have HR := Lib.hid hrun
        have HF := Lib.hid hfin
        have HK := Lib.hid (fun v v' => hK0.trans (hK v v') (.inl rfl))
        have HW1 := Lib.hid hW1
        clear hrun hfin hK hW1 hBx hSl hN hS hf hg3 hK0 hb1 
        go_wp2
        refine Gt.regionW (fun k => ([fun w => w = W1, fun w => w = w3, fun w => w = w3.setCell ⟨p, 0, none⟩ (.slice A3 M c3), fun w => w = (w3.setCell ⟨p, 0, none⟩ (.slice A3 M c3)).setCell ⟨p, 1, none⟩ (.bool (!ok))] : List (World → Prop)).getD k (fun _ => False)) [Gt.Is (.pointer (some ⟨p, 0, none⟩)), Gt.Is (.pointer (some ⟨p, 0, none⟩)), Gt.Is (.pointer (some ⟨p, 0, none⟩)), Gt.Is (.pointer (some ⟨p, 0, none⟩)), Gt.Is (.pointer (some ⟨p, 0, none⟩)), Gt.Is (.slice Ao n co'), Gt.Is (.slice A2 N c2), Gt.Is (.slice A3 M c3), Gt.Is (.pointer (some ⟨p, 0, none⟩)), Gt.Is (.pointer (some ⟨p, 0, none⟩)), Gt.Is (.pointer (some ⟨p, 1, none⟩)), Gt.Is (.bool false), Gt.Is (.bool false), Gt.Is (.bool ok), Gt.Is (.bool (!ok)), Gt.Is (.bool (!ok)), Gt.Is (.pointer (some ⟨p, 0, none⟩)), Gt.Is (.pointer (some ⟨p, 0, none⟩)), fun _ _ => True, Gt.Is (.pointer (some ⟨p, 0, none⟩)), Gt.Is (.pointer (some ⟨p, 1, none⟩)), fun _ _ => True] [7, 18, 21] [0, 0, 0, 0, 0, 0, 0, 0, 0, 0, 0, 0, 1, 1, 1, 1, 1, 1, 1, 2, 2, 2] [1, 2, 1, 1, 1, 0, 0, 0, 2, 2, 2, 1, 1, 2, 2, 2, 2, 1, 1, 3, 2, 2] 3 41
          [⟨[], [0], none⟩, ⟨[], [0], none⟩, ⟨[], [0], none⟩, ⟨[(2, 23)], [], none⟩, ⟨[(3, 24)], [], none⟩, ⟨[(4, 25)], [], none⟩, ⟨[], [5], none⟩, ⟨[(5, 26), (6, 27)], [], none⟩, ⟨[], [0], none⟩, ⟨[(8, 29)], [], none⟩, ⟨[(9, 30)], [], none⟩, ⟨[(10, 31)], [], none⟩, ⟨[(11, 32)], [], none⟩, ⟨[(12, 33)], [6], some (33, false)⟩, ⟨[(12, 33), (13, 34)], [], some (33, false)⟩, ⟨[(12, 33), (14, 35)], [], none⟩, ⟨[(0, 21)], [], none⟩, ⟨[(16, 37)], [], none⟩, ⟨[(17, 38), (7, 28)], [], none⟩, ⟨[(1, 22)], [], none⟩, ⟨[(19, 39)], [], none⟩, ⟨[(20, 40), (15, 36)], [], none⟩]
          [(0, 21), (1, 22), (2, 23), (3, 24), (4, 25), (5, 26), (6, 27), (7, 28), (8, 29), (9, 30), (10, 31), (11, 32), (12, 33), (13, 34), (14, 35), (15, 36), (16, 37), (17, 38), (19, 39), (20, 40)] (by kernel_rfl) (by kernel_rfl) rfl (by kernel_rfl) (by kernel_rfl) (by kernel_rfl) ?_ ?_ ?_ ?_
        · simp only [Gt.Firm]
          refine ⟨?_, ?_, ?_, ?_, ?_, ?_, ?_, ?_, ?_, ?_, ?_, ?_, ?_, ?_, ?_, ?_, ?_, ?_, ?_, ?_, ?_, ?_, trivial⟩
          all_goals (first
            | exact fun h => absurd h (by decide)
            | exact fun _ _ _ _ h => h
            | exact fun _ _ _ _ _ => trivial)
        · show (fun w => w = W1) _
          exact HW1.out
        · simp only [Gt.ObsW]
          refine ⟨?_, ?_, ?_, ?_, ?_, ?_, ?_, ?_, ?_, ?_, ?_, ?_, ?_, ?_, ?_, ?_, ?_, ?_, ?_, ?_, ?_, ?_, trivial⟩
          all_goals (first
            | (refine ⟨fun _ k hlo hhi a w5 hw => ?_, fun h => absurd h (by decide)⟩)
            | (refine ⟨fun h => absurd h (by decide), fun _ y hy hlt a w5 hw => ?_⟩
               have hyj : Gt.at0 [7, 18, 21] y = 7 := hy
               have hlt' : y < 3 := hlt
               obtain rfl : y = 0 := by
                 rcases (show y = 0 ∨ y = 1 ∨ y = 2 by omega) with rfl | rfl | rfl
                 · first | rfl | (exact absurd hyj (by decide))
                 · first | rfl | (exact absurd hyj (by decide))
                 · first | rfl | (exact absurd hyj (by decide))
               have hw' : (fun w => w = W1) w5 := hw)
            | (refine ⟨fun h => absurd h (by decide), fun _ y hy hlt a w5 hw => ?_⟩
               have hyj : Gt.at0 [7, 18, 21] y = 18 := hy
               have hlt' : y < 3 := hlt
               obtain rfl : y = 1 := by
                 rcases (show y = 0 ∨ y = 1 ∨ y = 2 by omega) with rfl | rfl | rfl
                 · first | rfl | (exact absurd hyj (by decide))
                 · first | rfl | (exact absurd hyj (by decide))
                 · first | rfl | (exact absurd hyj (by decide))
               have hw' : (fun w => w = w3) w5 := hw)
            | (refine ⟨fun h => absurd h (by decide), fun _ y hy hlt a w5 hw => ?_⟩
               have hyj : Gt.at0 [7, 18, 21] y = 21 := hy
               have hlt' : y < 3 := hlt
               obtain rfl : y = 2 := by
                 rcases (show y = 0 ∨ y = 1 ∨ y = 2 by omega) with rfl | rfl | rfl
                 · first | rfl | (exact absurd hyj (by decide))
                 · first | rfl | (exact absurd hyj (by decide))
                 · first | rfl | (exact absurd hyj (by decide))
               have hw' : (fun w => w = w3.setCell ⟨p, 0, none⟩ (.slice A3 M c3)) w5 := hw))
          all_goals simp only [Gt.Pre, Gt.Kept, Gt.Guarded, Gt.tys, List.getD_cons_zero, List.getD_cons_succ, Gt.Is, Nat.zero_add, Nat.reduceAdd]
          · intros
            exact Gt.okw_move rfl (by assumption)
          · intros
            exact Gt.okw_move rfl (by assumption)
          · intros
            exact Gt.okw_move rfl (by assumption)
          intros
          refine Gt.okw_run ?_ (by first | rfl | trivial)
          rotate_left
          intros
          refine Gt.okw_run ?_ (by first | rfl | trivial)
          rotate_left
          intros
          obtain rfl : k = 0 := Nat.le_antisymm hhi hlo
          have hw' : (fun w => w = W1) w5 := hw
          obtain rfl : w5 = W1 := hw'
          refine Gt.okw_run ?_ (by first | rfl | trivial)
          rotate_left
          · intros
            exact Gt.okw_move rfl (by assumption)
          · intros
            obtain rfl : w5 = W1 := hw'
            exact Gt.okt_append rfl (by assumption) (by assumption) HR.out rfl rfl
          · intros
            exact Gt.okw_move rfl (by assumption)
          intros
          refine Gt.okw_run ?_ (by first | rfl | trivial)
          rotate_left
          intros
          refine Gt.okw_run ?_ (by first | rfl | trivial)
          rotate_left
          intros
          have h1 : 0 ≤ k := hlo
          have h2 : k ≤ 1 := hhi
          rcases (show k = 0 ∨ k = 1 by omega) with rfl | rfl
          have hw' : (fun w => w = W1) w5 := hw
          obtain rfl : w5 = W1 := hw'
          refine Gt.okw_run ?_ (by first | rfl | trivial)
          rotate_left
          have hw' : (fun w => w = w3) w5 := hw
          obtain rfl : w5 = w3 := hw'
          refine Gt.okw_run ?_ (by first | rfl | trivial)
          rotate_left
          · intros
            exact Gt.okw_move rfl (by assumption)
          · intros
            refine Gt.guard_yes (by assumption) ?_
            exact Gt.okw_move rfl (by assumption)
          intros
          refine Gt.guard_yes (by assumption) ?_
          refine Gt.okw_run ?_ (by first | rfl | trivial)
          rotate_left
          · intros
            first | exact Gt.okw_pick rfl (by assumption) (by rw [if_pos rfl]; first | assumption | rfl) | exact Gt.okw_pick rfl (by assumption) (by rw [if_neg (by simp)]; first | assumption | rfl)
          intros
          refine Gt.okw_run ?_ (by first | rfl | trivial)
          rotate_left
          intros
          refine Gt.okw_run ?_ (by first | rfl | trivial)
          rotate_left
          intros
          obtain rfl : w5 = w3 := hw'
          refine Gt.okt_skip (w' := w5.setCell ⟨p, 0, none⟩ (.slice A3 M c3)) ?_ rfl trivial
          rotate_left
          intros
          refine Gt.okw_run ?_ (by first | rfl | trivial)
          rotate_left
          intros
          refine Gt.okw_run ?_ (by first | rfl | trivial)
          rotate_left
          intros
          obtain rfl : w5 = w3.setCell ⟨p, 0, none⟩ (.slice A3 M c3) := hw'
          refine Gt.okt_skip (w' := (w3.setCell ⟨p, 0, none⟩ (.slice A3 M c3)).setCell ⟨p, 1, none⟩ (.bool (!ok))) ?_ rfl trivial
          rotate_left
          all_goals (
            simp only [execOp, *]
            go_simp
            done)
        · intro a w5 hw
          have hw' : (fun w => w = (w3.setCell ⟨p, 0, none⟩ (.slice A3 M c3)).setCell ⟨p, 1, none⟩ (.bool (!ok))) w5 := hw
          simp only [Gt.Pre, Gt.tys, List.getD_cons_zero, List.getD_cons_succ, Gt.Is]
          intro h0 h1 h2 h3 h4 h5 h6 h7 h8 h9 h10 h11 h12 h13 h14 h15 h16 h17 h19 h20
          simp only [Gt.puts, List.foldl_cons, List.foldl_nil, h0, h1, h2, h3, h4, h5, h6, h7, h8, h9, h10, h11, h12, h13, h14, h15, h16, h17, h19, h20]
          simp only [Act.put, List.setIfInBounds_toArray, List.set_cons_zero, List.set_cons_succ]
          go_wp2
          have hFF := HF.out (!ok)
          have hKK := HK.out (.slice A3 M c3) (.bool (!ok))
          go_roundw
          case rel => exact ⟨k + 1, g3, lc ++ b, (!ok), by rw [← HM.out]; omega, by go_num, hFF, HRE.out, HLB.out, by have := HGW.out; omega, HKW.out.then (g1 := g') hKK (by omega)⟩
          case measure => simp [intOf]; omega
    · have hkz : k = z.length := by rw [← HM.out] at hk ⊢; omega
      go_wp2
      go_end0
      rw [hkz, List.drop_length] at hrest
      refine ⟨rfl, g', ?_, hg', hkw⟩
      rw [← hrest]; exact hbx
end Go.Proofs.Ytabalhhodcajmaa
