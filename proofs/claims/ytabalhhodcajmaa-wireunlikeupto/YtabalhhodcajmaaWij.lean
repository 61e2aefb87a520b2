/- What wire's Decode does: the walk. -/
import Derived.Test.YtabalhhodcajmaaWii
namespace Go.Proofs.Ytabalhhodcajmaa
open Go.RowKit Go.Shelf Gw Pol
set_option maxRecDepth 100000 in
set_option maxHeartbeats 2000000 in
theorem decode_any (A : Option Addr) (N c : Nat) (l : List Nat) (w : World) (hN : N = l.length) (hI : In w w.heap.size A c l) (hl : l.length ≤ 140737488355328) : Calls Try.prog 12 #[.slice A N c] w fun e w' => DecAns l w e w' := by
  obtain ⟨w1, hw1⟩ : ∃ w1, w1 = w.alloc (.cells (mcs Mg.none Ma.none).toArray 27) := ⟨_, rfl⟩
  have hb1 : Below w.heap.size w w1 := by rw [hw1]; exact (Below.refl _ _).alloc (Nat.le_refl _) _
  have hz1 : w1.heap.size = w.heap.size + 1 := by rw [hw1]; simp
  have hm1 : MBox w1 w.heap.size Mg.none Ma.none := by rw [hw1]; exact MBox.new w _ _ _
  have hf1 : ∀ j, w1.frozen? ⟨w.heap.size, j, none⟩ = false := fun j => by rw [hw1]; unfold World.frozen?; rw [show (⟨w.heap.size, j, none⟩ : Addr).block = w.heap.size from rfl, heap_alloc_new w _]; simp
  have HR := Lib.hid (rread_any A N c l w1 hN ((hI.below hb1).more hb1.size) hl)
  have hlit : w.alloc (.cells #[.int .i64 0, .int .i64 0, .int .i64 0, .int .i64 0, .int .i64 0, .int .i64 0, .int .i64 0, .slice none 0 0, .string { data := #[] }, .int .i64 0, .int .i64 0, .int .i64 0, .slice none 0 0, .slice none 0 0, .int .i64 0, .slice none 0 0] 27) = w1 := by rw [hw1]; rfl
  have HN := Lib.hid hN
  have hlN : N ≤ 140737488355328 := by omega
  clear hN hI hw1 hl
  go_enter Try.func12, Try.ntmps12
  go_wp2_with fail
  clear hlit
  refine HR.out.mono ?_
  rintro e w2 ⟨p, g, rfl, hbx, hp, hg, hb2⟩
  have hz2 := hb2.size
  have hplt := hbx.lt
  have hglt := hbx.glt
  obtain ⟨wR, hwR⟩ : ∃ wR, wR = w2.alloc (.cells #[.pointer (some ⟨p, 0, none⟩), .int .i64 (N : Int), .bool false] 57) := ⟨_, rfl⟩
  have hbR : Below w2.heap.size w2 wR := by rw [hwR]; exact (Below.refl _ _).alloc (Nat.le_refl _) _
  have hzR : wR.heap.size = w2.heap.size + 1 := by rw [hwR]; simp
  have hd0 : Rds (w.heap.size + 1) wR p w2.heap.size g N ⟨l, false, false⟩ := by
    refine ⟨hbx.below hbR (Nat.le_refl _), by omega, by omega, ?_, ?_, ?_, fun k => ?_, by omega, by omega⟩
    · rw [hwR]; exact World.cell?_alloc_new w2 #[.pointer (some ⟨p, 0, none⟩), .int .i64 (N : Int), .bool false] _ 0
    · rw [hwR]; exact World.cell?_alloc_new w2 #[.pointer (some ⟨p, 0, none⟩), .int .i64 (N : Int), .bool false] _ 1
    · rw [hwR]; exact World.cell?_alloc_new w2 #[.pointer (some ⟨p, 0, none⟩), .int .i64 (N : Int), .bool false] _ 2
    · rw [hwR]; unfold World.frozen?; rw [show (⟨w2.heap.size, k, none⟩ : Addr).block = w2.heap.size from rfl, heap_alloc_new w2 _]; simp
  have hBR : Below (w.heap.size + 1) w1 wR := (hb2.mono (by omega)).trans (hbR.mono (by omega))
  obtain ⟨M, hM⟩ : ∃ M, M = rdM N l := ⟨_, rfl⟩
  have HM := Lib.hid hM
  obtain ⟨S, hS⟩ : ∃ S, S = str M.id := ⟨_, rfl⟩
  have HS := Lib.hid hS
  obtain ⟨nH, hnH⟩ : ∃ nH, nH = M.hs.length := ⟨_, rfl⟩
  obtain ⟨nD, hnD⟩ : ∃ nD, nD = M.ds.length := ⟨_, rfl⟩
  obtain ⟨nP, hnP⟩ : ∃ nP, nP = M.ps.length := ⟨_, rfl⟩
  obtain ⟨nQ, hnQ⟩ : ∃ nQ, nQ = M.da.length := ⟨_, rfl⟩
  have HNH := Lib.hid hnH
  have HND := Lib.hid hnD
  have HNP := Lib.hid hnP
  have HNQ := Lib.hid hnQ
  obtain ⟨q, hq⟩ : ∃ q, q = w2.heap.size := ⟨_, rfl⟩
  obtain ⟨B, hB⟩ : ∃ B, B = wR.heap.size := ⟨_, rfl⟩
  rw [← hq] at hd0 hzR hplt hglt
  rw [← hB] at hzR
  have hpB : p < B := by omega
  have hqB : q < B := by omega
  have hrd : ∀ k w5, DwSt (w.heap.size + 1) wR p q g N (qs N l k) w5 → w5.cell? ⟨q, 0, none⟩ = some (.pointer (some ⟨p, 0, none⟩)) := fun k w5 hw => by
    obtain ⟨_, _, h, _⟩ := hw
    exact h.c0
  have HRD := Lib.hid hrd
  have hal : ∀ k w5, DwSt (w.heap.size + 1) wR p q g N (qs N l k) w5 → DwSt (w.heap.size + 1) wR p q g N (qs N l k) (w5.alloc (.cells (mcs Mg.none Ma.none).toArray 27)) ∧ B ≤ w5.heap.size := fun k w5 hw => by
    obtain ⟨g5, h1, h2, h3⟩ := hw
    exact ⟨⟨g5, h1, h2.grown ((Below.refl _ _).alloc (Nat.le_refl _) _), h3.both (K2.alloc _ _ _ _)⟩, by rw [hB]; exact h3.size⟩
  have HAL := Lib.hid hal
  clear hal hrd hM hS hnH hnD hnP hnQ hbx HR hbR
  go_wp2
  rw [← hwR, ← hq]
  have HWR := Lib.hid hwR
  have HQ := Lib.hid hq
  have HB := Lib.hid hB
  clear hwR hq hB
  refine Gt.regionV (fun w w' => K2 w w' p q) (fun k => DwSt (w.heap.size + 1) wR p q g N (qs N l k)) [Gt.Is (.pointer (some ⟨q, 0, none⟩)), Gt.Is (.pointer (some ⟨p, 0, none⟩)), Gt.Is (.int .i64 M.kd), Gt.Is (.pointer (some ⟨q, 0, none⟩)), Gt.Is (.pointer (some ⟨p, 0, none⟩)), Gt.Is (.int .i64 M.fr), Gt.Is (.pointer (some ⟨q, 0, none⟩)), Gt.Is (.pointer (some ⟨p, 0, none⟩)), Gt.Is (.int .i64 M.to), Gt.Is (.pointer (some ⟨q, 0, none⟩)), Gt.Is (.pointer (some ⟨p, 0, none⟩)), Gt.Is (.int .i64 M.se), Gt.Is (.pointer (some ⟨q, 0, none⟩)), Gt.Is (.pointer (some ⟨p, 0, none⟩)), Gt.Is (.int .i64 M.de), Gt.Is (.pointer (some ⟨q, 0, none⟩)), Gt.Is (.pointer (some ⟨p, 0, none⟩)), Gt.Is (.int .i64 M.cm), Gt.Is (.pointer (some ⟨q, 0, none⟩)), Gt.Is (.pointer (some ⟨p, 0, none⟩)), Gt.Is (.int .i64 M.ep), HdT B nH M.hs, Gt.Is (.string S), Gt.Is (.pointer (some ⟨q, 0, none⟩)), Gt.Is (.pointer (some ⟨p, 0, none⟩)), Gt.Is (.int .i64 M.sz), Gt.Is (.pointer (some ⟨q, 0, none⟩)), Gt.Is (.pointer (some ⟨p, 0, none⟩)), Gt.Is (.int .i64 M.so), Gt.Is (.pointer (some ⟨q, 0, none⟩)), Gt.Is (.pointer (some ⟨p, 0, none⟩)), Gt.Is (.int .i64 M.ta), IzT B nD M.ds, IzT B nP M.ps, Gt.Is (.pointer (some ⟨q, 0, none⟩)), Gt.Is (.pointer (some ⟨p, 0, none⟩)), Gt.Is (.int .i64 M.co), Gt.Is (.pointer (some ⟨q, 0, none⟩)), Gt.Is (.pointer (some ⟨p, 0, none⟩)), DaT (w.heap.size + 1) B p q nQ M.da, MdT (w.heap.size + 1) B p q nH nD nP nQ M S, NwT B] [2, 5, 8, 11, 14, 17, 20, 21, 22, 25, 28, 31, 32, 33, 36, 39] [0, 0, 0, 0, 0, 1, 0, 0, 2, 0, 0, 3, 0, 0, 4, 0, 0, 5, 0, 0, 6, 7, 8, 0, 0, 9, 0, 0, 10, 0, 0, 11, 12, 13, 0, 0, 14, 0, 0, 15, 16, 0, 16] [16, 0, 0, 16, 1, 1, 16, 2, 2, 16, 3, 3, 16, 4, 4, 16, 5, 5, 16, 6, 6, 7, 8, 16, 9, 9, 16, 10, 10, 16, 11, 11, 12, 13, 16, 14, 14, 16, 15, 15, 16, 16, 16] 16 62 42
    [⟨[], [4], none⟩, ⟨[(0, 11)], [], none⟩, ⟨[(1, 12)], [], none⟩, ⟨[], [4], none⟩, ⟨[(3, 14)], [], none⟩, ⟨[(4, 15)], [], none⟩, ⟨[], [4], none⟩, ⟨[(6, 17)], [], none⟩, ⟨[(7, 18)], [], none⟩, ⟨[], [4], none⟩, ⟨[(9, 20)], [], none⟩, ⟨[(10, 21)], [], none⟩, ⟨[], [4], none⟩, ⟨[(12, 23)], [], none⟩, ⟨[(13, 24)], [], none⟩, ⟨[], [4], none⟩, ⟨[(15, 26)], [], none⟩, ⟨[(16, 27)], [], none⟩, ⟨[], [4], none⟩, ⟨[(18, 29)], [], none⟩, ⟨[(19, 30)], [], none⟩, ⟨[], [4], none⟩, ⟨[], [4], none⟩, ⟨[], [4], none⟩, ⟨[(23, 34)], [], none⟩, ⟨[(24, 35)], [], none⟩, ⟨[], [4], none⟩, ⟨[(26, 37)], [], none⟩, ⟨[(27, 38)], [], none⟩, ⟨[], [4], none⟩, ⟨[(29, 40)], [], none⟩, ⟨[(30, 41)], [], none⟩, ⟨[], [4], none⟩, ⟨[], [4], none⟩, ⟨[], [4], none⟩, ⟨[(34, 45)], [], none⟩, ⟨[(35, 46)], [], none⟩, ⟨[], [4], none⟩, ⟨[(37, 48)], [], none⟩, ⟨[(38, 49)], [], none⟩, ⟨[(2, 13), (5, 16), (8, 19), (11, 22), (14, 25), (17, 28), (20, 31), (21, 32), (22, 33), (25, 36), (28, 39), (31, 42), (32, 43), (33, 44), (36, 47), (39, 50)], [], none⟩, ⟨[], [], none⟩, ⟨[(41, 5), (40, 51)], [], none⟩]
    [(0, 11), (1, 12), (2, 13), (3, 14), (4, 15), (5, 16), (6, 17), (7, 18), (8, 19), (9, 20), (10, 21), (11, 22), (12, 23), (13, 24), (14, 25), (15, 26), (16, 27), (17, 28), (18, 29), (19, 30), (20, 31), (21, 32), (22, 33), (23, 34), (24, 35), (25, 36), (26, 37), (27, 38), (28, 39), (29, 40), (30, 41), (31, 42), (32, 43), (33, 44), (34, 45), (35, 46), (36, 47), (37, 48), (38, 49), (39, 50), (40, 51), (41, 5)] (by kernel_rfl) (by kernel_rfl) rfl (by kernel_rfl) (by kernel_rfl) (by kernel_rfl) (by kernel_rfl) (by kernel_rfl) ?_ ?_ ?_ ?_
  · simp only [Gt.MonosR]
    repeat' apply And.intro
    all_goals (first | exact trivial | exact fun _ _ _ h _ => h | exact HdT.firm hpB hqB | exact IzT.firm hpB hqB | exact DaT.firm | exact NwT.firm hpB hqB | exact MdT.firm hpB hqB)
  · show (DwSt (w.heap.size + 1) wR p q g N (qs N l 0)) _
    exact ⟨g, .inl rfl, hd0.drew, (K2.refl _ _ _).drew⟩
  · simp only [Gt.ObsV, List.take_succ_cons, List.take_zero]
    refine ⟨?_, ?_, ?_, ?_, ?_, ?_, ?_, ?_, ?_, ?_, ?_, ?_, ?_, ?_, ?_, ?_, ?_, ?_, ?_, ?_, ?_, ?_, ?_, ?_, ?_, ?_, ?_, ?_, ?_, ?_, ?_, ?_, ?_, ?_, ?_, ?_, ?_, ?_, ?_, ?_, ?_, ?_, trivial⟩
    all_goals (first
      | (refine ⟨fun _ k hlo hhi a w5 hw => ?_, fun h => absurd h (by decide)⟩)
      | (refine ⟨fun h => absurd h (by decide), fun _ y hy hlt a w5 hw => ?_⟩
         have hyj : Gt.at0 [2, 5, 8, 11, 14, 17, 20, 21, 22, 25, 28, 31, 32, 33, 36, 39] y = 2 := hy
         obtain rfl : y = 0 := (by decide : ∀ y, y < 16 → Gt.at0 [2, 5, 8, 11, 14, 17, 20, 21, 22, 25, 28, 31, 32, 33, 36, 39] y = 2 → y = 0) y hlt hyj
         have hw' : (DwSt (w.heap.size + 1) wR p q g N (qs N l 0)) w5 := hw)
      | (refine ⟨fun h => absurd h (by decide), fun _ y hy hlt a w5 hw => ?_⟩
         have hyj : Gt.at0 [2, 5, 8, 11, 14, 17, 20, 21, 22, 25, 28, 31, 32, 33, 36, 39] y = 5 := hy
         obtain rfl : y = 1 := (by decide : ∀ y, y < 16 → Gt.at0 [2, 5, 8, 11, 14, 17, 20, 21, 22, 25, 28, 31, 32, 33, 36, 39] y = 5 → y = 1) y hlt hyj
         have hw' : (DwSt (w.heap.size + 1) wR p q g N (qs N l 1)) w5 := hw)
      | (refine ⟨fun h => absurd h (by decide), fun _ y hy hlt a w5 hw => ?_⟩
         have hyj : Gt.at0 [2, 5, 8, 11, 14, 17, 20, 21, 22, 25, 28, 31, 32, 33, 36, 39] y = 8 := hy
         obtain rfl : y = 2 := (by decide : ∀ y, y < 16 → Gt.at0 [2, 5, 8, 11, 14, 17, 20, 21, 22, 25, 28, 31, 32, 33, 36, 39] y = 8 → y = 2) y hlt hyj
         have hw' : (DwSt (w.heap.size + 1) wR p q g N (qs N l 2)) w5 := hw)
      | (refine ⟨fun h => absurd h (by decide), fun _ y hy hlt a w5 hw => ?_⟩
         have hyj : Gt.at0 [2, 5, 8, 11, 14, 17, 20, 21, 22, 25, 28, 31, 32, 33, 36, 39] y = 11 := hy
         obtain rfl : y = 3 := (by decide : ∀ y, y < 16 → Gt.at0 [2, 5, 8, 11, 14, 17, 20, 21, 22, 25, 28, 31, 32, 33, 36, 39] y = 11 → y = 3) y hlt hyj
         have hw' : (DwSt (w.heap.size + 1) wR p q g N (qs N l 3)) w5 := hw)
      | (refine ⟨fun h => absurd h (by decide), fun _ y hy hlt a w5 hw => ?_⟩
         have hyj : Gt.at0 [2, 5, 8, 11, 14, 17, 20, 21, 22, 25, 28, 31, 32, 33, 36, 39] y = 14 := hy
         obtain rfl : y = 4 := (by decide : ∀ y, y < 16 → Gt.at0 [2, 5, 8, 11, 14, 17, 20, 21, 22, 25, 28, 31, 32, 33, 36, 39] y = 14 → y = 4) y hlt hyj
         have hw' : (DwSt (w.heap.size + 1) wR p q g N (qs N l 4)) w5 := hw)
      | (refine ⟨fun h => absurd h (by decide), fun _ y hy hlt a w5 hw => ?_⟩
         have hyj : Gt.at0 [2, 5, 8, 11, 14, 17, 20, 21, 22, 25, 28, 31, 32, 33, 36, 39] y = 17 := hy
         obtain rfl : y = 5 := (by decide : ∀ y, y < 16 → Gt.at0 [2, 5, 8, 11, 14, 17, 20, 21, 22, 25, 28, 31, 32, 33, 36, 39] y = 17 → y = 5) y hlt hyj
         have hw' : (DwSt (w.heap.size + 1) wR p q g N (qs N l 5)) w5 := hw)
      | (refine ⟨fun h => absurd h (by decide), fun _ y hy hlt a w5 hw => ?_⟩
         have hyj : Gt.at0 [2, 5, 8, 11, 14, 17, 20, 21, 22, 25, 28, 31, 32, 33, 36, 39] y = 20 := hy
         obtain rfl : y = 6 := (by decide : ∀ y, y < 16 → Gt.at0 [2, 5, 8, 11, 14, 17, 20, 21, 22, 25, 28, 31, 32, 33, 36, 39] y = 20 → y = 6) y hlt hyj
         have hw' : (DwSt (w.heap.size + 1) wR p q g N (qs N l 6)) w5 := hw)
      | (refine ⟨fun h => absurd h (by decide), fun _ y hy hlt a w5 hw => ?_⟩
         have hyj : Gt.at0 [2, 5, 8, 11, 14, 17, 20, 21, 22, 25, 28, 31, 32, 33, 36, 39] y = 21 := hy
         obtain rfl : y = 7 := (by decide : ∀ y, y < 16 → Gt.at0 [2, 5, 8, 11, 14, 17, 20, 21, 22, 25, 28, 31, 32, 33, 36, 39] y = 21 → y = 7) y hlt hyj
         have hw' : (DwSt (w.heap.size + 1) wR p q g N (qs N l 7)) w5 := hw)
      | (refine ⟨fun h => absurd h (by decide), fun _ y hy hlt a w5 hw => ?_⟩
         have hyj : Gt.at0 [2, 5, 8, 11, 14, 17, 20, 21, 22, 25, 28, 31, 32, 33, 36, 39] y = 22 := hy
         obtain rfl : y = 8 := (by decide : ∀ y, y < 16 → Gt.at0 [2, 5, 8, 11, 14, 17, 20, 21, 22, 25, 28, 31, 32, 33, 36, 39] y = 22 → y = 8) y hlt hyj
         have hw' : (DwSt (w.heap.size + 1) wR p q g N (qs N l 8)) w5 := hw)
      | (refine ⟨fun h => absurd h (by decide), fun _ y hy hlt a w5 hw => ?_⟩
         have hyj : Gt.at0 [2, 5, 8, 11, 14, 17, 20, 21, 22, 25, 28, 31, 32, 33, 36, 39] y = 25 := hy
         obtain rfl : y = 9 := (by decide : ∀ y, y < 16 → Gt.at0 [2, 5, 8, 11, 14, 17, 20, 21, 22, 25, 28, 31, 32, 33, 36, 39] y = 25 → y = 9) y hlt hyj
         have hw' : (DwSt (w.heap.size + 1) wR p q g N (qs N l 9)) w5 := hw)
      | (refine ⟨fun h => absurd h (by decide), fun _ y hy hlt a w5 hw => ?_⟩
         have hyj : Gt.at0 [2, 5, 8, 11, 14, 17, 20, 21, 22, 25, 28, 31, 32, 33, 36, 39] y = 28 := hy
         obtain rfl : y = 10 := (by decide : ∀ y, y < 16 → Gt.at0 [2, 5, 8, 11, 14, 17, 20, 21, 22, 25, 28, 31, 32, 33, 36, 39] y = 28 → y = 10) y hlt hyj
         have hw' : (DwSt (w.heap.size + 1) wR p q g N (qs N l 10)) w5 := hw)
      | (refine ⟨fun h => absurd h (by decide), fun _ y hy hlt a w5 hw => ?_⟩
         have hyj : Gt.at0 [2, 5, 8, 11, 14, 17, 20, 21, 22, 25, 28, 31, 32, 33, 36, 39] y = 31 := hy
         obtain rfl : y = 11 := (by decide : ∀ y, y < 16 → Gt.at0 [2, 5, 8, 11, 14, 17, 20, 21, 22, 25, 28, 31, 32, 33, 36, 39] y = 31 → y = 11) y hlt hyj
         have hw' : (DwSt (w.heap.size + 1) wR p q g N (qs N l 11)) w5 := hw)
      | (refine ⟨fun h => absurd h (by decide), fun _ y hy hlt a w5 hw => ?_⟩
         have hyj : Gt.at0 [2, 5, 8, 11, 14, 17, 20, 21, 22, 25, 28, 31, 32, 33, 36, 39] y = 32 := hy
         obtain rfl : y = 12 := (by decide : ∀ y, y < 16 → Gt.at0 [2, 5, 8, 11, 14, 17, 20, 21, 22, 25, 28, 31, 32, 33, 36, 39] y = 32 → y = 12) y hlt hyj
         have hw' : (DwSt (w.heap.size + 1) wR p q g N (qs N l 12)) w5 := hw)
      | (refine ⟨fun h => absurd h (by decide), fun _ y hy hlt a w5 hw => ?_⟩
         have hyj : Gt.at0 [2, 5, 8, 11, 14, 17, 20, 21, 22, 25, 28, 31, 32, 33, 36, 39] y = 33 := hy
         obtain rfl : y = 13 := (by decide : ∀ y, y < 16 → Gt.at0 [2, 5, 8, 11, 14, 17, 20, 21, 22, 25, 28, 31, 32, 33, 36, 39] y = 33 → y = 13) y hlt hyj
         have hw' : (DwSt (w.heap.size + 1) wR p q g N (qs N l 13)) w5 := hw)
      | (refine ⟨fun h => absurd h (by decide), fun _ y hy hlt a w5 hw => ?_⟩
         have hyj : Gt.at0 [2, 5, 8, 11, 14, 17, 20, 21, 22, 25, 28, 31, 32, 33, 36, 39] y = 36 := hy
         obtain rfl : y = 14 := (by decide : ∀ y, y < 16 → Gt.at0 [2, 5, 8, 11, 14, 17, 20, 21, 22, 25, 28, 31, 32, 33, 36, 39] y = 36 → y = 14) y hlt hyj
         have hw' : (DwSt (w.heap.size + 1) wR p q g N (qs N l 14)) w5 := hw)
      | (refine ⟨fun h => absurd h (by decide), fun _ y hy hlt a w5 hw => ?_⟩
         have hyj : Gt.at0 [2, 5, 8, 11, 14, 17, 20, 21, 22, 25, 28, 31, 32, 33, 36, 39] y = 39 := hy
         obtain rfl : y = 15 := (by decide : ∀ y, y < 16 → Gt.at0 [2, 5, 8, 11, 14, 17, 20, 21, 22, 25, 28, 31, 32, 33, 36, 39] y = 39 → y = 15) y hlt hyj
         have hw' : (DwSt (w.heap.size + 1) wR p q g N (qs N l 15)) w5 := hw))
    all_goals simp only [Gt.Pre, Gt.Kept, Gt.Guarded, Gt.tys, List.getD_cons_zero, List.getD_cons_succ, Gt.Is, Nat.zero_add, Nat.reduceAdd]
    intros
    refine Gt.okv_run ?_ hw (K2.refl _ _ _) (by first | rfl | trivial)
    rotate_left
    intros
    have hcell := HRD.out k w5 hw
    refine Gt.okv_run ?_ hw (K2.refl _ _ _) (by first | rfl | trivial)
    rotate_left
    · intros
      obtain ⟨g5, hg5, hr5, hk5⟩ := hw'
      rw [qv0] at hr5
      refine Gt.okt_call (f := 26) rfl #[.pointer (some ⟨p, 0, none⟩)] (by kernel_rfl) (by simp [*]) ((Rds.num hr5).mono ?_)
      rintro e w6 ⟨rfl, g6, hg6, hr6, hk6, hs6⟩
      exact ⟨_, rfl, ⟨⟨g6, by omega, by rw [qs1]; exact hr6, hk5.both hk6⟩, hk6⟩, by rw [HM.out, rdM_kd]; exact rfl⟩
    intros
    refine Gt.okv_run ?_ hw (K2.refl _ _ _) (by first | rfl | trivial)
    rotate_left
    intros
    have hcell := HRD.out k w5 hw
    refine Gt.okv_run ?_ hw (K2.refl _ _ _) (by first | rfl | trivial)
    rotate_left
    · intros
      obtain ⟨g5, hg5, hr5, hk5⟩ := hw'
      rw [qv1] at hr5
      refine Gt.okt_call (f := 26) rfl #[.pointer (some ⟨p, 0, none⟩)] (by kernel_rfl) (by simp [*]) ((Rds.num hr5).mono ?_)
      rintro e w6 ⟨rfl, g6, hg6, hr6, hk6, hs6⟩
      exact ⟨_, rfl, ⟨⟨g6, by omega, by rw [qs2]; exact hr6, hk5.both hk6⟩, hk6⟩, by rw [HM.out, rdM_fr]; exact rfl⟩
    intros
    refine Gt.okv_run ?_ hw (K2.refl _ _ _) (by first | rfl | trivial)
    rotate_left
    intros
    have hcell := HRD.out k w5 hw
    refine Gt.okv_run ?_ hw (K2.refl _ _ _) (by first | rfl | trivial)
    rotate_left
    · intros
      obtain ⟨g5, hg5, hr5, hk5⟩ := hw'
      rw [qv2] at hr5
      refine Gt.okt_call (f := 26) rfl #[.pointer (some ⟨p, 0, none⟩)] (by kernel_rfl) (by simp [*]) ((Rds.num hr5).mono ?_)
      rintro e w6 ⟨rfl, g6, hg6, hr6, hk6, hs6⟩
      exact ⟨_, rfl, ⟨⟨g6, by omega, by rw [qs3]; exact hr6, hk5.both hk6⟩, hk6⟩, by rw [HM.out, rdM_to]; exact rfl⟩
    intros
    refine Gt.okv_run ?_ hw (K2.refl _ _ _) (by first | rfl | trivial)
    rotate_left
    intros
    have hcell := HRD.out k w5 hw
    refine Gt.okv_run ?_ hw (K2.refl _ _ _) (by first | rfl | trivial)
    rotate_left
    · intros
      obtain ⟨g5, hg5, hr5, hk5⟩ := hw'
      rw [qv3] at hr5
      refine Gt.okt_call (f := 26) rfl #[.pointer (some ⟨p, 0, none⟩)] (by kernel_rfl) (by simp [*]) ((Rds.num hr5).mono ?_)
      rintro e w6 ⟨rfl, g6, hg6, hr6, hk6, hs6⟩
      exact ⟨_, rfl, ⟨⟨g6, by omega, by rw [qs4]; exact hr6, hk5.both hk6⟩, hk6⟩, by rw [HM.out, rdM_se]; exact rfl⟩
    intros
    refine Gt.okv_run ?_ hw (K2.refl _ _ _) (by first | rfl | trivial)
    rotate_left
    intros
    have hcell := HRD.out k w5 hw
    refine Gt.okv_run ?_ hw (K2.refl _ _ _) (by first | rfl | trivial)
    rotate_left
    · intros
      obtain ⟨g5, hg5, hr5, hk5⟩ := hw'
      rw [qv4] at hr5
      refine Gt.okt_call (f := 26) rfl #[.pointer (some ⟨p, 0, none⟩)] (by kernel_rfl) (by simp [*]) ((Rds.num hr5).mono ?_)
      rintro e w6 ⟨rfl, g6, hg6, hr6, hk6, hs6⟩
      exact ⟨_, rfl, ⟨⟨g6, by omega, by rw [qs5]; exact hr6, hk5.both hk6⟩, hk6⟩, by rw [HM.out, rdM_de]; exact rfl⟩
    intros
    refine Gt.okv_run ?_ hw (K2.refl _ _ _) (by first | rfl | trivial)
    rotate_left
    intros
    have hcell := HRD.out k w5 hw
    refine Gt.okv_run ?_ hw (K2.refl _ _ _) (by first | rfl | trivial)
    rotate_left
    · intros
      obtain ⟨g5, hg5, hr5, hk5⟩ := hw'
      rw [qv5] at hr5
      refine Gt.okt_call (f := 26) rfl #[.pointer (some ⟨p, 0, none⟩)] (by kernel_rfl) (by simp [*]) ((Rds.num hr5).mono ?_)
      rintro e w6 ⟨rfl, g6, hg6, hr6, hk6, hs6⟩
      exact ⟨_, rfl, ⟨⟨g6, by omega, by rw [qs6]; exact hr6, hk5.both hk6⟩, hk6⟩, by rw [HM.out, rdM_cm]; exact rfl⟩
    intros
    refine Gt.okv_run ?_ hw (K2.refl _ _ _) (by first | rfl | trivial)
    rotate_left
    intros
    have hcell := HRD.out k w5 hw
    refine Gt.okv_run ?_ hw (K2.refl _ _ _) (by first | rfl | trivial)
    rotate_left
    · intros
      obtain ⟨g5, hg5, hr5, hk5⟩ := hw'
      rw [qv6] at hr5
      refine Gt.okt_call (f := 26) rfl #[.pointer (some ⟨p, 0, none⟩)] (by kernel_rfl) (by simp [*]) ((Rds.num hr5).mono ?_)
      rintro e w6 ⟨rfl, g6, hg6, hr6, hk6, hs6⟩
      exact ⟨_, rfl, ⟨⟨g6, by omega, by rw [qs7]; exact hr6, hk5.both hk6⟩, hk6⟩, by rw [HM.out, rdM_ep]; exact rfl⟩
    · intros
      obtain ⟨g5, hg5, hr5, hk5⟩ := hw'
      rw [qv7] at hr5
      rename_i e4
      have e4b : a.eval (.tmp 4) = .pointer (some ⟨q, 0, none⟩) := e4
      refine Gt.okt_call (f := 27) rfl #[.pointer (some ⟨q, 0, none⟩)] (by kernel_rfl) (by simp [e4b]) ((rheads_any hlN hr5).mono ?_)
      rintro e w6 ⟨y, n, rfl, hn, hz, hy, g6, hg6, hr6, hk6⟩
      exact ⟨_, rfl, ⟨⟨g6, by omega, by rw [qs8]; exact hr6, hk5.both hk6⟩, hk6⟩, ⟨y, by rw [HNH.out, HM.out, rdM_hs, hn], by rw [HNH.out, HM.out, rdM_hs]; rw [hn] at hz; exact hz, by have := hk5.size; have := HB.out; omega⟩⟩
    · intros
      obtain ⟨g5, hg5, hr5, hk5⟩ := hw'
      rw [qv8] at hr5
      rename_i e4
      have e4b : a.eval (.tmp 4) = .pointer (some ⟨q, 0, none⟩) := e4
      refine Gt.okt_call (f := 28) rfl #[.pointer (some ⟨q, 0, none⟩)] (by kernel_rfl) (by simp [e4b]) ((rtext_any hr5).mono ?_)
      rintro e w6 ⟨rfl, g6, hg6, hr6, hk6, hs6⟩
      exact ⟨_, rfl, ⟨⟨g6, by omega, by rw [qs9]; exact hr6, hk5.both hk6⟩, hk6⟩, by rw [HS.out, HM.out, rdM_id]; exact rfl⟩
    intros
    refine Gt.okv_run ?_ hw (K2.refl _ _ _) (by first | rfl | trivial)
    rotate_left
    intros
    have hcell := HRD.out k w5 hw
    refine Gt.okv_run ?_ hw (K2.refl _ _ _) (by first | rfl | trivial)
    rotate_left
    · intros
      obtain ⟨g5, hg5, hr5, hk5⟩ := hw'
      rw [qv9] at hr5
      refine Gt.okt_call (f := 26) rfl #[.pointer (some ⟨p, 0, none⟩)] (by kernel_rfl) (by simp [*]) ((Rds.num hr5).mono ?_)
      rintro e w6 ⟨rfl, g6, hg6, hr6, hk6, hs6⟩
      exact ⟨_, rfl, ⟨⟨g6, by omega, by rw [qs10]; exact hr6, hk5.both hk6⟩, hk6⟩, by rw [HM.out, rdM_sz]; exact rfl⟩
    intros
    refine Gt.okv_run ?_ hw (K2.refl _ _ _) (by first | rfl | trivial)
    rotate_left
    intros
    have hcell := HRD.out k w5 hw
    refine Gt.okv_run ?_ hw (K2.refl _ _ _) (by first | rfl | trivial)
    rotate_left
    · intros
      obtain ⟨g5, hg5, hr5, hk5⟩ := hw'
      rw [qv10] at hr5
      refine Gt.okt_call (f := 26) rfl #[.pointer (some ⟨p, 0, none⟩)] (by kernel_rfl) (by simp [*]) ((Rds.num hr5).mono ?_)
      rintro e w6 ⟨rfl, g6, hg6, hr6, hk6, hs6⟩
      exact ⟨_, rfl, ⟨⟨g6, by omega, by rw [qs11]; exact hr6, hk5.both hk6⟩, hk6⟩, by rw [HM.out, rdM_so]; exact rfl⟩
    intros
    refine Gt.okv_run ?_ hw (K2.refl _ _ _) (by first | rfl | trivial)
    rotate_left
    intros
    have hcell := HRD.out k w5 hw
    refine Gt.okv_run ?_ hw (K2.refl _ _ _) (by first | rfl | trivial)
    rotate_left
    · intros
      obtain ⟨g5, hg5, hr5, hk5⟩ := hw'
      rw [qv11] at hr5
      refine Gt.okt_call (f := 26) rfl #[.pointer (some ⟨p, 0, none⟩)] (by kernel_rfl) (by simp [*]) ((Rds.num hr5).mono ?_)
      rintro e w6 ⟨rfl, g6, hg6, hr6, hk6, hs6⟩
      exact ⟨_, rfl, ⟨⟨g6, by omega, by rw [qs12]; exact hr6, hk5.both hk6⟩, hk6⟩, by rw [HM.out, rdM_ta]; exact rfl⟩
    · intros
      obtain ⟨g5, hg5, hr5, hk5⟩ := hw'
      rw [qv12] at hr5
      rename_i e4
      have e4b : a.eval (.tmp 4) = .pointer (some ⟨q, 0, none⟩) := e4
      refine Gt.okt_call (f := 29) rfl #[.pointer (some ⟨q, 0, none⟩)] (by kernel_rfl) (by simp [e4b]) ((rlist_any hlN hr5).mono ?_)
      rintro e w6 ⟨y, n, rfl, hn, hz, hy, g6, hg6, hr6, hk6⟩
      exact ⟨_, rfl, ⟨⟨g6, by omega, by rw [qs13]; exact hr6, hk5.both hk6⟩, hk6⟩, ⟨y, by rw [HND.out, HM.out, rdM_ds, hn], by rw [HND.out, HM.out, rdM_ds]; rw [hn] at hz; exact hz, by have := hk5.size; have := HB.out; omega⟩⟩
    · intros
      obtain ⟨g5, hg5, hr5, hk5⟩ := hw'
      rw [qv13] at hr5
      rename_i e4
      have e4b : a.eval (.tmp 4) = .pointer (some ⟨q, 0, none⟩) := e4
      refine Gt.okt_call (f := 29) rfl #[.pointer (some ⟨q, 0, none⟩)] (by kernel_rfl) (by simp [e4b]) ((rlist_any hlN hr5).mono ?_)
      rintro e w6 ⟨y, n, rfl, hn, hz, hy, g6, hg6, hr6, hk6⟩
      exact ⟨_, rfl, ⟨⟨g6, by omega, by rw [qs14]; exact hr6, hk5.both hk6⟩, hk6⟩, ⟨y, by rw [HNP.out, HM.out, rdM_ps, hn], by rw [HNP.out, HM.out, rdM_ps]; rw [hn] at hz; exact hz, by have := hk5.size; have := HB.out; omega⟩⟩
    intros
    refine Gt.okv_run ?_ hw (K2.refl _ _ _) (by first | rfl | trivial)
    rotate_left
    intros
    have hcell := HRD.out k w5 hw
    refine Gt.okv_run ?_ hw (K2.refl _ _ _) (by first | rfl | trivial)
    rotate_left
    · intros
      obtain ⟨g5, hg5, hr5, hk5⟩ := hw'
      rw [qv14] at hr5
      refine Gt.okt_call (f := 26) rfl #[.pointer (some ⟨p, 0, none⟩)] (by kernel_rfl) (by simp [*]) ((Rds.num hr5).mono ?_)
      rintro e w6 ⟨rfl, g6, hg6, hr6, hk6, hs6⟩
      exact ⟨_, rfl, ⟨⟨g6, by omega, by rw [qs15]; exact hr6, hk5.both hk6⟩, hk6⟩, by rw [HM.out, rdM_co]; exact rfl⟩
    intros
    refine Gt.okv_run ?_ hw (K2.refl _ _ _) (by first | rfl | trivial)
    rotate_left
    intros
    have hcell := HRD.out k w5 hw
    refine Gt.okv_run ?_ hw (K2.refl _ _ _) (by first | rfl | trivial)
    rotate_left
    · intros
      obtain ⟨g5, hg5, hr5, hk5⟩ := hw'
      rw [qv15] at hr5
      refine Gt.okt_call (f := 30) rfl #[.pointer (some ⟨p, 0, none⟩)] (by kernel_rfl) (by simp [*]) ((Rds.bytes hr5).mono ?_)
      rintro e w6 ⟨AT, m, rfl, hm, hS6, hn6, ho6, g6, hg6, hr6, hk6, hs6⟩
      exact ⟨_, rfl, ⟨⟨g6, by omega, by rw [qs16]; exact hr6, hk5.both hk6⟩, hk6⟩, ⟨AT, by rw [HNQ.out, HM.out, rdM_da, hm], by rw [HM.out, rdM_da]; exact hS6, fun h => by rw [HNQ.out, HM.out, rdM_da]; exact hm.symm.trans (hn6 h), fun h => by
             rw [HM.out, rdM_da] at h
             obtain ⟨off, ho⟩ := ho6 h
             exact ⟨g5, off, ho, hr5.gb, by have := hr5.bx.glt; have := HB.out; omega⟩⟩⟩
    · intros
      rename_i e0 e1 e2 e3 e4 e5 e6 e7 e8 e9 e10 e11 e12 e13 e14 e15
      obtain ⟨yH, e7, x71, x72⟩ := e7
      obtain ⟨yD, e12, x121, x122⟩ := e12
      obtain ⟨yP, e13, x131, x132⟩ := e13
      obtain ⟨QA, e15, x151⟩ := e15
      have f0 : a.tmps[13]?.getD undef = .int .i64 M.kd := by simpa [Act.eval] using e0
      have f1 : a.tmps[16]?.getD undef = .int .i64 M.fr := by simpa [Act.eval] using e1
      have f2 : a.tmps[19]?.getD undef = .int .i64 M.to := by simpa [Act.eval] using e2
      have f3 : a.tmps[22]?.getD undef = .int .i64 M.se := by simpa [Act.eval] using e3
      have f4 : a.tmps[25]?.getD undef = .int .i64 M.de := by simpa [Act.eval] using e4
      have f5 : a.tmps[28]?.getD undef = .int .i64 M.cm := by simpa [Act.eval] using e5
      have f6 : a.tmps[31]?.getD undef = .int .i64 M.ep := by simpa [Act.eval] using e6
      have f7 : a.tmps[32]?.getD undef = .slice (some ⟨yH, 0, none⟩) nH nH := by simpa [Act.eval] using e7
      have f8 : a.tmps[33]?.getD undef = .string S := by simpa [Act.eval] using e8
      have f9 : a.tmps[36]?.getD undef = .int .i64 M.sz := by simpa [Act.eval] using e9
      have f10 : a.tmps[39]?.getD undef = .int .i64 M.so := by simpa [Act.eval] using e10
      have f11 : a.tmps[42]?.getD undef = .int .i64 M.ta := by simpa [Act.eval] using e11
      have f12 : a.tmps[43]?.getD undef = .slice (some ⟨yD, 0, none⟩) nD nD := by simpa [Act.eval] using e12
      have f13 : a.tmps[44]?.getD undef = .slice (some ⟨yP, 0, none⟩) nP nP := by simpa [Act.eval] using e13
      have f14 : a.tmps[47]?.getD undef = .int .i64 M.co := by simpa [Act.eval] using e14
      have f15 : a.tmps[50]?.getD undef = .slice QA nQ nQ := by simpa [Act.eval] using e15
      clear e0 e1 e2 e3 e4 e5 e6 e7 e8 e9 e10 e11 e12 e13 e14 e15
      refine Gt.okv_run (v := .agg #[.int .i64 M.kd, .int .i64 M.fr, .int .i64 M.to, .int .i64 M.se, .int .i64 M.de, .int .i64 M.cm, .int .i64 M.ep, .slice (some ⟨yH, 0, none⟩) nH nH, .string S, .int .i64 M.sz, .int .i64 M.so, .int .i64 M.ta, .slice (some ⟨yD, 0, none⟩) nD nD, .slice (some ⟨yP, 0, none⟩) nP nP, .int .i64 M.co, .slice QA nQ nQ]) ?_ hw (K2.refl _ _ _) ⟨yH, yD, yP, QA, rfl, x71, x72, x121, x122, x131, x132, x151⟩
      simp only [execOp]
      go_simp
    · intros
      have hal := HAL.out k w5 hw
      refine Gt.okt_run (v := .pointer (some ⟨w5.heap.size, 0, none⟩)) (w' := w5.alloc (.cells (mcs Mg.none Ma.none).toArray 27)) ?_ ⟨hal.1, K2.alloc _ _ _ _⟩ ⟨w5.heap.size, rfl, MBox.new w5 _ _ _, fun j => ?_, hal.2⟩
      · simp only [execOp]
        go_simp
        rfl
      · unfold World.frozen?; rw [show (⟨w5.heap.size, j, none⟩ : Addr).block = w5.heap.size from rfl, heap_alloc_new w5 _]; simp
    all_goals (
      simp only [execOp, *]
      go_simp
      done)
  · intro a w5 hw
    have hw' : (DwSt (w.heap.size + 1) wR p q g N (qs N l 16)) w5 := hw
    simp only [Gt.Pre, Gt.tys, List.getD_cons_zero, List.getD_cons_succ, Gt.Is]
    intro h0 h1 h2 h3 h4 h5 h6 h7 h8 h9 h10 h11 h12 h13 h14 h15 h16 h17 h18 h19 h20 h21 h22 h23 h24 h25 h26 h27 h28 h29 h30 h31 h32 h33 h34 h35 h36 h37 h38 h39 h40 h41
    obtain ⟨g5, hg5, hr5, hk5⟩ := hw'
    obtain ⟨yH, yD, yP, QA, h40, x2, x3, x4, x5, x6, x7, x8⟩ := h40
    obtain ⟨z, h41, hmz, hfz, hBz⟩ := h41
    obtain ⟨_, h21, _⟩ := h21
    obtain ⟨_, h32, _⟩ := h32
    obtain ⟨_, h33, _⟩ := h33
    obtain ⟨_, h39, _⟩ := h39
    simp only [Gt.puts, List.foldl_cons, List.foldl_nil, h0, h1, h2, h3, h4, h5, h6, h7, h8, h9, h10, h11, h12, h13, h14, h15, h16, h17, h18, h19, h20, h21, h22, h23, h24, h25, h26, h27, h28, h29, h30, h31, h32, h33, h34, h35, h36, h37, h38, h39, h40, h41]
    simp only [Act.put, List.setIfInBounds_toArray, List.set_cons_zero, List.set_cons_succ, List.drop_succ_cons, List.drop_zero]
    clear h0 h1 h2 h3 h4 h5 h6 h7 h8 h9 h10 h11 h12 h13 h14 h15 h16 h17 h18 h19 h20 h21 h22 h23 h24 h25 h26 h27 h28 h29 h30 h31 h32 h33 h34 h35 h36 h37 h38 h39 h40 h41
    refine wpList_store_mid rfl 27 (.tmp 5) (.tmp 51) rfl z 0 _ rfl rfl (hmz.there hfz) msg_size (by simp [Value.oneCell']) ?_
    obtain ⟨aa, haa⟩ : ∃ aa : Ma, aa = ⟨some ⟨yH, 0, none⟩, nH, nH, some ⟨yD, 0, none⟩, nD, nD, some ⟨yP, 0, none⟩, nP, nP, QA, nQ, nQ⟩ := ⟨_, rfl⟩
    have hL : [.int .i64 M.kd, .int .i64 M.fr, .int .i64 M.to, .int .i64 M.se, .int .i64 M.de, .int .i64 M.cm, .int .i64 M.ep, .slice (some ⟨yH, 0, none⟩) nH nH, .string S, .int .i64 M.sz, .int .i64 M.so, .int .i64 M.ta, .slice (some ⟨yD, 0, none⟩) nD nD, .slice (some ⟨yP, 0, none⟩) nP nP, .int .i64 M.co, .slice QA nQ nQ] = mcs M aa := by rw [HS.out, haa]; rfl
    obtain ⟨W, hW⟩ : ∃ W, W = w5.setCells z 0 [.int .i64 M.kd, .int .i64 M.fr, .int .i64 M.to, .int .i64 M.se, .int .i64 M.de, .int .i64 M.cm, .int .i64 M.ep, .slice (some ⟨yH, 0, none⟩) nH nH, .string S, .int .i64 M.sz, .int .i64 M.so, .int .i64 M.ta, .slice (some ⟨yD, 0, none⟩) nD nD, .slice (some ⟨yP, 0, none⟩) nP nP, .int .i64 M.co, .slice QA nQ nQ] := ⟨_, rfl⟩
    show wpList _ _ _ _ _ (w5.setCells z 0 [.int .i64 M.kd, .int .i64 M.fr, .int .i64 M.to, .int .i64 M.se, .int .i64 M.de, .int .i64 M.cm, .int .i64 M.ep, .slice (some ⟨yH, 0, none⟩) nH nH, .string S, .int .i64 M.sz, .int .i64 M.so, .int .i64 M.ta, .slice (some ⟨yD, 0, none⟩) nD nD, .slice (some ⟨yP, 0, none⟩) nP nP, .int .i64 M.co, .slice QA nQ nQ])
    rw [← hW]
    rw [hL] at hW
    rw [qv16] at hr5
    have hthz : w5.there z 0 (mcs M aa).length := hmz.there hfz
    have hmW : MBox W z M aa := by rw [hW]; exact MBox.of (World.rangeAt_setCells_same w5 z 0 _ hthz)
    have hkW : K2 w5 W z z := by rw [hW]; exact K2.sets w5 z z 0 _
    have hsW : W.heap.size = w5.heap.size := by rw [hW]; exact size_sets _ _ _ _
    have hBw : B ≤ w5.heap.size := by have := hk5.size; have := HB.out; omega
    have hzw : q < B ∧ p < B ∧ g5 < B := by have := hg5; omega
    have hrW : Rds (w.heap.size + 1) W p q g5 N (q16 N l) := hr5.keep (hkW.block p (by omega) (by omega) (by omega)) (hkW.block g5 (by omega) (by omega) (by omega)) (hkW.block q (by omega) (by omega) (by omega)) (by omega)
    have hwR0 : w.heap.size + 1 ≤ wR.heap.size := by have := HB.out; omega
    have e0 : W.heap[w.heap.size]? = w1.heap[w.heap.size]? := (hkW.block _ (by omega) (by omega) (by omega)).trans ((hk5.block _ (by omega) (by omega) (by omega)).trans (hBR.block _ (by omega)))
    have hm0 : MBox W w.heap.size Mg.none Ma.none := hm1.keep e0
    have hf0 : ∀ j, W.frozen? ⟨w.heap.size, j, none⟩ = false := fun j => (frozen_heap e0).trans (hf1 j)
    have hBel : Below w.heap.size w W := ((hb1.trans (hBR.mono (by omega))).trans (hk5.below (by omega) (by omega) (by omega))).trans (hkW.below (by omega) (by omega) (by omega))
    have ok : MOk M := by rw [HM.out]; exact rdM_ok N hd0.bb
    have hmem := fun (W2 : World) (hk : ∀ b, w.heap.size + 1 ≤ b → b < w5.heap.size → b ≠ z → W2.heap[b]? = w5.heap[b]?) (hs : w5.heap.size ≤ W2.heap.size) => md_mem (base := w.heap.size + 1) ok HNH.out HND.out HNP.out HNQ.out (by omega) x2 x3 x4 x5 x6 x7 x8 hmz hBz hk hs
    rw [← haa] at hmem
    have c0 := hrW.c0
    have c2 := hrW.c2
    have HDone := Lib.hid (rdone_any p g5 (q16 N l).l (q16 N l).bad W hrW.bx)
    have hdec : dec l = if fin (q16 N l) then (M, true) else (Mg.none, false) := by
      have e := HN.out
      unfold dec
      rw [← e, HM.out]
      rfl
    obtain ⟨am, ham⟩ : ∃ am, am = (q16 N l).am := ⟨_, rfl⟩
    obtain ⟨dd, hdd⟩ : ∃ dd, dd = dn (q16 N l).l (q16 N l).bad := ⟨_, rfl⟩
    have hfin : fin (q16 N l) = (!am && dd) := by rw [ham, hdd]; rfl
    rw [hfin] at hdec
    rw [← hdd] at HDone
    rw [← ham] at c2
    have HDEC := Lib.hid hdec
    have HMEM := Lib.hid hmem
    have HBEL := Lib.hid hBel
    have HKW := Lib.hid hkW
    have hthW : W.there w.heap.size 0 16 := hm0.there hf0
    have HRZ := Lib.hid hmW
    have hzq : z ≠ w.heap.size := by omega
    have HSW := Lib.hid hsW
    have HNO := Lib.hid (show (!am && dd) = false → DecEnd l w Mg.none Ma.none false (W.setCells w.heap.size 0 (mcs Mg.none Ma.none)) from fun hf => by
      refine ⟨HBEL.out.trans ((K2.sets W w.heap.size w.heap.size 0 _).below (by have := HBEL.out.size; omega) (by omega) (by omega)), ?_, MBox.of (World.rangeAt_setCells_same W w.heap.size 0 _ hthW), MgIn.none _ _, MgFar.none _⟩
      rw [HDEC.out, hf]; rfl)
    have HYES := Lib.hid (show (!am && dd) = true → DecEnd l w M aa true (W.setCells w.heap.size 0 (mcs M aa)) from fun hf => by
      have hs2 : (W.setCells w.heap.size 0 (mcs M aa)).heap.size = W.heap.size := size_sets _ _ _ _
      have hk2 : K2 W (W.setCells w.heap.size 0 (mcs M aa)) w.heap.size w.heap.size := K2.sets _ _ _ _ _
      have hme := HMEM.out (W.setCells w.heap.size 0 (mcs M aa)) (fun b h1 h2 h3 => (hk2.block b (by omega) (by omega) (by omega)).trans (HKW.out.block b h2 h3 h3)) (by omega)
      refine ⟨HBEL.out.trans (hk2.below (by have := HBEL.out.size; omega) (by omega) (by omega)), ?_, MBox.of (World.rangeAt_setCells_same W w.heap.size 0 _ hthW), hme.1, ?_⟩
      · rw [HDEC.out, hf]; rfl
      · exact ⟨fun h b off e => by have := hme.2.hs h b off e; omega, fun h b off e => by have := hme.2.ds h b off e; omega, fun h b off e => by have := hme.2.ps h b off e; omega, fun h b off e => by have := hme.2.da h b off e; omega⟩)
    clear hW hkW hsW hBw hrW hwR0 e0 hm0 hf0 hBel ok hmem hdec ham hdd hfin hr5 hk5 x2 x3 x4 x5 x6 x7 x8 hmz hfz hBz hd0 hBR hb1 hm1 hf1 hthz
    cases am with
    | true =>
      go_wp2_with (refine wpList_store_mid rfl 27 (.tmp 2) (.tmp 60) rfl w.heap.size 0 _ rfl rfl hthW msg_size (by simp [Value.oneCell']) ?_)
      have hno := HNO.out rfl
      show bodyPost _ _ _ _ _ (W.setCells w.heap.size 0 (mcs Mg.none Ma.none))
      refine bodyPost_ret (results_ct rfl _ _ rfl hno.box.range Try.underlying27 rfl msg_size) rfl ?_
      exact hno.ans
    | false =>
      go_wp2_with fail
      refine HDone.out.mono ?_
      rintro e W' ⟨rfl, hWW⟩
      rw [hWW]
      clear hWW
      cases dd with
      | false =>
        go_wp2_with (refine wpList_store_mid rfl 27 (.tmp 2) (.tmp 60) rfl w.heap.size 0 _ rfl rfl hthW msg_size (by simp [Value.oneCell']) ?_)
        have hno := HNO.out rfl
        show bodyPost _ _ _ _ _ (W.setCells w.heap.size 0 (mcs Mg.none Ma.none))
        refine bodyPost_ret (results_ct rfl _ _ rfl hno.box.range Try.underlying27 rfl msg_size) rfl ?_
        exact hno.ans
      | true =>
        have cz0 : W.cell? ⟨z, 0, none⟩ = some (.int .i64 M.kd) := HRZ.out 0 _ rfl
        have cz1 : W.cell? ⟨z, 1, none⟩ = some (.int .i64 M.fr) := HRZ.out 1 _ rfl
        have cz2 : W.cell? ⟨z, 2, none⟩ = some (.int .i64 M.to) := HRZ.out 2 _ rfl
        have cz3 : W.cell? ⟨z, 3, none⟩ = some (.int .i64 M.se) := HRZ.out 3 _ rfl
        have cz4 : W.cell? ⟨z, 4, none⟩ = some (.int .i64 M.de) := HRZ.out 4 _ rfl
        have cz5 : W.cell? ⟨z, 5, none⟩ = some (.int .i64 M.cm) := HRZ.out 5 _ rfl
        have cz6 : W.cell? ⟨z, 6, none⟩ = some (.int .i64 M.ep) := HRZ.out 6 _ rfl
        have cz7 : W.cell? ⟨z, 7, none⟩ = some (.slice aa.HA aa.HN aa.HC) := HRZ.out 7 _ rfl
        have cz8 : W.cell? ⟨z, 8, none⟩ = some (.string (str M.id)) := HRZ.out 8 _ rfl
        have cz9 : W.cell? ⟨z, 9, none⟩ = some (.int .i64 M.sz) := HRZ.out 9 _ rfl
        have cz10 : W.cell? ⟨z, 10, none⟩ = some (.int .i64 M.so) := HRZ.out 10 _ rfl
        have cz11 : W.cell? ⟨z, 11, none⟩ = some (.int .i64 M.ta) := HRZ.out 11 _ rfl
        have cz12 : W.cell? ⟨z, 12, none⟩ = some (.slice aa.DA aa.DN aa.DC) := HRZ.out 12 _ rfl
        have cz13 : W.cell? ⟨z, 13, none⟩ = some (.slice aa.PA aa.PN aa.PC) := HRZ.out 13 _ rfl
        have cz14 : W.cell? ⟨z, 14, none⟩ = some (.int .i64 M.co) := HRZ.out 14 _ rfl
        have cz15 : W.cell? ⟨z, 15, none⟩ = some (.slice aa.QA aa.QN aa.QC) := HRZ.out 15 _ rfl
        clear HRD HAL HMEM HBEL HKW HNO HM HS HNH HND HNP HNQ HWR HQ HB HSW hL haa
        go_wp2_with (refine wpList_store_mid rfl 27 (.tmp 2) (.tmp 61) rfl w.heap.size 0 _ rfl rfl hthW msg_size (by simp [Value.oneCell']) ?_)
        have hyes := HYES.out rfl
        show bodyPost _ _ _ _ _ (W.setCells w.heap.size 0 (mcs M aa))
        refine bodyPost_ret (results_ct rfl _ _ rfl hyes.box.range Try.underlying27 rfl msg_size) rfl ?_
        exact hyes.ans
end Go.Proofs.Ytabalhhodcajmaa
