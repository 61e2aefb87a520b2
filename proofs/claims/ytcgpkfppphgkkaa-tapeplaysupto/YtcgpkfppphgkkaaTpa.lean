/- What tape's New, Left, Used and Add do. -/
import Derived.Test.YtcgpkfppphgkkaaTpm
import Derived.Test.YtcgpkfppphgkkaaPby
namespace Go.Proofs.Ytcgpkfppphgkkaa
open Go.RowKit Go.Shelf Gw Pol

set_option maxRecDepth 100000 in
theorem tnew_any (w : World) : Calls Try.prog 7 #[] w fun e w' => e = .returned (.pointer (some ⟨w.heap.size, 0, none⟩)) ∧ w' = w.alloc (.cells #[.slice none 0 0, .int .i64 0] 39) := by
  go_enter Try.func7, Try.ntmps7
  go_wp2
  go_ret
  exact ⟨rfl, rfl⟩
set_option maxRecDepth 100000 in
theorem tleft_none (w : World) : Calls Try.prog 10 #[.pointer none] w fun e w' => e = .returned (.int .i64 0) ∧ w' = w := by
  go_enter Try.func10, Try.ntmps10
  go_wp2
  go_ret
  exact ⟨rfl, rfl⟩
set_option maxRecDepth 100000 in
theorem tused_none (w : World) : Calls Try.prog 11 #[.pointer none] w fun e w' => e = .returned (.int .i64 0) ∧ w' = w := by
  go_enter Try.func11, Try.ntmps11
  go_wp2
  go_ret
  exact ⟨rfl, rfl⟩
set_option maxRecDepth 100000 in
theorem tadd_none (A : Option Addr) (n c : Nat) (w : World) : Calls Try.prog 8 #[.pointer none, .slice A n c] w fun e w' => e = .returned (.int .i64 1) ∧ w' = w := by
  go_enter Try.func8, Try.ntmps8
  go_wp2
  go_ret
  exact ⟨rfl, rfl⟩
set_option maxRecDepth 100000 in
theorem ttake_none (n : Int) (w : World) : Calls Try.prog 9 #[.pointer none, .int .i64 n] w fun e w' => e = .returned (.tuple #[.slice none 0 0, .bool false]) ∧ w' = w := by
  go_enter Try.func9, Try.ntmps9
  go_wp2
  go_ret2
  exact ⟨rfl, rfl⟩
set_option maxRecDepth 100000 in
theorem tleft_any (p g u : Nat) (l : List Nat) (w : World) (h : Tp w p g l u) : Calls Try.prog 10 #[.pointer (some ⟨p, 0, none⟩)] w fun e w' => e = .returned (.int .i64 (l.length : Int)) ∧ w' = w := by
  obtain ⟨A, c, hc, _⟩ := h.row
  go_enter Try.func10, Try.ntmps10
  go_wp2
  go_ret
  exact ⟨rfl, rfl⟩
set_option maxRecDepth 100000 in
theorem tused_any (p g u : Nat) (l : List Nat) (w : World) (h : Tp w p g l u) : Calls Try.prog 11 #[.pointer (some ⟨p, 0, none⟩)] w fun e w' => e = .returned (.int .i64 (u : Int)) ∧ w' = w := by
  have hc := h.used
  go_enter Try.func11, Try.ntmps11
  go_wp2
  go_ret
  exact ⟨rfl, rfl⟩
set_option maxRecDepth 100000 in
theorem tadd_large (p g u : Nat) (l : List Nat) (A : Option Addr) (m c : Nat) (w : World) (h : Tp w p g l u) (hm : 65536 < l.length + m) : Calls Try.prog 8 #[.pointer (some ⟨p, 0, none⟩), .slice A m c] w fun e w' => e = .returned (.int .i64 8) ∧ w' = w := by
  obtain ⟨Ao, co', hc, _⟩ := h.row
  have hlen := h.len
  obtain ⟨r, hr⟩ : ∃ r : Nat, r = 65536 - l.length := ⟨_, rfl⟩
  have hw : IntKind.i64.wrap (65536 - (l.length : Int)) = (r : Int) := by rw [IntKind.wrap_i64]; omega
  have hgt : r < m := by omega
  go_enter Try.func8, Try.ntmps8
  go_wp2
  go_ret
  exact ⟨rfl, rfl⟩
set_option maxRecDepth 100000 in
theorem tadd_any (p g u : Nat) (l : List Nat) (A : Option Addr) (m c : Nat) (b : List Nat) (w : World) (h : Tp w p g l u) (hm : m = b.length) (hI : In w w.heap.size A c b) (hl : l.length + b.length ≤ 65536) :
    Calls Try.prog 8 #[.pointer (some ⟨p, 0, none⟩), .slice A m c] w fun e w' => e = .returned (.int .i64 0) ∧ ∃ g', Tp w' p g' (l ++ b) u ∧ (g' = g ∨ w.heap.size ≤ g') ∧ K2 w w' p g := by
  obtain ⟨Ao, co', hc, hR⟩ := h.row
  have hlen := h.len
  have hu := h.used
  have hf := h.fr
  obtain ⟨i0, hi0, hz0, hz1, hz2⟩ := info_parts pbyte_info
  obtain ⟨A2, c2, g2, w2, hrun, hR2, hg2, hlt2, hk2, hp2⟩ := run_tape (P := Try.prog) 25 25 5 i0 _ Try.underlying25 hi0 hz0 hz1 hz2 rfl p g l.length co' m c Ao A l b rfl hm hR h.lt h.glt hI.sl (by omega)
  obtain ⟨r, hr⟩ : ∃ r : Nat, r = 65536 - l.length := ⟨_, rfl⟩
  have hw : IntKind.i64.wrap (65536 - (l.length : Int)) = (r : Int) := by rw [IntKind.wrap_i64]; omega
  have hgt : m ≤ r := by omega
  have hf2 : w2.frozen? ⟨p, 0, none⟩ = false := (frozen_heap hp2).trans (hf 0)
  have hc2 : w2.cell? ⟨p, 0, none⟩ = some (.slice Ao l.length co') := (cell_heap hp2).trans hc
  have hu2 : w2.cell? ⟨p, 1, none⟩ = some (.int .i64 (u : Int)) := (cell_heap hp2).trans hu
  have hplt := h.lt
  obtain ⟨N, hN⟩ : ∃ N, N = (l ++ b).length := ⟨_, rfl⟩
  rw [← hN] at hrun
  have HR := Lib.hid hrun
  have HN := Lib.hid hN
  clear hrun hr hN
  go_enter Try.func8, Try.ntmps8
  go_wp2_with (at_builtin; refine wpList_append1 rfl (.tmp 20) (.tmp 21) 25 (.slice Ao l.length co') (.slice A m c) (.slice A2 N c2) rfl rfl rfl HR.out ?_)
  go_ret
  exact ⟨rfl, g2, Tp.put (Nat.lt_of_lt_of_le hplt hk2.size) hlt2 hu2 (fun k => (frozen_heap hp2).trans (hf k)) (by rw [List.length_append]; exact hl) hc2 HN.out hR2, hg2, hk2.trans (K2.set _ _ _ _ _) (.inl rfl)⟩
end Go.Proofs.Ytcgpkfppphgkkaa
