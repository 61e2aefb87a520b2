/- What tape's Take does. -/
import Derived.Test.YtcgpkfppphgkkaaTpa
import Derived.Test.YtcgpkfppphgkkaaClo
namespace Go.Proofs.Ytcgpkfppphgkkaa
open Go.RowKit Go.Shelf Gw Pol

set_option maxRecDepth 100000 in
theorem ttake_low (p g u : Nat) (l : List Nat) (n : Int) (w : World) (h : Tp w p g l u) (hn : n < 0) : Calls Try.prog 9 #[.pointer (some ⟨p, 0, none⟩), .int .i64 n] w fun e w' => e = .returned (.tuple #[.slice none 0 0, .bool false]) ∧ w' = w := by
  obtain ⟨Ao, co', hc, _⟩ := h.row
  go_enter Try.func9, Try.ntmps9
  go_wp2
  go_ret2
  exact ⟨rfl, rfl⟩
set_option maxRecDepth 100000 in
theorem ttake_far (p g u : Nat) (l : List Nat) (n : Int) (w : World) (h : Tp w p g l u) (h0 : 0 ≤ n) (hn : (l.length : Int) < n) : Calls Try.prog 9 #[.pointer (some ⟨p, 0, none⟩), .int .i64 n] w fun e w' => e = .returned (.tuple #[.slice none 0 0, .bool false]) ∧ w' = w := by
  obtain ⟨Ao, co', hc, _⟩ := h.row
  go_enter Try.func9, Try.ntmps9
  go_wp2
  go_ret2
  exact ⟨rfl, rfl⟩
theorem clone' (A : Option Addr) (c n : Nat) (l : List Nat) (w : World) (hn : n = l.length) (hI : In w w.heap.size A c l) (hcm : l.length ≤ 65536) :
    Calls Try.prog 13 #[.slice A n c] w fun e w' => ∃ A2 c2, e = .returned (.slice A2 n c2) ∧ Gw.Own w' w.heap.size 5 A2 c2 l ∧ Below w.heap.size w w' := by
  subst hn; exact clone_any A c l w hI (by omega)
def TakeAns (w : World) (p g u k : Nat) (l : List Nat) (e : Ending) (w' : World) : Prop :=
  ∃ A2 c2, e = .returned (.tuple #[.slice A2 k c2, .bool true]) ∧ Gw.Own w' w.heap.size 5 A2 c2 (l.take k) ∧ Tp w' p g (l.drop k) (u + k) ∧ K2 w w' p g
set_option maxRecDepth 100000 in
set_option maxHeartbeats 1000000 in
theorem ttake_some (p g u k off c : Nat) (l : List Nat) (w : World) (h : Tp w p g l u) (hc : w.cell? ⟨p, 0, none⟩ = some (.slice (some ⟨g, off, none⟩) l.length c)) (hne : g ≠ p) (hR : Ro w g off c l) (hk : k ≤ l.length) (hu : u + k ≤ 9223372036854775807) :
    Calls Try.prog 9 #[.pointer (some ⟨p, 0, none⟩), .int .i64 (k : Int)] w (TakeAns w p g u k l) := by
  have hlen := h.len
  have hcap := hR.cap
  have hkc : k ≤ c := by omega
  have hcl := clone' (some ⟨g, off, none⟩) c k (l.take k) w (by simp; omega) ⟨hR.inn.sl.take k, by simp; omega, fun e => by cases e⟩ (by simp; omega)
  have hplt := h.lt
  have hglt := h.glt
  have hzv : ∀ w, (zeroValue 5).run Try.prog w = .ok (.int .u8 0) w := fun _ => by kernel_rfl
  obtain ⟨U, hU⟩ : ∃ U : Nat, U = u + k := ⟨_, rfl⟩
  have hwU : IntKind.i64.wrap ((u : Int) + (k : Int)) = (U : Int) := by rw [IntKind.wrap_i64]; omega
  have HU := Lib.hid hU
  clear hU
  have HN := Lib.hid hne
  clear hne
  obtain ⟨d, hd⟩ : ∃ d : Nat, d = l.length - k := ⟨_, rfl⟩
  have hdl : d = (l.drop k).length := by rw [List.length_drop]; exact hd
  have HDL := Lib.hid hdl
  clear hdl
  obtain ⟨d', hd'⟩ : ∃ d' : Nat, d' = c - k := ⟨_, rfl⟩
  have HD := Lib.hid hd
  have HD' := Lib.hid hd'
  go_enter Try.func9, Try.ntmps9
  go_wp2_with fail
  refine hcl.mono ?_
  rintro e w1 ⟨A2, c2, rfl, hown, hbel⟩
  have hp1 := hbel.block p hplt
  have hg1 := hbel.block g hglt
  have hR1 := hR.keep hg1 hbel.size
  have hc1 : w1.cell? ⟨p, 0, none⟩ = some (.slice (some ⟨g, off, none⟩) l.length c) := (cell_heap hp1).trans hc
  obtain ⟨w2, hrun, hk2, hs2, hp2, _, hR2⟩ := run_wipe (P := Try.prog) 25 0 5 Try.underlying25 hzv p g k c (some ⟨g, off, none⟩) l hk (.inr ⟨HN.out, off, rfl, hR1⟩)
  have hb1 := hbel.size
  have hp2' : w2.heap[p]? = w1.heap[p]? := by rcases hp2 HN.out with h2 | h2; exact h2; omega
  have hR2' := hR2 off rfl
  have hc2 : w2.cell? ⟨p, 0, none⟩ = some (.slice (some ⟨g, off, none⟩) l.length c) := (cell_heap hp2').trans hc1
  have hu2 : w2.cell? ⟨p, 1, none⟩ = some (.int .i64 (u : Int)) := (cell_heap hp2').trans ((cell_heap hp1).trans h.used)
  have hfr : ∀ k, w2.frozen? ⟨p, k, none⟩ = false := fun k => (frozen_heap hp2').trans ((frozen_heap hp1).trans (h.fr k))
  have hf0 := hfr 0
  have hf1 := hfr 1
  have HR := Lib.hid hrun
  have hK : K2 w w2 p g := (K2.ofBelow hbel (Nat.le_refl _)).trans hk2 (.inl rfl)
  clear hrun hp1 hg1 hp2
  have hKf : ∀ v v', K2 w1 ((w2.setCell ⟨p, 0, none⟩ v).setCell ⟨p, 1, none⟩ v') p g := fun v v' => (hk2.trans (K2.set _ _ _ _ _) (.inl rfl)).trans (K2.set _ _ _ _ _) (.inl rfl)
  have hu3 : ∀ v, (w2.setCell ⟨p, 0, none⟩ v).cell? ⟨p, 1, none⟩ = some (.int .i64 (u : Int)) := fun v => (World.cell?_setCell_other _ _ _ _ (by simp)).trans hu2
  have hplt2 : p < w2.heap.size := by omega
  by_cases hkc2 : k = c
  · obtain rfl := hkc2
    have hle : l.length = k := by omega
    have hl0 : l.length - k = 0 := by omega
    have HL := Lib.hid hle
    clear hle hd hd'
    go_wp2_with fail
    rw [HR.out]
    go_wp2
    go_ret2
    have hnil : l.drop k = [] := List.drop_eq_nil_of_le (by rw [HL.out]; exact Nat.le_refl _)
    refine ⟨A2, c2, rfl, hown.k2 (hKf _ _) (hown.nb hplt) (hown.nb hglt), ?_, (K2.ofBelow hbel (Nat.le_refl _)).trans (hKf _ _) (.inl rfl)⟩
    rw [← HU.out, hnil]
    have hRn : Rw w2 p g (some ⟨g, off, none⟩) 0 [] := .inr ⟨HN.out, off, rfl, hR2'.lt, fun i x hx => by simp at hx, fun j hj => by omega, by simp⟩
    exact Tp.count (u := u) (Tp.put (L := []) hplt2 hR2'.lt hu2 hfr (by simp) hc2 rfl hRn) U
  · have hlt : k < c := by omega
    clear hkc2 hd hd'
    go_wp2_with fail
    rw [HR.out]
    go_wp2
    go_ret2
    refine ⟨A2, c2, rfl, hown.k2 (hKf _ _) (hown.nb hplt) (hown.nb hglt), ?_, (K2.ofBelow hbel (Nat.le_refl _)).trans (hKf _ _) (.inl rfl)⟩
    rw [← HU.out]
    exact Tp.count (u := u) (Tp.put hplt2 hR2'.lt hu2 hfr (by rw [List.length_drop]; omega) hc2 (List.length_drop).symm (.inr ⟨HN.out, off + k, rfl, hR2'⟩)) U
set_option maxRecDepth 100000 in
set_option maxHeartbeats 1000000 in
theorem ttake_nil (p u : Nat) (w : World) (h : Tp w p p [] u) (hc : w.cell? ⟨p, 0, none⟩ = some (.slice none 0 0)) (hu : u ≤ 9223372036854775807) :
    Calls Try.prog 9 #[.pointer (some ⟨p, 0, none⟩), .int .i64 0] w (TakeAns w p p u 0 []) := by
  have hcl := clone' none 0 0 [] w rfl ⟨Sl.nil, Nat.le_refl _, fun _ => rfl⟩ (by simp)
  have hplt := h.lt
  have hwU : IntKind.i64.wrap (u : Int) = (u : Int) := by rw [IntKind.wrap_i64]; omega
  go_enter Try.func9, Try.ntmps9
  go_wp2_with fail
  refine hcl.mono ?_
  rintro e w1 ⟨A2, c2, rfl, hown, hbel⟩
  have hp1 := hbel.block p hplt
  have hc1 : w1.cell? ⟨p, 0, none⟩ = some (.slice none 0 0) := (cell_heap hp1).trans hc
  have hu1 : w1.cell? ⟨p, 1, none⟩ = some (.int .i64 (u : Int)) := (cell_heap hp1).trans h.used
  have hfr : ∀ k, w1.frozen? ⟨p, k, none⟩ = false := fun k => (frozen_heap hp1).trans (h.fr k)
  have hf0 := hfr 0
  have hf1 := hfr 1
  have hrun : (Builtin.clear_ #[25] 0 #[.slice none 0 0]).run Try.prog w1 = .ok (.tuple #[]) w1 := by simp [Builtin.clear_, run_underlying Try.underlying25]
  have HR := Lib.hid hrun
  clear hrun hp1
  have hu3 : ∀ v, (w1.setCell ⟨p, 0, none⟩ v).cell? ⟨p, 1, none⟩ = some (.int .i64 (u : Int)) := fun v => (World.cell?_setCell_other _ _ _ _ (by simp)).trans hu1
  have hKf : ∀ v v', K2 w1 ((w1.setCell ⟨p, 0, none⟩ v).setCell ⟨p, 1, none⟩ v') p p := fun v v' => (K2.set _ _ _ _ _).trans (K2.set _ _ _ _ _) (.inl rfl)
  have hplt1 : p < w1.heap.size := Nat.lt_of_lt_of_le hplt hbel.size
  go_wp2_with fail
  rw [HR.out]
  go_wp2
  go_ret2
  refine ⟨A2, c2, rfl, hown.k2 (hKf _ _) (hown.nb hplt) (hown.nb hplt), ?_, (K2.ofBelow hbel (Nat.le_refl _)).trans (hKf _ _) (.inl rfl)⟩
  exact Tp.count (u := u) (Tp.put (L := []) hplt1 hplt1 hu1 hfr (by simp) hc1 rfl (.inl ⟨rfl, rfl, rfl, rfl⟩)) u
theorem ttake_any (p g u k : Nat) (l : List Nat) (w : World) (h : Tp w p g l u) (hk : k ≤ l.length) (hu : u + k ≤ 9223372036854775807) :
    Calls Try.prog 9 #[.pointer (some ⟨p, 0, none⟩), .int .i64 (k : Int)] w (TakeAns w p g u k l) := by
  obtain ⟨A, c, hc, hR⟩ := h.row
  rcases hR with ⟨rfl, rfl, rfl, rfl⟩ | ⟨hne, off, rfl, hR⟩
  · obtain rfl : k = 0 := by simpa using hk
    exact ttake_nil g u w h hc (by omega)
  · exact ttake_some p g u k off c l w h hc hne hR hk hu
end Go.Proofs.Ytcgpkfppphgkkaa
