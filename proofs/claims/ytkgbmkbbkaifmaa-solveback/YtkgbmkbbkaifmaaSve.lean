/- What solve's find and reduce do: the first row that is not 0 in a column; the table made plain, and which columns have a row of their own. -/
import Derived.Test.YtkgbmkbbkaifmaaSvc
namespace Gw
open Go Go.RowKit Go.Shelf
def ints (L : List Nat) : List Value := L.map (fun (x : Nat) => Value.int .i64 (x : Int))
theorem ints_len (L : List Nat) : (ints L).length = L.length := by simp [ints]
/-- A row of ints of the call's own. -/
def OwnI (w : World) (base : Nat) (e : TypeId) (A : Option Addr) (c : Nat) (L : List Nat) : Prop := w.ownsRow base e 1 (.slice A L.length c) L.length (ints L)
section
variable {w w' : World} {base c : Nat} {e : TypeId} {A : Option Addr} {L : List Nat}
theorem OwnI.mk' {v : Value} {n : Nat} (h : w.ownsRow base e 1 v n (ints L)) : ∃ A c, v = .slice A L.length c ∧ OwnI w base e A c L := by
  have hn : n = L.length := by have := h.1; rw [ints_len] at this; omega
  subst hn
  rcases h.2 with ⟨hv, h0⟩ | ⟨g, cap, cur, hv, _⟩
  · subst hv; exact ⟨none, 0, by rw [h0], by unfold OwnI; rw [h0] at h ⊢; exact h⟩
  · subst hv; exact ⟨_, cap, rfl, h⟩
theorem OwnI.nil (w : World) (base : Nat) (e : TypeId) : OwnI w base e none 0 [] := World.ownsRow_nil w base e 1
theorem OwnI.kt {lo hi : Nat} (h : OwnI w base e A c L) (hk : Kt lo hi w w') (hb : hi ≤ base) : OwnI w' base e A c L := by
  refine ⟨h.1, ?_⟩
  rcases h.2 with h0 | ⟨g, cap, cur, hv, hg, hgb, h0⟩
  · exact .inl h0
  · exact .inr ⟨g, cap, cur, hv, hg, (hk.block g (Array.getElem?_eq_some_iff.1 hgb).1 (by omega)).trans hgb, h0⟩
theorem OwnI.alloc (h : OwnI w base e A c L) (o : Obj) : OwnI (w.alloc o) base e A c L := World.ownsRow.alloc h o
theorem OwnI.rebase {base' : Nat} (h : OwnI w base e A c L) (hb : base' ≤ base) : OwnI w base' e A c L := by
  refine ⟨h.1, ?_⟩
  rcases h.2 with h0 | ⟨g, cap, cur, hv, hg, h0⟩
  · exact .inl h0
  · exact .inr ⟨g, cap, cur, hv, by omega, h0⟩
theorem OwnI.at_ (h : OwnI w base e A c L) {i l : Nat} (hi : L[i]? = some l) : ∃ g, A = some ⟨g, 0, none⟩ ∧ base ≤ g ∧ w.cell? ⟨g, i, none⟩ = some (.int .i64 (l : Int)) := by
  have hl : i < L.length := (List.getElem?_eq_some_iff.1 hi).1
  rcases h.2 with ⟨_, h0⟩ | ⟨g, cap, cur, hv, hb, _⟩
  · omega
  · injection hv with hA hn hc
    subst hA hc
    refine ⟨g, rfl, hb, ?_⟩
    rw [World.ownsRow.cellAt h i (by omega)]
    simp [ints, hi]
theorem OwnI.capl (h : OwnI w base e A c L) : L.length ≤ c := by
  rcases h.2 with ⟨hv, h0⟩ | ⟨g, cap, cur, hv, hb, hg, hnc, hm, hs, ht⟩
  · omega
  · injection hv with hA hn hc; omega
theorem OwnI.lt {g : Nat} (h : OwnI w base e (some ⟨g, 0, none⟩) c L) : base ≤ g ∧ g < w.heap.size := World.ownsRow.lt h g rfl
end
end Gw
namespace Go.Proofs.Ytkgbmkbbkaifmaa
open Go.RowKit Go.Shelf Gw Pol
theorem int_info : (Try.prog.info? 3).map (fun i => (i.zero, i.size, i.bytes)) = some (some (.int .i64 0), 1, 8) := by kernel_rfl

theorem rd1_any (pc b n c' j x : Nat) (w : World) (h1 : w.cell? ⟨pc, 0, none⟩ = some (.int .i64 (j : Int))) (h2 : w.cell? ⟨b, j, none⟩ = some (.int .u8 (x : Int))) (hj : j < n) (y : Bool) (hy : ((x : Int) == 0) = !y) :
    Calls Try.prog 25 #[.slice (some ⟨b, 0, none⟩) n c', .pointer (some ⟨pc, 0, none⟩)] w fun e w' => e = .returned (.bool y) ∧ w = w' := by
  have hne : ((x : Int) != 0) = y := by rw [bne, hy, Bool.not_not]
  go_enter Try.func25, Try.ntmps25
  go_wp2
  go_ret
  exact ⟨by first | rfl | (rw [← hne]; rfl) | (rw [← hne]; simp), rfl⟩

set_option maxRecDepth 100000 in
set_option maxHeartbeats 1000000 in
theorem find_hit (pc lo hi g R n k c r cc : Nat) (bs cp : Nat → Nat) (M : Sv.Mx) (w : World) (hT : Tab w lo hi g bs cp M R n) (h1 : w.cell? ⟨pc, 0, none⟩ = some (.int .i64 (c : Int))) (hc : c < n) (hR : R ≤ 4294967296)
    (hkr : k ≤ r) (hr : r < R) (h0 : ∀ i, k ≤ i → i < r → M i c = 0) (hx : M r c ≠ 0) :
    Calls Try.prog 24 #[.slice (some ⟨g, 0, none⟩) R cc, .int .i64 (k : Int), .func (.func 25) #[] #[.pointer (some ⟨pc, 0, none⟩)]] w fun e w' => e = .returned (.tuple #[.int .i64 (r : Int), .bool true]) ∧ w = w' := by
  have H0 := Lib.hid h0
  clear h0
  go_enter Try.func24, Try.ntmps24
  go_wp2
  go_loop [8] (fun i => ∃ t : Nat, k ≤ t ∧ t ≤ r ∧ i = .int .i64 (t : Int)) (fun i => R - (intOf i).toNat)
  case atStart => exact ⟨k, Nat.le_refl _, hkr, rfl⟩
  case round =>
    obtain ⟨t, hkt, htr, rfl⟩ := hrel
    have htR : t < R := by omega
    have cr := hT.rowc htR
    have cx := hT.byc htR hc
    by_cases e : t = r
    · subst e
      have HC := Lib.hid (rd1_any pc (bs t) n (cp t) c (M t c) w h1 cx hc true (by rw [beq_eq_false_iff_ne.2 (by omega)]; rfl))
      clear cx
      go_wp2_with (go_at_call 25; refine HC.out.mono ?_; rintro e w' ⟨rfl, rfl⟩)
      go_ret2
      exact ⟨rfl, rfl⟩
    · have HC := Lib.hid (rd1_any pc (bs t) n (cp t) c (M t c) w h1 cx hc false (by rw [H0.out t hkt (by omega)]; rfl))
      clear cx
      go_wp2_with (go_at_call 25; refine HC.out.mono ?_; rintro e w' ⟨rfl, rfl⟩)
      go_round
      case rel => exact ⟨t + 1, by omega, by omega, by go_num⟩
      case measure => simp [intOf]; omega

set_option maxRecDepth 100000 in
set_option maxHeartbeats 1000000 in
theorem find_miss (pc lo hi g R n k c cc : Nat) (bs cp : Nat → Nat) (M : Sv.Mx) (w : World) (hT : Tab w lo hi g bs cp M R n) (h1 : w.cell? ⟨pc, 0, none⟩ = some (.int .i64 (c : Int))) (hc : c < n) (hR : R ≤ 4294967296)
    (hkR : k ≤ R) (h0 : ∀ i, k ≤ i → i < R → M i c = 0) :
    Calls Try.prog 24 #[.slice (some ⟨g, 0, none⟩) R cc, .int .i64 (k : Int), .func (.func 25) #[] #[.pointer (some ⟨pc, 0, none⟩)]] w fun e w' => e = .returned (.tuple #[.int .i64 0, .bool false]) ∧ w = w' := by
  have H0 := Lib.hid h0
  clear h0
  go_enter Try.func24, Try.ntmps24
  go_wp2
  go_loop [8] (fun i => ∃ t : Nat, k ≤ t ∧ t ≤ R ∧ i = .int .i64 (t : Int)) (fun i => R - (intOf i).toNat)
  case atStart => exact ⟨k, Nat.le_refl _, hkR, rfl⟩
  case round =>
    obtain ⟨t, hkt, htR, rfl⟩ := hrel
    by_cases e : t = R
    · subst e
      go_wp2
      go_ret2
      exact ⟨rfl, rfl⟩
    · have htR : t < R := by omega
      have cr := hT.rowc htR
      have cx := hT.byc htR hc
      have HC := Lib.hid (rd1_any pc (bs t) n (cp t) c (M t c) w h1 cx hc false (by rw [H0.out t hkt (by omega)]; rfl))
      clear cx
      go_wp2_with (go_at_call 25; refine HC.out.mono ?_; rintro e w' ⟨rfl, rfl⟩)
      go_round
      case rel => exact ⟨t + 1, by omega, by omega, by go_num⟩
      case measure => simp [intOf]; omega
end Go.Proofs.Ytkgbmkbbkaifmaa
