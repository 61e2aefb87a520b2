/- Sums of products of rows with bytes, as the statements of layer 3 make them. -/
import Derived.Test.YtkgbmkbbkaifmaaLwa
import Derived.Test.YtkgbmkbbkaifmaaRfa
import Derived.Test.YtkgbmkbbkaifmaaSam
namespace Gw
open Go Go.RowKit Go.Shelf
theorem rg_succ (k : Nat) (D : Nat → Nat) : rg k D ++ [D k] = rg (k + 1) D := by simp [rg, List.range_succ]
theorem rg_bb {k : Nat} {D : Nat → Nat} (h : ∀ i, D i < 256) : Pol.BB (rg k D) := fun x hx => by
  obtain ⟨i, _, rfl⟩ := List.mem_map.1 hx
  exact h i
/-- What a walk reads of row i and of x. -/
theorem MIn.byte {W : World} {B c R n : Nat} {A : Option Addr} {A' : Nat → Option Addr} {c' : Nat → Nat} {l : Nat → List Nat} (h : MIn W B A c R A' c' l) {i j : Nat} (hi : i < R) (hn : (l i).length = n) (hj : j < n) :
    ∃ b off b' off' c0, A = some ⟨b, off, none⟩ ∧ W.cell? ⟨b, off + i, none⟩ = some (.slice (some ⟨b', off', none⟩) n c0) ∧ W.cell? ⟨b', off' + j, none⟩ = some (.int .u8 (Pol.co (l i) j : Int)) ∧ Pol.co (l i) j < 256 := by
  have := h.at_ hi (j := j) (by rw [hn]; exact hj)
  rw [hn] at this
  exact this
theorem In.byte {W : World} {B c : Nat} {A : Option Addr} {l : List Nat} (h : In W B A c l) {j : Nat} (hj : j < l.length) : ∃ b off, A = some ⟨b, off, none⟩ ∧ b < B ∧ W.cell? ⟨b, off + j, none⟩ = some (.int .u8 (Pol.co l j : Int)) ∧ Pol.co l j < 256 := by
  obtain ⟨x, b, off, hx, hx2, ha, hb, hc⟩ := h.sl.at_ hj
  rw [co_of' hx]
  exact ⟨b, off, ha, hb, hc, hx2⟩
end Gw
namespace Go.Proofs.Ytkgbmkbbkaifmaa
open Go.RowKit Go.Shelf Gw Pol
theorem rmul_q (a b : Nat) (ha : a < 256) (hb : b < 256) (w : World) : Calls Try.prog 14 #[.int .u8 (a : Int), .int .u8 (b : Int)] w fun e w' => e = .returned (.int .u8 (Gf.gm a b : Int)) ∧ w' = w :=
  (rmul_any a b ha hb w).mono fun _ _ h => ⟨h.1, h.2.symm⟩
/-- A sum of products on its way: t of them. -/
def BiRel (wo : World) (n : Nat) (a x : Nat → Nat) (s i : Value) (wr : World) : Prop :=
  ∃ t q : Nat, t ≤ n ∧ s = .int .u8 (Sv.dt t a x : Int) ∧ i = .int .i64 (t : Int) ∧ wr = wo.drewN q
end Go.Proofs.Ytkgbmkbbkaifmaa
