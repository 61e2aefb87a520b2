/- What the definition's own turn and constants do (package shamrockref06); rows of ints in blocks of their own. -/
import Derived.Test.YtfemcofjhcanhaaDoorShm
import Derived.Test.YtfemcofjhcanhaaDoorOij
import Derived.Test.YtfemcofjhcanhaaDoorByi
import Derived.Laws.Rows
namespace Gw
open Go Go.RowKit Go.Shelf Pol
/-- Block g is an array of ints. -/
def Ja (w : World) (g : Nat) (t : TypeId) (L : List Nat) : Prop := w.heap[g]? = some (.cells (intv L).toArray t (0, 0))
section
variable {w w' : World} {g : Nat} {t : TypeId} {L : List Nat}
theorem Ja.lt (h : Ja w g t L) : g < w.heap.size := (Array.getElem?_eq_some_iff.1 h).1
theorem Ja.cell (h : Ja w g t L) {k : Nat} (hk : k < L.length) : w.cell? ⟨g, k, none⟩ = some (.int .i64 (co L k : Int)) := by
  rw [cell_of_row w g k _ t _ h]; simp [intv, hk, co_get hk]
theorem Ja.frozen (h : Ja w g t L) (k : Nat) : w.frozen? ⟨g, k, none⟩ = false := by
  unfold Ja at h
  simp [World.frozen?, h]
theorem Ja.put (h : Ja w g t L) (k y : Nat) : Ja (w.setCell ⟨g, k, none⟩ (.int .i64 (y : Int))) g t (L.set k y) := by
  unfold Ja
  rw [setCell_eq_setRow w g k _ t (0, 0) _ h, setRow_heap w g _ _ t _ h]
  simp [intv, List.map_set]
theorem Ja.by_ {r : Option Nat} (h : Ja w g t L) (hg : w.grownBy w' r) (hr : r ≠ some g) : Ja w' g t L := (hg.block g h.lt (fun e => hr e.symm)).trans h
theorem Ja.below {B : Nat} (h : Ja w g t L) (hb : Below B w w') (hB : g < B) : Ja w' g t L := (hb.block g hB).trans h
theorem Ja.alloc (h : Ja w g t L) (o : Obj) : Ja (w.alloc o) g t L := by
  show (w.heap.push o)[g]? = _; rw [Array.getElem?_push, if_neg (Nat.ne_of_lt h.lt)]; exact h
theorem Ja.drewN (h : Ja w g t L) (n : Nat) : Ja (w.drewN n) g t L := h
theorem Ja.new (w : World) (t : TypeId) (L : List Nat) : Ja (w.alloc (.cells (intv L).toArray t)) w.heap.size t L := heap_alloc_new w _
theorem Ja.inn (h : Ja w g t L) (hl : L.length ≤ L.length) : InJ w (some ⟨g, 0, none⟩) L.length L :=
  ⟨fun i x hx => ⟨g, 0, rfl, by rw [Nat.zero_add, h.cell (List.getElem?_eq_some_iff.1 hx).1, co_of' hx]⟩, hl, fun h => by cases h⟩
end
end Gw
namespace Go.Proofs.YtfemcofjhcanhaaDoor
open Go.RowKit Go.Shelf Gw Pol Sh
theorem turn_fin (x n : Nat) (hx : x < 4294967296) (h0 : 0 < n) (h1 : n < 32) : wrap64 ((x : Int) / 2 ^ n + (wrap64 ((x : Int) * 2 ^ (32 - n))).tmod 4294967296) = (rr x n : Int) := by
  have hp : 2 ^ (32 - n) ≤ 2147483648 := Nat.pow_le_pow_right (n := 2) (by omega) (show 32 - n ≤ 31 by omega)
  have hm : x * 2 ^ (32 - n) < 9223372036854775808 := by
    have h2 : x * 2 ^ (32 - n) ≤ x * 2147483648 := Nat.mul_le_mul_left _ hp
    omega
  have e1 : (x : Int) * 2 ^ (32 - n) = ((x * 2 ^ (32 - n) : Nat) : Int) := by simp
  have e2 : (x : Int) / 2 ^ n = ((x / 2 ^ n : Nat) : Int) := by simp
  have hr := rr_lt hx h0 h1
  rw [e1, wrap64_nat _ hm, Int.tmod_eq_emod_of_nonneg (by omega), e2, show (4294967296 : Int) = ((4294967296 : Nat) : Int) from rfl, ← Int.natCast_emod, ← Int.natCast_add]
  exact wrap64_nat _ (Nat.lt_trans hr (by omega))
set_option maxRecDepth 100000 in
set_option maxHeartbeats 400000 in
theorem turn_any (x n : Nat) (k : Int) (hk : k = (n : Int)) (hx : x < 4294967296) (h0 : 0 < n) (h1 : n < 32) (w : World) :
    Calls Tryd.prog 15 #[.int .i64 (x : Int), .int .i64 k] w fun e w' => e = .returned (.int .i64 (rr x n : Int)) ∧ w' = w := by
  subst hk
  obtain ⟨s, hs⟩ : ∃ s, s = 32 - n := ⟨_, rfl⟩
  have hs1 : (32 : Int) - (n : Int) = (s : Int) := by omega
  have hs32 : s < 32 := by omega
  go_enter Tryd.func15, Tryd.ntmps15
  go_wp2
  go_ret
  exact ⟨by rw [turn_fin x n hx h0 h1]; rfl, rfl⟩
set_option maxRecDepth 100000 in
set_option maxHeartbeats 400000 in
theorem constants_any (w : World) :
    Calls Tryd.prog 14 #[] w fun e w' => e = .returned (.slice (some ⟨w.heap.size, 0, none⟩) 64 64) ∧ w' = w.alloc (.cells (intv kk).toArray 3) := by
  go_enter Tryd.func14, Tryd.ntmps14
  go_wp2
  go_ret
  exact ⟨rfl, rfl⟩
end Go.Proofs.YtfemcofjhcanhaaDoor
