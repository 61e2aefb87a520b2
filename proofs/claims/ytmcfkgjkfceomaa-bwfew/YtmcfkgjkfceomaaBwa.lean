/- What bw's within and repeated do; rows that are read and lie not in some blocks. -/
import Derived.Test.YtmcfkgjkfceomaaBwm
import Derived.Test.YtmcfkgjkfceomaaRfx
import Derived.Test.YtmcfkgjkfceomaaPpb
namespace Gw
open Go Go.RowKit Go.Shelf Gq
/-- The bytes of a slice, in blocks that X does not name. -/
def SlX (X : Nat → TypeId → Prop) (w : World) (A : Option Addr) (l : List Nat) : Prop :=
  ∀ (i x : Nat), l[i]? = some x → x < 256 ∧ ∃ b off, A = some ⟨b, off, none⟩ ∧ (∀ e, ¬ X b e) ∧ w.cell? ⟨b, off + i, none⟩ = some (.int .u8 (x : Int))
structure InX (X : Nat → TypeId → Prop) (w : World) (A : Option Addr) (c : Nat) (l : List Nat) : Prop where
  sl : SlX X w A l
  cap : l.length ≤ c
  none_ : A = none → c = 0
section
variable {X : Nat → TypeId → Prop} {w w' : World} {A : Option Addr} {c : Nat} {l : List Nat}
theorem InX.inn (h : InX X w A c l) : In w w.heap.size A c l := ⟨fun i x hx => by
  obtain ⟨h1, b, off, h2, _, h4⟩ := h.sl i x hx
  exact ⟨h1, b, off, h2, cell_lt h4, h4⟩, h.cap, h.none_⟩
theorem InX.bb (h : InX X w A c l) : Pol.BB l := h.inn.bb
theorem InX.keep (h : InX X w A c l) (hk : KeepX X w w') : InX X w' A c l := ⟨fun i x hx => by
  obtain ⟨h1, b, off, h2, h3, h4⟩ := h.sl i x hx
  exact ⟨h1, b, off, h2, h3, hk.cell h4 h3⟩, h.cap, h.none_⟩
theorem InX.below (h : InX X w A c l) (hb : Below w.heap.size w w') : InX X w' A c l := h.keep (KeepX.below hb)
theorem InX.turned {row : Option Nat} (h : InX X w A c l) (hg : w.grownBy w' row) (hr : ∀ r, row = some r → ∃ o : Obj, w.heap[r]? = some o ∧ o.isCells = false) : InX X w' A c l :=
  h.keep (KeepX.by hg (fun r e cs ty z h2 => by obtain ⟨o, h3, h4⟩ := hr r e; rw [h2] at h3; injection h3 with h3; subst h3; cases h4))
theorem In.x {B : Nat} (h : In w B A c l) (hX : ∀ b e, b < B → ¬ X b e) : InX X w A c l := ⟨fun i x hx => by
  obtain ⟨h1, b, off, h2, h3, h4⟩ := h.sl i x hx
  exact ⟨h1, b, off, h2, fun e => hX b e h3, h4⟩, h.cap, h.none_⟩
theorem Own.x {base : Nat} {e : TypeId} (h : Own w base e A c l) (hX : ∀ b e, base ≤ b → ¬ X b e) : InX X w A c l := ⟨fun i x hx => by
  obtain ⟨h1, b, off, h2, h3, h4⟩ := h.sl i x hx
  obtain ⟨g, hg, hb, _⟩ := h.store (k := i) ((List.getElem?_eq_some_iff.1 hx).1)
  rw [h2] at hg
  injection hg with hg
  injection hg with hg
  exact ⟨h1, b, off, h2, fun e => hX b e (by omega), h4⟩, h.cap, h.inn.none_⟩
end
end Gw
namespace Go.Proofs.Ytmcfkgjkfceomaa
open Go.RowKit Go.Shelf Gw Pol

/-- May n be d, or e? -/
def witB (n : Int) : Bool := decide (0 ≤ n ∧ n ≤ 255)
theorem within_any (n : Int) (w : World) : Calls Try.prog 20 #[.int .i64 n] w fun e w' => e = .returned (.bool (witB n)) ∧ w = w' := by
  by_cases h0 : 0 ≤ n
  · by_cases h1 : n ≤ 255
    · have hw : witB n = true := decide_eq_true ⟨h0, h1⟩
      rw [hw]
      clear hw
      go_enter Try.func20, Try.ntmps20
      go_wp2
      go_ret
      first | exact ⟨rfl, rfl⟩ | exact ⟨by simp; omega, rfl⟩
    · have hw : witB n = false := decide_eq_false (by omega)
      rw [hw]
      clear hw
      go_enter Try.func20, Try.ntmps20
      go_wp2
      go_ret
      first | exact ⟨rfl, rfl⟩ | exact ⟨by simp; omega, rfl⟩
  · have hw : witB n = false := decide_eq_false (by omega)
    rw [hw]
    clear hw
    go_enter Try.func20, Try.ntmps20
    go_wp2
    go_ret
    first | exact ⟨rfl, rfl⟩ | exact ⟨by simp; omega, rfl⟩

set_option maxRecDepth 100000 in
set_option maxHeartbeats 1000000 in
theorem repeated_any (A : Option Addr) (c : Nat) (xs : List Nat) (w : World) (hI : In w w.heap.size A c xs) (hcm : xs.length ≤ 140737488355328) :
    Calls Try.prog 19 #[.slice A xs.length c] w fun e w' => e = .returned (.bool (!unB xs)) ∧ Below w.heap.size w w' := by
  have hz := zeroSeen
  go_enter Try.func19, Try.ntmps19
  go_wp2
  clear hz
  go_loopw [8] (PsRel w xs) (fun i _ => xs.length - (intOf i).toNat)
  case atStart => exact ⟨0, rfl, Nat.zero_le _, fun i j h => by omega, seen_new w, (Below.refl _ _).alloc (Nat.le_refl _) _⟩
  case round =>
    obtain ⟨k, rfl, hk, hun, hrow, hbel⟩ := hrel
    by_cases hkp : k < xs.length
    · obtain ⟨x, b, off, hx, hxb, rfl, hb, hcell⟩ := (hI.below hbel).sl.at_ hkp
      have hc1 := (hrow x hxb).1
      have hf1 := (hrow x hxb).2
      by_cases hin : x ∈ xs.take k
      · have hs : seenF (xs.take k) x = .bool true := by unfold seenF; simp [hin]
        rw [hs] at hc1
        obtain ⟨j, hj, hje⟩ := List.getElem_of_mem hin
        have hjk : j < k := by rw [List.length_take] at hj; omega
        have HN := Lib.hid (unB_no hkp hjk (by rw [co_of' hx, co_get (by omega), ← hje, List.getElem_take]))
        clear hs hx hje hj hin
        go_wp2
        go_ret
        exact ⟨by rw [HN.out]; rfl, hbel⟩
      · have hs : seenF (xs.take k) x = .bool false := by unfold seenF; simp [hin]
        rw [hs] at hc1
        have hrow2 := (hrow.set hxb (.bool true)).congr (g := seenF (xs.take (k + 1))) (fun o _ => by
          unfold seenF
          rw [← take_snoc hx]
          by_cases e : o = x
          · rw [if_pos e, e]; simp
          · rw [if_neg e]; simp [e])
        have hun2 : UnTo xs (k + 1) := fun i j hi hj => by
          by_cases e : i = k
          · subst e
            rw [co_of' hx]
            intro h
            refine hin ?_
            rw [h, co_get (by omega), ← List.getElem_take (j := i) (h := by rw [List.length_take]; omega)]
            exact List.getElem_mem _
          · exact hun i j (by omega) hj
        have H1 := Lib.hid hrow2
        have H2 := Lib.hid hun2
        have H3 := Lib.hid (hbel.setCell (p := ⟨w.heap.size, x, none⟩) (Nat.le_refl _) (.bool true))
        clear hs hx hrow hrow2 hun2 hun hin
        go_wp2
        go_roundw
        case rel => exact ⟨k + 1, by go_num, by omega, H2.out, H1.out, H3.out⟩
        case measure => simp [intOf]; omega
    · obtain rfl : k = xs.length := by omega
      have HN := Lib.hid (unB_yes hun)
      go_wp2
      go_ret
      exact ⟨by rw [HN.out]; rfl, hbel⟩
end Go.Proofs.Ytmcfkgjkfceomaa
