/- Parts of a row of bytes that is read, as s[k:], s[k:h] and s[:h] name them. -/
import Derived.Test.YtijbpafmokbnaaaByt
import Derived.Test.YtijbpafmokbnaaaPby
namespace Go.Proofs.Ytijbpafmokbnaaa
open Go.RowKit Go.Shelf Gw Pol
theorem sliced_in {w : World} {B : Nat} {A : Option Addr} {c k h : Nat} {l : List Nat} (hI : In w B A c l) (hk : k ≤ h) (hh : h ≤ l.length) :
    ∃ AT, sliced A k h c 1 = .slice AT (h - k) (c - k) ∧ In w B AT (c - k) ((l.take h).drop k) := by
  have hcap := hI.cap
  refine ⟨_, rfl, ?_, by rw [List.length_drop, List.length_take]; omega, fun hn => ?_⟩
  · intro i x hx
    have hi := (List.getElem?_eq_some_iff.1 hx).1
    rw [List.length_drop, List.length_take] at hi
    rw [List.getElem?_drop, List.getElem?_take, if_pos (by omega)] at hx
    obtain ⟨h1, b, off, h2, h3, h4⟩ := hI.sl _ x hx
    subst h2
    rw [if_neg (by omega)]
    exact ⟨h1, b, off + k, by rw [Option.map_some, Nat.mul_one, addr_add], h3, by rw [Nat.add_assoc]; exact h4⟩
  · by_cases hck : c = k
    · omega
    · rw [if_neg hck] at hn
      cases A with
      | none => have := hI.none_ rfl; omega
      | some a => cases hn
theorem slice_elem : Try.prog.underlying 28 = some (.slice (Try.prog.elem 28)) := by kernel_rfl
theorem slice_one (w : World) : (Go.sizeOf (Try.prog.elem 28)).run Try.prog w = .ok 1 w := by kernel_rfl
/-- s[k:]. -/
theorem slice_l_any {w : World} {B : Nat} {A : Option Addr} {c n k : Nat} {l : List Nat} (hI : In w B A c l) (hn : n = l.length) (hk : k ≤ n) :
    ∃ AT cT, (∀ w', (Instr.sliceAt 28 (.slice A n c) (some (.int .i64 (k : Int))) none none).run Try.prog w' = .ok (.slice AT (n - k) cT) w') ∧ In w B AT cT (l.drop k) := by
  subst hn
  obtain ⟨AT, h1, h2⟩ := sliced_in hI hk (Nat.le_refl _)
  rw [List.take_length] at h2
  refine ⟨AT, c - k, fun w' => ?_, h2⟩
  rw [run_sliceAt_slice w' _ _ _ _ _ slice_elem, run_slice_l w' _ A l.length c slice_elem .i64 (k : Int) (by omega) (by omega), slice_one, Result.andThen_ok, Int.toNat_natCast, h1]
/-- s[k:h]. -/
theorem slice_lh_any {w : World} {B : Nat} {A : Option Addr} {c n k h : Nat} {l : List Nat} (hI : In w B A c l) (hn : n = l.length) (hk : k ≤ h) (hh : h ≤ n) :
    ∃ AT cT, (∀ w', (Instr.sliceAt 28 (.slice A n c) (some (.int .i64 (k : Int))) (some (.int .i64 (h : Int))) none).run Try.prog w' = .ok (.slice AT (h - k) cT) w') ∧ In w B AT cT ((l.take h).drop k) := by
  subst hn
  have hcap := hI.cap
  obtain ⟨AT, h1, h2⟩ := sliced_in hI hk hh
  refine ⟨AT, c - k, fun w' => ?_, h2⟩
  rw [run_sliceAt_slice w' _ _ _ _ _ slice_elem, run_slice_lh w' _ A l.length c slice_elem .i64 .i64 (k : Int) (h : Int) (by omega) (by omega) (by omega), slice_one, Result.andThen_ok, Int.toNat_natCast, Int.toNat_natCast, h1]
/-- s[:h]. -/
theorem slice_h_any {w : World} {B : Nat} {A : Option Addr} {c n h : Nat} {l : List Nat} (hI : In w B A c l) (hn : n = l.length) (hh : h ≤ n) :
    ∃ AT cT, (∀ w', (Instr.sliceAt 28 (.slice A n c) none (some (.int .i64 (h : Int))) none).run Try.prog w' = .ok (.slice AT h cT) w') ∧ In w B AT cT (l.take h) := by
  subst hn
  have hcap := hI.cap
  obtain ⟨AT, h1, h2⟩ := sliced_in hI (Nat.zero_le _) hh
  rw [List.drop_zero] at h2
  rw [Nat.sub_zero] at h1 h2
  refine ⟨AT, c, fun w' => ?_, h2⟩
  rw [run_sliceAt_slice w' _ _ _ _ _ slice_elem, run_slice_h w' _ A l.length c slice_elem .i64 (h : Int) (by omega) (by omega), slice_one, Result.andThen_ok, Int.toNat_natCast, h1]
  rfl
end Go.Proofs.Ytijbpafmokbnaaa
