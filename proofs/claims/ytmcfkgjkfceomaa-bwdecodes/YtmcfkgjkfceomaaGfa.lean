/- What gf.double and gf.powers do: the double of a byte; the exponents below 255 one by one, each with that power of x + 1. -/
import Derived.RangeFuncNested
import Derived.RangeFuncBound
import Derived.RangeFuncCalls
import Derived.RangeFuncLeaves
import Derived.Shelf.Abstract
import Derived.Shelf.RegionOpen
import Derived.WalkKit
import Derived.OwnWalkIn
import Derived.TacticsInMore
import Derived.LoopNIn
import Derived.LoopIn
import Derived.WalkSpells
import Derived.WalkLawsBesides
import Derived.Laws.BitsAllLaws
import Derived.Test.YtmcfkgjkfceomaaProg
import Derived.Test.YtmcfkgjkfceomaaMath
namespace Go.Proofs.Ytmcfkgjkfceomaa
open Go.RowKit Go.Shelf
attribute [local go_sem] Oper.semAt_some

theorem dbl_hi : ∀ a : Nat, a < 256 → (bits BinOp.and IntKind.u8 (a : Int) 128 != 0) = true → bits BinOp.xor IntKind.u8 ((a : Int) * 2 % 256) 27 = (Gf.dbl a : Int) := by decide +kernel
theorem dbl_lo : ∀ a : Nat, a < 256 → (bits BinOp.and IntKind.u8 (a : Int) 128 != 0) = false → (a : Int) * 2 % 256 = (Gf.dbl a : Int) := by decide +kernel

theorem ret_int {k : IntKind} {a b : Int} (h : a = b) : Ending.returned (.int k a) = .returned (.int k b) := by rw [h]

set_option maxHeartbeats 400000 in
theorem double_any (a : Nat) (h : a < 256) (w : World) :
    Calls Try.prog 34 #[.int .u8 (a : Int)] w fun e w' => e = .returned (.int .u8 (Gf.dbl a : Int)) ∧ w = w' := by
  go_enter Try.func34, Try.ntmps34
  go_wp2
  · go_ret
    exact ⟨ret_int (dbl_hi a h (by assumption)), rfl⟩
  · go_ret
    exact ⟨ret_int (dbl_lo a h (by assumption)), rfl⟩

abbrev Idx := { i : Nat // i < 255 }
abbrev encs (x : Idx) : Array Value := #[.int .i64 (x.1 : Int), .int .u8 (Gf.pw x.1 : Int)]
def upto (k : Nat) (h : k ≤ 255) : List Idx := (List.range k).attach.map fun x => ⟨x.1, by have := List.mem_range.1 x.2; omega⟩
theorem upto_val (k : Nat) (h : k ≤ 255) : (upto k h).map (fun x => x.1) = List.range k := by simp [upto]
theorem upto_len (k : Nat) (h : k ≤ 255) : (upto k h).length = k := by simp [upto]
theorem upto_succ (k : Nat) (h : k + 1 ≤ 255) : upto (k + 1) h = upto k (by omega) ++ [⟨k, by omega⟩] := by
  have : ∀ l m : List Idx, l.map (fun x => x.1) = m.map (fun x => x.1) → l = m := fun l m e => List.map_inj_right (fun x y => Subtype.ext) |>.1 e
  apply this
  rw [List.map_append, upto_val, upto_val, List.range_succ]; rfl

set_option maxRecDepth 100000 in
set_option maxHeartbeats 1000000 in
/-- The powers come one by one. -/
theorem powers_stops (n : Nat) (hn : 1 ≤ n) (w : World) :
    SeqStopsK Fence.wide n Try.prog 23 #[] encs (fun _ _ => True) (fun xs => xs = upto 255 (Nat.le_refl _)) (fun _ => True) 255 w := fun l J Jx W _ _ _ hY h0 => by
  refine callsIn_of_wp Try.func23 rfl trivial ?_ rfl
  simp only [Try.ntmps23, List.size_toArray, List.length_cons, List.length_nil, Nat.reduceAdd, Nat.reduceSub, Array.replicate_succ, Array.replicate_zero, List.push_toArray, List.append_toArray, List.nil_append, List.cons_append]
  gi_wp2
  gi_loopw [2, 4] (fun p i wr => ∃ k : Nat, ∃ h : k ≤ 255, i = .int .i64 (k : Int) ∧ p = .int .u8 (Gf.pw k : Int) ∧ J (upto k h) wr)
    (fun _ i _ => 255 - (intOf i).toNat)
  case atStart => exact ⟨0, by omega, rfl, rfl, h0⟩
  case round =>
    obtain ⟨k, hk, rfl, rfl, hJs⟩ := hrel
    have hp := Gf.pw_lt k
    by_cases hlt : k < 255
    · obtain ⟨fn, tmps, assign, body, hy, hR⟩ := hY (upto k hk) ⟨k, hlt⟩ wr hJs (by rw [upto_len]; exact hlt)
      dsimp only [encs] at hy
      gi_wp2_with fail
      refine hR.mono ?_
      rintro e W3 (⟨rfl, hJ3, _⟩ | ⟨rfl, hJx3⟩)
      · gi_wp2_with fail
        refine ⟨trivial, ?_⟩
        refine (callsIn_wide.2 (double_any _ hp _)).mono ?_
        rintro e w' ⟨rfl, rfl⟩
        have hxr : bits .xor .u8 (Gf.pw k : Int) (Gf.dbl (Gf.pw k) : Int) = (Gf.pw (k + 1) : Int) := u8_xor_nat _ _ hp (Gf.dbl_lt_small _ hp)
        gi_wp2
        go_roundw
        case rel => exact ⟨k + 1, by omega, by go_num, rfl, by rw [upto_succ]; exact hJ3⟩
        case measure => simp [intOf]; omega
      · gi_wp2
        refine bodyPost_ret (results_none rfl _ _ _) rfl ?_
        exact ⟨⟨_, rfl⟩, .inr ⟨_, trivial, hJx3⟩⟩
    · obtain rfl : k = 255 := by omega
      gi_wp2
      go_end0
      exact ⟨⟨_, rfl⟩, .inl ⟨_, rfl, hJs⟩⟩

/-- What the table of powers, and of logarithms, holds when some exponents have come. -/
def exF (l : List Nat) (j : Nat) : Nat := if j ∈ l then Gf.pw j else 0
def lgF (l : List Nat) (a : Nat) : Nat := l.foldl (fun s i => if a = Gf.pw i then i else s) 0
theorem lgF_snoc (l : List Nat) (i a : Nat) : lgF (l ++ [i]) a = if a = Gf.pw i then i else lgF l a := by simp [lgF]
theorem lgF_range (k a : Nat) : lgF (List.range k) a = Gf.lgTo k a := by
  induction k with
  | zero => rfl
  | succ k ih => rw [List.range_succ, lgF_snoc, ih]; rfl
theorem exF_snoc_same (l : List Nat) (i : Nat) : exF (l ++ [i]) i = Gf.pw i := by simp [exF]
theorem exF_snoc_other (l : List Nat) (i j : Nat) (h : j ≠ i) : exF (l ++ [i]) j = exF l j := by simp [exF, h]

end Go.Proofs.Ytmcfkgjkfceomaa
