/- What poly's powers and Eval do: the powers of x one by one; a polynomial's value. -/
import Derived.Test.YtmcfkgjkfceomaaPpc
import Derived.Test.YtmcfkgjkfceomaaRpa
namespace Go.Proofs.Ytmcfkgjkfceomaa
open Go.RowKit Go.Shelf Gw Pol
attribute [local go_sem] Oper.semAt_some

/-- Places below L. -/
abbrev Plc (L : Nat) := { i : Nat // i < L }
def uptoL (L k : Nat) (h : k ≤ L) : List (Plc L) := (List.range k).attach.map fun x => ⟨x.1, by have := List.mem_range.1 x.2; omega⟩
theorem uptoL_val (L k : Nat) (h : k ≤ L) : (uptoL L k h).map (fun x => x.1) = List.range k := by simp [uptoL]
theorem uptoL_len (L k : Nat) (h : k ≤ L) : (uptoL L k h).length = k := by simp [uptoL]
theorem uptoL_succ (L k : Nat) (h : k + 1 ≤ L) : uptoL L (k + 1) h = uptoL L k (by omega) ++ [⟨k, by omega⟩] := by
  have : ∀ l m : List (Plc L), l.map (fun x => x.1) = m.map (fun x => x.1) → l = m := fun l m e => List.map_inj_right (fun x y => Subtype.ext) |>.1 e
  apply this
  rw [List.map_append, uptoL_val, uptoL_val, List.range_succ]; rfl

/-- Blocks below n but g stand. -/
def KpB (n g : Nat) (W W' : World) : Prop := ∀ b, b < n → b ≠ g → W'.heap[b]? = W.heap[b]?
theorem KpB.refl (n g : Nat) (W : World) : KpB n g W W := fun _ _ _ => rfl
theorem KpB.trans {n g : Nat} {A B C : World} (h : KpB n g A B) (k : KpB n g B C) : KpB n g A C := fun b h1 h2 => (k b h1 h2).trans (h b h1 h2)
theorem KpB.drewN {n g : Nat} {A B : World} (h : KpB n g A B) (m : Nat) : KpB n g A (B.drewN m) := h
theorem KpB.below {n m g : Nat} {A B : World} (h : Below m A B) (hn : n ≤ m) : KpB n g A B := fun b h1 _ => h.block b (by omega)
theorem KpB.set {n g k : Nat} {A B : World} (h : KpB n g A B) (v : Value) : KpB n g A (B.setCell ⟨g, k, none⟩ v) := fun b h1 h2 => (Below.heap_setCell B ⟨g, k, none⟩ v b h2).trans (h b h1 h2)
theorem KpB.cell {n g b o : Nat} {A B : World} (h : KpB n g A B) (h1 : b < n) (h2 : b ≠ g) : B.cell? ⟨b, o, none⟩ = A.cell? ⟨b, o, none⟩ := World.cell?_of_block (h b h1 h2)
theorem KpB.field {n g b : Nat} {A B : World} (h : KpB n g A B) (hF : IsField A b) (h1 : b < n) (h2 : b ≠ g) : IsField B b := fun o ho =>
  ⟨(h.cell h1 h2).trans (hF o ho).1, (World.frozen?_of_block (w := A) (a := ⟨b, o, none⟩) (h b h1 h2)).trans (hF o ho).2⟩

theorem ppowers_mk (bf x L : Nat) (w : World) :
    Calls Try.prog 49 #[.pointer (some ⟨bf, 0, none⟩), .int .u8 (x : Int), .int .i64 (L : Int)] w fun e w' =>
      e = .returned (.func (.func 53) #[] #[.pointer (some ⟨w.heap.size + 2, 0, none⟩), .pointer (some ⟨w.heap.size, 0, none⟩), .pointer (some ⟨w.heap.size + 1, 0, none⟩)]) ∧
      w' = ((w.alloc (.cells #[.pointer (some ⟨bf, 0, none⟩)] 27)).alloc (.cells #[.int .u8 (x : Int)] 5)).alloc (.cells #[.int .i64 (L : Int)] 3) := by
  go_enter Try.func49, Try.ntmps49
  go_wp2
  go_ret
  exact ⟨rfl, rfl⟩

abbrev pencs (x L : Nat) (i : Plc L) : Array Value := #[.int .i64 (i.1 : Int), .int .u8 (Gf.gp x i.1 : Int)]
set_option maxRecDepth 100000 in
set_option maxHeartbeats 1000000 in
/-- The powers come one by one. -/
theorem ppowers_stops (n : Nat) (hn : 1 ≤ n) (n0 g bn bb bx bf x L : Nat) (hx : x < 256) (hL : L ≤ 140737488355328) (w : World) (hn0 : n0 ≤ w.heap.size)
    (h1 : w.cell? ⟨bn, 0, none⟩ = some (.int .i64 (L : Int))) (h2 : w.cell? ⟨bb, 0, none⟩ = some (.pointer (some ⟨bf, 0, none⟩))) (h3 : w.cell? ⟨bx, 0, none⟩ = some (.int .u8 (x : Int))) (hF : IsField w bf)
    (k1 : bn < n0 ∧ bn ≠ g) (k2 : bb < n0 ∧ bb ≠ g) (k3 : bx < n0 ∧ bx ≠ g) (k4 : bf < n0 ∧ bf ≠ g) :
    SeqStopsK Fence.wide n Try.prog 53 #[.pointer (some ⟨bn, 0, none⟩), .pointer (some ⟨bb, 0, none⟩), .pointer (some ⟨bx, 0, none⟩)] (pencs x L) (KpB n0 g) (fun xs => xs = uptoL L L (Nat.le_refl _)) (fun _ => True) L w := fun l J Jx W hW hJ _ hY h0 => by
  have q0 : KpB n0 g w W := KpB.below hW hn0
  have c1 := (q0.cell k1.1 k1.2).trans h1
  refine callsIn_of_wp Try.func53 rfl trivial ?_ rfl
  simp only [Try.ntmps53, List.size_toArray, List.length_cons, List.length_nil, Nat.reduceAdd, Nat.reduceSub, Array.replicate_succ, Array.replicate_zero, List.push_toArray, List.append_toArray, List.nil_append, List.cons_append]
  gi_wp2
  gi_loopw [5, 8] (fun p i wr => ∃ k : Nat, ∃ h : k ≤ L, i = .int .i64 (k : Int) ∧ p = .int .u8 (Gf.gp x k : Int) ∧ J (uptoL L k h) wr ∧ KpB n0 g w wr)
    (fun _ i _ => L - (intOf i).toNat)
  case atStart => exact ⟨0, by omega, rfl, rfl, h0, q0⟩
  case round =>
    obtain ⟨k, hk, rfl, rfl, hJs, hq⟩ := hrel
    have hp := Gf.gp_lt x k
    by_cases hlt : k < L
    · obtain ⟨fn, tmps, assign, body, hy, hR⟩ := hY (uptoL L k hk) ⟨k, hlt⟩ wr hJs (by rw [uptoL_len]; exact hlt)
      dsimp only [pencs] at hy
      gi_wp2_with fail
      refine hR.mono ?_
      rintro e W3 (⟨rfl, hJ3, hK3⟩ | ⟨rfl, hJx3⟩)
      · have hq3 := hq.trans hK3
        have c2 := (hq3.cell k2.1 k2.2).trans h2
        have c3 := (hq3.cell k3.1 k3.2).trans h3
        have hF3 := hq3.field hF k4.1 k4.2
        gi_wp2_with fail
        refine ⟨trivial, ?_⟩
        refine (callsIn_wide.2 (mul_any bf (Gf.gp x k) x hp hx _ hF3)).mono ?_
        rintro e w' ⟨rfl, m, rfl⟩
        have hJ4 : J (uptoL L (k + 1) (by omega)) (W3.drewN m) := by
          rw [uptoL_succ]
          exact hJ _ _ _ none hJ3 ⟨rfl, rfl, rfl, Nat.le_refl _, fun _ _ _ => rfl⟩ (fun r e => by cases e)
        gi_wp2
        go_roundw
        case rel => exact ⟨k + 1, by omega, by go_num, rfl, hJ4, hq3.drewN m⟩
        case measure => simp [intOf]; omega
      · gi_wp2
        refine bodyPost_ret (results_none rfl _ _ _) rfl ?_
        exact ⟨⟨_, rfl⟩, .inr ⟨_, trivial, hJx3⟩⟩
    · obtain rfl : k = L := by omega
      gi_wp2
      go_end0
      exact ⟨⟨_, rfl⟩, .inl ⟨_, rfl, hJs⟩⟩
end Go.Proofs.Ytmcfkgjkfceomaa
