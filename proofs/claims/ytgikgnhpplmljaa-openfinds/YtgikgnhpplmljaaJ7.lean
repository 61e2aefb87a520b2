import Derived.RangeFuncNested
import Derived.RangeFuncBound
import Derived.RangeFuncCalls
import Derived.RangeFuncLeaves
import Derived.Deep.RegionWith
import Derived.Laws.CopyOwn
import Derived.StillTail
import Derived.Deep.QuietTactic
import Derived.OrdersIn
import Derived.OwnWalkIn
import Derived.Test.YtgikgnhpplmljaaJ2
import Derived.Test.YtgikgnhpplmljaaJ3
import Derived.Test.YtgikgnhpplmljaaJ4
import Derived.Test.YtgikgnhpplmljaaJ6
section
/- A range over a function that hands out memory (slices that it has made): what is handed out is told of the world in which the round begins; no round leaves early. -/
namespace Gq
open Go Go.RowKit

section
variable {P : Program} {n : Nat}

/-- The function's contract: in whatever world it hands x out, Rd x holds of that world. -/
def SeqMem {α : Type} (n : Nat) (P : Program) (gf : Nat) (lb : Array Value) (encs : α → Array Value) (Rd : α → World → Prop) (Kp : World → World → Prop) (S : List α → Prop) (N : Nat) (w : World) : Prop :=
  ∀ (l : Nat) (J : List α → World → Prop) (W : World), Below w.heap.size w W → (∀ s A B, J s A → A.grownBy B none → J s B) →
    (∀ pre x W1, J pre W1 → Rd x W1 → pre.length < N → YieldAt Fence.wide (n - 1) P l (encs x) W1 fun e W' => e = .returned (.bool true) ∧ J (pre ++ [x]) W' ∧ Kp W1 W') →
    J [] W → CallsIn Fence.wide n P gf (#[.func (.yield l) #[] #[]] ++ lb) W fun e W' => (∃ v, e = .returned v) ∧ ∃ xs, S xs ∧ J xs W'

/-- How a round is left. -/
def memPost {α : Type} (Kp : World → World → Prop) (I : List α → World → Prop) (xs : List α) (W : World) : Exit → Act → World → Prop
  | .normal, _, W' => KeepsOthers W W' ∧ Kp W W' ∧ I xs W'
  | _, _, _ => False

theorem range_mem {α : Type} {g : Operand} {ps : Array Tmp} {assign body : Code} {Q : Exit → Act → World → Prop} {a : Act} {w : World} (h1 : 1 ≤ n) {gf : Nat} {lb : Array Value} (hg : a.eval g = .func (.func gf) #[] lb)
    (eg : ∀ args w, (callFunc gf args).run P w = .ok (.enter gf args) w) {encs : α → Array Value} {Rd : α → World → Prop} {Kp : World → World → Prop} {S : List α → Prop} {N : Nat} (hseq : SeqMem (n - 1) P gf lb encs Rd Kp S N w)
    (hKt : ∀ {A B C : World}, Kp A B → Kp B C → Kp A C) (hKb : ∀ (W : World) (l : Nat) (o o' : Obj), w.heap.size ≤ l → W.heap[l]? = some o → o.isCells = false → Kp W (W.putObj l o')) (hps : ∀ x, (encs x).size = ps.size)
    (hRd : OwnFrom w.heap.size Rd) (I : List α → World → Prop) (hI : OwnFrom w.heap.size I) (h0 : I [] w) (a₁ : α → Act)
    (hassign : ∀ (l : Nat) (x : α) (W : World) (K : Act → World → Prop), K (a₁ x) W →
      assign.wpIn (Fence.wide.inRound l) (n - 1 - 1) P (Exit.then K (fun _ _ _ => False)) { tmps := (ps.zip (encs x)).foldl (fun t (p, v) => t.setIfInBounds p v) a.tmps, defers := [] } W)
    (hbody : ∀ (l : Nat) (pre : List α) (x : α) (W : World), I pre W → Rd x W → pre.length < N → body.wpIn (Fence.wide.inRound l) (n - 1 - 1) P (memPost Kp I (pre ++ [x]) W) (a₁ x) W)
    (hdone : ∀ (D : Nat) (xs : List α) (W : World), w.heap.size ≤ D → S xs → I xs W → W.heap[D]? = some (.deferred (some [])) → Q .normal { a with defers := { target := .collected D, args := #[] } :: a.defers } W) :
    (Code.rangeFunc g ps assign body).wpIn Fence.wide n P Q a w := by
  refine wpIn_rangeFunc fun fn hfn => ?_
  obtain ⟨rc, hrc⟩ : ∃ rc : LoopState → Option Code → Loop, rc = fun st pe => { state := st, pending := pe, fn, tmps := a.tmps, params := ps, assign, body, defers := w.heap.size } := ⟨_, rfl⟩
  obtain ⟨W1, hW1⟩ : ∃ W1, W1 = (w.alloc (.deferred (some []))).alloc (.loop (rc .ready none)) := ⟨_, rfl⟩
  have hsz : W1.heap.size = w.heap.size + 2 := by rw [hW1]; simp
  have hL1 : W1.heap[w.heap.size + 1]? = some (.loop (rc .ready none)) := by
    have := World.alloc_heap_new (w.alloc (.deferred (some []))) (.loop (rc .ready none)); rw [World.size_alloc] at this; rw [hW1]; exact this
  have hK1 : W1.heap[w.heap.size]? = some (.deferred (some [])) := by
    rw [hW1]; exact (Below.heap_alloc _ _ _ (by simp)).trans (World.alloc_heap_new w _)
  have hI1 : I [] W1 := by rw [hW1]; exact hI.alloc _ (hI.alloc _ h0)
  have hb1 : Below w.heap.size w W1 := by rw [hW1]; exact ((Below.refl _ w).alloc (Nat.le_refl _) _).alloc (by simp) _
  refine ⟨w.heap.size + 1, [{ target := .collected w.heap.size, args := #[] }], W1, { target := .fn (.func gf) lb, args := #[.func (.yield (w.heap.size + 1)) #[] #[]] }, W1, gf, #[.func (.yield (w.heap.size + 1)) #[] #[]] ++ lb, W1, ?_, ?_, ?_, ?_, fun _ => h1, ?_⟩
  · rw [hW1, hrc]; exact run_enterLoop_outer _ _ _ _ _
  · simp only [resolve, hg]; simp [go_sem]
  · intro _ _; exact trivial
  · simp [invoke, go_sem, eg]
  · have fin : ∀ W3 : World, W3.heap[w.heap.size + 1]? = some (.loop { rc .ready none with state := .busy }) → (Instr.endRound (w.heap.size + 1) none).run P W3 = .ok (.bool true) (W3.putObj (w.heap.size + 1) (.loop (rc .ready none))) := fun W3 h3 => by
      have := run_endRound (P := P) none h3
      rw [hrc] at this ⊢
      exact this
    refine (hseq (w.heap.size + 1) (fun pre W => I pre W ∧ W.heap[w.heap.size + 1]? = some (.loop (rc .ready none)) ∧ W.heap[w.heap.size]? = some (.deferred (some []))) W1 hb1 ?_ ?_ ⟨hI1, hL1, hK1⟩).mono ?_
    · rintro s A B ⟨h2, h3, h4⟩ hgr
      refine ⟨hI s A B none h2 hgr (fun r e => by cases e), ?_, ?_⟩
      · exact (hgr.block _ (Array.getElem?_eq_some_iff.1 h3).1 (by simp)).trans h3
      · exact (hgr.block _ (Array.getElem?_eq_some_iff.1 h4).1 (by simp)).trans h4
    · rintro pre x W ⟨hi, hl, hk⟩ hrd hlen
      have hlt := (Array.getElem?_eq_some_iff.1 hl).1
      have hy := run_yield (P := P) (args := encs x) hl (by rw [hrc]; exact hps x)
      rw [hrc] at hy
      obtain ⟨W2, hW2⟩ : ∃ W2, W2 = W.putObj (w.heap.size + 1) (.loop { rc .ready none with state := .busy }) := ⟨_, rfl⟩
      have hl2 : W2.heap[w.heap.size + 1]? = some (.loop { rc .ready none with state := .busy }) := by rw [hW2]; exact World.putObj_heap_same hlt
      have hk2 : W2.heap[w.heap.size]? = some (.deferred (some [])) := by rw [hW2]; exact (World.putObj_heap_other (by omega)).trans hk
      have hq2 : Kp W W2 := by rw [hW2]; exact hKb _ _ _ _ (by omega) hl rfl
      have hi2 : I pre W2 := by rw [hW2]; exact hI.putObj _ hi (by omega) hl rfl
      have hr2 : Rd x W2 := by rw [hW2]; exact hRd.putObj _ hrd (by omega) hl rfl
      refine ⟨fn, _, assign, body, hy, roundIn_of_wpIn hfn (hassign _ x W _ ⟨W2, by rw [hW2]; exact run_beginRound hl (by rw [hrc]), ?_⟩)⟩
      refine wpIn_mono (hbody _ pre x W2 hi2 hr2 hlen) ?_
      intro e a3 W3 hp
      cases e with
      | normal =>
        obtain ⟨hk3, hq3, hi3⟩ := hp
        have hl3 := hk3.same _ _ hl2 rfl
        have hk4 := hk3.same _ _ hk2 rfl
        refine ⟨_, _, fin W3 hl3, rfl, ⟨hI.putObj _ hi3 (by omega) hl3 rfl, World.putObj_heap_same (Array.getElem?_eq_some_iff.1 hl3).1, (World.putObj_heap_other (by omega)).trans hk4⟩, hKt (hKt hq2 hq3) (hKb _ _ _ _ (by omega) hl3 rfl)⟩
      | _ => exact hp.elim
    · rintro e W2 ⟨⟨v, rfl⟩, xs, hS, hi, hl, hk⟩
      exact ⟨none, _, by have := run_endLoop (P := P) hl (by rw [hrc]; simp); rw [hrc] at this; exact this, hdone _ xs _ (Nat.le_refl _) hS (hI.putObj _ hi (by omega) hl rfl) ((World.putObj_heap_other (by omega)).trans hk)⟩
end
end Gq
end
section
/- What bytes.Clone does: a copy in memory of its own. -/
namespace Go.Proofs.Ytgikgnhpplmljaa
open Go.RowKit Go.Shelf Gw Pol

set_option maxRecDepth 100000 in
set_option maxHeartbeats 1000000 in
theorem clone_any (A : Option Addr) (c : Nat) (l : List Nat) (w : World) (hI : In w w.heap.size A c l) (hcm : l.length ≤ 140737488355328) :
    Calls Try.prog 96 #[.slice A l.length c] w fun e w' => ∃ A2 c2, e = .returned (.slice A2 l.length c2) ∧ Gw.Own w' w.heap.size 5 A2 c2 l ∧ Below w.heap.size w w' := by
  obtain ⟨i0, hi0, hz0, hz1, hz2⟩ := info_parts pbyte_info
  cases A with
  | none =>
    obtain rfl := hI.none_ rfl
    obtain rfl : l = [] := List.eq_nil_of_length_eq_zero (by have := hI.cap; omega)
    have he : ∀ w : World, (binOp .eql 36 (.slice none 0 0) (.slice none 0 0)).run Try.prog w = .ok (.bool true) w := fun _ => by kernel_rfl
    go_enter Try.func96, Try.ntmps96
    go_wp2
    go_ret
    exact ⟨none, 0, rfl, Own.none_ _ _ _, Below.refl _ _⟩
  | some ad =>
    have he : ∀ w : World, (binOp .eql 36 (.slice (some ad) l.length c) (.slice none 0 0)).run Try.prog w = .ok (.bool false) w := fun _ => by kernel_rfl
    go_enter Try.func96, Try.ntmps96
    go_wp2_with (at_builtin; refine wpList_app rfl (.tmp 5) (.tmp 6) 36 rfl w.heap.size 5 i0 _ Try.underlying36 hi0 hz0 hz1 hz2 rfl (some ⟨w.heap.size, 0, none⟩) 0 0 [] rfl rfl (Own.lit0 w w.heap.size 5 (Nat.le_refl _)) w.heap.size (some ad) l.length c l rfl rfl hI.none_ (hI.sl.alloc (Nat.le_refl _) _) (by simp; omega) (by simp) ?_; intro A2 c2 w2 hown hgr)
    have hb2 := below_lit' (Below.refl w.heap.size w) (Nat.le_refl _) hgr
    go_ret
    exact ⟨A2, c2, rfl, hown, hb2⟩

end Go.Proofs.Ytgikgnhpplmljaa
end
section
/- What Mul, Div, Inv and Pow of a field that New made do: product, quotient, inverse and power of bytes; memory stays as it is. -/
namespace Go.Proofs.Ytgikgnhpplmljaa
open Go.RowKit Go.Shelf Gw

/-- Is it not 0? -/
def nz (a : Nat) : Bool := !(a == 0)
theorem nz_pos {a : Nat} (h : a ≠ 0) : nz a = true := by simp [nz, h]
theorem nz_zero : nz 0 = false := rfl

set_option maxHeartbeats 400000 in
theorem mul_zero (b a c : Nat) (w : World) (h : a = 0 ∨ c = 0) :
    Calls Try.prog 63 #[.pointer (some ⟨b, 0, none⟩), .int .u8 (a : Int), .int .u8 (c : Int)] w fun e w' => e = .returned (.int .u8 0) ∧ w = w' := by
  by_cases a0 : a = 0
  · subst a0
    go_enter Try.func63, Try.ntmps63
    go_wp2
    go_ret
    exact ⟨rfl, rfl⟩
  · obtain rfl : c = 0 := by omega
    have h1 : ((a : Int) == 0) = false := beq_eq_false_iff_ne.2 (by omega)
    go_enter Try.func63, Try.ntmps63
    go_wp2
    go_ret
    exact ⟨rfl, rfl⟩

set_option maxRecDepth 100000 in
set_option maxHeartbeats 1000000 in
theorem mul_pos (b a c : Nat) (ha : a < 256) (hc : c < 256) (a0 : a ≠ 0) (c0 : c ≠ 0) (w : World) (hF : IsField w b) :
    Calls Try.prog 63 #[.pointer (some ⟨b, 0, none⟩), .int .u8 (a : Int), .int .u8 (c : Int)] w fun e w' => e = .returned (.int .u8 (Gf.gm a c : Int)) ∧ ∃ n, w' = w.drewN n := by
  have h1 : ((a : Int) == 0) = false := beq_eq_false_iff_ne.2 (by omega)
  have h2 : ((c : Int) == 0) = false := beq_eq_false_iff_ne.2 (by omega)
  have l1 := hF.lg ha
  have l2 := hF.lg hc
  have k1 := Gf.lg_lt' a
  have k2 := Gf.lg_lt' c
  have e1 := hF.ex (i := (Gf.lg a + Gf.lg c) % 255) (Nat.mod_lt _ (by omega))
  have hm := Lib.hid (show Gf.gm a c = Gf.pw ((Gf.lg a + Gf.lg c) % 255) by unfold Gf.gm; rw [if_neg (by omega)])
  clear hF
  go_enter Try.func63, Try.ntmps63
  go_wp2
  go_quiet (fail)
  go_wp2
  go_ret
  exact ⟨by rw [hm.out]; rfl, nq, rfl⟩

/-- The product. -/
theorem mul_any (b a c : Nat) (ha : a < 256) (hc : c < 256) (w : World) (hF : IsField w b) :
    Calls Try.prog 63 #[.pointer (some ⟨b, 0, none⟩), .int .u8 (a : Int), .int .u8 (c : Int)] w fun e w' => e = .returned (.int .u8 (Gf.gm a c : Int)) ∧ ∃ n, w' = w.drewN n := by
  by_cases h : a = 0 ∨ c = 0
  · refine (mul_zero b a c w h).mono ?_
    rintro e w' ⟨rfl, rfl⟩
    exact ⟨by rw [Gf.gm_eq_zero.2 h]; rfl, 0, rfl⟩
  · exact mul_pos b a c ha hc (by omega) (by omega) w hF

set_option maxHeartbeats 400000 in
theorem div_none (b a : Nat) (w : World) :
    Calls Try.prog 91 #[.pointer (some ⟨b, 0, none⟩), .int .u8 (a : Int), .int .u8 0] w fun e w' => e = .returned (.tuple #[.int .u8 0, .bool false]) ∧ w = w' := by
  go_enter Try.func91, Try.ntmps91
  go_wp2
  go_ret2
  exact ⟨rfl, rfl⟩
set_option maxHeartbeats 400000 in
theorem div_zero (b c : Nat) (c0 : c ≠ 0) (w : World) :
    Calls Try.prog 91 #[.pointer (some ⟨b, 0, none⟩), .int .u8 0, .int .u8 (c : Int)] w fun e w' => e = .returned (.tuple #[.int .u8 0, .bool true]) ∧ w = w' := by
  have h2 : ((c : Int) == 0) = false := beq_eq_false_iff_ne.2 (by omega)
  go_enter Try.func91, Try.ntmps91
  go_wp2
  go_ret2
  exact ⟨rfl, rfl⟩
set_option maxRecDepth 100000 in
set_option maxHeartbeats 1000000 in
theorem div_pos (b a c : Nat) (ha : a < 256) (hc : c < 256) (a0 : a ≠ 0) (c0 : c ≠ 0) (w : World) (hF : IsField w b) :
    Calls Try.prog 91 #[.pointer (some ⟨b, 0, none⟩), .int .u8 (a : Int), .int .u8 (c : Int)] w fun e w' => e = .returned (.tuple #[.int .u8 (Gf.dv a c : Int), .bool true]) ∧ ∃ n, w' = w.drewN n := by
  have h1 : ((a : Int) == 0) = false := beq_eq_false_iff_ne.2 (by omega)
  have h2 : ((c : Int) == 0) = false := beq_eq_false_iff_ne.2 (by omega)
  have l1 := hF.lg ha
  have l2 := hF.lg hc
  have k1 := Gf.lg_lt' a
  have k2 := Gf.lg_lt' c
  obtain ⟨d, hd⟩ : ∃ d : Nat, d = Gf.lg a + 255 - Gf.lg c := ⟨_, rfl⟩
  have e1 := hF.ex (i := d % 255) (Nat.mod_lt _ (by omega))
  have hm := Lib.hid (show Gf.dv a c = Gf.pw (d % 255) by rw [Gf.dv_eq a0 c0, hd])
  have hs : (Gf.lg a : Int) + 255 - (Gf.lg c : Int) = (d : Int) := by omega
  clear hF hd
  go_enter Try.func91, Try.ntmps91
  go_wp2
  go_quiet (fail)
  go_wp2
  go_ret2
  exact ⟨by rw [hm.out]; rfl, nq, rfl⟩

/-- The quotient, and that there is one. -/
theorem div_any (b a c : Nat) (ha : a < 256) (hc : c < 256) (w : World) (hF : IsField w b) :
    Calls Try.prog 91 #[.pointer (some ⟨b, 0, none⟩), .int .u8 (a : Int), .int .u8 (c : Int)] w fun e w' => e = .returned (.tuple #[.int .u8 (Gf.dv a c : Int), .bool (nz c)]) ∧ ∃ n, w' = w.drewN n := by
  by_cases c0 : c = 0
  · subst c0
    refine (div_none b a w).mono ?_
    rintro e w' ⟨rfl, rfl⟩
    exact ⟨by simp [Gf.dv, Gf.inv, Gf.gm, nz], 0, rfl⟩
  · by_cases a0 : a = 0
    · subst a0
      refine (div_zero b c c0 w).mono ?_
      rintro e w' ⟨rfl, rfl⟩
      exact ⟨by simp [Gf.dv, Gf.gm, nz_pos c0], 0, rfl⟩
    · refine (div_pos b a c ha hc a0 c0 w hF).mono ?_
      rintro e w' ⟨rfl, hn⟩
      exact ⟨by rw [nz_pos c0], hn⟩

end Go.Proofs.Ytgikgnhpplmljaa
end
section
/- What poly's Degree, trim and addTimes do: the greatest power whose byte is not 0; the same memory without the noughts at its end; c times p added to what the caller has made, and nothing else turned. -/
namespace Go.Proofs.Ytgikgnhpplmljaa
open Go.RowKit Go.Shelf Gw Pol

set_option maxRecDepth 100000 in
set_option maxHeartbeats 1000000 in
theorem degree_any (A : Option Addr) (c : Nat) (l : List Nat) (w : World) (B : Nat) (hI : In w B A c l) (hcm : l.length ≤ 140737488355328) :
    Calls Try.prog 74 #[.slice A l.length c] w fun e w' => e = .returned (.int .i64 (((tr l).length : Int) - 1)) ∧ w = w' := by
  obtain ⟨hS, hc, hnil⟩ := hI
  go_enter Try.func74, Try.ntmps74
  go_wp2
  go_loop [3] (fun i => ∃ n : Nat, n ≤ l.length ∧ i = .int .i64 ((n : Int) - 1) ∧ Dg l n) (fun i => (intOf i + 1).toNat)
  case atStart => exact ⟨l.length, Nat.le_refl _, by go_num, Dg.len (Nat.le_refl _)⟩
  case round =>
    obtain ⟨n, hn, rfl, hd⟩ := hrel
    by_cases hout : n = 0 ∨ co l (n - 1) ≠ 0
    · have hfin : (tr l).length = n := by rw [tr_take l n hn hd hout, List.length_take]; omega
      have HF := Lib.hid hfin
      clear hfin
      by_cases h0 : n = 0
      · subst h0
        clear hout
        go_wp2
        go_ret
        exact ⟨by rw [HF.out]; rfl, rfl⟩
      · obtain ⟨x, b, off, hx, hxb, rfl, hb, hcell⟩ := hS.at_ (k := n - 1) (by omega)
        have ecast : (n : Int) - 1 = ((n - 1 : Nat) : Int) := by omega
        have hx0 : x ≠ 0 := by
          rcases hout with h | h
          · exact absurd h h0
          · simpa [co, hx] using h
        have hxz : ((x : Int) == 0) = false := beq_eq_false_iff_ne.2 (by omega)
        clear hout hx hx0
        go_wp2
        go_ret
        exact ⟨by rw [HF.out, ecast]; rfl, rfl⟩
    · have h0 : n ≠ 0 := fun h => hout (.inl h)
      obtain ⟨x, b, off, hx, hxb, rfl, hb, hcell⟩ := hS.at_ (k := n - 1) (by omega)
      have ecast : (n : Int) - 1 = ((n - 1 : Nat) : Int) := by omega
      have hx0 : x = 0 := Decidable.byContradiction fun h => hout (.inr (by simpa [co, hx] using h))
      subst hx0
      clear hout
      have HX := Lib.hid hx
      clear hx
      go_wp2
      go_round
      case rel => exact ⟨n - 1, by omega, by go_num, fun i hi => by
        by_cases e : i = n - 1
        · subst e; simp [co, HX.out]
        · exact hd i (by omega)⟩
      case measure => simp [intOf]; omega

set_option maxRecDepth 100000 in
set_option maxHeartbeats 1000000 in
theorem ptrim_any (A : Option Addr) (c : Nat) (l : List Nat) (w : World) (B : Nat) (hI : In w B A c l) (hcm : l.length ≤ 140737488355328) :
    Calls Try.prog 93 #[.slice A l.length c] w fun e w' => e = .returned (.slice A (tr l).length c) ∧ w = w' := by
  have hcap := hI.cap
  have hnil := hI.none_
  obtain ⟨d, hd⟩ : ∃ d, d = (tr l).length := ⟨_, rfl⟩
  have hdl : d ≤ l.length := by rw [hd]; exact tr_len l
  have hdc : d ≤ c := by omega
  have HC := degree_any A c l w B hI hcm
  rw [← hd] at HC ⊢
  have HD := Lib.hid HC
  clear HC hd
  go_enter Try.func93, Try.ntmps93
  go_wp2_with fail
  refine HD.out.mono ?_
  rintro e w' ⟨rfl, rfl⟩
  have hs1 : IntKind.i64.wrap ((d : Int) - 1 + 1) = (d : Int) := by rw [IntKind.wrap_i64]; omega
  cases A with
  | none =>
    obtain rfl := hnil rfl
    obtain rfl : d = 0 := by omega
    go_wp2
    go_ret
    exact ⟨rfl, rfl⟩
  | some ad =>
    go_wp2
    go_ret
    exact ⟨rfl, rfl⟩
theorem ptrim' (A : Option Addr) (c n : Nat) (l : List Nat) (w : World) (B : Nat) (hn : n = l.length) (hI : In w B A c l) (hcm : l.length ≤ 140737488355328) :
    Calls Try.prog 93 #[.slice A n c] w fun e w' => e = .returned (.slice A (tr l).length c) ∧ w = w' := by
  subst hn; exact ptrim_any A c l w B hI hcm

theorem IsField.grown {w w' : World} {b g : Nat} (h : IsField w b) (hg : w.grownBy w' (some g)) (hne : b ≠ g) : IsField w' b := fun o ho =>
  ⟨hg.cell (h o ho).1 (fun e => hne (by injection e)), (World.frozen?_of_block (w := w) (a := ⟨b, o, none⟩) (hg.block b h.lt (fun e => hne (by injection e)))).trans (h o ho).2⟩

def ATRel (w : World) (base g C : Nat) (L : List Nat) (o c : Nat) (l : List Nat) (i : Value) (wr : World) : Prop :=
  ∃ k : Nat, k ≤ l.length ∧ i = .int .i64 (k : Int) ∧ Gw.Own wr base 5 (some ⟨g, 0, none⟩) C (addAt L o c (l.take k)) ∧ w.grownBy wr (some g)
set_option maxRecDepth 100000 in
set_option maxHeartbeats 1000000 in
/-- c times p is added to the caller's own row. -/
theorem addTimes_any (bf g o m cs base C : Nat) (L : List Nat) (A : Option Addr) (cp : Nat) (l : List Nat) (c : Nat) (hc : c < 256) (w : World) (hF : IsField w bf) (hne : bf ≠ g)
    (hown : Gw.Own w base 5 (some ⟨g, 0, none⟩) C L) (hfit : o + l.length ≤ L.length) (hm : l.length ≤ m) (hp : SlN w g A l) (hcm : L.length ≤ 140737488355328) :
    Calls Try.prog 92 #[.pointer (some ⟨bf, 0, none⟩), .slice (some ⟨g, o, none⟩) m cs, .slice A l.length cp, .int .u8 (c : Int)] w fun e w' =>
      e = .returned (.tuple #[]) ∧ Gw.Own w' base 5 (some ⟨g, 0, none⟩) C (addAt L o c l) ∧ w.grownBy w' (some g) := by
  go_enter Try.func92, Try.ntmps92
  go_wp2
  go_loopw [12] (ATRel w base g C L o c l) (fun i _ => l.length - (intOf i).toNat)
  case atStart => exact ⟨0, Nat.zero_le _, rfl, by rw [List.take_zero, addAt_nil]; exact hown, World.grownBy.refl _ _⟩
  case round =>
    obtain ⟨k, hk, rfl, hown', hg⟩ := hrel
    by_cases hlt : k < l.length
    · obtain ⟨x, b, off, hx, hxb, rfl, hbg, hcell⟩ := (hp.grown hg).at_ hlt
      have hkl : o + k < (addAt L o c (l.take k)).length := by rw [addAt_len]; omega
      have hkm : k < m := by omega
      have hcg := hown'.cell hkl
      have hfr := Own.frozen hown' (o + k)
      have hF' := hF.grown hg hne
      have hvl := hown'.2.co (o + k)
      obtain ⟨v, hv⟩ : ∃ v, v = co (addAt L o c (l.take k)) (o + k) := ⟨_, rfl⟩
      rw [← hv] at hcg hvl
      have hxor : bits .xor .u8 (v : Int) (Gf.gm c x : Int) = ((v ^^^ Gf.gm c x : Nat) : Int) := u8_xor_nat _ _ hvl (Gf.gm_lt _ _)
      have hset := hown'.put hkl (Gf.xor_lt hvl (Gf.gm_lt c x))
      rw [hv, addAt_snoc hfit hx, ← hv] at hset
      have HS := Lib.hid hset
      have HG := Lib.hid (grown_put (k := o + k) hg (.int .u8 ((v ^^^ Gf.gm c x : Nat) : Int)))
      clear hset hx hv hown' hg hkl
      go_wp2
      go_region_with (go_at_call 63; refine (mul_any bf c x hc hxb _ (hF'.drewN _)).mono ?_; rintro e w' ⟨rfl, n, rfl⟩)
      all_goals (
        go_wp2
        go_roundw
        case rel => exact ⟨k + 1, by omega, by go_num, HS.out, ⟨HG.out.os, HG.out.tape, HG.out.output, HG.out.size, HG.out.block⟩⟩
        case measure => simp [intOf]; omega)
    · obtain rfl : k = l.length := by omega
      rw [List.take_length] at hown'
      go_wp2
      go_end0
      exact ⟨rfl, hown', hg⟩
theorem addTimes' (bf g o m cs base C : Nat) (L : List Nat) (A : Option Addr) (cp nl : Nat) (l : List Nat) (c : Nat) (hnl : nl = l.length) (hc : c < 256) (w : World) (hF : IsField w bf) (hne : bf ≠ g)
    (hown : Gw.Own w base 5 (some ⟨g, 0, none⟩) C L) (hfit : o + l.length ≤ L.length) (hm : l.length ≤ m) (hp : SlN w g A l) (hcm : L.length ≤ 140737488355328) :
    Calls Try.prog 92 #[.pointer (some ⟨bf, 0, none⟩), .slice (some ⟨g, o, none⟩) m cs, .slice A nl cp, .int .u8 (c : Int)] w fun e w' =>
      e = .returned (.tuple #[]) ∧ Gw.Own w' base 5 (some ⟨g, 0, none⟩) C (addAt L o c l) ∧ w.grownBy w' (some g) := by
  subst hnl; exact addTimes_any bf g o m cs base C L A cp l c hc w hF hne hown hfit hm hp hcm
end Go.Proofs.Ytgikgnhpplmljaa
end
section
/- What poly's Mul does: the product, without noughts at the end, in memory of its own. -/
namespace Go.Proofs.Ytgikgnhpplmljaa
open Go.RowKit Go.Shelf Gw Pol

/-- The product's row when k powers of p are through. -/
def mulTo (p q : List Nat) (k : Nat) : List Nat := (List.range (p.length + q.length - 1)).map (co (mul (p.take k) q))
theorem mulTo_len (p q : List Nat) (k : Nat) : (mulTo p q k).length = p.length + q.length - 1 := by simp [mulTo]
theorem co_mulTo {p q : List Nat} {k j : Nat} (h : j < p.length + q.length - 1) : co (mulTo p q k) j = co (mul (p.take k) q) j := by
  rw [co_get (by rw [mulTo_len]; exact h)]; simp [mulTo]
theorem mulTo_zero (p q : List Nat) : mulTo p q 0 = List.replicate (p.length + q.length - 1) 0 := by
  refine ext_co (by rw [mulTo_len, List.length_replicate]) fun i hi => ?_
  rw [mulTo_len] at hi
  rw [co_mulTo hi]
  unfold co
  simp [mul, hi]
theorem mulTo_all (p q : List Nat) : mulTo p q p.length = pl p q := by unfold mulTo pl; rw [List.take_length]
theorem mulTo_step {p q : List Nat} {k x : Nat} (hx : p[k]? = some x) : addAt (mulTo p q k) k x q = mulTo p q (k + 1) := by
  have hk : k < p.length := (List.getElem?_eq_some_iff.1 hx).1
  have hlt : (p.take k).length = k := by rw [List.length_take]; omega
  refine ext_co (by rw [addAt_len, mulTo_len, mulTo_len]) fun i hi => ?_
  rw [addAt_len, mulTo_len] at hi
  rw [co_addAt x (by rw [mulTo_len]; omega), co_mulTo hi, co_mulTo hi, ← take_snoc hx, co_mul_snoc, hlt]

def PmRel (w : World) (p q : List Nat) (s : Nat) (i : Value) (wr : World) : Prop :=
  ∃ k : Nat, k ≤ p.length ∧ i = .int .i64 (k : Int) ∧ Gw.Own wr w.heap.size 5 (some ⟨w.heap.size, 0, none⟩) s (mulTo p q k) ∧ Below w.heap.size w wr
set_option maxRecDepth 100000 in
set_option maxHeartbeats 1000000 in
theorem pmul_any (bf : Nat) (A A' : Option Addr) (c c' : Nat) (p q : List Nat) (w : World) (hF : IsField w bf) (hp : In w w.heap.size A c p) (hq : In w w.heap.size A' c' q) (hcm : p.length + q.length ≤ 140737488355328) :
    Calls Try.prog 95 #[.pointer (some ⟨bf, 0, none⟩), .slice A p.length c, .slice A' q.length c'] w fun e w' => ∃ A2 c2, e = .returned (.slice A2 (tr (mul p q)).length c2) ∧ Gw.Own w' w.heap.size 5 A2 c2 (tr (mul p q)) ∧ Below w.heap.size w w' := by
  have T1 := Lib.hid (ptrim_any A c p w w.heap.size hp (by omega))
  have T2 := Lib.hid (ptrim_any A' c' q w w.heap.size hq (by omega))
  have hlf := hF.lt
  have hP := hp.tr
  have hQ := hq.tr
  have l1 := tr_len p
  have l2 := tr_len q
  have HN1 := Lib.hid (fun h => pl_nil_left (p := p) q h)
  have HN2 := Lib.hid (fun h => pl_nil_right p (q := q) h)
  have HPL := Lib.hid (fun h1 h2 => pl_tr (p := p) (q := q) h1 h2)
  obtain ⟨P, hPe⟩ : ∃ P, P = tr p := ⟨_, rfl⟩
  obtain ⟨Q, hQe⟩ : ∃ Q, Q = tr q := ⟨_, rfl⟩
  rw [← hPe] at T1 hP l1 HN1 HPL
  rw [← hQe] at T2 hQ l2 HN2 HPL
  clear hp hq hPe hQe
  obtain ⟨n, hn⟩ : ∃ n, n = P.length := ⟨_, rfl⟩
  obtain ⟨m, hm⟩ : ∃ m, m = Q.length := ⟨_, rfl⟩
  rw [← hn] at T1 l1
  rw [← hm] at T2 l2
  have HN := Lib.hid hn
  have HM := Lib.hid hm
  clear hn hm
  by_cases n0 : n = 0
  · subst n0
    have hP0 : P = [] := List.eq_nil_of_length_eq_zero HN.out.symm
    have HZ := Lib.hid (HN1.out hP0)
    clear hP0
    go_enter Try.func95, Try.ntmps95
    go_wp2_with fail
    refine T1.out.mono ?_
    rintro e w' ⟨rfl, rfl⟩
    go_wp2_with fail
    refine T2.out.mono ?_
    rintro e w' ⟨rfl, rfl⟩
    go_wp2
    go_ret
    exact ⟨none, 0, by rw [HZ.out]; rfl, by rw [HZ.out]; exact Own.none_ _ _ _, Below.refl _ _⟩
  · have hn0 : ((n : Int) == 0) = false := beq_eq_false_iff_ne.2 (by omega)
    by_cases m0 : m = 0
    · subst m0
      have hQ0 : Q = [] := List.eq_nil_of_length_eq_zero HM.out.symm
      have HZ := Lib.hid (HN2.out hQ0)
      clear hQ0
      go_enter Try.func95, Try.ntmps95
      go_wp2_with fail
      refine T1.out.mono ?_
      rintro e w' ⟨rfl, rfl⟩
      go_wp2_with fail
      refine T2.out.mono ?_
      rintro e w' ⟨rfl, rfl⟩
      go_wp2
      go_ret
      exact ⟨none, 0, by rw [HZ.out]; rfl, by rw [HZ.out]; exact Own.none_ _ _ _, Below.refl _ _⟩
    · have hm0 : ((m : Int) == 0) = false := beq_eq_false_iff_ne.2 (by omega)
      obtain ⟨s, hs⟩ : ∃ s, s = n + m - 1 := ⟨_, rfl⟩
      have hsb : s ≤ 140737488355328 := by omega
      have hs1 : (n : Int) + (m : Int) - 1 = (s : Int) := by omega
      have hmk := run_make_row' (P := Try.prog) 36 5 (.int .u8 0) 1 Try.underlying36 pbyte_info rfl .i64 .i64 s (by omega) (by omega)
      have HS := Lib.hid (show P.length + Q.length - 1 = s by rw [← HN.out, ← HM.out, hs])
      have hns : n ≤ s := by omega
      have hnms : n + m ≤ s + 1 := by omega
      clear hs
      have HR := Lib.hid (HPL.out (fun e => n0 (by rw [HN.out, e]; rfl)) (fun e => m0 (by rw [HM.out, e]; rfl)))
      clear HN1 HN2 HPL
      go_enter Try.func95, Try.ntmps95
      go_wp2_with fail
      refine T1.out.mono ?_
      rintro e w' ⟨rfl, rfl⟩
      go_wp2_with fail
      refine T2.out.mono ?_
      rintro e w' ⟨rfl, rfl⟩
      go_wp2
      clear hmk hs1
      go_loopw [31] (PmRel w P Q s) (fun i _ => n - (intOf i).toNat)
      case atStart =>
        refine ⟨0, Nat.zero_le _, rfl, ?_, (Below.refl _ _).alloc (Nat.le_refl _) _⟩
        rw [mulTo_zero, HS.out]
        exact Own.made w _ s hsb
      case round =>
        obtain ⟨k, hk, rfl, hown, hbel⟩ := hrel
        rw [← HN.out] at hk
        by_cases hlt : k < n
        · obtain ⟨x, b, off, hx, hxb, rfl, hb, hcell⟩ := (hP.below hbel).sl.at_ (k := k) (by rw [← HN.out]; exact hlt)
          have hF' := hF.below hbel hlf
          have hks : k < s := by omega
          have HC := Lib.hid (addTimes_any bf w.heap.size k (s - k) (s - k) w.heap.size s (mulTo P Q k) A' c' Q x hxb wr hF' (by omega) hown (by rw [mulTo_len, HS.out, ← HM.out]; omega) (by rw [← HM.out]; omega) ((hQ.below hbel).sl.away (Nat.le_refl _)) (by rw [mulTo_len, HS.out]; exact hsb))
          rw [mulTo_step hx, ← HM.out] at HC
          clear hx hown hF'
          go_wp2_with fail
          refine HC.out.mono ?_
          rintro e w2 ⟨rfl, hown2, hg2⟩
          have HB := Lib.hid (hbel.trans (Gw.Below.by hg2 hbel.size (Nat.le_refl _)))
          have HO := Lib.hid hown2
          clear hown2 hg2
          go_wp2
          go_roundw
          case rel => exact ⟨k + 1, by rw [← HN.out]; omega, by go_num, HO.out, HB.out⟩
          case measure => simp [intOf]; omega
        · obtain rfl : k = n := by omega
          have ho := hown
          rw [HN.out, mulTo_all, ← HR.out] at ho
          have HL := Lib.hid (show (tr (mul p q)).length = s by rw [HR.out, pl_len, HS.out])
          have HO := Lib.hid ho
          clear ho hown
          go_wp2
          go_ret
          exact ⟨_, s, by rw [HL.out]; rfl, HO.out, hbel⟩
theorem pmul' (bf : Nat) (A A' : Option Addr) (c c' n m : Nat) (p q : List Nat) (w : World) (hn : n = p.length) (hm : m = q.length) (hF : IsField w bf) (hp : In w w.heap.size A c p) (hq : In w w.heap.size A' c' q) (hcm : p.length + q.length ≤ 140737488355328) :
    Calls Try.prog 95 #[.pointer (some ⟨bf, 0, none⟩), .slice A n c, .slice A' m c'] w fun e w' => ∃ A2 c2, e = .returned (.slice A2 (tr (mul p q)).length c2) ∧ Gw.Own w' w.heap.size 5 A2 c2 (tr (mul p q)) ∧ Below w.heap.size w w' := by
  subst hn hm; exact pmul_any bf A A' c c' p q w hF hp hq hcm
end Go.Proofs.Ytgikgnhpplmljaa
end
section
/- What bytes.Clone and poly's Div do: a copy of its own; quotient and what is left, each in memory of its own, or that there is none. -/
namespace Go.Proofs.Ytgikgnhpplmljaa
open Go.RowKit Go.Shelf Gw Pol

set_option maxRecDepth 100000 in
set_option maxHeartbeats 1000000 in
/-- There is none. -/
theorem pdiv_none (bf : Nat) (A A' : Option Addr) (c c' : Nat) (p d : List Nat) (w : World) (hd : In w w.heap.size A' c' d) (hz : tr d = []) (hcm : d.length ≤ 140737488355328) :
    Calls Try.prog 73 #[.pointer (some ⟨bf, 0, none⟩), .slice A p.length c, .slice A' d.length c'] w fun e w' => e = .returned (.tuple #[.slice none 0 0, .slice none 0 0, .bool false]) ∧ w = w' := by
  have T := ptrim_any A' c' d w w.heap.size hd hcm
  rw [hz] at T
  have T2 := Lib.hid T
  clear T hz
  go_enter Try.func73, Try.ntmps73
  go_wp2_with fail
  refine T2.out.mono ?_
  rintro e w' ⟨rfl, rfl⟩
  go_wp2
  go_ret3
  exact ⟨rfl, rfl⟩

/-- What Div answers where there is one. -/
def DivAns (w : World) (p d : List Nat) (e : Ending) (w' : World) : Prop :=
  ∃ (q r : List Nat) (Aq Ar : Option Addr) (cq cr : Nat), e = .returned (.tuple #[.slice Aq q.length cq, .slice Ar r.length cr, .bool true]) ∧ DivOf p d q r ∧
    Gw.Own w' w.heap.size 5 Aq cq q ∧ Gw.Own w' w.heap.size 5 Ar cr r ∧ (∀ g o o' : Nat, Aq = some ⟨g, o, none⟩ → Ar ≠ some ⟨g, o', none⟩) ∧ Below w.heap.size w w'

theorem co_set_same {l : List Nat} {i c : Nat} (h : i < l.length) : co (l.set i c) i = c := by
  rw [co_get (by rw [List.length_set]; exact h)]; simp
/-- What the world is like when a byte of the quotient is laid. -/
def PdMid (w : World) (bf : Nat) (D : List Nat) (A : Option Addr) (gq gr Q cr : Nat) (q r : List Nat) (j x : Nat) (W : World) : Prop :=
  Gw.Own W w.heap.size 5 (some ⟨gq, 0, none⟩) Q (q.set j x) ∧ Gw.Own W w.heap.size 5 (some ⟨gr, 0, none⟩) cr r ∧ IsField W bf ∧ SlN W gr A D ∧ Below w.heap.size w W
theorem PdMid.mk' {w wr : World} {bf : Nat} {D : List Nat} {A : Option Addr} {c' gq gr Q cr : Nat} {q r : List Nat} {j x : Nat} (hx : x < 256) (hj : j < q.length) (hgq : w.heap.size ≤ gq) (hgr : w.heap.size ≤ gr) (hne : gq ≠ gr) (hlf : bf < w.heap.size)
    (hoq : Gw.Own wr w.heap.size 5 (some ⟨gq, 0, none⟩) Q q) (hor : Gw.Own wr w.heap.size 5 (some ⟨gr, 0, none⟩) cr r) (hF : IsField w bf) (hD : In w w.heap.size A c' D) (hb : Below w.heap.size w wr) (m : Nat) :
    PdMid w bf D A gq gr Q cr q r j x ((wr.drewN m).setCell ⟨gq, j, none⟩ (.int .u8 (x : Int))) := by
  have hbb : Below w.heap.size w ((wr.drewN m).setCell ⟨gq, j, none⟩ (.int .u8 (x : Int))) := (Gw.Below.drewN hb m).setCell (p := ⟨gq, j, none⟩) hgq _
  have hg : (wr.drewN m).grownBy ((wr.drewN m).setCell ⟨gq, j, none⟩ (.int .u8 (x : Int))) (some gq) := grown_put (World.grownBy.refl _ _) _
  refine ⟨(hoq.drewN m).put hj hx, (hor.drewN m).grown hg (fun o e => ?_), hF.below hbb hlf, (hD.sl.below hbb).away hgr, hbb⟩
  injection e with e
  injection e with e1
  exact hne e1.symm

def PdRel (w : World) (P D : List Nat) (gq gr Q n cr : Nat) (i : Value) (wr : World) : Prop :=
  ∃ (k : Nat) (q r : List Nat), k ≤ Q ∧ i = .int .i64 ((k : Int) - 1) ∧ q.length = Q ∧ r.length = n ∧ DivAt P D q r k ∧ Gw.Own wr w.heap.size 5 (some ⟨gq, 0, none⟩) Q q ∧ Gw.Own wr w.heap.size 5 (some ⟨gr, 0, none⟩) cr r ∧ Below w.heap.size w wr

set_option maxRecDepth 100000 in
set_option maxHeartbeats 2000000 in
theorem pdiv_long (bf : Nat) (A A' : Option Addr) (c c' : Nat) (p d : List Nat) (w : World) (hF : IsField w bf) (hp : In w w.heap.size A c p) (hd : In w w.heap.size A' c' d) (hz : tr d ≠ []) (hlong : (tr d).length ≤ (tr p).length) (hcm : p.length ≤ 140737488355328) (hcm2 : d.length ≤ 140737488355328) :
    Calls Try.prog 73 #[.pointer (some ⟨bf, 0, none⟩), .slice A p.length c, .slice A' d.length c'] w fun e w' => DivAns w p d e w' := by
  have T1 := Lib.hid (ptrim_any A' c' d w w.heap.size hd hcm2)
  have T2 := Lib.hid (ptrim_any A c p w w.heap.size hp hcm)
  have T3 := Lib.hid (clone_any A c (tr p) w hp.tr (Nat.le_trans (tr_len p) hcm))
  have hlf := hF.lt
  have hD := hd.tr
  have hDb := hD.bb
  have hPb := hp.tr.bb
  have l1 := tr_len p
  have l2 := tr_len d
  have htop := tr_last hz
  rw [← co_tr] at htop
  have HDone := Lib.hid (fun (q r : List Nat) (h : DivAt (tr p) (tr d) q r 0) (hl : q.length = (tr p).length - ((tr d).length - 1)) => h.done hz hl)
  obtain ⟨P, hPe⟩ : ∃ P, P = tr p := ⟨_, rfl⟩
  obtain ⟨D, hDe⟩ : ∃ D, D = tr d := ⟨_, rfl⟩
  rw [← hPe] at T2 T3 l1 hPb HDone hlong
  rw [← hDe] at T1 hD l2 hDb htop HDone hz hlong
  clear hp hd hPe hDe
  obtain ⟨n, hn⟩ : ∃ n, n = P.length := ⟨_, rfl⟩
  obtain ⟨m, hm⟩ : ∃ m, m = D.length := ⟨_, rfl⟩
  have hm1 : 0 < D.length := List.length_pos_iff.2 hz
  rw [← hn] at T2 T3 l1 hlong
  rw [← hm] at T1 l2 htop hm1 hlong
  have HN := Lib.hid hn
  have HM := Lib.hid hm
  clear hn hm hz
  have hm0 : ((m : Int) == 0) = false := beq_eq_false_iff_ne.2 (by omega)
  obtain ⟨t, ht⟩ : ∃ t, t = m - 1 := ⟨_, rfl⟩
  have ht1 : (m : Int) - 1 = (t : Int) := by omega
  have htm : t < m := by omega
  obtain ⟨Q, hQ⟩ : ∃ Q, Q = n - t := ⟨_, rfl⟩
  have hQ1 : (n : Int) - (t : Int) = (Q : Int) := by omega
  have hQt : Q + t = n := by omega
  have hQ0 : 0 < Q := by omega
  have hQ2 : ¬ ((Q : Int) < 0) := by omega
  have HT := Lib.hid ht
  rw [← ht] at htop
  clear ht hQ
  have hmk := run_make_row' (P := Try.prog) 36 5 (.int .u8 0) 1 Try.underlying36 pbyte_info rfl .i64 .i64 Q (by omega) (by omega)
  go_enter Try.func73, Try.ntmps73
  go_wp2_with fail
  refine T1.out.mono ?_
  rintro e w' ⟨rfl, rfl⟩
  go_wp2_with fail
  refine T2.out.mono ?_
  rintro e w' ⟨rfl, rfl⟩
  go_wp2_with fail
  refine T3.out.mono ?_
  rintro e w1 ⟨Ar, cr, rfl, hownr, hb1⟩
  obtain ⟨gr, rfl, hgr, _⟩ := Own.store hownr (k := 0) (by rw [← HN.out]; omega)
  have hgr2 := hownr.lt.2
  have hrcap := hownr.cap
  rw [← HN.out] at hrcap
  have hb1s := hb1.size
  go_wp2
  clear hmk
  have hown1 := hownr.alloc (.cells (madeCells #[.int .u8 0] Q) 5)
  have hownq := (Own.made w1 5 Q (by omega)).base hb1s
  have hb2 := hb1.alloc hb1s (.cells (madeCells #[.int .u8 0] Q) 5)
  have HST := Lib.hid (DivAt.start (d := D) hPb Q (by rw [← HN.out, ← HM.out]; omega))
  go_loopw [10] (PdRel w P D w1.heap.size gr Q n cr) (fun i _ => (intOf i + 1).toNat)
  case atStart => exact ⟨Q, _, P, Nat.le_refl _, by go_num, by simp, HN.out.symm, HST.out, hownq, hown1, hb2⟩
  case round =>
    clear hown1 hownq hb2 HST hownr hb1
    obtain ⟨k, q, r, hk, rfl, hql, hrl, hat, hoq, hor, hbel⟩ := hrel
    by_cases hk0 : k = 0
    · subst hk0
      have HD2 := Lib.hid (HDone.out q r hat (by rw [hql, ← HN.out, ← HM.out, ← HT.out]; omega))
      have HO1 := Lib.hid hoq
      have HO2 := Lib.hid hor
      have HRL := Lib.hid hrl
      have HQL := Lib.hid hql
      have HI := Lib.hid hor.inn
      clear hoq hor hat hrl hql hQ1 ht1
      go_wp2_with fail
      refine (ptrim' (some ⟨gr, 0, none⟩) cr n r _ _ HRL.out.symm HI.out (by rw [HRL.out]; omega)).mono ?_
      rintro e w' ⟨rfl, rfl⟩
      go_wp2
      go_ret3
      exact ⟨q, tr r, some ⟨w1.heap.size, 0, none⟩, some ⟨gr, 0, none⟩, Q, cr, by rw [HQL.out]; rfl, HD2.out, HO1.out, HO2.out.tr, fun g o o' e e' => by injection e with e; injection e' with e'; injection e with e1; injection e' with e2; omega, hbel⟩
    · obtain ⟨j, rfl⟩ : ∃ j, k = j + 1 := ⟨k - 1, by omega⟩
      have hj : ((j + 1 : Nat) : Int) - 1 = (j : Int) := by omega
      rw [hj]
      have hjQ : j < Q := by omega
      obtain ⟨s, hs⟩ : ∃ s, s = j + t := ⟨_, rfl⟩
      have hsw : IntKind.i64.wrap ((j : Int) + (t : Int)) = (s : Int) := by rw [IntKind.wrap_i64]; omega
      have hsn : s < n := by omega
      have hsn2 : (s : Int) < (n : Int) := by omega
      obtain ⟨y, b, off, hy, hyb, rfl, hb, hcy⟩ := (hD.below hbel).sl.at_ (k := t) (by rw [← HM.out]; exact htm)
      have hcr := hor.cell (k := s) (by rw [hrl]; exact hsn)
      have hvr := hor.2.co s
      obtain ⟨v, hv⟩ : ∃ v, v = co r s := ⟨_, rfl⟩
      rw [← hv] at hcr hvr
      have hfq := Own.frozen hoq j
      have hcq := hoq.cell (k := j) (by rw [hql]; exact hjQ)
      have hF' := hF.below hbel hlf
      have HY := Lib.hid (co_of' hy)
      have HV := Lib.hid hv
      have HSJ := Lib.hid hs
      have HQL := Lib.hid hql
      have HRL := Lib.hid hrl
      have HA := Lib.hid hat
      have HOQ := Lib.hid hoq
      have HOR := Lib.hid hor
      have HSTEP := Lib.hid (hat.step (c := Gf.dv v y) hDb (by rw [← HM.out]; exact hm1) (by rw [← HM.out, ← HT.out]; exact htop) (by rw [hql]; exact hjQ) (by rw [hrl, ← HM.out]; omega) (by
        rw [hv, ← co_of' hy, ← HM.out, ← HT.out, hs]; congr 2; have := HT.out; omega))
      have HM2 := Lib.hid (PdMid.mk' (x := Gf.dv v y) (Gf.gm_lt _ _) (by rw [hql]; exact hjQ) hb1s hgr (by omega) hlf hoq hor hF hD hbel)
      clear hy hv hs hql hrl hat hoq hor hj
      go_wp2
      go_region_with (go_at_call 91; refine (div_any bf v y hvr hyb _ (hF'.drewN _)).mono ?_; rintro e w' ⟨rfl, n1, rfl⟩)
      all_goals (
        obtain ⟨W2, hW2⟩ : ∃ W2, W2 = (wr.drewN (1 + n1)).setCell ⟨w1.heap.size, j, none⟩ (.int .u8 (Gf.dv v y : Int)) := ⟨_, rfl⟩
        have h2 := HM2.out (1 + n1)
        rw [← hW2] at h2 ⊢
        clear hW2 hcy hcr hfq hcq hF'
        obtain ⟨hoq2, hor2, hF2, hD2, hb2⟩ := h2
        have hcq2 := hoq2.cell (k := j) (by rw [List.length_set, HQL.out]; exact hjQ)
        rw [co_set_same (by rw [HQL.out]; exact hjQ)] at hcq2
        have hjn : j < n := by omega
        have hjc : j < cr := by omega
        have HO2 := Lib.hid hoq2
        clear hoq2
        go_wp2
        go_region_with (go_at_call 92; refine (addTimes' bf gr j _ _ w.heap.size cr r (some ⟨b, off, none⟩) c' m D (Gf.dv v y) HM.out (Gf.gm_lt _ _) _ (hF2.drewN _) (by omega) (hor2.drewN _) (by rw [← HM.out, HRL.out]; omega) (by rw [← HM.out]; omega) (hD2.drewN _) (by rw [HRL.out]; omega)).mono ?_; rintro e w3 ⟨rfl, hown3, hg3⟩))
      all_goals (
        have hoq3 := (HO2.out.drewN 1).grown hg3 (fun o e => by injection e with e; injection e with e1; omega)
        have hb3 := (Gw.Below.drewN hb2 1).trans (Gw.Below.by hg3 hb2.size hgr)
        have H3 := Lib.hid hoq3
        have H4 := Lib.hid hown3
        have H5 := Lib.hid hb3
        clear hoq3 hown3 hb3 hg3 hb2 hor2 hF2 hD2 hcq2
        go_wp2
        go_roundw
        case rel => exact ⟨j, q.set j (Gf.dv v y), addAt r j (Gf.dv v y) D, by omega, by go_num, by rw [List.length_set]; exact HQL.out, by rw [addAt_len]; exact HRL.out, HSTEP.out, H3.out, H4.out, H5.out⟩
        case measure => simp [intOf])
end Go.Proofs.Ytgikgnhpplmljaa
end
section
/- What poly's Div does where there is nothing to take off, and what it does at all. -/
namespace Go.Proofs.Ytgikgnhpplmljaa
open Go.RowKit Go.Shelf Gw Pol

theorem pdiv_apart {w : World} {base g o c : Nat} {e : TypeId} {A : Option Addr} {l : List Nat} (h : Gw.Own w base e A c l) (hA : A = some ⟨g, o, none⟩) : g < w.heap.size := by
  subst hA; exact h.lt.2
set_option maxRecDepth 100000 in
set_option maxHeartbeats 2000000 in
theorem pdiv_short (bf : Nat) (A A' : Option Addr) (c c' : Nat) (p d : List Nat) (w : World) (hp : In w w.heap.size A c p) (hd : In w w.heap.size A' c' d) (hshort : (tr p).length < (tr d).length) (hcm : p.length ≤ 140737488355328) (hcm2 : d.length ≤ 140737488355328) :
    Calls Try.prog 73 #[.pointer (some ⟨bf, 0, none⟩), .slice A p.length c, .slice A' d.length c'] w fun e w' => DivAns w p d e w' := by
  have T1 := Lib.hid (ptrim_any A' c' d w w.heap.size hd hcm2)
  have T2 := Lib.hid (ptrim_any A c p w w.heap.size hp hcm)
  have T3 := Lib.hid (clone_any A c (tr p) w hp.tr (Nat.le_trans (tr_len p) hcm))
  have l1 := tr_len p
  have l2 := tr_len d
  have HD := Lib.hid ((DivAt.start (d := tr d) hp.tr.bb 0 (by omega)).done (fun e => by rw [e] at hshort; simp at hshort) (by simp; omega))
  obtain ⟨P, hPe⟩ : ∃ P, P = tr p := ⟨_, rfl⟩
  rw [← hPe] at T2 T3 l1 HD hshort
  clear hp hd hPe
  obtain ⟨n, hn⟩ : ∃ n, n = P.length := ⟨_, rfl⟩
  obtain ⟨m, hm⟩ : ∃ m, m = (tr d).length := ⟨_, rfl⟩
  rw [← hn] at T2 T3 l1 hshort
  rw [← hm] at T1 l2 hshort
  have HN := Lib.hid hn
  clear hn hm
  have hm0 : ((m : Int) == 0) = false := beq_eq_false_iff_ne.2 (by omega)
  obtain ⟨t, ht⟩ : ∃ t, t = m - 1 := ⟨_, rfl⟩
  have ht1 : (m : Int) - 1 = (t : Int) := by omega
  have hnt : n < t ∨ n = t := by omega
  have hmk := run_make_row' (P := Try.prog) 36 5 (.int .u8 0) 1 Try.underlying36 pbyte_info rfl .i64 .i64 0 (by omega) (by omega)
  rw [show ((0 : Nat) : Int) = 0 from rfl] at hmk
  clear ht
  rcases hnt with hnt | hnt
  · have hneg : (n : Int) - (t : Int) < 0 := by omega
    go_enter Try.func73, Try.ntmps73
    go_wp2_with fail
    refine T1.out.mono ?_
    rintro e w' ⟨rfl, rfl⟩
    go_wp2_with fail
    refine T2.out.mono ?_
    rintro e w' ⟨rfl, rfl⟩
    go_wp2_with fail
    refine T3.out.mono ?_
    rintro e w1 ⟨Ar, cr, rfl, hownr, hb1⟩
    have hb1s := hb1.size
    go_wp2
    clear hmk
    have hown1 := hownr.alloc (.cells (madeCells #[.int .u8 0] 0) 5)
    have hownq := (Own.made w1 5 0 (by omega)).base hb1s
    have hb2 := hb1.alloc hb1s (.cells (madeCells #[.int .u8 0] 0) 5)
    have hap : ∀ g o o' : Nat, some (⟨w1.heap.size, 0, none⟩ : Addr) = some ⟨g, o, none⟩ → Ar ≠ some ⟨g, o', none⟩ := fun g o o' e e' => by
      injection e with e; injection e with e1; subst e1; have := pdiv_apart hownr e'; omega
    have HAP := Lib.hid hap
    clear hap hownr
    obtain ⟨W0, hW0⟩ : ∃ W0, W0 = w1.alloc (.cells (madeCells #[.int .u8 0] 0) 5) := ⟨_, rfl⟩
    rw [← hW0] at hown1 hownq hb2 ⊢
    have HI := Lib.hid hown1.inn
    have HO1 := Lib.hid hown1.tr
    have HO2 := Lib.hid hownq
    clear hW0 hown1 hownq
    go_loopw [10] (fun i wr => i = .int .i64 (-1) ∧ wr = W0) (fun _ _ => 0)
    case atStart => exact ⟨rfl, rfl⟩
    case round =>
      obtain ⟨rfl, rfl⟩ := hrel
      go_wp2_with fail
      refine (ptrim' Ar cr n P _ _ HN.out HI.out (by rw [← HN.out]; omega)).mono ?_
      rintro e w' ⟨rfl, rfl⟩
      go_wp2
      go_ret3
      exact ⟨[], tr P, some ⟨w1.heap.size, 0, none⟩, Ar, 0, cr, rfl, HD.out, HO2.out, HO1.out, HAP.out, hb2⟩
  · subst hnt
    go_enter Try.func73, Try.ntmps73
    go_wp2_with fail
    refine T1.out.mono ?_
    rintro e w' ⟨rfl, rfl⟩
    go_wp2_with fail
    refine T2.out.mono ?_
    rintro e w' ⟨rfl, rfl⟩
    go_wp2_with fail
    refine T3.out.mono ?_
    rintro e w1 ⟨Ar, cr, rfl, hownr, hb1⟩
    have hb1s := hb1.size
    go_wp2
    clear hmk
    have hown1 := hownr.alloc (.cells (madeCells #[.int .u8 0] 0) 5)
    have hownq := (Own.made w1 5 0 (by omega)).base hb1s
    have hb2 := hb1.alloc hb1s (.cells (madeCells #[.int .u8 0] 0) 5)
    have hap : ∀ g o o' : Nat, some (⟨w1.heap.size, 0, none⟩ : Addr) = some ⟨g, o, none⟩ → Ar ≠ some ⟨g, o', none⟩ := fun g o o' e e' => by
      injection e with e; injection e with e1; subst e1; have := pdiv_apart hownr e'; omega
    have HAP := Lib.hid hap
    clear hap hownr
    obtain ⟨W0, hW0⟩ : ∃ W0, W0 = w1.alloc (.cells (madeCells #[.int .u8 0] 0) 5) := ⟨_, rfl⟩
    rw [← hW0] at hown1 hownq hb2 ⊢
    have HI := Lib.hid hown1.inn
    have HO1 := Lib.hid hown1.tr
    have HO2 := Lib.hid hownq
    clear hW0 hown1 hownq
    go_loopw [10] (fun i wr => i = .int .i64 (-1) ∧ wr = W0) (fun _ _ => 0)
    case atStart => exact ⟨rfl, rfl⟩
    case round =>
      obtain ⟨rfl, rfl⟩ := hrel
      go_wp2_with fail
      refine (ptrim' Ar cr n P _ _ HN.out HI.out (by rw [← HN.out]; omega)).mono ?_
      rintro e w' ⟨rfl, rfl⟩
      go_wp2
      go_ret3
      exact ⟨[], tr P, some ⟨w1.heap.size, 0, none⟩, Ar, 0, cr, rfl, HD.out, HO2.out, HO1.out, HAP.out, hb2⟩

/-- Quotient, and what is left. -/
theorem pdiv_any (bf : Nat) (A A' : Option Addr) (c c' : Nat) (p d : List Nat) (w : World) (hF : IsField w bf) (hp : In w w.heap.size A c p) (hd : In w w.heap.size A' c' d) (hz : tr d ≠ []) (hcm : p.length ≤ 140737488355328) (hcm2 : d.length ≤ 140737488355328) :
    Calls Try.prog 73 #[.pointer (some ⟨bf, 0, none⟩), .slice A p.length c, .slice A' d.length c'] w fun e w' => DivAns w p d e w' := by
  by_cases h : (tr p).length < (tr d).length
  · exact pdiv_short bf A A' c c' p d w hp hd h hcm hcm2
  · exact pdiv_long bf A A' c c' p d w hF hp hd hz (by omega) hcm hcm2
theorem pdiv' (bf : Nat) (A A' : Option Addr) (c c' n m : Nat) (p d : List Nat) (w : World) (hn : n = p.length) (hm : m = d.length) (hF : IsField w bf) (hp : In w w.heap.size A c p) (hd : In w w.heap.size A' c' d) (hz : tr d ≠ []) (hcm : p.length ≤ 140737488355328) (hcm2 : d.length ≤ 140737488355328) :
    Calls Try.prog 73 #[.pointer (some ⟨bf, 0, none⟩), .slice A n c, .slice A' m c'] w fun e w' => DivAns w p d e w' := by
  subst hn hm; exact pdiv_any bf A A' c c' p d w hF hp hd hz hcm hcm2
end Go.Proofs.Ytgikgnhpplmljaa
end
section
/- What poly's Roots and distinct do: the polynomial of some roots, in memory of its own; are all unlike. -/
namespace Go.Proofs.Ytgikgnhpplmljaa
open Go.RowKit Go.Shelf Gw Pol

def PrRel (w : World) (xs : List Nat) (v i : Value) (wr : World) : Prop :=
  ∃ (k : Nat) (A : Option Addr) (c : Nat), v = .slice A (k + 1) c ∧ i = .int .i64 (k : Int) ∧ k ≤ xs.length ∧ Gw.Own wr w.heap.size 5 A c (rt (xs.take k)) ∧ Below w.heap.size w wr
set_option maxRecDepth 100000 in
set_option maxHeartbeats 1000000 in
/-- The polynomial of some roots. -/
theorem proots_any (bf : Nat) (A : Option Addr) (c : Nat) (xs : List Nat) (w : World) (hF : IsField w bf) (hI : In w w.heap.size A c xs) (hcm : xs.length ≤ 70368744177664) :
    Calls Try.prog 72 #[.pointer (some ⟨bf, 0, none⟩), .slice A xs.length c] w fun e w' => ∃ A2 c2, e = .returned (.slice A2 (rt xs).length c2) ∧ Gw.Own w' w.heap.size 5 A2 c2 (rt xs) ∧ Below w.heap.size w w' := by
  have hlf := hF.lt
  go_enter Try.func72, Try.ntmps72
  go_wp2
  go_loopw [5, 11] (PrRel w xs) (fun _ i _ => xs.length - (intOf i).toNat)
  case atStart => exact ⟨0, some ⟨w.heap.size, 0, none⟩, 1, rfl, rfl, Nat.zero_le _, ⟨World.ownsRow_lit w #[.int .u8 1] 1 (Nat.le_refl _) (by simp [maxLen]) rfl, rt_bb _⟩, (Below.refl _ _).alloc (Nat.le_refl _) _⟩
  case round =>
    obtain ⟨k, Ao, co', rfl, rfl, hk, hown, hbel⟩ := hrel
    have hbs := hbel.size
    by_cases hkp : k < xs.length
    · obtain ⟨x, b, off, hx, hxb, rfl, hb, hcell⟩ := (hI.below hbel).sl.at_ hkp
      have HT := Lib.hid (show rt (xs.take (k + 1)) = tr (mul [x, 1] (rt (xs.take k))) by rw [← take_snoc hx, rt_snoc, lin_mul (rt_bb _)])
      have HL := Lib.hid (rt_len_take (xs := xs) (k := k) hk)
      have HL2 := Lib.hid (rt_len_take (xs := xs) (k := k + 1) hkp)
      have hF' := hF.below hbel hlf
      clear hx
      go_wp2_with fail
      refine (pmul' bf (some ⟨wr.heap.size, 0, none⟩) Ao 2 co' 2 (k + 1) [x, 1] (rt (xs.take k)) _ rfl HL.out.symm (hF'.below ((Below.refl _ _).alloc (Nat.le_refl _) _) hF'.lt) ⟨(Sl.two wr 5 x 1 hxb (by omega)).more (by simp), by simp, fun h => by cases h⟩ (hown.alloc _).inn (by rw [HL.out]; simp; omega)).mono ?_
      rintro e w' ⟨A2, c2, rfl, hown2, hb2⟩
      rw [← HT.out] at hown2 ⊢
      rw [HL2.out]
      have hb3 := (hbel.alloc hbs (.cells #[.int .u8 (x : Int), .int .u8 1] 5)).trans (hb2.mono (by simp; omega))
      have hown3 := hown2.base (base' := w.heap.size) (by simp; omega)
      clear hown2 hb2
      go_wp2
      go_roundw
      case rel => exact ⟨k + 1, A2, c2, rfl, by go_num, by omega, hown3, hb3⟩
      case measure => simp [intOf]; omega
    · obtain rfl : k = xs.length := by omega
      have HT := Lib.hid (rt_len_take (xs := xs) (k := xs.length) (Nat.le_refl _))
      rw [List.take_length] at hown
      go_wp2
      go_ret
      exact ⟨Ao, co', by rw [(rt_top xs).1]; rfl, hown, hbel⟩
theorem proots' (bf : Nat) (A : Option Addr) (c n : Nat) (xs : List Nat) (w : World) (hn : n = xs.length) (hF : IsField w bf) (hI : In w w.heap.size A c xs) (hcm : xs.length ≤ 70368744177664) :
    Calls Try.prog 72 #[.pointer (some ⟨bf, 0, none⟩), .slice A n c] w fun e w' => ∃ A2 c2, e = .returned (.slice A2 (rt xs).length c2) ∧ Gw.Own w' w.heap.size 5 A2 c2 (rt xs) ∧ Below w.heap.size w w' := by
  subst hn; exact proots_any bf A c xs w hF hI hcm

def seenZero : Array Value := (List.replicate 256 (Value.bool false)).toArray
theorem zeroSeen (w : World) : (zeroValue 99).run Try.prog w = .ok (.agg seenZero) w := by kernel_rfl
def seenF (l : List Nat) (j : Nat) : Value := .bool (decide (j ∈ l))
theorem seen_new (w : World) : Row (w.alloc (.cells seenZero 99)) w.heap.size 256 (seenF []) := Row.new w seenZero _ 256 _ (fun o ho => by
  unfold seenZero seenF
  rw [List.getElem?_toArray, List.getElem?_replicate, if_pos ho]; simp)
def PsRel (w : World) (xs : List Nat) (i : Value) (wr : World) : Prop :=
  ∃ k : Nat, i = .int .i64 (k : Int) ∧ k ≤ xs.length ∧ UnTo xs k ∧ Row wr w.heap.size 256 (seenF (xs.take k)) ∧ Below w.heap.size w wr
set_option maxRecDepth 100000 in
set_option maxHeartbeats 1000000 in
theorem distinct_any (A : Option Addr) (c : Nat) (xs : List Nat) (w : World) (hI : In w w.heap.size A c xs) (hcm : xs.length ≤ 140737488355328) :
    Calls Try.prog 89 #[.slice A xs.length c] w fun e w' => e = .returned (.bool (unB xs)) ∧ Below w.heap.size w w' := by
  have hz := zeroSeen
  go_enter Try.func89, Try.ntmps89
  go_wp2
  clear hz
  go_loopw [8] (PsRel w xs) (fun i _ => xs.length - (intOf i).toNat)
  case atStart => exact ⟨0, rfl, Nat.zero_le _, fun i j h => by omega, seen_new w, (Below.refl _ _).alloc (Nat.le_refl _) _⟩
  case round =>
    obtain ⟨k, rfl, hk, hun, hrow, hbel⟩ := hrel
    by_cases hkp : k < xs.length
    · obtain ⟨x, b, off, hx, hxb, rfl, hb, hcell⟩ := (hI.below hbel).sl.at_ hkp
      have hc1 := (hrow x hxb).1
      have hf1 := (hrow x hxb).2
      by_cases hin : x ∈ xs.take k
      · have hs : seenF (xs.take k) x = .bool true := by unfold seenF; simp [hin]
        rw [hs] at hc1
        obtain ⟨j, hj, hje⟩ := List.getElem_of_mem hin
        have hjk : j < k := by rw [List.length_take] at hj; omega
        have HN := Lib.hid (unB_no hkp hjk (by rw [co_of' hx, co_get (by omega), ← hje, List.getElem_take]))
        clear hs hx hje hj hin
        go_wp2
        go_ret
        exact ⟨by rw [HN.out]; rfl, hbel⟩
      · have hs : seenF (xs.take k) x = .bool false := by unfold seenF; simp [hin]
        rw [hs] at hc1
        have hrow2 := (hrow.set hxb (.bool true)).congr (g := seenF (xs.take (k + 1))) (fun o _ => by
          unfold seenF
          rw [← take_snoc hx]
          by_cases e : o = x
          · rw [if_pos e, e]; simp
          · rw [if_neg e]; simp [e])
        have hun2 : UnTo xs (k + 1) := fun i j hi hj => by
          by_cases e : i = k
          · subst e
            rw [co_of' hx]
            intro h
            refine hin ?_
            rw [h, co_get (by omega), ← List.getElem_take (j := i) (h := by rw [List.length_take]; omega)]
            exact List.getElem_mem _
          · exact hun i j (by omega) hj
        have H1 := Lib.hid hrow2
        have H2 := Lib.hid hun2
        have H3 := Lib.hid (hbel.setCell (p := ⟨w.heap.size, x, none⟩) (Nat.le_refl _) (.bool true))
        clear hs hx hrow hrow2 hun2 hun hin
        go_wp2
        go_roundw
        case rel => exact ⟨k + 1, by go_num, by omega, H2.out, H1.out, H3.out⟩
        case measure => simp [intOf]; omega
    · obtain rfl : k = xs.length := by omega
      have HN := Lib.hid (unB_yes hun)
      go_wp2
      go_ret
      exact ⟨by rw [HN.out]; rfl, hbel⟩
end Go.Proofs.Ytgikgnhpplmljaa
end
section
/- What poly's powers and Eval do: the powers of x one by one; a polynomial's value. -/
namespace Go.Proofs.Ytgikgnhpplmljaa
open Go.RowKit Go.Shelf Gw Pol
attribute [local go_sem] Oper.semAt_some

/-- Places below L. -/
abbrev Plc (L : Nat) := { i : Nat // i < L }
def uptoL (L k : Nat) (h : k ≤ L) : List (Plc L) := (List.range k).attach.map fun x => ⟨x.1, by have := List.mem_range.1 x.2; omega⟩
theorem uptoL_val (L k : Nat) (h : k ≤ L) : (uptoL L k h).map (fun x => x.1) = List.range k := by simp [uptoL]
theorem uptoL_len (L k : Nat) (h : k ≤ L) : (uptoL L k h).length = k := by simp [uptoL]
theorem uptoL_succ (L k : Nat) (h : k + 1 ≤ L) : uptoL L (k + 1) h = uptoL L k (by omega) ++ [⟨k, by omega⟩] := by
  have : ∀ l m : List (Plc L), l.map (fun x => x.1) = m.map (fun x => x.1) → l = m := fun l m e => List.map_inj_right (fun x y => Subtype.ext) |>.1 e
  apply this
  rw [List.map_append, uptoL_val, uptoL_val, List.range_succ]; rfl

/-- Blocks below n but g stand. -/
def KpB (n g : Nat) (W W' : World) : Prop := ∀ b, b < n → b ≠ g → W'.heap[b]? = W.heap[b]?
theorem KpB.refl (n g : Nat) (W : World) : KpB n g W W := fun _ _ _ => rfl
theorem KpB.trans {n g : Nat} {A B C : World} (h : KpB n g A B) (k : KpB n g B C) : KpB n g A C := fun b h1 h2 => (k b h1 h2).trans (h b h1 h2)
theorem KpB.drewN {n g : Nat} {A B : World} (h : KpB n g A B) (m : Nat) : KpB n g A (B.drewN m) := h
theorem KpB.below {n m g : Nat} {A B : World} (h : Below m A B) (hn : n ≤ m) : KpB n g A B := fun b h1 _ => h.block b (by omega)
theorem KpB.set {n g k : Nat} {A B : World} (h : KpB n g A B) (v : Value) : KpB n g A (B.setCell ⟨g, k, none⟩ v) := fun b h1 h2 => (Below.heap_setCell B ⟨g, k, none⟩ v b h2).trans (h b h1 h2)
theorem KpB.cell {n g b o : Nat} {A B : World} (h : KpB n g A B) (h1 : b < n) (h2 : b ≠ g) : B.cell? ⟨b, o, none⟩ = A.cell? ⟨b, o, none⟩ := World.cell?_of_block (h b h1 h2)
theorem KpB.field {n g b : Nat} {A B : World} (h : KpB n g A B) (hF : IsField A b) (h1 : b < n) (h2 : b ≠ g) : IsField B b := fun o ho =>
  ⟨(h.cell h1 h2).trans (hF o ho).1, (World.frozen?_of_block (w := A) (a := ⟨b, o, none⟩) (h b h1 h2)).trans (hF o ho).2⟩

theorem ppowers_mk (bf x L : Nat) (w : World) :
    Calls Try.prog 62 #[.pointer (some ⟨bf, 0, none⟩), .int .u8 (x : Int), .int .i64 (L : Int)] w fun e w' =>
      e = .returned (.func (.func 88) #[] #[.pointer (some ⟨w.heap.size + 2, 0, none⟩), .pointer (some ⟨w.heap.size, 0, none⟩), .pointer (some ⟨w.heap.size + 1, 0, none⟩)]) ∧
      w' = ((w.alloc (.cells #[.pointer (some ⟨bf, 0, none⟩)] 30)).alloc (.cells #[.int .u8 (x : Int)] 5)).alloc (.cells #[.int .i64 (L : Int)] 3) := by
  go_enter Try.func62, Try.ntmps62
  go_wp2
  go_ret
  exact ⟨rfl, rfl⟩

abbrev pencs (x L : Nat) (i : Plc L) : Array Value := #[.int .i64 (i.1 : Int), .int .u8 (Gf.gp x i.1 : Int)]
set_option maxRecDepth 100000 in
set_option maxHeartbeats 1000000 in
/-- The powers come one by one. -/
theorem ppowers_stops (n : Nat) (hn : 1 ≤ n) (n0 g bn bb bx bf x L : Nat) (hx : x < 256) (hL : L ≤ 140737488355328) (w : World) (hn0 : n0 ≤ w.heap.size)
    (h1 : w.cell? ⟨bn, 0, none⟩ = some (.int .i64 (L : Int))) (h2 : w.cell? ⟨bb, 0, none⟩ = some (.pointer (some ⟨bf, 0, none⟩))) (h3 : w.cell? ⟨bx, 0, none⟩ = some (.int .u8 (x : Int))) (hF : IsField w bf)
    (k1 : bn < n0 ∧ bn ≠ g) (k2 : bb < n0 ∧ bb ≠ g) (k3 : bx < n0 ∧ bx ≠ g) (k4 : bf < n0 ∧ bf ≠ g) :
    SeqStopsK Fence.wide n Try.prog 88 #[.pointer (some ⟨bn, 0, none⟩), .pointer (some ⟨bb, 0, none⟩), .pointer (some ⟨bx, 0, none⟩)] (pencs x L) (KpB n0 g) (fun xs => xs = uptoL L L (Nat.le_refl _)) (fun _ => True) L w := fun l J Jx W hW hJ _ hY h0 => by
  have q0 : KpB n0 g w W := KpB.below hW hn0
  have c1 := (q0.cell k1.1 k1.2).trans h1
  refine callsIn_of_wp Try.func88 rfl trivial ?_ rfl
  simp only [Try.ntmps88, List.size_toArray, List.length_cons, List.length_nil, Nat.reduceAdd, Nat.reduceSub, Array.replicate_succ, Array.replicate_zero, List.push_toArray, List.append_toArray, List.nil_append, List.cons_append]
  gi_wp2
  gi_loopw [5, 8] (fun p i wr => ∃ k : Nat, ∃ h : k ≤ L, i = .int .i64 (k : Int) ∧ p = .int .u8 (Gf.gp x k : Int) ∧ J (uptoL L k h) wr ∧ KpB n0 g w wr)
    (fun _ i _ => L - (intOf i).toNat)
  case atStart => exact ⟨0, by omega, rfl, rfl, h0, q0⟩
  case round =>
    obtain ⟨k, hk, rfl, rfl, hJs, hq⟩ := hrel
    have hp := Gf.gp_lt x k
    by_cases hlt : k < L
    · obtain ⟨fn, tmps, assign, body, hy, hR⟩ := hY (uptoL L k hk) ⟨k, hlt⟩ wr hJs (by rw [uptoL_len]; exact hlt)
      dsimp only [pencs] at hy
      gi_wp2_with fail
      refine hR.mono ?_
      rintro e W3 (⟨rfl, hJ3, hK3⟩ | ⟨rfl, hJx3⟩)
      · have hq3 := hq.trans hK3
        have c2 := (hq3.cell k2.1 k2.2).trans h2
        have c3 := (hq3.cell k3.1 k3.2).trans h3
        have hF3 := hq3.field hF k4.1 k4.2
        gi_wp2_with fail
        refine ⟨trivial, ?_⟩
        refine (callsIn_wide.2 (mul_any bf (Gf.gp x k) x hp hx _ hF3)).mono ?_
        rintro e w' ⟨rfl, m, rfl⟩
        have hJ4 : J (uptoL L (k + 1) (by omega)) (W3.drewN m) := by
          rw [uptoL_succ]
          exact hJ _ _ _ none hJ3 ⟨rfl, rfl, rfl, Nat.le_refl _, fun _ _ _ => rfl⟩ (fun r e => by cases e)
        gi_wp2
        go_roundw
        case rel => exact ⟨k + 1, by omega, by go_num, rfl, hJ4, hq3.drewN m⟩
        case measure => simp [intOf]; omega
      · gi_wp2
        refine bodyPost_ret (results_none rfl _ _ _) rfl ?_
        exact ⟨⟨_, rfl⟩, .inr ⟨_, trivial, hJx3⟩⟩
    · obtain rfl : k = L := by omega
      gi_wp2
      go_end0
      exact ⟨⟨_, rfl⟩, .inl ⟨_, rfl, hJs⟩⟩
end Go.Proofs.Ytgikgnhpplmljaa
end
section
/- A region that leaves its order open, inside a round of a range over a function: where all operations but the last few only read (callees may draw), and those come in one forced order, one walk in the order of the text serves every order. -/
namespace Gq
open Go

section
variable {P : Program} {ops : Array Oper} {md : Region.Mode} {C : World → Prop} {l m : Nat}

/-- What is asked of an operation that only reads, inside a round of the wide fence. -/
theorem opIn_of_quiet {i : Nat} {a : Act} {K : Act → Prop} {K' : Act → World → Prop} {Q' : Exit → Act → World → Prop} {w : World} (hd : ∀ (o : Oper), ops[i]? = some o → ∀ c, o.op ≠ .defer c) (hC : C w) (h : ∀ a w', C w' → K a → K' a w')
    (hh : qOp P ops C i K a) : wpOpIn (Fence.wide.inRound l) m P ops Q' i K' a w := by
  unfold qOp at hh
  unfold wpOpIn
  cases ho : ops[i]? with
  | none => simp only [ho] at hh; exact h _ _ hC hh
  | some o =>
    simp only [ho] at hh
    by_cases hw : Region.wanted o (yielded ops a.tmps) = true
    · simp only [hw, if_true] at hh ⊢
      obtain ⟨v, h1, h2⟩ := hh
      have h3 := h1 w hC
      refine ⟨fun _ _ => trivial, ?_⟩
      rw [Oper.semAt_plain _ _ _ (hd o ho)]
      unfold Oper.quietAt at h3
      cases hr : (execOp a.eval o).run P w with
      | ok x w' =>
        rw [hr] at h3
        cases x with
        | value u => obtain ⟨e1, e2⟩ := h3; subst e1 e2; exact h _ _ hC h2
        | skip => obtain ⟨e1, e2⟩ := h3; subst e1 e2; exact h _ _ hC h2
        | enter f args =>
          obtain ⟨e1, hc⟩ := h3
          subst e1
          refine ⟨fun hx => by simp [Fence.wide] at hx, CallsIn.inRound l (callsIn_wide.2 (hc.mono fun e w'' he => ?_))⟩
          obtain ⟨he, hw''⟩ := he
          subst he
          exact h _ _ hw'' h2
        | _ => exact h3.elim
      | halt x w' => rw [hr] at h3; exact h3.elim
    · simp only [hw] at hh ⊢
      exact ⟨fun _ _ => trivial, h _ _ hC hh⟩

/-- Whatever order the first n operations come in; what is behind them is L. -/
def hdAny (P : Program) (md : Region.Mode) (ops : Array Oper) (C : World → Prop) (n : Nat) (L : Array Bool → Act → Prop) : Nat → Array Bool → Act → Prop
  | 0, s, a => L s a
  | f + 1, s, a => Region.ready md ops s ≠ [] ∧ ∀ i ∈ Region.ready md ops s, i < n ∧ qOp P ops C i (hdAny P md ops C n L f (s.setIfInBounds i true)) a
theorem hdAny_in {n g : Nat} {L : Array Bool → Act → Prop} {Q' : Exit → Act → World → Prop} (hd : ∀ (i : Nat) (o : Oper), ops[i]? = some o → ∀ c, o.op ≠ .defer c) (hL : ∀ s a w, C w → L s a → wpAnyIn (Fence.wide.inRound l) m P md ops Q' g s a w) :
    ∀ (f : Nat) (s : Array Bool) (a : Act) (w : World), C w → hdAny P md ops C n L f s a → wpAnyIn (Fence.wide.inRound l) m P md ops Q' (f + g) s a w := by
  intro f
  induction f with
  | zero => intro s a w hw h; rw [Nat.zero_add]; exact hL s a w hw h
  | succ f ih =>
    intro s a w hw h
    rw [show f + 1 + g = (f + g) + 1 from by omega]
    exact ⟨fun h0 => absurd h0 h.1, fun i hi => opIn_of_quiet (hd i) hw (fun a' w' hw' h' => ih _ a' w' hw' h') (h.2 i hi).2⟩
/-- One that may come now may come first. -/
theorem hdAny_take {n i : Nat} {oi : Oper} {v : Value} {L : Array Bool → Act → Prop} (hi : ops[i]? = some oi) (hsel : ∀ (j : Nat) (o : Oper) cs b, ops[j]? = some o → o.op ≠ .select cs b)
    (hs : Region.sinkB md ops n = true) (hc : Region.chainB md ops n = true) (hn : n < ops.size) (hin : i < n) (hdone : ∀ s a, L s a → ∀ j ∈ Region.ready md ops s, n ≤ j) (f : Nat) :
    ∀ (s : Array Bool) (a : Act), HeadInv md ops n s → (∀ j oj, ops[j]? = some oj → j ≠ i → s.getD j true = false → (∀ e ∈ oj.after, Region.binds md e = true → e.on ≠ i) → oi.apart ops oj = true) →
      i ∈ Region.ready md ops s → YieldsIn P ops C oi v a → hdAny P md ops C n L f (s.setIfInBounds i true) (a.put oi.dst v) → hdAny P md ops C n L (f + 1) s a := by
  induction f with
  | zero =>
    intro s a inv _ hr hy H
    have hun := (mem_ready.1 hr).1
    refine ⟨fun h => (by rw [h] at hr; cases hr), fun j hj => ?_⟩
    have hjn : j < n := Nat.lt_of_not_le fun h => tail_waits hs hc hn inv _ i rfl hin hun j h hj
    refine ⟨hjn, ?_⟩
    by_cases hji : j = i
    · subst hji; exact hy.qOp hi H
    · have := hdone _ _ H j (ready_mono hj hji); omega
  | succ f ih =>
    intro s a inv hfree hr hy H
    have hun := (mem_ready.1 hr).1
    refine ⟨fun h => (by rw [h] at hr; cases hr), fun j hj => ?_⟩
    have hjn : j < n := Nat.lt_of_not_le fun h => tail_waits hs hc hn inv _ i rfl hin hun j h hj
    refine ⟨hjn, ?_⟩
    by_cases hji : j = i
    · subst hji; exact hy.qOp hi H
    · obtain ⟨hjun, oj, hoj, hall⟩ := mem_ready.1 hj
      have hnot : ∀ e ∈ oj.after, Region.binds md e = true → e.on ≠ i := fun e he hb heq => by
        have h1 := hall e he hb
        rw [heq, getD_both hun] at h1
        cases h1
      have h2 := qOp_put hoj (hfree j oj hoj hji hjun hnot) (fun cs b => hsel i oi cs b hi) (fun cs b => hsel j oj cs b hoj) hy (H.2 j (ready_mono hj hji)).2
      refine qOp_mono (fun a' h3 => ih (s.setIfInBounds j true) a' (inv.set hj hjn) (fun k ok hk hki hku hno => ?_) (ready_mono hr (Ne.symm hji)) h3.1 ?_) h2
      · refine hfree k ok hk hki ?_ hno
        by_cases hjk : j = k
        · subst hjk; exact hjun
        · rw [getD_set_ne true hjk] at hku; exact hku
      · rw [Array.setIfInBounds_comm _ _ hji]; exact h3.2
/-- The first n in the text's order. -/
theorem hdAny_lex {n g : Nat} {Lq : Act → Prop} (hsel : Region.noSelect ops = true) (hs : Region.sinkB md ops n = true) (hc : Region.chainB md ops n = true) (hn : n < ops.size) (t : List Oper) :
    ∀ (k : Nat) (s : Array Bool) (a : Act), (∀ j, j < t.length → t[j]? = ops[k + j]?) → k + t.length = n → HeadInv md ops n s → Region.lexHead md ops g t.length k s = true → wpQuiet P ops C Lq t a →
      hdAny P md ops C n (fun s' a' => Region.seqB md ops g n s' = true ∧ Lq a') t.length s a := by
  induction t with
  | nil =>
    intro k s a _ hk _ hB h
    obtain rfl : k = n := by simpa using hk
    exact ⟨hB, h⟩
  | cons o t ih =>
    intro k s a hl hk inv hB h
    have h0 : ops[k]? = some o := by simpa using (hl 0 (by simp)).symm
    simp only [List.length_cons] at hk
    simp only [List.length_cons, Region.lexHead, Bool.and_eq_true] at hB
    obtain ⟨⟨hr, hf⟩, hB'⟩ := hB
    have hr' : k ∈ Region.ready md ops s := by simpa using hr
    have hst : qOp P ops C k (wpQuiet P ops C Lq t) a := by unfold qOp; simp only [h0]; exact h
    obtain ⟨v, hy, hK⟩ := yieldsIn_of_qOp h0 hst
    exact hdAny_take h0 (Region.noSelect_spec hsel) hs hc hn (by omega) (fun s' a' hL => seqB_ready hL.1) t.length s a inv (Region.free_spec h0 hf) hr' hy
      (ih (k + 1) _ _ (fun j hj => by have := hl (j + 1) (by simp; omega); simpa [Nat.add_assoc, Nat.add_comm 1 j] using this) (by omega) (inv.set hr' (by omega)) hB' hK)
/-- The last ones, in their forced order. -/
theorem anyIn_of_seq {F : Fence} {Q' : Exit → Act → World → Prop} (t : List Oper) :
    ∀ (k : Nat) (s : Array Bool) (a : Act) (w : World), (∀ j, t[j]? = ops[k + j]?) → Region.seqB md ops t.length k s = true → wpListIn F m P ops Q' t a w → wpAnyIn F m P md ops Q' t.length s a w := by
  induction t with
  | nil => intro k s a w _ hB h; exact ⟨by simpa [Region.seqB] using hB, h⟩
  | cons o t ih =>
    intro k s a w hl hB h
    have h0 : ops[k]? = some o := by simpa using (hl 0).symm
    simp only [List.length_cons, Region.seqB, Bool.and_eq_true, decide_eq_true_eq] at hB
    refine ⟨fun h1 => (by rw [hB.1] at h1; cases h1), fun i hi => ?_⟩
    rw [hB.1] at hi
    obtain rfl : i = k := by simpa using hi
    have hw : wpOpIn F m P ops Q' i (wpListIn F m P ops Q' t) a w := by unfold wpOpIn; simp only [h0]; exact h
    exact wpOpIn_mono (fun a' w' h' => ih (i + 1) _ a' w' (fun j => by have := hl (j + 1); simpa [Nat.add_assoc, Nat.add_comm 1 j] using this) hB.2 h') hw
/-- No operation defers. -/
def noDefer (t : List Oper) : Bool := t.all fun o => match o.op with | .defer _ => false | _ => true
theorem noDefer_spec {t : List Oper} (h : noDefer t = true) : ∀ (i : Nat) (o : Oper), t.toArray[i]? = some o → ∀ c, o.op ≠ .defer c := fun i o ho c e => by
  have h1 := List.all_eq_true.1 h o (List.mem_of_getElem? (by simpa using ho))
  rw [e] at h1
  cases h1
/-- **One walk for the first n operations; then the rest.** -/
theorem region_round {id : Nat} {Q : Exit → Act → World → Prop} {a : Act} {w : World} {t : List Oper} (n : Nat) (hm : P.follows .mixedOrders = true) (hB : Region.lexTailB .any t.toArray n = true) (hd : noDefer t = true)
    (h : wpQuiet P t.toArray (fun w' => ∃ k, w' = w.drewN k) (fun a' => ∀ w', (∃ k, w' = w.drewN k) → wpListIn (Fence.wide.inRound l) m P t.toArray Q (t.drop n) a' w') (t.take n) a) :
    (Code.region id t.toArray true).wpIn (Fence.wide.inRound l) m P Q a w := by
  simp only [Region.lexTailB, Bool.and_eq_true, decide_eq_true_eq] at hB
  obtain ⟨⟨⟨⟨hsel, hn⟩, hs⟩, hc⟩, hlex⟩ := hB
  have hn' : n < t.length := by simpa using hn
  have htl : (t.take n).length = n := by simp; omega
  have hdl : (t.drop n).length = t.toArray.size - n := by simp
  have inv0 : HeadInv .any t.toArray n (Array.replicate t.toArray.size false) :=
    ⟨by simp, fun j oj _ hl => (by rw [getD_replicate_false] at hl; cases hl), fun i _ hi => getD_in (by simpa using hi) (getD_replicate_false _ _)⟩
  have H := hdAny_lex (md := .any) (g := t.toArray.size - n) hsel hs hc hn (t.take n) 0 _ a (fun j hj => by
    have hj' : j < n := by rw [htl] at hj; exact hj
    simp [hj']) (by simpa using htl) inv0 (by rw [htl]; exact hlex) h
  refine wpIn_region_any hm ?_
  have := hdAny_in (l := l) (m := m) (Q' := Q) (g := t.toArray.size - n) (noDefer_spec hd) (fun s a' w' hw' hL => by
    have := anyIn_of_seq (F := Fence.wide.inRound l) (m := m) (md := .any) (Q' := Q) (t.drop n) n s a' w' (fun j => by simp [List.getElem?_drop]) (by rw [hdl]; exact hL.1) (hL.2 w' hw')
    rwa [hdl] at this) _ _ _ { w with drawn := w.drawn + 1 } ⟨1, rfl⟩ H
  rw [htl, show n + (t.toArray.size - n) = t.toArray.size from by omega] at this
  exact this
/-- Where all only read. -/
theorem anyIn_of_quiet {Q : Act → Prop} {Q' : Exit → Act → World → Prop} (hd : ∀ (i : Nat) (o : Oper), ops[i]? = some o → ∀ c, o.op ≠ .defer c) (hQ : ∀ a w, C w → Q a → Q' .normal a w) (f : Nat) :
    ∀ (s : Array Bool) (a : Act) (w : World), C w → wpAnyQ P md ops C Q f s a → wpAnyIn (Fence.wide.inRound l) m P md ops Q' f s a w := by
  induction f with
  | zero => intro s a w hw h; exact ⟨h.1, hQ _ _ hw h.2⟩
  | succ f ih => intro s a w hw h; exact ⟨fun h0 => hQ _ _ hw (h.1 h0), fun i hi => opIn_of_quiet (hd i) hw (fun a' w' hw' h' => ih _ a' w' hw' h') (h.2 i hi)⟩
theorem region_round_all {id : Nat} {Q : Exit → Act → World → Prop} {a : Act} {w : World} {t : List Oper} (hm : P.follows .mixedOrders = true) (hB : Region.lexB .any t.toArray = true) (hd : noDefer t = true) (hC : C { w with drawn := w.drawn + 1 })
    (h : wpQuiet P t.toArray C (fun a' => ∀ w', C w' → Q .normal a' w') t a) : (Code.region id t.toArray true).wpIn (Fence.wide.inRound l) m P Q a w := by
  simp only [Region.lexB, Bool.and_eq_true] at hB
  refine wpIn_region_any hm (anyIn_of_quiet (Q := fun a' => ∀ w', C w' → Q .normal a' w') (noDefer_spec hd) (fun _ w' hw' h => h w' hw') _ _ _ _ hC ?_)
  have := wpAnyQ_lex (C := C) (md := .any) hB.1 t 0 (Array.replicate t.toArray.size false) a (by simp) (by simpa using hB.2) h
  simpa using this
end
end Gq
end
