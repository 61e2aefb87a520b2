import Derived.StillTail
import Derived.Deep.QuietTactic
import Derived.OrdersIn
import Derived.RangeFuncCalls
import Derived.OwnWalkIn
import Derived.BigQuiet
import Derived.RangeFuncNested
import Derived.RangeFuncBound
import Derived.RangeFuncLeaves
import Derived.Test.YtaknffdokkfmgaaJ2
import Derived.Test.YtaknffdokkfmgaaJ3
import Derived.Test.YtaknffdokkfmgaaJ4
import Derived.Test.YtaknffdokkfmgaaJ7
section
/- What poly's Roots and distinct do: the polynomial of some roots, in memory of its own; are all unlike. -/
namespace Go.Proofs.Ytaknffdokkfmgaa
open Go.RowKit Go.Shelf Gw Pol

def PrRel (w : World) (xs : List Nat) (v i : Value) (wr : World) : Prop :=
  ∃ (k : Nat) (A : Option Addr) (c : Nat), v = .slice A (k + 1) c ∧ i = .int .i64 (k : Int) ∧ k ≤ xs.length ∧ Gw.Own wr w.heap.size 5 A c (rt (xs.take k)) ∧ Below w.heap.size w wr
set_option maxRecDepth 100000 in
set_option maxHeartbeats 1000000 in
/-- The polynomial of some roots. -/
theorem proots_any (bf : Nat) (A : Option Addr) (c : Nat) (xs : List Nat) (w : World) (hF : IsField w bf) (hI : In w w.heap.size A c xs) (hcm : xs.length ≤ 70368744177664) :
    Calls Try.prog 55 #[.pointer (some ⟨bf, 0, none⟩), .slice A xs.length c] w fun e w' => ∃ A2 c2, e = .returned (.slice A2 (rt xs).length c2) ∧ Gw.Own w' w.heap.size 5 A2 c2 (rt xs) ∧ Below w.heap.size w w' := by
  have hlf := hF.lt
  go_enter Try.func55, Try.ntmps55
  go_wp2
  go_loopw [5, 11] (PrRel w xs) (fun _ i _ => xs.length - (intOf i).toNat)
  case atStart => exact ⟨0, some ⟨w.heap.size, 0, none⟩, 1, rfl, rfl, Nat.zero_le _, ⟨World.ownsRow_lit w #[.int .u8 1] 1 (Nat.le_refl _) (by simp [maxLen]) rfl, rt_bb _⟩, (Below.refl _ _).alloc (Nat.le_refl _) _⟩
  case round =>
    obtain ⟨k, Ao, co', rfl, rfl, hk, hown, hbel⟩ := hrel
    have hbs := hbel.size
    by_cases hkp : k < xs.length
    · obtain ⟨x, b, off, hx, hxb, rfl, hb, hcell⟩ := (hI.below hbel).sl.at_ hkp
      have HT := Lib.hid (show rt (xs.take (k + 1)) = tr (mul [x, 1] (rt (xs.take k))) by rw [← take_snoc hx, rt_snoc, lin_mul (rt_bb _)])
      have HL := Lib.hid (rt_len_take (xs := xs) (k := k) hk)
      have HL2 := Lib.hid (rt_len_take (xs := xs) (k := k + 1) hkp)
      have hF' := hF.below hbel hlf
      clear hx
      go_wp2_with fail
      refine (pmul' bf (some ⟨wr.heap.size, 0, none⟩) Ao 2 co' 2 (k + 1) [x, 1] (rt (xs.take k)) _ rfl HL.out.symm (hF'.below ((Below.refl _ _).alloc (Nat.le_refl _) _) hF'.lt) ⟨(Sl.two wr 5 x 1 hxb (by omega)).more (by simp), by simp, fun h => by cases h⟩ (hown.alloc _).inn (by rw [HL.out]; simp; omega)).mono ?_
      rintro e w' ⟨A2, c2, rfl, hown2, hb2⟩
      rw [← HT.out] at hown2 ⊢
      rw [HL2.out]
      have hb3 := (hbel.alloc hbs (.cells #[.int .u8 (x : Int), .int .u8 1] 5)).trans (hb2.mono (by simp; omega))
      have hown3 := hown2.base (base' := w.heap.size) (by simp; omega)
      clear hown2 hb2
      go_wp2
      go_roundw
      case rel => exact ⟨k + 1, A2, c2, rfl, by go_num, by omega, hown3, hb3⟩
      case measure => simp [intOf]; omega
    · obtain rfl : k = xs.length := by omega
      have HT := Lib.hid (rt_len_take (xs := xs) (k := xs.length) (Nat.le_refl _))
      rw [List.take_length] at hown
      go_wp2
      go_ret
      exact ⟨Ao, co', by rw [(rt_top xs).1]; rfl, hown, hbel⟩
theorem proots' (bf : Nat) (A : Option Addr) (c n : Nat) (xs : List Nat) (w : World) (hn : n = xs.length) (hF : IsField w bf) (hI : In w w.heap.size A c xs) (hcm : xs.length ≤ 70368744177664) :
    Calls Try.prog 55 #[.pointer (some ⟨bf, 0, none⟩), .slice A n c] w fun e w' => ∃ A2 c2, e = .returned (.slice A2 (rt xs).length c2) ∧ Gw.Own w' w.heap.size 5 A2 c2 (rt xs) ∧ Below w.heap.size w w' := by
  subst hn; exact proots_any bf A c xs w hF hI hcm

def seenZero : Array Value := (List.replicate 256 (Value.bool false)).toArray
theorem zeroSeen (w : World) : (zeroValue 90).run Try.prog w = .ok (.agg seenZero) w := by kernel_rfl
def seenF (l : List Nat) (j : Nat) : Value := .bool (decide (j ∈ l))
theorem seen_new (w : World) : Row (w.alloc (.cells seenZero 90)) w.heap.size 256 (seenF []) := Row.new w seenZero _ 256 _ (fun o ho => by
  unfold seenZero seenF
  rw [List.getElem?_toArray, List.getElem?_replicate, if_pos ho]; simp)
def PsRel (w : World) (xs : List Nat) (i : Value) (wr : World) : Prop :=
  ∃ k : Nat, i = .int .i64 (k : Int) ∧ k ≤ xs.length ∧ UnTo xs k ∧ Row wr w.heap.size 256 (seenF (xs.take k)) ∧ Below w.heap.size w wr
set_option maxRecDepth 100000 in
set_option maxHeartbeats 1000000 in
theorem distinct_any (A : Option Addr) (c : Nat) (xs : List Nat) (w : World) (hI : In w w.heap.size A c xs) (hcm : xs.length ≤ 140737488355328) :
    Calls Try.prog 57 #[.slice A xs.length c] w fun e w' => e = .returned (.bool (unB xs)) ∧ Below w.heap.size w w' := by
  have hz := zeroSeen
  go_enter Try.func57, Try.ntmps57
  go_wp2
  clear hz
  go_loopw [8] (PsRel w xs) (fun i _ => xs.length - (intOf i).toNat)
  case atStart => exact ⟨0, rfl, Nat.zero_le _, fun i j h => by omega, seen_new w, (Below.refl _ _).alloc (Nat.le_refl _) _⟩
  case round =>
    obtain ⟨k, rfl, hk, hun, hrow, hbel⟩ := hrel
    by_cases hkp : k < xs.length
    · obtain ⟨x, b, off, hx, hxb, rfl, hb, hcell⟩ := (hI.below hbel).sl.at_ hkp
      have hc1 := (hrow x hxb).1
      have hf1 := (hrow x hxb).2
      by_cases hin : x ∈ xs.take k
      · have hs : seenF (xs.take k) x = .bool true := by unfold seenF; simp [hin]
        rw [hs] at hc1
        obtain ⟨j, hj, hje⟩ := List.getElem_of_mem hin
        have hjk : j < k := by rw [List.length_take] at hj; omega
        have HN := Lib.hid (unB_no hkp hjk (by rw [co_of' hx, co_get (by omega), ← hje, List.getElem_take]))
        clear hs hx hje hj hin
        go_wp2
        go_ret
        exact ⟨by rw [HN.out]; rfl, hbel⟩
      · have hs : seenF (xs.take k) x = .bool false := by unfold seenF; simp [hin]
        rw [hs] at hc1
        have hrow2 := (hrow.set hxb (.bool true)).congr (g := seenF (xs.take (k + 1))) (fun o _ => by
          unfold seenF
          rw [← take_snoc hx]
          by_cases e : o = x
          · rw [if_pos e, e]; simp
          · rw [if_neg e]; simp [e])
        have hun2 : UnTo xs (k + 1) := fun i j hi hj => by
          by_cases e : i = k
          · subst e
            rw [co_of' hx]
            intro h
            refine hin ?_
            rw [h, co_get (by omega), ← List.getElem_take (j := i) (h := by rw [List.length_take]; omega)]
            exact List.getElem_mem _
          · exact hun i j (by omega) hj
        have H1 := Lib.hid hrow2
        have H2 := Lib.hid hun2
        have H3 := Lib.hid (hbel.setCell (p := ⟨w.heap.size, x, none⟩) (Nat.le_refl _) (.bool true))
        clear hs hx hrow hrow2 hun2 hun hin
        go_wp2
        go_roundw
        case rel => exact ⟨k + 1, by go_num, by omega, H2.out, H1.out, H3.out⟩
        case measure => simp [intOf]; omega
    · obtain rfl : k = xs.length := by omega
      have HN := Lib.hid (unB_yes hun)
      go_wp2
      go_ret
      exact ⟨by rw [HN.out]; rfl, hbel⟩
end Go.Proofs.Ytaknffdokkfmgaa
end
section
/- What poly's powers and Eval do: the powers of x one by one; a polynomial's value. -/
namespace Go.Proofs.Ytaknffdokkfmgaa
open Go.RowKit Go.Shelf Gw Pol
attribute [local go_sem] Oper.semAt_some

/-- Places below L. -/
abbrev Plc (L : Nat) := { i : Nat // i < L }
def uptoL (L k : Nat) (h : k ≤ L) : List (Plc L) := (List.range k).attach.map fun x => ⟨x.1, by have := List.mem_range.1 x.2; omega⟩
theorem uptoL_val (L k : Nat) (h : k ≤ L) : (uptoL L k h).map (fun x => x.1) = List.range k := by simp [uptoL]
theorem uptoL_len (L k : Nat) (h : k ≤ L) : (uptoL L k h).length = k := by simp [uptoL]
theorem uptoL_succ (L k : Nat) (h : k + 1 ≤ L) : uptoL L (k + 1) h = uptoL L k (by omega) ++ [⟨k, by omega⟩] := by
  have : ∀ l m : List (Plc L), l.map (fun x => x.1) = m.map (fun x => x.1) → l = m := fun l m e => List.map_inj_right (fun x y => Subtype.ext) |>.1 e
  apply this
  rw [List.map_append, uptoL_val, uptoL_val, List.range_succ]; rfl

/-- Blocks below n but g stand. -/
def KpB (n g : Nat) (W W' : World) : Prop := ∀ b, b < n → b ≠ g → W'.heap[b]? = W.heap[b]?
theorem KpB.refl (n g : Nat) (W : World) : KpB n g W W := fun _ _ _ => rfl
theorem KpB.trans {n g : Nat} {A B C : World} (h : KpB n g A B) (k : KpB n g B C) : KpB n g A C := fun b h1 h2 => (k b h1 h2).trans (h b h1 h2)
theorem KpB.drewN {n g : Nat} {A B : World} (h : KpB n g A B) (m : Nat) : KpB n g A (B.drewN m) := h
theorem KpB.below {n m g : Nat} {A B : World} (h : Below m A B) (hn : n ≤ m) : KpB n g A B := fun b h1 _ => h.block b (by omega)
theorem KpB.set {n g k : Nat} {A B : World} (h : KpB n g A B) (v : Value) : KpB n g A (B.setCell ⟨g, k, none⟩ v) := fun b h1 h2 => (Below.heap_setCell B ⟨g, k, none⟩ v b h2).trans (h b h1 h2)
theorem KpB.cell {n g b o : Nat} {A B : World} (h : KpB n g A B) (h1 : b < n) (h2 : b ≠ g) : B.cell? ⟨b, o, none⟩ = A.cell? ⟨b, o, none⟩ := World.cell?_of_block (h b h1 h2)
theorem KpB.field {n g b : Nat} {A B : World} (h : KpB n g A B) (hF : IsField A b) (h1 : b < n) (h2 : b ≠ g) : IsField B b := fun o ho =>
  ⟨(h.cell h1 h2).trans (hF o ho).1, (World.frozen?_of_block (w := A) (a := ⟨b, o, none⟩) (h b h1 h2)).trans (hF o ho).2⟩

theorem ppowers_mk (bf x L : Nat) (w : World) :
    Calls Try.prog 68 #[.pointer (some ⟨bf, 0, none⟩), .int .u8 (x : Int), .int .i64 (L : Int)] w fun e w' =>
      e = .returned (.func (.func 73) #[] #[.pointer (some ⟨w.heap.size + 2, 0, none⟩), .pointer (some ⟨w.heap.size, 0, none⟩), .pointer (some ⟨w.heap.size + 1, 0, none⟩)]) ∧
      w' = ((w.alloc (.cells #[.pointer (some ⟨bf, 0, none⟩)] 38)).alloc (.cells #[.int .u8 (x : Int)] 5)).alloc (.cells #[.int .i64 (L : Int)] 3) := by
  go_enter Try.func68, Try.ntmps68
  go_wp2
  go_ret
  exact ⟨rfl, rfl⟩

abbrev pencs (x L : Nat) (i : Plc L) : Array Value := #[.int .i64 (i.1 : Int), .int .u8 (Gf.gp x i.1 : Int)]
set_option maxRecDepth 100000 in
set_option maxHeartbeats 1000000 in
/-- The powers come one by one. -/
theorem ppowers_stops (n : Nat) (hn : 1 ≤ n) (n0 g bn bb bx bf x L : Nat) (hx : x < 256) (hL : L ≤ 140737488355328) (w : World) (hn0 : n0 ≤ w.heap.size)
    (h1 : w.cell? ⟨bn, 0, none⟩ = some (.int .i64 (L : Int))) (h2 : w.cell? ⟨bb, 0, none⟩ = some (.pointer (some ⟨bf, 0, none⟩))) (h3 : w.cell? ⟨bx, 0, none⟩ = some (.int .u8 (x : Int))) (hF : IsField w bf)
    (k1 : bn < n0 ∧ bn ≠ g) (k2 : bb < n0 ∧ bb ≠ g) (k3 : bx < n0 ∧ bx ≠ g) (k4 : bf < n0 ∧ bf ≠ g) :
    SeqStopsK Fence.wide n Try.prog 73 #[.pointer (some ⟨bn, 0, none⟩), .pointer (some ⟨bb, 0, none⟩), .pointer (some ⟨bx, 0, none⟩)] (pencs x L) (KpB n0 g) (fun xs => xs = uptoL L L (Nat.le_refl _)) (fun _ => True) L w := fun l J Jx W hW hJ _ hY h0 => by
  have q0 : KpB n0 g w W := KpB.below hW hn0
  have c1 := (q0.cell k1.1 k1.2).trans h1
  refine callsIn_of_wp Try.func73 rfl trivial ?_ rfl
  simp only [Try.ntmps73, List.size_toArray, List.length_cons, List.length_nil, Nat.reduceAdd, Nat.reduceSub, Array.replicate_succ, Array.replicate_zero, List.push_toArray, List.append_toArray, List.nil_append, List.cons_append]
  gi_wp2
  gi_loopw [5, 8] (fun p i wr => ∃ k : Nat, ∃ h : k ≤ L, i = .int .i64 (k : Int) ∧ p = .int .u8 (Gf.gp x k : Int) ∧ J (uptoL L k h) wr ∧ KpB n0 g w wr)
    (fun _ i _ => L - (intOf i).toNat)
  case atStart => exact ⟨0, by omega, rfl, rfl, h0, q0⟩
  case round =>
    obtain ⟨k, hk, rfl, rfl, hJs, hq⟩ := hrel
    have hp := Gf.gp_lt x k
    by_cases hlt : k < L
    · obtain ⟨fn, tmps, assign, body, hy, hR⟩ := hY (uptoL L k hk) ⟨k, hlt⟩ wr hJs (by rw [uptoL_len]; exact hlt)
      dsimp only [pencs] at hy
      gi_wp2_with fail
      refine hR.mono ?_
      rintro e W3 (⟨rfl, hJ3, hK3⟩ | ⟨rfl, hJx3⟩)
      · have hq3 := hq.trans hK3
        have c2 := (hq3.cell k2.1 k2.2).trans h2
        have c3 := (hq3.cell k3.1 k3.2).trans h3
        have hF3 := hq3.field hF k4.1 k4.2
        gi_wp2_with fail
        refine ⟨trivial, ?_⟩
        refine (callsIn_wide.2 (mul_any bf (Gf.gp x k) x hp hx _ hF3)).mono ?_
        rintro e w' ⟨rfl, m, rfl⟩
        have hJ4 : J (uptoL L (k + 1) (by omega)) (W3.drewN m) := by
          rw [uptoL_succ]
          exact hJ _ _ _ none hJ3 ⟨rfl, rfl, rfl, Nat.le_refl _, fun _ _ _ => rfl⟩ (fun r e => by cases e)
        gi_wp2
        go_roundw
        case rel => exact ⟨k + 1, by omega, by go_num, rfl, hJ4, hq3.drewN m⟩
        case measure => simp [intOf]; omega
      · gi_wp2
        refine bodyPost_ret (results_none rfl _ _ _) rfl ?_
        exact ⟨⟨_, rfl⟩, .inr ⟨_, trivial, hJx3⟩⟩
    · obtain rfl : k = L := by omega
      gi_wp2
      go_end0
      exact ⟨⟨_, rfl⟩, .inl ⟨_, rfl, hJs⟩⟩
end Go.Proofs.Ytaknffdokkfmgaa
end
section
/- A region that leaves its order open, inside a round of a range over a function: where all operations but the last few only read (callees may draw), and those come in one forced order, one walk in the order of the text serves every order. -/
namespace Gq
open Go

section
variable {P : Program} {ops : Array Oper} {md : Region.Mode} {C : World → Prop} {l m : Nat}

/-- What is asked of an operation that only reads, inside a round of the wide fence. -/
theorem opIn_of_quiet {i : Nat} {a : Act} {K : Act → Prop} {K' : Act → World → Prop} {Q' : Exit → Act → World → Prop} {w : World} (hd : ∀ (o : Oper), ops[i]? = some o → ∀ c, o.op ≠ .defer c) (hC : C w) (h : ∀ a w', C w' → K a → K' a w')
    (hh : qOp P ops C i K a) : wpOpIn (Fence.wide.inRound l) m P ops Q' i K' a w := by
  unfold qOp at hh
  unfold wpOpIn
  cases ho : ops[i]? with
  | none => simp only [ho] at hh; exact h _ _ hC hh
  | some o =>
    simp only [ho] at hh
    by_cases hw : Region.wanted o (yielded ops a.tmps) = true
    · simp only [hw, if_true] at hh ⊢
      obtain ⟨v, h1, h2⟩ := hh
      have h3 := h1 w hC
      refine ⟨fun _ _ => trivial, ?_⟩
      rw [Oper.semAt_plain _ _ _ (hd o ho)]
      unfold Oper.quietAt at h3
      cases hr : (execOp a.eval o).run P w with
      | ok x w' =>
        rw [hr] at h3
        cases x with
        | value u => obtain ⟨e1, e2⟩ := h3; subst e1 e2; exact h _ _ hC h2
        | skip => obtain ⟨e1, e2⟩ := h3; subst e1 e2; exact h _ _ hC h2
        | enter f args =>
          obtain ⟨e1, hc⟩ := h3
          subst e1
          refine ⟨fun hx => by simp [Fence.wide] at hx, CallsIn.inRound l (callsIn_wide.2 (hc.mono fun e w'' he => ?_))⟩
          obtain ⟨he, hw''⟩ := he
          subst he
          exact h _ _ hw'' h2
        | _ => exact h3.elim
      | halt x w' => rw [hr] at h3; exact h3.elim
    · simp only [hw] at hh ⊢
      exact ⟨fun _ _ => trivial, h _ _ hC hh⟩

/-- Whatever order the first n operations come in; what is behind them is L. -/
def hdAny (P : Program) (md : Region.Mode) (ops : Array Oper) (C : World → Prop) (n : Nat) (L : Array Bool → Act → Prop) : Nat → Array Bool → Act → Prop
  | 0, s, a => L s a
  | f + 1, s, a => Region.ready md ops s ≠ [] ∧ ∀ i ∈ Region.ready md ops s, i < n ∧ qOp P ops C i (hdAny P md ops C n L f (s.setIfInBounds i true)) a
theorem hdAny_in {n g : Nat} {L : Array Bool → Act → Prop} {Q' : Exit → Act → World → Prop} (hd : ∀ (i : Nat) (o : Oper), ops[i]? = some o → ∀ c, o.op ≠ .defer c) (hL : ∀ s a w, C w → L s a → wpAnyIn (Fence.wide.inRound l) m P md ops Q' g s a w) :
    ∀ (f : Nat) (s : Array Bool) (a : Act) (w : World), C w → hdAny P md ops C n L f s a → wpAnyIn (Fence.wide.inRound l) m P md ops Q' (f + g) s a w := by
  intro f
  induction f with
  | zero => intro s a w hw h; rw [Nat.zero_add]; exact hL s a w hw h
  | succ f ih =>
    intro s a w hw h
    rw [show f + 1 + g = (f + g) + 1 from by omega]
    exact ⟨fun h0 => absurd h0 h.1, fun i hi => opIn_of_quiet (hd i) hw (fun a' w' hw' h' => ih _ a' w' hw' h') (h.2 i hi).2⟩
/-- One that may come now may come first. -/
theorem hdAny_take {n i : Nat} {oi : Oper} {v : Value} {L : Array Bool → Act → Prop} (hi : ops[i]? = some oi) (hsel : ∀ (j : Nat) (o : Oper) cs b, ops[j]? = some o → o.op ≠ .select cs b)
    (hs : Region.sinkB md ops n = true) (hc : Region.chainB md ops n = true) (hn : n < ops.size) (hin : i < n) (hdone : ∀ s a, L s a → ∀ j ∈ Region.ready md ops s, n ≤ j) (f : Nat) :
    ∀ (s : Array Bool) (a : Act), HeadInv md ops n s → (∀ j oj, ops[j]? = some oj → j ≠ i → s.getD j true = false → (∀ e ∈ oj.after, Region.binds md e = true → e.on ≠ i) → oi.apart ops oj = true) →
      i ∈ Region.ready md ops s → YieldsIn P ops C oi v a → hdAny P md ops C n L f (s.setIfInBounds i true) (a.put oi.dst v) → hdAny P md ops C n L (f + 1) s a := by
  induction f with
  | zero =>
    intro s a inv _ hr hy H
    have hun := (mem_ready.1 hr).1
    refine ⟨fun h => (by rw [h] at hr; cases hr), fun j hj => ?_⟩
    have hjn : j < n := Nat.lt_of_not_le fun h => tail_waits hs hc hn inv _ i rfl hin hun j h hj
    refine ⟨hjn, ?_⟩
    by_cases hji : j = i
    · subst hji; exact hy.qOp hi H
    · have := hdone _ _ H j (ready_mono hj hji); omega
  | succ f ih =>
    intro s a inv hfree hr hy H
    have hun := (mem_ready.1 hr).1
    refine ⟨fun h => (by rw [h] at hr; cases hr), fun j hj => ?_⟩
    have hjn : j < n := Nat.lt_of_not_le fun h => tail_waits hs hc hn inv _ i rfl hin hun j h hj
    refine ⟨hjn, ?_⟩
    by_cases hji : j = i
    · subst hji; exact hy.qOp hi H
    · obtain ⟨hjun, oj, hoj, hall⟩ := mem_ready.1 hj
      have hnot : ∀ e ∈ oj.after, Region.binds md e = true → e.on ≠ i := fun e he hb heq => by
        have h1 := hall e he hb
        rw [heq, getD_both hun] at h1
        cases h1
      have h2 := qOp_put hoj (hfree j oj hoj hji hjun hnot) (fun cs b => hsel i oi cs b hi) (fun cs b => hsel j oj cs b hoj) hy (H.2 j (ready_mono hj hji)).2
      refine qOp_mono (fun a' h3 => ih (s.setIfInBounds j true) a' (inv.set hj hjn) (fun k ok hk hki hku hno => ?_) (ready_mono hr (Ne.symm hji)) h3.1 ?_) h2
      · refine hfree k ok hk hki ?_ hno
        by_cases hjk : j = k
        · subst hjk; exact hjun
        · rw [getD_set_ne true hjk] at hku; exact hku
      · rw [Array.setIfInBounds_comm _ _ hji]; exact h3.2
/-- The first n in the text's order. -/
theorem hdAny_lex {n g : Nat} {Lq : Act → Prop} (hsel : Region.noSelect ops = true) (hs : Region.sinkB md ops n = true) (hc : Region.chainB md ops n = true) (hn : n < ops.size) (t : List Oper) :
    ∀ (k : Nat) (s : Array Bool) (a : Act), (∀ j, j < t.length → t[j]? = ops[k + j]?) → k + t.length = n → HeadInv md ops n s → Region.lexHead md ops g t.length k s = true → wpQuiet P ops C Lq t a →
      hdAny P md ops C n (fun s' a' => Region.seqB md ops g n s' = true ∧ Lq a') t.length s a := by
  induction t with
  | nil =>
    intro k s a _ hk _ hB h
    obtain rfl : k = n := by simpa using hk
    exact ⟨hB, h⟩
  | cons o t ih =>
    intro k s a hl hk inv hB h
    have h0 : ops[k]? = some o := by simpa using (hl 0 (by simp)).symm
    simp only [List.length_cons] at hk
    simp only [List.length_cons, Region.lexHead, Bool.and_eq_true] at hB
    obtain ⟨⟨hr, hf⟩, hB'⟩ := hB
    have hr' : k ∈ Region.ready md ops s := by simpa using hr
    have hst : qOp P ops C k (wpQuiet P ops C Lq t) a := by unfold qOp; simp only [h0]; exact h
    obtain ⟨v, hy, hK⟩ := yieldsIn_of_qOp h0 hst
    exact hdAny_take h0 (Region.noSelect_spec hsel) hs hc hn (by omega) (fun s' a' hL => seqB_ready hL.1) t.length s a inv (Region.free_spec h0 hf) hr' hy
      (ih (k + 1) _ _ (fun j hj => by have := hl (j + 1) (by simp; omega); simpa [Nat.add_assoc, Nat.add_comm 1 j] using this) (by omega) (inv.set hr' (by omega)) hB' hK)
/-- The last ones, in their forced order. -/
theorem anyIn_of_seq {F : Fence} {Q' : Exit → Act → World → Prop} (t : List Oper) :
    ∀ (k : Nat) (s : Array Bool) (a : Act) (w : World), (∀ j, t[j]? = ops[k + j]?) → Region.seqB md ops t.length k s = true → wpListIn F m P ops Q' t a w → wpAnyIn F m P md ops Q' t.length s a w := by
  induction t with
  | nil => intro k s a w _ hB h; exact ⟨by simpa [Region.seqB] using hB, h⟩
  | cons o t ih =>
    intro k s a w hl hB h
    have h0 : ops[k]? = some o := by simpa using (hl 0).symm
    simp only [List.length_cons, Region.seqB, Bool.and_eq_true, decide_eq_true_eq] at hB
    refine ⟨fun h1 => (by rw [hB.1] at h1; cases h1), fun i hi => ?_⟩
    rw [hB.1] at hi
    obtain rfl : i = k := by simpa using hi
    have hw : wpOpIn F m P ops Q' i (wpListIn F m P ops Q' t) a w := by unfold wpOpIn; simp only [h0]; exact h
    exact wpOpIn_mono (fun a' w' h' => ih (i + 1) _ a' w' (fun j => by have := hl (j + 1); simpa [Nat.add_assoc, Nat.add_comm 1 j] using this) hB.2 h') hw
/-- No operation defers. -/
def noDefer (t : List Oper) : Bool := t.all fun o => match o.op with | .defer _ => false | _ => true
theorem noDefer_spec {t : List Oper} (h : noDefer t = true) : ∀ (i : Nat) (o : Oper), t.toArray[i]? = some o → ∀ c, o.op ≠ .defer c := fun i o ho c e => by
  have h1 := List.all_eq_true.1 h o (List.mem_of_getElem? (by simpa using ho))
  rw [e] at h1
  cases h1
/-- **One walk for the first n operations; then the rest.** -/
theorem region_round {id : Nat} {Q : Exit → Act → World → Prop} {a : Act} {w : World} {t : List Oper} (n : Nat) (hm : P.follows .mixedOrders = true) (hB : Region.lexTailB .any t.toArray n = true) (hd : noDefer t = true)
    (h : wpQuiet P t.toArray (fun w' => ∃ k, w' = w.drewN k) (fun a' => ∀ w', (∃ k, w' = w.drewN k) → wpListIn (Fence.wide.inRound l) m P t.toArray Q (t.drop n) a' w') (t.take n) a) :
    (Code.region id t.toArray true).wpIn (Fence.wide.inRound l) m P Q a w := by
  simp only [Region.lexTailB, Bool.and_eq_true, decide_eq_true_eq] at hB
  obtain ⟨⟨⟨⟨hsel, hn⟩, hs⟩, hc⟩, hlex⟩ := hB
  have hn' : n < t.length := by simpa using hn
  have htl : (t.take n).length = n := by simp; omega
  have hdl : (t.drop n).length = t.toArray.size - n := by simp
  have inv0 : HeadInv .any t.toArray n (Array.replicate t.toArray.size false) :=
    ⟨by simp, fun j oj _ hl => (by rw [getD_replicate_false] at hl; cases hl), fun i _ hi => getD_in (by simpa using hi) (getD_replicate_false _ _)⟩
  have H := hdAny_lex (md := .any) (g := t.toArray.size - n) hsel hs hc hn (t.take n) 0 _ a (fun j hj => by
    have hj' : j < n := by rw [htl] at hj; exact hj
    simp [hj']) (by simpa using htl) inv0 (by rw [htl]; exact hlex) h
  refine wpIn_region_any hm ?_
  have := hdAny_in (l := l) (m := m) (Q' := Q) (g := t.toArray.size - n) (noDefer_spec hd) (fun s a' w' hw' hL => by
    have := anyIn_of_seq (F := Fence.wide.inRound l) (m := m) (md := .any) (Q' := Q) (t.drop n) n s a' w' (fun j => by simp [List.getElem?_drop]) (by rw [hdl]; exact hL.1) (hL.2 w' hw')
    rwa [hdl] at this) _ _ _ { w with drawn := w.drawn + 1 } ⟨1, rfl⟩ H
  rw [htl, show n + (t.toArray.size - n) = t.toArray.size from by omega] at this
  exact this
/-- Where all only read. -/
theorem anyIn_of_quiet {Q : Act → Prop} {Q' : Exit → Act → World → Prop} (hd : ∀ (i : Nat) (o : Oper), ops[i]? = some o → ∀ c, o.op ≠ .defer c) (hQ : ∀ a w, C w → Q a → Q' .normal a w) (f : Nat) :
    ∀ (s : Array Bool) (a : Act) (w : World), C w → wpAnyQ P md ops C Q f s a → wpAnyIn (Fence.wide.inRound l) m P md ops Q' f s a w := by
  induction f with
  | zero => intro s a w hw h; exact ⟨h.1, hQ _ _ hw h.2⟩
  | succ f ih => intro s a w hw h; exact ⟨fun h0 => hQ _ _ hw (h.1 h0), fun i hi => opIn_of_quiet (hd i) hw (fun a' w' hw' h' => ih _ a' w' hw' h') (h.2 i hi)⟩
theorem region_round_all {id : Nat} {Q : Exit → Act → World → Prop} {a : Act} {w : World} {t : List Oper} (hm : P.follows .mixedOrders = true) (hB : Region.lexB .any t.toArray = true) (hd : noDefer t = true) (hC : C { w with drawn := w.drawn + 1 })
    (h : wpQuiet P t.toArray C (fun a' => ∀ w', C w' → Q .normal a' w') t a) : (Code.region id t.toArray true).wpIn (Fence.wide.inRound l) m P Q a w := by
  simp only [Region.lexB, Bool.and_eq_true] at hB
  refine wpIn_region_any hm (anyIn_of_quiet (Q := fun a' => ∀ w', C w' → Q .normal a' w') (noDefer_spec hd) (fun _ w' hw' h => h w' hw') _ _ _ _ hC ?_)
  have := wpAnyQ_lex (C := C) (md := .any) hB.1 t 0 (Array.replicate t.toArray.size false) a (by simp) (by simpa using hB.2) h
  simpa using this
end
end Gq
end
section
/- What poly's Eval does: a polynomial's value; nothing old is turned. -/
namespace Go.Proofs.Ytaknffdokkfmgaa
open Go.RowKit Go.Shelf Gw Pol Go.BigFrame
attribute [local go_sem] Oper.semAt_some

/-- What is summed up when some places have come. -/
def sumF (l : List Nat) (x : Nat) : List Nat → Nat
  | [] => 0
  | i :: r => Gf.gm (co l i) (Gf.gp x i) ^^^ sumF l x r
theorem sumF_snoc (l : List Nat) (x : Nat) (r : List Nat) (i : Nat) : sumF l x (r ++ [i]) = sumF l x r ^^^ Gf.gm (co l i) (Gf.gp x i) := by
  induction r with
  | nil => simp [sumF]
  | cons j r ih => show _ ^^^ sumF l x (r ++ [i]) = (_ ^^^ sumF l x r) ^^^ _; rw [ih, Nat.xor_assoc]
theorem sumF_lt (l : List Nat) (x : Nat) (r : List Nat) : sumF l x r < 256 := by
  induction r with
  | nil => simp [sumF]
  | cons j r ih => exact Gf.xor_lt (Gf.gm_lt _ _) ih
theorem sumF_all {l : List Nat} (hl : BB l) {x : Nat} (hx : x < 256) : sumF l x (List.range l.length) = ev x l := by
  have : ∀ k, k ≤ l.length → sumF l x (List.range k) = ev x (l.take k) := by
    intro k
    induction k with
    | zero => intro _; rfl
    | succ k ih =>
      intro hk
      rw [List.range_succ, sumF_snoc, ih (by omega), ev_take_succ hl (List.getElem?_eq_getElem (show k < l.length by omega)) hx, co_get (show k < l.length by omega)]
  have h := this l.length (Nat.le_refl _)
  rwa [List.take_length] at h
def plv {L : Nat} (pre : List (Plc L)) : List Nat := pre.map (fun x => x.1)
theorem plv_snoc {L : Nat} (pre : List (Plc L)) (x : Plc L) : plv (pre ++ [x]) = plv pre ++ [x.1] := by simp [plv]
theorem plv_all (L : Nat) : plv (uptoL L L (Nat.le_refl _)) = List.range L := uptoL_val L L _

theorem keeps_draw_set (W : World) (m : Nat) (a : Addr) (v : Value) : KeepsOthers W ((W.drewN m).setCell a v) :=
  KeepsOthers.trans (B := W.drewN m) ⟨Nat.le_refl _, fun _ _ h _ => h⟩ (KeepsOthers.setCell _ _ _)

/-- Between two rounds. -/
def EvI (w : World) (bf : Nat) (A : Option Addr) (c : Nat) (l : List Nat) (x : Nat) (pre : List (Plc l.length)) (W : World) : Prop :=
  (W.cell? ⟨w.heap.size, 0, none⟩ = some (.pointer (some ⟨bf, 0, none⟩)) ∧ W.cell? ⟨w.heap.size + 1, 0, none⟩ = some (.slice A l.length c) ∧
    W.cell? ⟨w.heap.size + 2, 0, none⟩ = some (.int .u8 (sumF l x (plv pre) : Int)) ∧ W.frozen? ⟨w.heap.size + 2, 0, none⟩ = false) ∧ Below w.heap.size w W
theorem EvI.own (w : World) (bf : Nat) (A : Option Addr) (c : Nat) (l : List Nat) (x B : Nat) (hB : w.heap.size ≤ B) : OwnFrom B (EvI w bf A c l x) :=
  OwnFrom.and (Own.from (fun _ _ _ _ hs hg hr => ⟨cell_kept hs.1 hg hr, cell_kept hs.2.1 hg hr, cell_kept hs.2.2.1 hg hr, (frozen_kept hs.2.2.1 hg hr).trans hs.2.2.2⟩) _) (ownFrom_below (Nat.le_refl _) hB)

theorem old_cell {w : World} {b o : Nat} {v : Value} (h : w.cell? ⟨b, o, none⟩ = some v) (ob : Obj) : (w.alloc ob).cell? ⟨b, o, none⟩ = some v := (World.cell?_alloc_lt w ob ⟨b, o, none⟩ (cell_lt h)).trans h
theorem new_cell (w : World) (v : Value) (t : TypeId) (b : Nat) (h : b = w.heap.size) : (w.alloc (.cells #[v] t)).cell? ⟨b, 0, none⟩ = some v := by subst h; exact cell_new w v t
/-- Six boxes. -/
structure Six (w : World) (v0 v1 v2 v3 v4 v5 : Value) (W : World) : Prop where
  c0 : W.cell? ⟨w.heap.size, 0, none⟩ = some v0
  c1 : W.cell? ⟨w.heap.size + 1, 0, none⟩ = some v1
  c2 : W.cell? ⟨w.heap.size + 2, 0, none⟩ = some v2
  c3 : W.cell? ⟨w.heap.size + 3, 0, none⟩ = some v3
  c4 : W.cell? ⟨w.heap.size + 4, 0, none⟩ = some v4
  c5 : W.cell? ⟨w.heap.size + 5, 0, none⟩ = some v5
  f2 : W.frozen? ⟨w.heap.size + 2, 0, none⟩ = false
  sz : W.heap.size = w.heap.size + 6
  bl : Below w.heap.size w W
theorem six (w : World) (v0 v1 v2 v3 v4 v5 : Value) (t0 t1 t2 t3 t4 t5 : TypeId) :
    Six w v0 v1 v2 v3 v4 v5 ((((((w.alloc (.cells #[v0] t0)).alloc (.cells #[v1] t1)).alloc (.cells #[v2] t2)).alloc (.cells #[v3] t3)).alloc (.cells #[v4] t4)).alloc (.cells #[v5] t5)) := by
  refine ⟨?_, ?_, ?_, ?_, ?_, ?_, ?_, by simp, ?_⟩
  · exact old_cell (old_cell (old_cell (old_cell (old_cell (new_cell w v0 t0 _ rfl) _) _) _) _) _
  · exact old_cell (old_cell (old_cell (old_cell (new_cell _ v1 t1 _ (by simp)) _) _) _) _
  · exact old_cell (old_cell (old_cell (new_cell _ v2 t2 _ (by simp)) _) _) _
  · exact old_cell (old_cell (new_cell _ v3 t3 _ (by simp)) _) _
  · exact old_cell (new_cell _ v4 t4 _ (by simp)) _
  · exact new_cell _ v5 t5 _ (by simp)
  · have h := World.frozen?_alloc_new ((w.alloc (.cells #[v0] t0)).alloc (.cells #[v1] t1)) #[v2] t2 0
    have e : ((w.alloc (.cells #[v0] t0)).alloc (.cells #[v1] t1)).heap.size = w.heap.size + 2 := by simp
    rw [e] at h
    rw [World.frozen?_of_block (Below.heap_alloc _ _ _ (by simp)), World.frozen?_of_block (Below.heap_alloc _ _ _ (by simp)), World.frozen?_of_block (Below.heap_alloc _ _ _ (by simp))]
    exact h
  · exact ((((((Below.refl _ w).alloc (Nat.le_refl _) _).alloc (by simp) _).alloc (by simp; omega) _).alloc (by simp; omega) _).alloc (by simp; omega) _).alloc (by simp; omega) _

set_option maxRecDepth 100000 in
set_option maxHeartbeats 500000 in
theorem peval_in (bf : Nat) (A : Option Addr) (c : Nat) (l : List Nat) (x : Nat) (hx : x < 256) (w : World) (hF : IsField w bf) (hI : In w w.heap.size A c l) (hcm : l.length ≤ 140737488355328) :
    CallsIn Fence.wide 5 Try.prog 60 #[.pointer (some ⟨bf, 0, none⟩), .slice A l.length c, .int .u8 (x : Int)] w fun e w' => e = .returned (.int .u8 (ev x l : Int)) ∧ Below w.heap.size w w' := by
  have hlf := hF.lt
  refine callsIn_of_wp_marks Try.func60 rfl trivial ?_ rfl
  simp only [Try.ntmps60, List.size_toArray, List.length_cons, List.length_nil, Nat.reduceAdd, Nat.reduceSub, Array.replicate_succ, Array.replicate_zero, List.push_toArray, List.append_toArray, List.nil_append, List.cons_append]
  gi_wp2_with fail
  refine ⟨trivial, ?_⟩
  refine (callsIn_wide.2 (ppowers_mk bf x l.length _)).mono ?_
  rintro e w' ⟨rfl, rfl⟩
  gi_wp2
  have h6 := six w (.pointer (some ⟨bf, 0, none⟩)) (.slice A l.length c) (.int .u8 0) (.pointer (some ⟨bf, 0, none⟩)) (.int .u8 (x : Int)) (.int .i64 (l.length : Int)) 38 28 5 38 5 3
  have hF6 := hF.below h6.bl hlf
  refine wpIn_rangeFunc_ownF rfl (by omega) (gf := 73) (lb := #[.pointer (some ⟨w.heap.size + 5, 0, none⟩), .pointer (some ⟨w.heap.size + 3, 0, none⟩), .pointer (some ⟨w.heap.size + 4, 0, none⟩)]) rfl trivial (enters_of Try.func73 (by kernel_rfl) rfl)
    (ppowers_stops (5 - 1) (by omega) (w.heap.size + 6) (w.heap.size + 2) (w.heap.size + 5) (w.heap.size + 3) (w.heap.size + 4) bf x l.length hx hcm _ (Nat.le_of_eq h6.sz.symm) h6.c5 h6.c3 h6.c4 hF6 ⟨by omega, by omega⟩ ⟨by omega, by omega⟩ ⟨by omega, by omega⟩ ⟨by omega, by omega⟩)
    (fun h k => KpB.trans h k) (fun W l o o' hl _ _ _ b h1 _ => World.putObj_heap_other (by have := h6.sz; omega)) (Below.refl _ _) (fun _ => rfl)
    (EvI w bf A c l x) (fun _ _ _ => False) (EvI.own w bf A c l x _ (by have := h6.sz; omega)) (fun _ _ _ _ _ hs _ _ => hs)
    ⟨⟨h6.c0, h6.c1, h6.c2, h6.f2⟩, h6.bl⟩
    (fun i => { tmps := #[.pointer (some ⟨bf, 0, none⟩), .slice A l.length c, .int .u8 (x : Int), .pointer (some ⟨w.heap.size, 0, none⟩), .pointer (some ⟨w.heap.size + 1, 0, none⟩), undef, .int .u8 0, .pointer (some ⟨w.heap.size + 2, 0, none⟩), .int .i64 (i.1 : Int), .int .u8 (Gf.gp x i.1 : Int), .pointer (some ⟨bf, 0, none⟩), .int .u8 (x : Int), .slice A l.length c, .int .i64 (l.length : Int), .func (.func 73) #[] #[.pointer (some ⟨w.heap.size + 5, 0, none⟩), .pointer (some ⟨w.heap.size + 3, 0, none⟩), .pointer (some ⟨w.heap.size + 4, 0, none⟩)], .int .i64 (i.1 : Int), .int .u8 (Gf.gp x i.1 : Int), undef, undef, undef, undef, undef, undef, undef, undef, undef, undef], defers := [] }) ?assign ?body ?done ?stop
  case assign =>
    intro l x W K hK
    gi_wp2
    exact hK
  case body =>
    rintro lb pre ⟨i, hi⟩ W ⟨⟨c0, c1, c2, f2⟩, hB⟩ _
    have hF' := hF.below hB hlf
    obtain ⟨y, b, off, hy, hyb, rfl, hb, hcell⟩ := (hI.below hB).sl.at_ hi
    have hv := sumF_lt l x (plv pre)
    have HE := Lib.hid (show sumF l x (plv (pre ++ [⟨i, hi⟩])) = sumF l x (plv pre) ^^^ Gf.gm y (Gf.gp x i) by rw [plv_snoc, sumF_snoc, co_of' hy])
    obtain ⟨v, hve⟩ : ∃ v, v = sumF l x (plv pre) := ⟨_, rfl⟩
    rw [← hve] at c2 hv HE
    have hxor : bits .xor .u8 (v : Int) (Gf.gm y (Gf.gp x i) : Int) = ((v ^^^ Gf.gm y (Gf.gp x i) : Nat) : Int) := u8_xor_nat _ _ hv (Gf.gm_lt _ _)
    clear hy hve h6 hF6
    have mixed : Try.prog.follows .mixedOrders = true := by kernel_rfl
    dsimp only
    gi_wp2
    refine Gq.region_round 9 mixed (by kernel_rfl) (by kernel_rfl) ?_
    simp only [List.take_succ_cons, List.take_zero, List.drop_succ_cons, List.drop_zero]
    repeat (go_big_quiet_step ((go_at_call 69; exact Calls.quiet_of (mul_any bf y (Gf.gp x i) hyb (Gf.gp_lt _ _) _ (hF'.drewN _)))))
    refine wpQuiet_nil ?_
    intro _ hw'
    obtain ⟨nq, hw''⟩ := hw'
    subst hw''
    gi_wp2
    refine ⟨keeps_draw_set W nq _ _, ((KpB.refl _ _ W).drewN nq).set _, ⟨?_, ?_, ?_, ?_⟩, (Gw.Below.drewN hB nq).setCell (p := ⟨w.heap.size + 2, 0, none⟩) (by show w.heap.size ≤ w.heap.size + 2; omega) _⟩
    · rw [World.cell?_setCell_other _ _ _ _ (fun h => by injection h with h1; omega)]; exact c0
    · rw [World.cell?_setCell_other _ _ _ _ (fun h => by injection h with h1; omega)]; exact c1
    · rw [HE.out]; exact World.cell?_setCell_same (W.drewN nq) ⟨w.heap.size + 2, 0, none⟩ _ c2
    · rw [World.frozen?_setCell]; exact f2
  case done =>
    rintro D xs W hD rfl ⟨⟨c0, c1, c2, f2⟩, hB⟩ hK
    rw [plv_all, sumF_all hI.bb hx] at c2
    have hsz := h6.sz
    clear h6 hF6
    gi_wp2
    refine ⟨by simp, .inl ⟨_, _, rfl, run_takeDeferred hK, ?_⟩⟩
    have hb2 : Below w.heap.size W (W.putObj D (.deferred none)) := belowK_b (w := w) (Nat.le_refl _) W D _ _ (by omega) hK rfl rfl
    exact ⟨_, results_tmp rfl _ _ _, rfl, hB.trans hb2⟩
  case stop =>
    rintro D c pre W _ _ h _
    exact h.elim
/-- The value. -/
theorem peval_any (bf : Nat) (A : Option Addr) (c : Nat) (l : List Nat) (x : Nat) (hx : x < 256) (w : World) (hF : IsField w bf) (hI : In w w.heap.size A c l) (hcm : l.length ≤ 140737488355328) :
    Calls Try.prog 60 #[.pointer (some ⟨bf, 0, none⟩), .slice A l.length c, .int .u8 (x : Int)] w fun e w' => e = .returned (.int .u8 (ev x l : Int)) ∧ Below w.heap.size w w' :=
  callsIn_wide.1 (peval_in bf A c l x hx w hF hI hcm)
theorem peval' (bf : Nat) (A : Option Addr) (c n : Nat) (l : List Nat) (x : Nat) (hn : n = l.length) (hx : x < 256) (w : World) (hF : IsField w bf) (hI : In w w.heap.size A c l) (hcm : l.length ≤ 140737488355328) :
    Calls Try.prog 60 #[.pointer (some ⟨bf, 0, none⟩), .slice A n c, .int .u8 (x : Int)] w fun e w' => e = .returned (.int .u8 (ev x l : Int)) ∧ Below w.heap.size w w' := by
  subst hn; exact peval_any bf A c l x hx w hF hI hcm
end Go.Proofs.Ytaknffdokkfmgaa
end
section
/- A range over a function that hands out memory (slices that it has made): what is handed out is told of the world in which the round begins; no round leaves early. -/
namespace Gq
open Go Go.RowKit

section
variable {P : Program} {n : Nat}

/-- The function's contract: in whatever world it hands x out, Rd x holds of that world. -/
def SeqMem {α : Type} (n : Nat) (P : Program) (gf : Nat) (lb : Array Value) (encs : α → Array Value) (Rd : α → World → Prop) (Kp : World → World → Prop) (S : List α → Prop) (N : Nat) (w : World) : Prop :=
  ∀ (l : Nat) (J : List α → World → Prop) (W : World), Below w.heap.size w W → (∀ s A B, J s A → A.grownBy B none → J s B) →
    (∀ pre x W1, J pre W1 → Rd x W1 → pre.length < N → YieldAt Fence.wide (n - 1) P l (encs x) W1 fun e W' => e = .returned (.bool true) ∧ J (pre ++ [x]) W' ∧ Kp W1 W') →
    J [] W → CallsIn Fence.wide n P gf (#[.func (.yield l) #[] #[]] ++ lb) W fun e W' => (∃ v, e = .returned v) ∧ ∃ xs, S xs ∧ J xs W'

/-- How a round is left. -/
def memPost {α : Type} (Kp : World → World → Prop) (I : List α → World → Prop) (xs : List α) (W : World) : Exit → Act → World → Prop
  | .normal, _, W' => KeepsOthers W W' ∧ Kp W W' ∧ I xs W'
  | _, _, _ => False

theorem range_mem {α : Type} {g : Operand} {ps : Array Tmp} {assign body : Code} {Q : Exit → Act → World → Prop} {a : Act} {w : World} (h1 : 1 ≤ n) {gf : Nat} {lb : Array Value} (hg : a.eval g = .func (.func gf) #[] lb)
    (eg : ∀ args w, (callFunc gf args).run P w = .ok (.enter gf args) w) {encs : α → Array Value} {Rd : α → World → Prop} {Kp : World → World → Prop} {S : List α → Prop} {N : Nat} (hseq : SeqMem (n - 1) P gf lb encs Rd Kp S N w)
    (hKt : ∀ {A B C : World}, Kp A B → Kp B C → Kp A C) (hKb : ∀ (W : World) (l : Nat) (o o' : Obj), w.heap.size ≤ l → W.heap[l]? = some o → o.isCells = false → Kp W (W.putObj l o')) (hps : ∀ x, (encs x).size = ps.size)
    (hRd : OwnFrom w.heap.size Rd) (I : List α → World → Prop) (hI : OwnFrom w.heap.size I) (h0 : I [] w) (a₁ : α → Act)
    (hassign : ∀ (l : Nat) (x : α) (W : World) (K : Act → World → Prop), K (a₁ x) W →
      assign.wpIn (Fence.wide.inRound l) (n - 1 - 1) P (Exit.then K (fun _ _ _ => False)) { tmps := (ps.zip (encs x)).foldl (fun t (p, v) => t.setIfInBounds p v) a.tmps, defers := [] } W)
    (hbody : ∀ (l : Nat) (pre : List α) (x : α) (W : World), I pre W → Rd x W → pre.length < N → body.wpIn (Fence.wide.inRound l) (n - 1 - 1) P (memPost Kp I (pre ++ [x]) W) (a₁ x) W)
    (hdone : ∀ (D : Nat) (xs : List α) (W : World), w.heap.size ≤ D → S xs → I xs W → W.heap[D]? = some (.deferred (some [])) → Q .normal { a with defers := { target := .collected D, args := #[] } :: a.defers } W) :
    (Code.rangeFunc g ps assign body).wpIn Fence.wide n P Q a w := by
  refine wpIn_rangeFunc fun fn hfn => ?_
  obtain ⟨rc, hrc⟩ : ∃ rc : LoopState → Option Code → Loop, rc = fun st pe => { state := st, pending := pe, fn, tmps := a.tmps, params := ps, assign, body, defers := w.heap.size } := ⟨_, rfl⟩
  obtain ⟨W1, hW1⟩ : ∃ W1, W1 = (w.alloc (.deferred (some []))).alloc (.loop (rc .ready none)) := ⟨_, rfl⟩
  have hsz : W1.heap.size = w.heap.size + 2 := by rw [hW1]; simp
  have hL1 : W1.heap[w.heap.size + 1]? = some (.loop (rc .ready none)) := by
    have := World.alloc_heap_new (w.alloc (.deferred (some []))) (.loop (rc .ready none)); rw [World.size_alloc] at this; rw [hW1]; exact this
  have hK1 : W1.heap[w.heap.size]? = some (.deferred (some [])) := by
    rw [hW1]; exact (Below.heap_alloc _ _ _ (by simp)).trans (World.alloc_heap_new w _)
  have hI1 : I [] W1 := by rw [hW1]; exact hI.alloc _ (hI.alloc _ h0)
  have hb1 : Below w.heap.size w W1 := by rw [hW1]; exact ((Below.refl _ w).alloc (Nat.le_refl _) _).alloc (by simp) _
  refine ⟨w.heap.size + 1, [{ target := .collected w.heap.size, args := #[] }], W1, { target := .fn (.func gf) lb, args := #[.func (.yield (w.heap.size + 1)) #[] #[]] }, W1, gf, #[.func (.yield (w.heap.size + 1)) #[] #[]] ++ lb, W1, ?_, ?_, ?_, ?_, fun _ => h1, ?_⟩
  · rw [hW1, hrc]; exact run_enterLoop_outer _ _ _ _ _
  · simp only [resolve, hg]; simp [go_sem]
  · intro _ _; exact trivial
  · simp [invoke, go_sem, eg]
  · have fin : ∀ W3 : World, W3.heap[w.heap.size + 1]? = some (.loop { rc .ready none with state := .busy }) → (Instr.endRound (w.heap.size + 1) none).run P W3 = .ok (.bool true) (W3.putObj (w.heap.size + 1) (.loop (rc .ready none))) := fun W3 h3 => by
      have := run_endRound (P := P) none h3
      rw [hrc] at this ⊢
      exact this
    refine (hseq (w.heap.size + 1) (fun pre W => I pre W ∧ W.heap[w.heap.size + 1]? = some (.loop (rc .ready none)) ∧ W.heap[w.heap.size]? = some (.deferred (some []))) W1 hb1 ?_ ?_ ⟨hI1, hL1, hK1⟩).mono ?_
    · rintro s A B ⟨h2, h3, h4⟩ hgr
      refine ⟨hI s A B none h2 hgr (fun r e => by cases e), ?_, ?_⟩
      · exact (hgr.block _ (Array.getElem?_eq_some_iff.1 h3).1 (by simp)).trans h3
      · exact (hgr.block _ (Array.getElem?_eq_some_iff.1 h4).1 (by simp)).trans h4
    · rintro pre x W ⟨hi, hl, hk⟩ hrd hlen
      have hlt := (Array.getElem?_eq_some_iff.1 hl).1
      have hy := run_yield (P := P) (args := encs x) hl (by rw [hrc]; exact hps x)
      rw [hrc] at hy
      obtain ⟨W2, hW2⟩ : ∃ W2, W2 = W.putObj (w.heap.size + 1) (.loop { rc .ready none with state := .busy }) := ⟨_, rfl⟩
      have hl2 : W2.heap[w.heap.size + 1]? = some (.loop { rc .ready none with state := .busy }) := by rw [hW2]; exact World.putObj_heap_same hlt
      have hk2 : W2.heap[w.heap.size]? = some (.deferred (some [])) := by rw [hW2]; exact (World.putObj_heap_other (by omega)).trans hk
      have hq2 : Kp W W2 := by rw [hW2]; exact hKb _ _ _ _ (by omega) hl rfl
      have hi2 : I pre W2 := by rw [hW2]; exact hI.putObj _ hi (by omega) hl rfl
      have hr2 : Rd x W2 := by rw [hW2]; exact hRd.putObj _ hrd (by omega) hl rfl
      refine ⟨fn, _, assign, body, hy, roundIn_of_wpIn hfn (hassign _ x W _ ⟨W2, by rw [hW2]; exact run_beginRound hl (by rw [hrc]), ?_⟩)⟩
      refine wpIn_mono (hbody _ pre x W2 hi2 hr2 hlen) ?_
      intro e a3 W3 hp
      cases e with
      | normal =>
        obtain ⟨hk3, hq3, hi3⟩ := hp
        have hl3 := hk3.same _ _ hl2 rfl
        have hk4 := hk3.same _ _ hk2 rfl
        refine ⟨_, _, fin W3 hl3, rfl, ⟨hI.putObj _ hi3 (by omega) hl3 rfl, World.putObj_heap_same (Array.getElem?_eq_some_iff.1 hl3).1, (World.putObj_heap_other (by omega)).trans hk4⟩, hKt (hKt hq2 hq3) (hKb _ _ _ _ (by omega) hl3 rfl)⟩
      | _ => exact hp.elim
    · rintro e W2 ⟨⟨v, rfl⟩, xs, hS, hi, hl, hk⟩
      exact ⟨none, _, by have := run_endLoop (P := P) hl (by rw [hrc]; simp); rw [hrc] at this; exact this, hdone _ xs _ (Nat.le_refl _) hS (hI.putObj _ hi (by omega) hl rfl) ((World.putObj_heap_other (by omega)).trans hk)⟩
end
end Gq
end
section
/- What poly's pieces hands out: each place of xs, and the polynomial of all other roots, in memory of its own. -/
namespace Go.Proofs.Ytaknffdokkfmgaa
open Go.RowKit Go.Shelf Gw Pol
attribute [local go_sem] Oper.semAt_some

/-- Blocks of cells but g stand. -/
structure KeepC (g : Nat) (W W' : World) : Prop where
  size : W.heap.size ≤ W'.heap.size
  same : ∀ b o, b ≠ g → W.heap[b]? = some o → o.isCells = true → W'.heap[b]? = some o
theorem KeepC.refl (g : Nat) (W : World) : KeepC g W W := ⟨Nat.le_refl _, fun _ _ _ h _ => h⟩
theorem KeepC.trans {g : Nat} {A B C : World} (h : KeepC g A B) (k : KeepC g B C) : KeepC g A C := ⟨Nat.le_trans h.size k.size, fun b o h1 h2 h3 => k.same b o h1 (h.same b o h1 h2 h3) h3⟩
theorem KeepC.by {g : Nat} {A B : World} (h : A.grownBy B (some g)) : KeepC g A B := ⟨h.size, fun b o h1 h2 _ => (h.block b (Array.getElem?_eq_some_iff.1 h2).1 (fun e => h1 (by injection e))).trans h2⟩
theorem KeepC.below {g : Nat} {A B : World} (h : Below A.heap.size A B) : KeepC g A B := KeepC.by (Gw.Below.grown h)
theorem KeepC.put {g l : Nat} {W : World} {o o' : Obj} (h : W.heap[l]? = some o) (hc : o.isCells = false) : KeepC g W (W.putObj l o') := ⟨by simp, fun b o2 _ h2 h3 => by
  by_cases e : b = l
  · subst e; rw [h] at h2; injection h2 with h2; subst h2; rw [hc] at h3; cases h3
  · exact (World.putObj_heap_other e).trans h2⟩
theorem KeepC.cell {g b o : Nat} {A B : World} {v : Value} (h : KeepC g A B) (hv : A.cell? ⟨b, o, none⟩ = some v) (hb : b ≠ g) : B.cell? ⟨b, o, none⟩ = some v := by
  obtain ⟨ob, h1, h2⟩ := cells_of_cell hv
  exact (World.cell?_of_block (w := A) (a := ⟨b, o, none⟩) ((h.same b ob hb h1 h2).trans h1.symm)).trans hv
theorem KeepC.field {g b : Nat} {A B : World} (h : KeepC g A B) (hF : IsField A b) (hb : b ≠ g) : IsField B b := fun o ho => by
  obtain ⟨ob, h1, h2⟩ := cells_of_cell (hF o ho).1
  exact ⟨h.cell (hF o ho).1 hb, (World.frozen?_of_block (w := A) (a := ⟨b, o, none⟩) ((h.same b ob hb h1 h2).trans h1.symm)).trans (hF o ho).2⟩
theorem KeepC.sl {g n : Nat} {A B : World} {ad : Option Addr} {l : List Nat} (h : KeepC g A B) (hs : Sl A n ad l) (hn : n ≤ g) : Sl B n ad l := fun i x hx => by
  obtain ⟨h1, b, off, h2, h3, h4⟩ := hs i x hx
  exact ⟨h1, b, off, h2, h3, h.cell h4 (by omega)⟩
theorem KeepC.inn {g n c : Nat} {A B : World} {ad : Option Addr} {l : List Nat} (h : KeepC g A B) (hs : In A n ad c l) (hn : n ≤ g) : In B n ad c l := ⟨h.sl hs.sl hn, hs.cap, hs.none_⟩
theorem KeepC.own {g base c : Nat} {A B : World} {e : TypeId} {ad : Option Addr} {l : List Nat} (h : KeepC g A B) (hs : Gw.Own A base e ad c l) (hb : g < base) : Gw.Own B base e ad c l := by
  refine ⟨⟨hs.1.1, ?_⟩, hs.2⟩
  rcases hs.1.2 with h0 | ⟨k, cap, cur, hv, h1, h2, h3⟩
  · exact .inl h0
  · exact .inr ⟨k, cap, cur, hv, h1, h.same k _ (by omega) h2 rfl, h3⟩
/-- The same, where what is turned is no cells. -/
theorem own_turned {base c : Nat} {A B : World} {row : Option Nat} {e : TypeId} {ad : Option Addr} {l : List Nat} (hs : Gw.Own A base e ad c l) (hg : A.grownBy B row) (hr : ∀ r, row = some r → ∃ o : Obj, A.heap[r]? = some o ∧ o.isCells = false) : Gw.Own B base e ad c l := by
  refine ⟨⟨hs.1.1, ?_⟩, hs.2⟩
  rcases hs.1.2 with h0 | ⟨k, cap, cur, hv, h1, h2, h3⟩
  · exact .inl h0
  · refine .inr ⟨k, cap, cur, hv, h1, ?_, h3⟩
    refine (hg.block k (Array.getElem?_eq_some_iff.1 h2).1 (fun e => ?_)).trans h2
    obtain ⟨o, h4, h5⟩ := hr k e.symm
    rw [h2] at h4
    injection h4 with h4
    subst h4
    cases h5

/-- A place, and the polynomial of all other roots. -/
structure Pc (xs : List Nat) where
  i : Nat
  hi : i < xs.length
  A : Option Addr
  c : Nat
  q : List Nat
  hq : ∃ r, DivOf (rt xs) [xs[i], 1] q r
abbrev cencs (xs : List Nat) (x : Pc xs) : Array Value := #[.int .i64 (x.i : Int), .slice x.A x.q.length x.c]
def PcRd (g : Nat) (xs : List Nat) (x : Pc xs) (W : World) : Prop := Gw.Own W (g + 1) 5 x.A x.c x.q
theorem PcRd.own (g : Nat) (xs : List Nat) (B : Nat) : OwnFrom B (PcRd g xs) := fun _ _ _ _ hs hg hr => own_turned hs hg (fun r e => (hr r e).2)

theorem ppieces_mk (bf : Nat) (A : Option Addr) (n c : Nat) (w : World) :
    Calls Try.prog 58 #[.pointer (some ⟨bf, 0, none⟩), .slice A n c] w fun e w' =>
      e = .returned (.func (.func 66) #[] #[.pointer (some ⟨w.heap.size, 0, none⟩), .pointer (some ⟨w.heap.size + 1, 0, none⟩)]) ∧
      w' = (w.alloc (.cells #[.pointer (some ⟨bf, 0, none⟩)] 38)).alloc (.cells #[.slice A n c] 28) := by
  go_enter Try.func58, Try.ntmps58
  go_wp2
  go_ret
  exact ⟨rfl, rfl⟩

def PpRel (xs : List Nat) (J : List (Pc xs) → World → Prop) (g : Nat) (W : World) (Aa : Option Addr) (ca : Nat) (i : Value) (wr : World) : Prop :=
  ∃ (k : Nat) (pre : List (Pc xs)), k ≤ xs.length ∧ i = .int .i64 (k : Int) ∧ pre.map Pc.i = List.range k ∧ J pre wr ∧ KeepC g W wr ∧ Gw.Own wr W.heap.size 5 Aa ca (rt xs)
set_option maxRecDepth 100000 in
set_option maxHeartbeats 1000000 in
theorem ppieces_stops (n : Nat) (hn : 1 ≤ n) (g bb bx bf B : Nat) (A : Option Addr) (c : Nat) (xs : List Nat) (hcm : xs.length ≤ 70368744177664) (w : World) (hg : g < w.heap.size)
    (h1 : w.cell? ⟨bb, 0, none⟩ = some (.pointer (some ⟨bf, 0, none⟩))) (h2 : w.cell? ⟨bx, 0, none⟩ = some (.slice A xs.length c)) (hF : IsField w bf) (hI : In w B A c xs) (hB : B ≤ g) (k1 : bb ≠ g) (k2 : bx ≠ g) (k3 : bf ≠ g) :
    Gq.SeqMem n Try.prog 66 #[.pointer (some ⟨bb, 0, none⟩), .pointer (some ⟨bx, 0, none⟩)] (cencs xs) (PcRd g xs) (KeepC g) (fun l => l.map Pc.i = List.range xs.length) xs.length w := fun l J W hW hJ hY h0 => by
  have q0 : KeepC g w W := KeepC.below hW
  have c1 := q0.cell h1 k1
  have c2 := q0.cell h2 k2
  have hFW := q0.field hF k3
  have hIW := q0.inn hI hB
  have hWs := hW.size
  have HR := Lib.hid (proots' bf A c xs.length xs W rfl hFW (hIW.more (by omega)) hcm)
  have hrl := (rt_top xs).1
  refine callsIn_of_wp Try.func66 rfl trivial ?_ rfl
  simp only [Try.ntmps66, List.size_toArray, List.length_cons, List.length_nil, Nat.reduceAdd, Nat.reduceSub, Array.replicate_succ, Array.replicate_zero, List.push_toArray, List.append_toArray, List.nil_append, List.cons_append]
  gi_wp2_with fail
  refine ⟨trivial, ?_⟩
  refine (callsIn_wide.2 HR.out).mono ?_
  rintro e W1 ⟨Aa, ca, rfl, hown1, hb1⟩
  have c3 := (KeepC.below (g := g) hb1).cell c2 k2
  have hJ1 := hJ [] W W1 h0 ⟨hb1.os, hb1.tape, hb1.output, hb1.size, fun k hk _ => hb1.block k hk⟩
  have HL := Lib.hid hrl
  clear hrl
  gi_wp2
  gi_loopw [15] (PpRel xs J g W Aa ca) (fun i _ => xs.length - (intOf i).toNat)
  case atStart => exact ⟨0, [], Nat.zero_le _, rfl, rfl, hJ1, KeepC.below hb1, hown1⟩
  case round =>
    obtain ⟨k, pre, hk, rfl, hpre, hJs, hq, hown⟩ := hrel
    have hps : pre.length = k := by have := congrArg List.length hpre; simpa using this
    by_cases hlt : k < xs.length
    · have d1 := hq.cell c1 k1
      have hFr := hq.field hFW k3
      obtain ⟨x, b, off, hx, hxb, rfl, hb, hcell⟩ := (hq.inn hIW hB).sl.at_ hlt
      have hxe : x = xs[k] := by rw [List.getElem?_eq_getElem hlt] at hx; injection hx with hx; exact hx.symm
      have HXE := Lib.hid hxe
      clear hxe hx
      have hqs := hq.size
      have HD := Lib.hid (pdiv' bf Aa (some ⟨wr.heap.size, 0, none⟩) ca 2 (rt xs).length 2 (rt xs) [x, 1] (wr.alloc (.cells #[.int .u8 (x : Int), .int .u8 1] 5)) rfl rfl (hFr.below ((Below.refl _ _).alloc (Nat.le_refl _) _) hFr.lt) (hown.alloc _).inn ⟨(Sl.two wr 5 x 1 hxb (by omega)).more (by simp), by simp, fun h => by cases h⟩ (by rw [tr_lin]; simp) (by rw [HL.out]; omega) (by simp))
      gi_wp2_with fail
      refine ⟨trivial, ?_⟩
      refine (callsIn_wide.2 HD.out).mono ?_
      rintro e w2 ⟨q, r, Aq, Ar, cq, cr, rfl, hdiv, hoq, hor, _, hb2⟩
      have hb3 : Below wr.heap.size wr w2 := ((Below.refl _ wr).alloc (Nat.le_refl _) _).trans (hb2.mono (by simp))
      have hJ2 := hJ pre wr w2 hJs ⟨hb3.os, hb3.tape, hb3.output, hb3.size, fun k hk _ => hb3.block k hk⟩
      have hdx : ∃ r, DivOf (rt xs) [xs[k], 1] q r := ⟨r, HXE.out ▸ hdiv⟩
      obtain ⟨fn, tmps, assign, body, hy, hR⟩ := hY pre ⟨k, hlt, Aq, cq, q, hdx⟩ w2 hJ2 (hoq.base (by simp; omega)) (by rw [hps]; exact hlt)
      have HK := Lib.hid (hq.trans (KeepC.below hb3))
      have HO := Lib.hid (hown.kept hb3)
      have HP := Lib.hid hpre
      clear hdiv hoq hor hb2 hb3 HD hown hq hpre hJs hJ2 hFr d1 hcell
      dsimp only [cencs] at hy
      gi_wp2_with fail
      refine hR.mono ?_
      rintro e W3 ⟨rfl, hJ3, hK3⟩
      have HK3 := Lib.hid (HK.out.trans hK3)
      have HO3 := Lib.hid (hK3.own HO.out (by omega))
      clear hK3
      gi_wp2
      go_roundw
      case rel => exact ⟨k + 1, pre ++ [⟨k, hlt, Aq, cq, q, hdx⟩], by omega, by go_num, by rw [List.map_append, HP.out, List.range_succ]; rfl, hJ3, HK3.out, HO3.out⟩
      case measure => simp [intOf]; omega
    · obtain rfl : k = xs.length := by omega
      gi_wp2
      go_end0
      exact ⟨⟨_, rfl⟩, pre, hpre, hJs⟩
end Go.Proofs.Ytaknffdokkfmgaa
end
section
/- Parts of a row of bytes that is read, as s[k:], s[k:h] and s[:h] name them. -/
namespace Go.Proofs.Ytaknffdokkfmgaa
open Go.RowKit Go.Shelf Gw Pol
theorem sliced_in {w : World} {B : Nat} {A : Option Addr} {c k h : Nat} {l : List Nat} (hI : In w B A c l) (hk : k ≤ h) (hh : h ≤ l.length) :
    ∃ AT, sliced A k h c 1 = .slice AT (h - k) (c - k) ∧ In w B AT (c - k) ((l.take h).drop k) := by
  have hcap := hI.cap
  refine ⟨_, rfl, ?_, by rw [List.length_drop, List.length_take]; omega, fun hn => ?_⟩
  · intro i x hx
    have hi := (List.getElem?_eq_some_iff.1 hx).1
    rw [List.length_drop, List.length_take] at hi
    rw [List.getElem?_drop, List.getElem?_take, if_pos (by omega)] at hx
    obtain ⟨h1, b, off, h2, h3, h4⟩ := hI.sl _ x hx
    subst h2
    rw [if_neg (by omega)]
    exact ⟨h1, b, off + k, by rw [Option.map_some, Nat.mul_one, addr_add], h3, by rw [Nat.add_assoc]; exact h4⟩
  · by_cases hck : c = k
    · omega
    · rw [if_neg hck] at hn
      cases A with
      | none => have := hI.none_ rfl; omega
      | some a => cases hn
theorem slice_elem : Try.prog.underlying 28 = some (.slice (Try.prog.elem 28)) := by kernel_rfl
theorem slice_one (w : World) : (Go.sizeOf (Try.prog.elem 28)).run Try.prog w = .ok 1 w := by kernel_rfl
/-- s[k:]. -/
theorem slice_l_any {w : World} {B : Nat} {A : Option Addr} {c n k : Nat} {l : List Nat} (hI : In w B A c l) (hn : n = l.length) (hk : k ≤ n) :
    ∃ AT cT, (∀ w', (Instr.sliceAt 28 (.slice A n c) (some (.int .i64 (k : Int))) none none).run Try.prog w' = .ok (.slice AT (n - k) cT) w') ∧ In w B AT cT (l.drop k) := by
  subst hn
  obtain ⟨AT, h1, h2⟩ := sliced_in hI hk (Nat.le_refl _)
  rw [List.take_length] at h2
  refine ⟨AT, c - k, fun w' => ?_, h2⟩
  rw [run_sliceAt_slice w' _ _ _ _ _ slice_elem, run_slice_l w' _ A l.length c slice_elem .i64 (k : Int) (by omega) (by omega), slice_one, Result.andThen_ok, Int.toNat_natCast, h1]
/-- s[k:h]. -/
theorem slice_lh_any {w : World} {B : Nat} {A : Option Addr} {c n k h : Nat} {l : List Nat} (hI : In w B A c l) (hn : n = l.length) (hk : k ≤ h) (hh : h ≤ n) :
    ∃ AT cT, (∀ w', (Instr.sliceAt 28 (.slice A n c) (some (.int .i64 (k : Int))) (some (.int .i64 (h : Int))) none).run Try.prog w' = .ok (.slice AT (h - k) cT) w') ∧ In w B AT cT ((l.take h).drop k) := by
  subst hn
  have hcap := hI.cap
  obtain ⟨AT, h1, h2⟩ := sliced_in hI hk hh
  refine ⟨AT, c - k, fun w' => ?_, h2⟩
  rw [run_sliceAt_slice w' _ _ _ _ _ slice_elem, run_slice_lh w' _ A l.length c slice_elem .i64 .i64 (k : Int) (h : Int) (by omega) (by omega) (by omega), slice_one, Result.andThen_ok, Int.toNat_natCast, Int.toNat_natCast, h1]
/-- s[:h]. -/
theorem slice_h_any {w : World} {B : Nat} {A : Option Addr} {c n h : Nat} {l : List Nat} (hI : In w B A c l) (hn : n = l.length) (hh : h ≤ n) :
    ∃ AT cT, (∀ w', (Instr.sliceAt 28 (.slice A n c) none (some (.int .i64 (h : Int))) none).run Try.prog w' = .ok (.slice AT h cT) w') ∧ In w B AT cT (l.take h) := by
  subst hn
  have hcap := hI.cap
  obtain ⟨AT, h1, h2⟩ := sliced_in hI (Nat.zero_le _) hh
  rw [List.drop_zero] at h2
  rw [Nat.sub_zero] at h1 h2
  refine ⟨AT, c, fun w' => ?_, h2⟩
  rw [run_sliceAt_slice w' _ _ _ _ _ slice_elem, run_slice_h w' _ A l.length c slice_elem .i64 (h : Int) (by omega) (by omega), slice_one, Result.andThen_ok, Int.toNat_natCast, h1]
  rfl
end Go.Proofs.Ytaknffdokkfmgaa
end
