/- The blocks of a slot's disk, one by one; what a round over them keeps. -/
import Derived.Test.YtijbpafmokbnaaaSko
import Derived.Test.YtijbpafmokbnaaaSkq
import Derived.Test.YtijbpafmokbnaaaCpw
import Derived.RegionIn
import Derived.BigRegionIn
namespace Go.Proofs.Ytijbpafmokbnaaa
open Go.RowKit Go.Shelf Gw Pol Gq
attribute [local go_sem] Oper.semAt_some
theorem zocell {w : World} {b o : Nat} {v : Value} (h : w.cell? ⟨b, o, none⟩ = some v) (ob : Obj) : (w.alloc ob).cell? ⟨b, o, none⟩ = some v := (World.cell?_alloc_lt w ob ⟨b, o, none⟩ (cell_lt h)).trans h
theorem zncell (w : World) (v : Value) (t : TypeId) (b : Nat) (h : b = w.heap.size) : (w.alloc (.cells #[v] t)).cell? ⟨b, 0, none⟩ = some v := by
  subst h; exact World.cell?_alloc_new w #[v] t 0
/-- What is kept between two blocks: three boxes, and that there is a slot. -/
structure KpB (q a p g r : Nat) (W W' : World) : Prop where
  size : W.heap.size ≤ W'.heap.size
  box : ∀ k, k = q ∨ k = q + 1 ∨ k = q + 2 → W'.heap[k]? = W.heap[k]?
  slot : ∀ L s, Sz W a p g r L s → ∃ L' s', Sz W' a p g r L' s'
section
variable {q a p g r : Nat} {A B C : World}
theorem KpB.trans (h : KpB q a p g r A B) (k : KpB q a p g r B C) : KpB q a p g r A C :=
  ⟨Nat.le_trans h.size k.size, fun i hi => (k.box i hi).trans (h.box i hi), fun L s hs => by
    obtain ⟨L', s', h'⟩ := h.slot L s hs
    exact k.slot L' s' h'⟩
theorem KpB.below {n : Nat} (h : Below n A B) (hn : A.heap.size ≤ n) (hq : q + 2 < A.heap.size) : KpB q a p g r A B :=
  ⟨h.size, fun k hk => h.block k (by omega), fun L s hs => ⟨L, s, hs.below h hn⟩⟩
theorem KpB.put {W : World} {l : Nat} {o' : Obj} (hl : q + 2 < l ∧ a < l ∧ p < l ∧ g < l) : KpB q a p g r W (W.putObj l o') :=
  ⟨by simp, fun k hk => World.putObj_heap_other (by omega), fun L s hs => ⟨L, s, hs.grown (grownBy_putObj' W l o') (fun k e => by injection e with e; omega)⟩⟩
theorem KpB.cell (h : KpB q a p g r A B) {k : Nat} {v : Value} (hk : k = q ∨ k = q + 1 ∨ k = q + 2) (hv : A.cell? ⟨k, 0, none⟩ = some v) : B.cell? ⟨k, 0, none⟩ = some v :=
  (World.cell?_of_block (w := A) (a := ⟨k, 0, none⟩) (h.box k hk)).trans hv
/-- A disk that was turned. -/
theorem KpB.disk {L' : List Nat} {s' : Pw} (h : K2 A B p g) (hq : q + 2 < A.heap.size) (hqp : q + 2 < p ∨ p < q) (hqg : q + 2 < g ∨ g < q) (hs : Sz B a p g r L' s') : KpB q a p g r A B :=
  ⟨h.size, fun k hk => h.block k (by omega) (by omega) (by omega), fun _ _ _ => ⟨L', s', hs⟩⟩
end
theorem zblocks_mk (a f c : Nat) (w : World) :
    Calls Try.prog 33 #[.pointer (some ⟨a, 0, none⟩), .int .i64 (f : Int), .int .i64 (c : Int)] w fun e w' =>
      e = .returned (.func (.func 42) #[] #[.pointer (some ⟨w.heap.size + 1, 0, none⟩), .pointer (some ⟨w.heap.size + 2, 0, none⟩), .pointer (some ⟨w.heap.size, 0, none⟩)]) ∧
      w' = ((w.alloc (.cells #[.pointer (some ⟨a, 0, none⟩)] 23)).alloc (.cells #[.int .i64 (f : Int)] 3)).alloc (.cells #[.int .i64 (c : Int)] 3) := by
  go_enter Try.func33, Try.ntmps33
  go_wp2
  go_ret
  exact ⟨rfl, rfl⟩
/-- A block, and its number. -/
abbrev zencs (x : Nat × List Nat) : Array Value := #[.int .i64 (x.1 : Int), .agg (bys x.2).toArray]
def ZRd (a p g r f c : Nat) (pre : List (Nat × List Nat)) (x : Nat × List Nat) (W : World) : Prop :=
  x.1 = f + pre.length ∧ pre.length < c ∧ x.2.length = 32 ∧ ∃ L s, Sz W a p g r L s ∧ x.2 = piece L x.1
theorem ZRd.own (a p g r f c B : Nat) (hB : a < B ∧ p < B ∧ g < B) (pre : List (Nat × List Nat)) : OwnFrom B (ZRd a p g r f c pre) := by
  rintro x A D row ⟨h1, h2, h3, L, s, h4, h5⟩ hg hr
  exact ⟨h1, h2, h3, L, s, h4.grown hg (fun k e => by have := (hr k e).1; omega), h5⟩
def BlRel (J : List (Nat × List Nat) → World → Prop) (q a p g r f c : Nat) (W : World) (i : Value) (wr : World) : Prop :=
  ∃ (n : Nat) (pre : List (Nat × List Nat)) (L : List Nat) (s : Pw), i = .int .i64 (n : Int) ∧ n = f + pre.length ∧ pre.length ≤ c ∧ J pre wr ∧ KpB q a p g r W wr ∧ Sz wr a p g r L s
theorem laid_whole {b : List Nat} (h : b.length = 32) : laid z32 0 b = b := by
  unfold laid
  rw [List.take_zero, List.nil_append, List.drop_of_length_le (by show 32 ≤ _; omega), List.append_nil]
set_option maxRecDepth 100000 in
set_option maxHeartbeats 2000000 in
/-- The blocks come one by one. -/
theorem zblocks_seq (m : Nat) (hm : 1 ≤ m) (q a p g r f c : Nat) (L : List Nat) (s : Pw) (w : World) (h : Sz w a p g r L s) (hfc : f + c ≤ 1 + 2 * r) (h0 : w.cell? ⟨q, 0, none⟩ = some (.pointer (some ⟨a, 0, none⟩)))
    (h1 : w.cell? ⟨q + 1, 0, none⟩ = some (.int .i64 (f : Int))) (h2 : w.cell? ⟨q + 2, 0, none⟩ = some (.int .i64 (c : Int))) :
    SeqMemR m Try.prog 42 #[.pointer (some ⟨q + 1, 0, none⟩), .pointer (some ⟨q + 2, 0, none⟩), .pointer (some ⟨q, 0, none⟩)] zencs (ZRd a p g r f c) (KpB q a p g r) (fun xs => xs.length = c) w := fun l J Jx W hW hJ hY hJ0 => by
  have hq2 : q + 2 < w.heap.size := cell_lt h2
  have q0 : KpB q a p g r w W := KpB.below hW (Nat.le_refl _) hq2
  have c0 := q0.cell (.inl rfl) h0
  have c1 := q0.cell (.inr (.inl rfl)) h1
  have c2 := q0.cell (.inr (.inr rfl)) h2
  have hSW : Sz W a p g r L s := h.below hW (Nat.le_refl _)
  have hr := h.few
  have HC0 := Lib.hid c0
  have HC2 := Lib.hid c2
  have HC1 := Lib.hid c1
  have hWs : q + 2 < W.heap.size := Nat.lt_of_lt_of_le hq2 hW.size
  have hzz := zero_blk
  clear h h0 h1 h2 hq2 q0
  refine callsIn_of_wp Try.func42 rfl trivial ?_ rfl
  simp only [Try.ntmps42, List.size_toArray, List.length_cons, List.length_nil, Nat.reduceAdd, Nat.reduceSub, Array.replicate_succ, Array.replicate_zero, List.push_toArray, List.append_toArray, List.nil_append, List.cons_append]
  gi_wp2
  gi_loopw [5] (BlRel J q a p g r f c W) (fun i _ => f + c - (intOf i).toNat)
  case atStart => exact ⟨f, [], L, s, rfl, rfl, Nat.zero_le _, hJ0, ⟨Nat.le_refl _, fun _ _ => rfl, fun L s h => ⟨L, s, h⟩⟩, hSW⟩
  case round =>
    obtain ⟨n, pre, L', s', rfl, hn, hpc, hJs, hK, hS⟩ := hrel
    clear hSW c0 c1 c2
    have e0 := hK.cell (.inl rfl) HC0.out
    have e1 := hK.cell (.inr (.inl rfl)) HC1.out
    have e2 := hK.cell (.inr (.inr rfl)) HC2.out
    by_cases hlt : pre.length < c
    · have hni : (n : Int) < (f : Int) + (c : Int) := by omega
      have hb1 : Below wr.heap.size wr (wr.alloc (.cells (bys z32).toArray 58)) := (Below.refl _ _).alloc (Nat.le_refl _) _
      have hS1 := hS.below hb1 (Nat.le_refl _)
      have g0 := zocell e0 (.cells (bys z32).toArray 58)
      have ca := hS1.cell
      have HR := Lib.hid (dz_read p g (1 + 2 * r) L' s' n _ hS1.dz (by omega))
      have hpl : (piece L' n).length = 32 := piece_len hS.dz.len (by omega)
      have hpb : BB (piece L' n) := (hS.dz.bb.drop _).take _
      have hB1 : Bk (wr.alloc (.cells (bys z32).toArray 58)) wr.heap.size 58 z32 := Bk.new wr _ _ rfl
      have hws := hK.size
      have hlt4 := hS.lt
      have HS := Lib.hid hS
      have HK := Lib.hid hK
      have HB1 := Lib.hid hB1
      have HBL := Lib.hid hb1
      have HJS := Lib.hid hJs
      have HPL := Lib.hid hpl
      have HPB := Lib.hid hpb
      have HN := Lib.hid hn
      have HWS := Lib.hid hws
      have HLT := Lib.hid hlt4
      clear hS hS1 hK hB1 hJs hb1 hpl hpb hn hws hlt4
      gi_wp2_with fail
      refine ⟨trivial, ?_⟩
      refine (callsIn_wide.2 HR.out).mono ?_
      rintro e w2 ⟨b, rfl, hbk, hb, hb2⟩
      have hk2 : Bk w2 wr.heap.size 58 z32 := HB1.out.keep (hb2.block _ HB1.out.lt)
      have hsl : Sl w2 w2.heap.size (some ⟨b, 0, none⟩) (piece L' n) := by
        have := hbk.sl HPB.out 0 32
        rwa [List.drop_zero, List.take_of_length_le (by rw [HPL.out]; omega)] at this
      obtain ⟨w3, hcp, hk3, hg3⟩ := run_copyK (P := Try.prog) 28 3 5 Try.underlying28 (by kernel_rfl) wr.heap.size 0 32 32 32 32 hsl hk2 HPL.out.symm (Nat.le_refl _) (by show 0 + 32 ≤ 32; omega)
      rw [laid_whole HPL.out] at hk3
      have hrng := hk3.range 0 32
      rw [List.drop_zero, List.take_of_length_le (by rw [HPL.out]; omega)] at hrng
      have HRNG := Lib.hid hrng
      have HLN := Lib.hid (show (Try.prog.info? 58).map (·.size) = some (bys (piece L' n)).length by rw [bys_len, HPL.out]; exact blk_info)
      clear hrng
      have hs1 : (wr.alloc (.cells (bys z32).toArray 58)).heap.size = wr.heap.size + 1 := by simp
      have h12 : Below wr.heap.size wr w2 := HBL.out.trans (hb2.mono (by omega))
      have hbw : Below wr.heap.size wr w3 := ⟨hg3.os.trans h12.os, hg3.tape.trans h12.tape, hg3.output.trans h12.output, Nat.le_trans h12.size hg3.size, fun k hk => (hg3.block k (Nat.lt_of_lt_of_le hk h12.size) (fun e => by injection e; omega)).trans (h12.block k hk)⟩
      have hS3 := HS.out.below hbw (Nat.le_refl _)
      have hK3 := HK.out.trans (KpB.below hbw (Nat.le_refl _) (Nat.lt_of_lt_of_le hWs HWS.out))
      have hJ3 := hJ pre wr w3 HJS.out ⟨hbw.os, hbw.tape, hbw.output, hbw.size, fun k hk _ => hbw.block k hk⟩
      obtain ⟨fn, tmps, assign, body, hyy, hRd⟩ := hY pre (n, piece L' n) w3 hJ3 ⟨HN.out, hlt, HPL.out, L', s', hS3, rfl⟩
      dsimp only [zencs] at hyy
      have HS3 := Lib.hid hS3
      have HK3 := Lib.hid hK3
      clear hS3 hK3 hJ3 hbw h12 hs1 hk3 hg3 hsl hk2 hbk hb2 ca g0 e0 e1 e2
      gi_wp2_with (first | (refine wpListIn_load_mid rfl 58 (.tmp 6) rfl wr.heap.size 0 rfl (bys (piece L' n)) _ HRNG.out Try.underlying58 rfl HLN.out ?_) | fail)
      refine hRd.mono ?_
      rintro e w4 (⟨rfl, hJ4, hK4⟩ | ⟨rfl, hJx⟩)
      · obtain ⟨L4, s4, hS4⟩ := hK4.slot L' s' HS3.out
        have HK4 := Lib.hid (HK3.out.trans hK4)
        have HS4 := Lib.hid hS4
        have HJ4 := Lib.hid hJ4
        clear hJ4 hK4 hS4 hyy hcp
        gi_wp2
        go_roundw
        case rel => exact ⟨n + 1, pre ++ [(n, piece L' n)], L4, s4, by go_num, by rw [List.length_append, HN.out]; rfl, by rw [List.length_append]; exact hlt, HJ4.out, HK4.out, HS4.out⟩
        case measure => have := HN.out; simp [intOf]; omega
      · clear hyy hcp
        gi_wp2
        first
          | go_end0
          | refine bodyPost_ret (results_none rfl _ _ _) rfl ?_
        exact ⟨⟨_, rfl⟩, .inr ⟨_, hJx⟩⟩
    · have hni : ¬ (n : Int) < (f : Int) + (c : Int) := by omega
      gi_wp2
      go_end0
      exact ⟨⟨_, rfl⟩, .inl ⟨pre, by omega, hJs⟩⟩
end Go.Proofs.Ytijbpafmokbnaaa
