/- Bytes in blocks, one by one, as the program's slot writes them. -/
import Derived.Test.YtijbpafmokbnaaaSku
namespace Gw
open Go Go.RowKit Go.Shelf Pol
/-- 'copy' into a block, of as many bytes as there is room for. -/
theorem run_copyM {P : Program} {w : World} (ta ty e : TypeId) (hu : P.underlying ta = some (.slice e)) (hs : (P.info? e).map (·.size) = some 1) (g o dl dc m c : Nat) {A : Option Addr} {B : Nat} {t : TypeId} {L b : List Nat} (hp : Sl w B A b) (hg : Bk w g t L) (hm : m = b.length) (hfit : o + dl ≤ L.length) :
    ∃ w2, (Builtin.copy_ #[ta, ta] ty #[.slice (some ⟨g, o, none⟩) dl dc, .slice A m c]).run P w = .ok (.int .i64 (min m dl : Nat)) w2 ∧ Bk w2 g t (laid L o (b.take dl)) ∧ w.grownBy w2 (some g) := by
  subst hm
  have hpl : (b.take dl).length = min b.length dl := by rw [List.length_take]; omega
  by_cases h0 : min b.length dl = 0
  · have hr := run_copy_none (P := P) w ta ta ty e (some ⟨g, o, none⟩) A dl dc b.length c hu hs h0
    refine ⟨_, hr.trans (by rw [h0]; rfl), ?_, World.grownBy.refl _ _⟩
    rw [h0] at hpl
    rw [List.eq_nil_of_length_eq_zero hpl]
    have : laid L o [] = L := by unfold laid; simp
    rw [this]; exact hg
  · obtain ⟨x, b', off, hx, _, rfl, hb, _⟩ := hp.at_ (k := 0) (by omega)
    have hr := run_copy_row (P := P) w ta ta ty e g o dl dc ⟨b', off, none⟩ b.length c _ t (bys (b.take dl)) hu hs hg (by rw [bys_len, hpl]) (fun j v hj => by
      obtain ⟨y, hy, rfl⟩ := bys_get hj
      have hy' : b[j]? = some y := by
        have hjl := (List.getElem?_eq_some_iff.1 hy).1
        rw [List.getElem?_take, if_pos (by omega)] at hy
        exact hy
      obtain ⟨_, b', off', e', hb', hc'⟩ := hp j y hy'
      injection e' with e'
      injection e' with e1 e2
      subst e1 e2
      rw [addr_add]
      exact hc') (by simp [bys_len]; omega) (bys_one _)
    rw [bys_len, hpl] at hr
    refine ⟨_, hr, ?_, ⟨rfl, rfl, rfl, by simp, fun k _ hk => setRow_other w g k _ (fun e => hk (by rw [e]))⟩⟩
    unfold Bk
    rw [setRow_heap _ _ _ _ _ _ hg]
    have e1 : (bys L).take o ++ bys (b.take dl) ++ (bys L).drop (o + min b.length dl) = bys (laid L o (b.take dl)) := by
      unfold laid
      rw [bys_app, bys_app, List.append_assoc, hpl]
      unfold bys
      simp only [List.map_take, List.map_drop]
    rw [← e1]
end Gw
namespace Go.Proofs.Ytijbpafmokbnaaa
open Go.RowKit Go.Shelf Gw Pol Gq
attribute [local go_sem] Oper.semAt_some
/-- Blocks of cells stand, but two. -/
structure KpP (p g : Nat) (W W' : World) : Prop where
  size : W.heap.size ≤ W'.heap.size
  same : ∀ k cs e z, k ≠ p → k ≠ g → W.heap[k]? = some (.cells cs e z) → W'.heap[k]? = some (.cells cs e z)
section
variable {p g : Nat} {A B C : World}
theorem KpP.refl (p g : Nat) (W : World) : KpP p g W W := ⟨Nat.le_refl _, fun _ _ _ _ _ _ h => h⟩
theorem KpP.trans (h : KpP p g A B) (k : KpP p g B C) : KpP p g A C := ⟨Nat.le_trans h.size k.size, fun i cs e z h1 h2 h3 => k.same i cs e z h1 h2 (h.same i cs e z h1 h2 h3)⟩
theorem KpP.below {n : Nat} (h : Below n A B) (hn : A.heap.size ≤ n) : KpP p g A B := ⟨h.size, fun k _ _ _ _ _ h3 => (h.block k (by have := (Array.getElem?_eq_some_iff.1 h3).1; omega)).trans h3⟩
theorem KpP.put {W : World} {l : Nat} {o o' : Obj} (h : W.heap[l]? = some o) (hc : o.isCells = false) : KpP p g W (W.putObj l o') := ⟨by simp, fun b cs e z _ _ h2 => by
  by_cases e' : b = l
  · subst e'; rw [h] at h2; injection h2 with h2; subst h2; cases hc
  · exact (World.putObj_heap_other e').trans h2⟩
theorem KpP.disk (h : K2 A B p g) : KpP p g A B := ⟨h.size, fun k _ _ _ h1 h2 h3 => (h.block k (Array.getElem?_eq_some_iff.1 h3).1 h1 h2).trans h3⟩
theorem KpP.cell (h : KpP p g A B) {b o : Nat} {v : Value} (h1 : b ≠ p) (h2 : b ≠ g) (hv : A.cell? ⟨b, o, none⟩ = some v) : B.cell? ⟨b, o, none⟩ = some v := by
  obtain ⟨ob, h3, h4⟩ := cells_of_cell hv
  cases ob with
  | cells cs e z => exact (World.cell?_of_block (w := A) (a := ⟨b, o, none⟩) ((h.same b cs e z h1 h2 h3).trans h3.symm)).trans hv
  | _ => cases h4
theorem KpP.inn (h : KpP p g A B) {n c : Nat} {ad : Option Addr} {l : List Nat} (hs : In A n ad c l) (hA : ∀ o, l ≠ [] → ad ≠ some ⟨p, o, none⟩ ∧ ad ≠ some ⟨g, o, none⟩) : In B n ad c l :=
  ⟨fun i x hx => by
    obtain ⟨h1, b, off, h2, h3, h4⟩ := hs.sl i x hx
    have hne : l ≠ [] := fun e => by rw [e] at hx; cases hx
    have hA2 := hA off hne
    exact ⟨h1, b, off, h2, h3, h.cell (fun e => hA2.1 (by rw [h2, e])) (fun e => hA2.2 (by rw [h2, e])) h4⟩, hs.cap, hs.none_⟩
end
theorem zpieces_mk (A : Option Addr) (n c : Nat) (w : World) :
    Calls Try.prog 41 #[.slice A n c] w fun e w' => e = .returned (.func (.func 43) #[] #[.pointer (some ⟨w.heap.size, 0, none⟩)]) ∧ w' = w.alloc (.cells #[.slice A n c] 28) := by
  go_enter Try.func41, Try.ntmps41
  go_wp2
  go_ret
  exact ⟨rfl, rfl⟩
/-- A part of b, and its number. -/
abbrev pencs (b : List Nat) (i : Nat) : Array Value := #[.int .i64 (i : Int), .agg (bys (blk b i)).toArray]
def PRd (n : Nat) (pre : List Nat) (i : Nat) (_ : World) : Prop := i = pre.length ∧ i < tk n
def PcRel (J : List Nat → World → Prop) (p g t : Nat) (W : World) (i : Value) (wr : World) : Prop :=
  ∃ pre : List Nat, i = .int .i64 (pre.length : Int) ∧ pre.length ≤ t ∧ J pre wr ∧ KpP p g W wr
set_option maxRecDepth 100000 in
set_option maxHeartbeats 2000000 in
/-- The parts come one by one. -/
theorem zpieces_seq (m : Nat) (hm : 1 ≤ m) (q p g n c B : Nat) (A : Option Addr) (b : List Nat) (w : World) (hn : n = b.length) (hn2 : n ≤ 16384) (hI : In w B A c b) (hA : ∀ o, b ≠ [] → A ≠ some ⟨p, o, none⟩ ∧ A ≠ some ⟨g, o, none⟩)
    (h0 : w.cell? ⟨q, 0, none⟩ = some (.slice A n c)) (hq1 : q ≠ p) (hq2 : q ≠ g) (hp : p < w.heap.size) (hg : g < w.heap.size) :
    SeqMemR m Try.prog 43 #[.pointer (some ⟨q, 0, none⟩)] (pencs b) (PRd n) (KpP p g) (fun xs => xs.length = tk n) w := fun l J Jx W hW hJ hY hJ0 => by
  have q0 : KpP p g w W := KpP.below hW (Nat.le_refl _)
  have c0 := q0.cell hq1 hq2 h0
  have hIW := q0.inn hI hA
  have hpW := Nat.lt_of_lt_of_le hp hW.size
  have hgW := Nat.lt_of_lt_of_le hg hW.size
  have HT := Lib.hid (ztakes_any n (by omega) W)
  obtain ⟨t, ht⟩ : ∃ t, t = tk n := ⟨_, rfl⟩
  rw [← ht] at HT
  have HTT := Lib.hid ht
  have htl : t * 32 < n + 32 := by rw [ht]; unfold tk; omega
  have HC0 := Lib.hid c0
  have HN := Lib.hid hn
  have HIW := Lib.hid hIW
  have hzz := zero_blk
  clear ht hn hI hIW h0 q0 hp hg
  refine callsIn_of_wp Try.func43 rfl trivial ?_ rfl
  simp only [Try.ntmps43, List.size_toArray, List.length_cons, List.length_nil, Nat.reduceAdd, Nat.reduceSub, Array.replicate_succ, Array.replicate_zero, List.push_toArray, List.append_toArray, List.nil_append, List.cons_append]
  gi_wp2_with fail
  refine ⟨trivial, ?_⟩
  refine (callsIn_wide.2 HT.out).mono ?_
  rintro e W ⟨rfl, rfl⟩
  gi_wp2
  gi_loopw [8] (PcRel J p g t W) (fun i _ => t - (intOf i).toNat)
  case atStart => exact ⟨[], rfl, Nat.zero_le _, hJ0, KpP.refl _ _ _⟩
  case round =>
    obtain ⟨pre, rfl, hpc, hJs, hK⟩ := hrel
    clear c0
    obtain ⟨i, hi⟩ : ∃ i, i = pre.length := ⟨_, rfl⟩
    rw [← hi] at hpc ⊢
    have HI := Lib.hid hi
    clear hi
    by_cases hlt : i < t
    · have hit : (i : Int) < (t : Int) := by omega
      have hin : i * 32 < n := by omega
      have e0 := hK.cell hq1 hq2 HC0.out
      have hIr := hK.inn HIW.out hA
      obtain ⟨x, bb, off, _, _, hAe, _, _⟩ := hIr.sl.at_ (k := 0) (by rw [← HN.out]; omega)
      have hcap := hIr.cap
      rw [← HN.out] at hcap
      have hb1 : Below wr.heap.size wr (wr.alloc (.cells (bys z32).toArray 58)).drew := ((Below.refl _ _).alloc (Nat.le_refl _) _).drew
      have hB1 : Bk (wr.alloc (.cells (bys z32).toArray 58)).drew wr.heap.size 58 z32 := Bk.new wr _ _ rfl
      have g0 := zocell e0 (.cells (bys z32).toArray 58)
      have hsl : Sl (wr.alloc (.cells (bys z32).toArray 58)).drew B (some ⟨bb, off + i * 32, none⟩) (b.drop (i * 32)) := by
        have h1 := ((KpP.below (p := p) (g := g) hb1 (Nat.le_refl _)).inn hIr hA).sl.drop (i * 32)
        rw [hAe] at h1
        exact h1
      subst hAe
      obtain ⟨w3, hcp, hk3, hg3⟩ := run_copyM (P := Try.prog) 28 3 5 Try.underlying28 (by kernel_rfl) wr.heap.size 0 32 32 (n - i * 32) (c - i * 32) hsl hB1 (by rw [List.length_drop, HN.out]) (by show 0 + 32 ≤ 32; omega)
      rw [blk_laid] at hk3
      have hrng := hk3.range 0 32
      rw [List.drop_zero, List.take_of_length_le (by rw [blk_len]; omega)] at hrng
      have HRNG := Lib.hid hrng
      have HLN := Lib.hid (show (Try.prog.info? 58).map (·.size) = some (bys (blk b i)).length by rw [bys_len, blk_len]; exact blk_info)
      have hbw : Below wr.heap.size wr w3 := ⟨hg3.os.trans hb1.os, hg3.tape.trans hb1.tape, hg3.output.trans hb1.output, Nat.le_trans hb1.size hg3.size, fun k hk => (hg3.block k (Nat.lt_of_lt_of_le hk hb1.size) (fun e => by injection e; omega)).trans (hb1.block k hk)⟩
      have hJ3 := hJ pre wr w3 hJs ⟨hbw.os, hbw.tape, hbw.output, hbw.size, fun k hk _ => hbw.block k hk⟩
      obtain ⟨fn, tmps, assign, body, hyy, hRd⟩ := hY pre i w3 hJ3 ⟨HI.out, by rw [← HTT.out]; exact hlt⟩
      dsimp only [pencs] at hyy
      have HK3 := Lib.hid (hK.trans (KpP.below hbw (Nat.le_refl _)))
      have hic : i * 32 ≤ c := by omega
      obtain ⟨o, ho⟩ : ∃ o, o = i * 32 := ⟨_, rfl⟩
      have hoi : IntKind.i64.wrap ((i : Int) * 32) = (o : Int) := by rw [IntKind.wrap_i64]; omega
      rw [← ho] at hcp hin hic
      clear ho hsl hk3 hg3 hrng hbw hJ3 hK hIr hJs hB1 hb1 e0
      gi_wp2
      gi_region
      gi_wp2_with (first | (refine wpListIn_load_mid rfl 58 (.tmp 4) rfl wr.heap.size 0 rfl (bys (blk b i)) _ HRNG.out Try.underlying58 rfl HLN.out ?_) | fail)
      refine hRd.mono ?_
      rintro e w4 (⟨rfl, hJ4, hK4⟩ | ⟨rfl, hJx⟩)
      · have HK4 := Lib.hid (HK3.out.trans hK4)
        have HJ4 := Lib.hid hJ4
        clear hJ4 hK4 hyy hcp g0
        gi_wp2
        go_roundw
        case rel =>
          have hl : (pre ++ [i]).length = i + 1 := by rw [List.length_append, ← HI.out]; rfl
          exact ⟨pre ++ [i], by rw [hl]; go_num, by rw [hl]; exact hlt, HJ4.out, HK4.out⟩
        case measure => simp [intOf]; omega
      · clear hyy hcp g0
        gi_wp2
        first
          | go_end0
          | refine bodyPost_ret (results_none rfl _ _ _) rfl ?_
        exact ⟨⟨_, rfl⟩, .inr ⟨_, hJx⟩⟩
    · have hit : ¬ (i : Int) < (t : Int) := by omega
      gi_wp2
      go_end0
      exact ⟨⟨_, rfl⟩, .inl ⟨pre, by rw [← HTT.out, ← HI.out]; omega, hJs⟩⟩
end Go.Proofs.Ytijbpafmokbnaaa
