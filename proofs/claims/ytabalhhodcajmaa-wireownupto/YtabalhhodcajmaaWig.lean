/- What word's Reader hands out, with the block in which it lies; and wire's reader: count, text and list. -/
import Derived.BigQuiet
import Derived.Test.YtabalhhodcajmaaWib
import Derived.Test.YtabalhhodcajmaaWdc
import Derived.Test.YtabalhhodcajmaaWde
namespace Gw
open Go Go.RowKit Go.Shelf Pol
/-- Bytes that lie in block g, which is not p. -/
def SlG (w : World) (p g : Nat) (A : Option Addr) (l : List Nat) : Prop := SlA w p p A l ∧ (l ≠ [] → ∃ off, A = some ⟨g, off, none⟩)
/-- A reader of messages at q: its words at p, their bytes in block g, t bytes in all; all of it lies from base on. -/
structure Rds (base : Nat) (w : World) (p q g t : Nat) (s : St) : Prop where
  bx : Bx w p g s.l s.bad
  gq : g ≠ q
  gb : base ≤ g
  c0 : w.cell? ⟨q, 0, none⟩ = some (.pointer (some ⟨p, 0, none⟩))
  c1 : w.cell? ⟨q, 1, none⟩ = some (.int .i64 (t : Int))
  c2 : w.cell? ⟨q, 2, none⟩ = some (.bool s.am)
  fr : ∀ k, w.frozen? ⟨q, k, none⟩ = false
  ne : p ≠ q
  lo : base ≤ p ∧ base ≤ q
theorem Rds.bb {base : Nat} {w : World} {p q g t : Nat} {s : St} (h : Rds base w p q g t s) : BB s.l := h.bx.bb
theorem Rds.inner {base : Nat} {w w' : World} {p q g t g' : Nat} {s s' : St} (h : Rds base w p q g t s) (hb : Bx w' p g' s'.l s'.bad) (hk : K2 w w' p p) (ha : s'.am = s.am) (hg : g' = g ∨ g' = p) : Rds base w' p q g' t s' := by
  have hq := cell_lt h.c0
  have e := hk.block q hq (Ne.symm h.ne) (Ne.symm h.ne)
  refine ⟨hb, ?_, ?_, (cell_heap e).trans h.c0, (cell_heap e).trans h.c1, (cell_heap e).trans (by rw [h.c2, ha]), fun k => (frozen_heap e).trans (h.fr k), h.ne, h.lo⟩
  · rcases hg with rfl | rfl
    · exact h.gq
    · exact h.ne
  · rcases hg with rfl | rfl
    · exact h.gb
    · exact h.lo.1
/-- Something else has turned. -/
theorem Rds.keep {base : Nat} {w w' : World} {p q g t : Nat} {s : St} (h : Rds base w p q g t s) (hp : w'.heap[p]? = w.heap[p]?) (hg : w'.heap[g]? = w.heap[g]?) (hq : w'.heap[q]? = w.heap[q]?) (hs : w.heap.size ≤ w'.heap.size) : Rds base w' p q g t s :=
  ⟨h.bx.keep hp hg hs, h.gq, h.gb, (cell_heap hq).trans h.c0, (cell_heap hq).trans h.c1, (cell_heap hq).trans h.c2, fun k => (frozen_heap hq).trans (h.fr k), h.ne, h.lo⟩
theorem Rds.grown {base : Nat} {w w' : World} {p q g t : Nat} {s : St} (h : Rds base w p q g t s) (hb : Below w.heap.size w w') : Rds base w' p q g t s :=
  h.keep (hb.block p h.bx.lt) (hb.block g h.bx.glt) (hb.block q (cell_lt h.c0)) hb.size
theorem Rds.drew {base : Nat} {w : World} {p q g t : Nat} {s : St} (h : Rds base w p q g t s) : Rds base w.drew p q g t s := ⟨h.bx.drew, h.gq, h.gb, h.c0, h.c1, h.c2, h.fr, h.ne, h.lo⟩
/-- A block of another's is turned. -/
theorem Rds.other {base : Nat} {w : World} {p q g t y o : Nat} {s : St} (h : Rds base w p q g t s) (hp : y ≠ p) (hq : y ≠ q) (hg : y ≠ g) (v : Value) : Rds base (w.setCell ⟨y, o, none⟩ v) p q g t s :=
  h.keep (heap_set_other w y o p v (Ne.symm hp)) (heap_set_other w y o g v (Ne.symm hg)) (heap_set_other w y o q v (Ne.symm hq)) (by simp)
theorem K2.newset {w wr : World} {p q y o : Nat} (h : K2 w wr p q) (hy : w.heap.size ≤ y) (v : Value) : K2 w (wr.setCell ⟨y, o, none⟩ v) p q :=
  ⟨h.os, h.tape, h.output, by simpa using h.size, fun k hk h1 h2 => (heap_set_other wr y o k v (by omega)).trans (h.block k hk h1 h2)⟩
theorem K2.both {w w1 w2 : World} {p q : Nat} (h : K2 w w1 p q) (h' : K2 w1 w2 p q) : K2 w w2 p q := h.trans h' (.inl rfl)
end Gw
namespace Go.Proofs.Ytabalhhodcajmaa
open Go.RowKit Go.Shelf Gw Pol
/-- The first k bytes, without room behind. -/
theorem rw_taken_in {w : World} {p g c k : Nat} {A : Option Addr} {l : List Nat} (h : Rw w p g A c l) (hk : k ≤ l.length) (hg : g < w.heap.size) :
    ∃ AT, sliced A 0 k k 1 = .slice AT k k ∧ SlG w p g AT (l.take k) ∧ (AT = none → k = 0) := by
  rcases h with ⟨rfl, rfl, rfl, _⟩ | ⟨hne, off, rfl, hR⟩
  · obtain rfl : k = 0 := by simpa using hk
    exact ⟨none, rfl, ⟨fun i x hx => by simp at hx, fun h => absurd (by simp) h⟩, fun _ => rfl⟩
  · refine ⟨some ⟨g, off, none⟩, ?_, ⟨fun i x hx => ?_, fun _ => ⟨off, rfl⟩⟩, fun e => by cases e⟩
    · unfold sliced
      by_cases h0 : k = 0
      · subst h0; rfl
      · rw [if_neg h0]; simp [Option.map, Addr.add]
    · rw [List.getElem?_take] at hx
      split at hx
      · obtain ⟨h1, h2⟩ := hR.cell i x hx
        exact ⟨h1, g, off, rfl, ⟨hne, hne⟩, hg, h2⟩
      · cases hx
set_option maxRecDepth 100000 in
theorem rtake_in (p g : Nat) (l : List Nat) (bad : Bool) (k : Nat) (w : World) (h : Bx w p g l bad) (hk : k ≤ l.length) :
    Calls Try.prog 37 #[.pointer (some ⟨p, 0, none⟩), .int .i64 (k : Int)] w fun e w' => ∃ AT, e = .returned (.tuple #[.slice AT k k, .bool true]) ∧ SlG w' p g AT (l.take k) ∧ (AT = none → k = 0) ∧ Bx w' p g (l.drop k) bad ∧ K2 w w' p p ∧ w'.heap.size = w.heap.size := by
  obtain ⟨A, c, hc, hR⟩ := h.row
  have hcap := hR.inn.cap
  have hplt := h.lt
  have hglt := h.glt
  have hf := h.fr
  have hf0 := hf 0
  have hu := h.flag
  obtain ⟨AT, hT, hS, hN⟩ := rw_taken_in hR hk hglt
  obtain ⟨AR, cR, hT2, hR2⟩ := rw_rest hR hk
  have hs1 := fun w => (run_taken w A l.length c k (by omega)).trans (by rw [hT])
  have hs2 := fun w => (run_rest w A l.length c k hk).trans (by rw [hT2])
  obtain ⟨d, hd⟩ : ∃ d, d = l.length - k := ⟨_, rfl⟩
  rw [← hd] at hs2
  have hdl : d = (l.drop k).length := by rw [hd, List.length_drop]
  have hkn : ¬ l.length < k := by omega
  have HDL := Lib.hid hdl
  have HNN := Lib.hid hN
  clear hd hdl hT hT2 hN
  go_enter Try.func37, Try.ntmps37
  go_wp2
  go_ret2
  have hk2 : K2 w (w.setCell ⟨p, 0, none⟩ (.slice AR d cR)) p p := K2.set _ _ _ _ _
  exact ⟨AT, rfl, ⟨hS.1.k2 hk2 (.inl rfl), hS.2⟩, HNN.out, Bx.put hplt hglt hu hf hc HDL.out hR2, hk2, by simp⟩
set_option maxRecDepth 100000 in
set_option maxHeartbeats 1000000 in
/-- What Bytes does to any reader. -/
theorem rbytes_in (p g : Nat) (l : List Nat) (bad : Bool) (w : World) (h : Bx w p g l bad) : Calls Try.prog 30 #[.pointer (some ⟨p, 0, none⟩)] w fun e w' =>
    ∃ AT m, e = .returned (.slice AT m m) ∧ m = (rdL l bad).1.length ∧ SlG w' p g AT (rdL l bad).1 ∧ (AT = none → m = 0) ∧ ∃ g', Bx w' p g' (rdL l bad).2.1 (rdL l bad).2.2 ∧ (g' = g ∨ g' = p) ∧ K2 w w' p p ∧ w'.heap.size = w.heap.size := by
  by_cases h2 : l.length < 2
  · have hno : rdL l bad = ([], [], true) := by unfold rdL; rw [if_neg]; unfold hasL; omega
    rw [hno]
    have HT := Lib.hid (rtake_far p g l bad 2 w h h2)
    clear h2 hno
    go_enter Try.func30, Try.ntmps30
    go_wp2_with fail
    refine HT.out.mono ?_
    rintro e w1 ⟨rfl, h1, h2, h3⟩
    go_wp2
    go_ret
    exact ⟨none, 0, rfl, rfl, ⟨fun i x hx => by simp at hx, fun h => absurd rfl h⟩, fun _ => rfl, p, h1, .inr rfl, h2, h3⟩
  · have hbb := h.bb
    have HT := Lib.hid (rtake_any p g l bad 2 w h (by omega))
    obtain ⟨x0, hx0⟩ : ∃ x, x = co l 0 := ⟨_, rfl⟩
    obtain ⟨x1, hx1⟩ : ∃ x, x = co l 1 := ⟨_, rfl⟩
    have b0 : x0 < 256 := by rw [hx0]; exact hbb.co 0
    have b1 : x1 < 256 := by rw [hx1]; exact hbb.co 1
    obtain ⟨k, hk⟩ : ∃ k, k = x0 * 256 + x1 := ⟨_, rfl⟩
    have hwk : IntKind.i64.wrap (IntKind.i64.wrap (IntKind.i64.wrap (x0 : Int) * 256) + IntKind.i64.wrap (x1 : Int)) = (k : Int) := by simp only [IntKind.wrap_i64]; omega
    have HWK := Lib.hid hwk
    clear hwk
    have hw2 : w2 l = k := by unfold w2; rw [← hx0, ← hx1]; exact hk.symm
    have h2' : 2 ≤ l.length := by omega
    have hlt : (l.take 2).length = 2 := by rw [List.length_take]; omega
    have cells : ∀ (w1 : World) (AT : Option Addr), SlA w1 p p AT (l.take 2) → ∃ b off, AT = some ⟨b, off, none⟩ ∧ w1.cell? ⟨b, off, none⟩ = some (.int .u8 (x0 : Int)) ∧ w1.cell? ⟨b, off + 1, none⟩ = some (.int .u8 (x1 : Int)) := fun w1 AT hS => by
      obtain ⟨b, off, e0, c0⟩ := sla_at hS (k := 0) (by rw [hlt]; omega)
      obtain ⟨b', off', e1, c1⟩ := sla_at hS (k := 1) (by rw [hlt]; omega)
      subst e0
      injection e1 with e1; injection e1 with e1 e1'; subst e1 e1'
      rw [co_take (by omega)] at c0 c1
      exact ⟨b, off, rfl, by rw [hx0]; exact c0, by rw [hx1]; exact c1⟩
    have key : ∀ w1, Bx w1 p g (l.drop 2) bad → Calls Try.prog 37 #[.pointer (some ⟨p, 0, none⟩), .int .i64 (k : Int)] w1 fun e w' => ∃ AT m ok, e = .returned (.tuple #[.slice AT m m, .bool ok]) ∧ m = (rdL l bad).1.length ∧ SlG w' p g AT (rdL l bad).1 ∧ (AT = none → m = 0) ∧ ∃ g', Bx w' p g' (rdL l bad).2.1 (rdL l bad).2.2 ∧ (g' = g ∨ g' = p) ∧ K2 w1 w' p p ∧ w'.heap.size = w1.heap.size := fun w1 h1 => by
      by_cases hf : k + 2 ≤ l.length
      · have hyes : rdL l bad = ((l.drop 2).take k, (l.drop 2).drop k, bad) := by
          unfold rdL
          rw [if_pos ⟨h2', by rw [hw2]; exact hf⟩, hw2, List.drop_drop]
        rw [hyes]
        refine (rtake_in p g (l.drop 2) bad k w1 h1 (by rw [List.length_drop]; omega)).mono ?_
        rintro e w' ⟨AT, rfl, h3, h4, h5, h6, h7⟩
        exact ⟨AT, k, true, rfl, by simp only [List.length_take, List.length_drop]; omega, h3, h4, g, h5, .inl rfl, h6, h7⟩
      · have hno : rdL l bad = ([], [], true) := by unfold rdL; rw [if_neg]; unfold hasL; rw [hw2]; omega
        rw [hno]
        refine (rtake_far p g (l.drop 2) bad k w1 h1 (by rw [List.length_drop]; omega)).mono ?_
        rintro e w' ⟨rfl, h3, h4, h5⟩
        exact ⟨none, 0, false, rfl, rfl, ⟨fun i x hx => by simp at hx, fun h => absurd rfl h⟩, fun _ => rfl, p, h3, .inr rfl, h4, h5⟩
    have HC := Lib.hid cells
    have HK := Lib.hid key
    clear hx0 hx1 cells key h2 h2' hlt hbb hw2 hk
    go_enter Try.func30, Try.ntmps30
    go_wp2_with fail
    refine HT.out.mono ?_
    rintro e w1 ⟨AT, rfl, hS, _, h1, h2, h3⟩
    obtain ⟨b, off, rfl, c0, c1⟩ := HC.out w1 AT hS
    have HB := Lib.hid h1
    have HKW := Lib.hid h2
    clear h1 h2
    go_wp2
    go_region_with (go_at_call 37; rw [HWK.out]; refine (HK.out _ HB.out.drew).mono ?_; rintro e w2 ⟨AT, m, ok, rfl, h4, h5, h6, g2, h7, h8, h9, h10⟩; have H4 := Lib.hid h4; clear h4)
    all_goals (go_wp2; go_ret; exact ⟨AT, m, rfl, H4.out, h5, h6, g2, h7, h8, HKW.out.drew.trans h9 (.inl rfl), h10.trans h3⟩)

section
variable {base : Nat} {w : World} {p q g t : Nat} {s : St}
/-- A number. -/
theorem Rds.num (h : Rds base w p q g t s) : Calls Try.prog 26 #[.pointer (some ⟨p, 0, none⟩)] w fun e w' => e = .returned (.int .i64 (gN s).1) ∧ ∃ g', (g' = g ∨ g' = p) ∧ Rds base w' p q g' t (gN s).2 ∧ K2 w w' p q ∧ w'.heap.size = w.heap.size := by
  refine (rint_any p g s.l s.bad w h.bx).mono ?_
  rintro e w' ⟨rfl, g', h4, h5, h6, h7⟩
  exact ⟨rfl, g', h5, h.inner h4 h6 rfl h5, h6.wk, h7⟩
/-- Bytes. -/
theorem Rds.bytes (h : Rds base w p q g t s) : Calls Try.prog 30 #[.pointer (some ⟨p, 0, none⟩)] w fun e w' =>
    ∃ AT m, e = .returned (.slice AT m m) ∧ m = (gL s).1.length ∧ SlA w' p q AT (gL s).1 ∧ (AT = none → m = 0) ∧ ((gL s).1 ≠ [] → ∃ off, AT = some ⟨g, off, none⟩) ∧ ∃ g', (g' = g ∨ g' = p) ∧ Rds base w' p q g' t (gL s).2 ∧ K2 w w' p q ∧ w'.heap.size = w.heap.size := by
  refine (rbytes_in p g s.l s.bad w h.bx).mono ?_
  rintro e w' ⟨AT, m, rfl, hm, hS, hn, g', h4, h5, h6, h7⟩
  refine ⟨AT, m, rfl, hm, fun i x hx => ?_, hn, fun hne => hS.2 hne, g', h5, h.inner h4 h6 rfl h5, h6.wk, h7⟩
  · obtain ⟨k1, b, off, k2, k3, k4, k5⟩ := hS.1 i x hx
    obtain ⟨off', k6⟩ := hS.2 (fun e => by rw [show (gL s).1 = (rdL s.l s.bad).1 from rfl, e] at hx; simp at hx)
    rw [k2] at k6
    injection k6 with k6; injection k6 with k6 _; subst k6
    exact ⟨k1, b, off, k2, ⟨k3.1, h.gq⟩, k4, k5⟩
/-- How many. -/
theorem gN_wf (s : St) (hb : BB s.l) : -2 ≤ (gN s).1 ∧ (gN s).1 ≤ 2147483645 := by
  show -2 ≤ (rdN s.l s.bad).1 ∧ (rdN s.l s.bad).1 ≤ 2147483645
  unfold rdN
  split
  · rename_i hh
    have := w4_lt hb hh.2
    show -2 ≤ (w4 s.l : Int) - 2 ∧ (w4 s.l : Int) - 2 ≤ 2147483645
    omega
  · show (-2 : Int) ≤ 0 ∧ (0 : Int) ≤ 2147483645; omega
theorem gC_le (u : Nat) (s : St) (hb : BB s.l) : (gC u s).1 ≤ 2147483645 := by
  have := gN_wf s hb
  unfold gC
  split
  · show 0 ≤ 2147483645; omega
  · show (gN s).1.toNat ≤ 2147483645; omega
set_option maxRecDepth 100000 in
theorem rcount_any (k u : Nat) (hk : k = 4 ∨ k = 6) (hu : u = t / k) (ht : t ≤ 140737488355328) (h : Rds base w p q g t s) : Calls Try.prog 39 #[.pointer (some ⟨q, 0, none⟩), .int .i64 (k : Int)] w fun e w' =>
    e = .returned (.int .i64 ((gC u s).1 : Int)) ∧ ∃ g', (g' = g ∨ g' = p) ∧ Rds base w' p q g' t (gC u s).2 ∧ K2 w w' p q ∧ w'.heap.size = w.heap.size := by
  have h0 := h.c0
  have HN := Lib.hid (Rds.num h)
  have hb := gN_wf s h.bb
  have hne := h.ne
  have e2 : gC u s = if (gN s).1 < 0 ∨ (u : Int) < (gN s).1 then (0, ⟨(gN s).2.l, (gN s).2.bad, true⟩) else ((gN s).1.toNat, (gN s).2) := rfl
  obtain ⟨z, hz⟩ : ∃ z, z = (gN s).1 := ⟨_, rfl⟩
  obtain ⟨s1, hs1⟩ : ∃ s1, s1 = (gN s).2 := ⟨_, rfl⟩
  rw [← hz] at HN hb
  rw [← hz, ← hs1] at e2
  rw [← hs1] at HN
  have hq : wrap64 ((t : Int) / (k : Int)) = (u : Int) := by
    have h1 : t / k ≤ t := Nat.div_le_self _ _
    have h2 : ((t : Int) / (k : Int)) = ((t / k : Nat) : Int) := by simp
    rw [h2, ← hu]
    unfold wrap64
    omega
  have hk0 : ¬ k = 0 := by omega
  clear hz hs1 h hu hk
  have HE := Lib.hid e2
  have HQ := Lib.hid hq
  clear e2 hq
  go_enter Try.func39, Try.ntmps39
  go_wp2_with fail
  refine HN.out.mono ?_
  rintro e w1 ⟨rfl, g1, hg1, h1, hk1, hs1⟩
  have c1 := h1.c1
  have c2 := h1.c2
  have hf := h1.fr 2
  have yes : Rds base (w1.setCell ⟨q, 2, none⟩ (.bool true)) p q g1 t ⟨s1.l, s1.bad, true⟩ ∧ K2 w (w1.setCell ⟨q, 2, none⟩ (.bool true)) p q ∧ (w1.setCell ⟨q, 2, none⟩ (.bool true)).heap.size = w.heap.size := by
    refine ⟨⟨h1.bx.keep (heap_set_other w1 q 2 p _ hne) (heap_set_other w1 q 2 g1 _ h1.gq) (by simp), h1.gq, h1.gb, ?_, ?_, ?_, fun k => ?_, hne, h1.lo⟩, ?_, by simpa using hs1⟩
    · exact (World.cell?_setCell_other _ _ _ _ (by simp)).trans h1.c0
    · exact (World.cell?_setCell_other _ _ _ _ (by simp)).trans h1.c1
    · exact World.cell?_setCell_same _ _ _ c2
    · rw [World.frozen?_setCell]; exact h1.fr k
    · exact hk1.both (K2.set w1 q p 2 _).swap
  have YES := Lib.hid yes
  clear yes
  go_wp2
  · rename_i hc
    rw [HQ.out] at hc
    go_ret
    rw [HE.out, if_pos hc]
    first
      | exact ⟨rfl, g1, hg1, YES.out⟩
      | (rcases hg1 with rfl | rfl
         · exact ⟨rfl, .inl YES.out⟩
         · exact ⟨rfl, .inr YES.out⟩)
  · rename_i hc
    rw [HQ.out] at hc
    go_ret
    rw [HE.out, if_neg (by omega)]
    refine ⟨by rw [Int.toNat_of_nonneg hc.1]; rfl, ?_⟩
    first
      | exact ⟨g1, hg1, h1, hk1, hs1⟩
      | (rcases hg1 with rfl | rfl
         · exact .inl ⟨h1, hk1, hs1⟩
         · exact .inr ⟨h1, hk1, hs1⟩)
  · rename_i hc
    go_ret
    rw [HE.out, if_pos (.inl hc)]
    first
      | exact ⟨rfl, g1, hg1, YES.out⟩
      | (rcases hg1 with rfl | rfl
         · exact ⟨rfl, .inl YES.out⟩
         · exact ⟨rfl, .inr YES.out⟩)
set_option maxRecDepth 100000 in
theorem rtext_any (h : Rds base w p q g t s) : Calls Try.prog 28 #[.pointer (some ⟨q, 0, none⟩)] w fun e w' =>
    e = .returned (.string (str (gL s).1)) ∧ ∃ g', (g' = g ∨ g' = p) ∧ Rds base w' p q g' t (gL s).2 ∧ K2 w w' p q ∧ w'.heap.size = w.heap.size := by
  have h0 := h.c0
  have HB := Lib.hid (Rds.bytes h)
  clear h
  go_enter Try.func28, Try.ntmps28
  go_wp2_with fail
  refine HB.out.mono ?_
  rintro e w1 ⟨AT, m, rfl, hm, hS, _, _, g1, hg1, h1, hk1, hs1⟩
  have hc := conv_n (c := m) hS.sl hm
  clear hm
  go_wp2
  go_ret
  exact ⟨rfl, g1, hg1, h1, hk1, hs1⟩
/-- A block of ints of the call's own: the first k are told. -/
structure Iz (w : World) (y n : Nat) (z : List Int) : Prop where
  told : ∀ (j : Nat) (x : Int), z[j]? = some x → w.cell? ⟨y, j, none⟩ = some (.int .i64 x)
  some_ : ∀ j, j < n → ∃ v, w.cell? ⟨y, j, none⟩ = some v
  stop : w.cell? ⟨y, n, none⟩ = none
  fr : ∀ j, w.frozen? ⟨y, j, none⟩ = false
  lt : y < w.heap.size
theorem Iz.keep {w w' : World} {y n : Nat} {z : List Int} (h : Iz w y n z) (hk : w'.heap[y]? = w.heap[y]?) (hs : w.heap.size ≤ w'.heap.size) : Iz w' y n z :=
  ⟨fun j x hx => (cell_heap hk).trans (h.told j x hx), fun j hj => (h.some_ j hj).imp fun _ hv => (cell_heap hk).trans hv, (cell_heap hk).trans h.stop, fun j => (frozen_heap hk).trans (h.fr j), Nat.lt_of_lt_of_le h.lt hs⟩
theorem Iz.put {w : World} {y n : Nat} {z : List Int} (h : Iz w y n z) (hn : z.length < n) (x : Int) : Iz (w.setCell ⟨y, z.length, none⟩ (.int .i64 x)) y n (z ++ [x]) := by
  obtain ⟨v0, hv0⟩ := h.some_ z.length hn
  refine ⟨fun j u hu => ?_, fun j hj => ?_, (World.cell?_setCell_other _ _ _ _ (fun h => by injection h with _ h _; omega)).trans h.stop, fun j => by rw [World.frozen?_setCell]; exact h.fr j, by simpa using h.lt⟩
  · by_cases e : j = z.length
    · subst e
      rw [List.getElem?_append_right (Nat.le_refl _), Nat.sub_self] at hu
      injection hu with hu
      rw [← hu]
      exact World.cell?_setCell_same _ _ _ hv0
    · have hj : j < z.length := by
        have := (List.getElem?_eq_some_iff.1 hu).1
        rw [List.length_append, List.length_singleton] at this
        omega
      rw [List.getElem?_append_left hj] at hu
      exact (World.cell?_setCell_other _ _ _ _ (fun h => e (by injection h with _ h _; exact h.symm))).trans (h.told j u hu)
  · by_cases e : j = z.length
    · subst e; exact ⟨_, World.cell?_setCell_same _ _ _ hv0⟩
    · obtain ⟨v, hv⟩ := h.some_ j hj
      exact ⟨v, (World.cell?_setCell_other _ _ _ _ (fun h => e (by injection h with _ h _; exact h.symm))).trans hv⟩
theorem Iz.made (w : World) (e : TypeId) (n : Nat) : Iz (w.alloc (.cells (madeCells #[.int .i64 0] n) e)) w.heap.size n [] := by
  refine ⟨fun j x hx => by simp at hx, fun j hj => ?_, ?_, fun j => ?_, by simp⟩
  · rw [World.cell?_alloc_new]
    have : j < (madeCells #[Value.int .i64 0] n).size := by rw [size_madeCells]; exact hj
    exact ⟨_, Array.getElem?_eq_getElem this⟩
  · rw [World.cell?_alloc_new]
    exact Array.getElem?_eq_none (by rw [size_madeCells]; exact Nat.le_refl _)
  · unfold World.frozen?; rw [show (⟨w.heap.size, j, none⟩ : Addr).block = w.heap.size from rfl, heap_alloc_new w _]; simp
theorem rint_info : (Try.prog.info? 3).map (fun i => (i.zero, i.size, i.bytes)) = some (some (.int .i64 0), 1, 8) := by kernel_rfl
/-- What list has read behind some numbers. -/
def LiRel (base : Nat) (w : World) (p q g t y n : Nat) (s1 : St) (i : Value) (wr : World) : Prop :=
  ∃ k g' : Nat, k ≤ n ∧ i = .int .i64 (k : Int) ∧ (g' = g ∨ g' = p) ∧ Rds base wr p q g' t (gZ k s1).2 ∧ Iz wr y n (gZ k s1).1 ∧ K2 w wr p q ∧ wr.heap.size = y + 1
set_option maxRecDepth 100000 in
set_option maxHeartbeats 1000000 in
theorem rlist_any (ht : t ≤ 140737488355328) (h : Rds base w p q g t s) : Calls Try.prog 29 #[.pointer (some ⟨q, 0, none⟩)] w fun e w' =>
    ∃ y n, e = .returned (.slice (some ⟨y, 0, none⟩) n n) ∧ n = (gZs t s).1.length ∧ Iz w' y n (gZs t s).1 ∧ w.heap.size ≤ y ∧ ∃ g', (g' = g ∨ g' = p) ∧ Rds base w' p q g' t (gZs t s).2 ∧ K2 w w' p q := by
  have h0 := h.c0
  have hne := h.ne
  have hqlt := cell_lt h0
  have hplt := h.bx.lt
  have hglt := h.bx.glt
  have HC := Lib.hid (rcount_any 4 (t / 4) (.inl rfl) rfl ht h)
  have hle := gC_le (t / 4) s h.bb
  have e1 : gZs t s = gZ (gC (t / 4) s).1 (gC (t / 4) s).2 := rfl
  rw [e1]
  obtain ⟨n, hn⟩ : ∃ n, n = (gC (t / 4) s).1 := ⟨_, rfl⟩
  obtain ⟨s1, hs1⟩ : ∃ s1, s1 = (gC (t / 4) s).2 := ⟨_, rfl⟩
  rw [← hn, ← hs1] at HC ⊢
  rw [← hn] at hle
  clear e1 hn hs1 h
  have hmk := run_make_row' (P := Try.prog) 23 3 (.int .i64 0) 8 Try.underlying23 rint_info rfl .i64 .i64 n (by omega) (by omega)
  go_enter Try.func29, Try.ntmps29
  go_wp2_with fail
  refine HC.out.mono ?_
  rintro e w1 ⟨rfl, g1, hg1, h1, hk1, hs1⟩
  obtain ⟨w2, hw2⟩ : ∃ w2, w2 = w1.alloc (.cells (madeCells #[.int .i64 0] n) 3) := ⟨_, rfl⟩
  have hI2 := Iz.made w1 3 n
  have hB2 : Below w1.heap.size w1 w2 := by rw [hw2]; exact (Below.refl _ _).alloc (Nat.le_refl _) _
  have hz2 : w2.heap.size = w1.heap.size + 1 := by rw [hw2]; simp
  rw [← hw2] at hI2
  have h2 := h1.grown hB2
  have hk2 : K2 w w2 p q := hk1.trans (K2.ofBelow hB2 (Nat.le_refl _)) (.inl rfl)
  clear h1 hk1
  rw [hs1] at hI2 hz2
  go_wp2
  rw [← hw2]
  clear hmk hw2 hB2
  obtain ⟨y, hy⟩ : ∃ y, y = w.heap.size := ⟨_, rfl⟩
  rw [← hy] at hI2 hz2 hqlt hplt hglt ⊢
  have hyw : w.heap.size ≤ y := by omega
  clear hy hs1
  go_loopw [10] (LiRel base w p q g t y n s1) (fun i _ => n - (intOf i).toNat)
  case atStart => exact ⟨0, g1, Nat.zero_le _, rfl, hg1, h2, hI2, hk2, hz2⟩
  case round =>
    clear h2 hI2 hk2 hz2 hg1
    obtain ⟨k, g', hk, rfl, hg', hr, hI, hkw, hsz⟩ := hrel
    by_cases hkn : k < n
    · have hc0 := hr.c0
      have HN := Lib.hid (Rds.num hr)
      obtain ⟨s2, hs2⟩ : ∃ s2, s2 = (gZ k s1).2 := ⟨_, rfl⟩
      obtain ⟨zk, hzk⟩ : ∃ zk, zk = (gZ k s1).1 := ⟨_, rfl⟩
      have hlen : zk.length = k := by rw [hzk]; exact gZ_len k s1
      have hsn : gZ (k + 1) s1 = (zk ++ [(gN s2).1], (gN s2).2) := by rw [hzk, hs2]; exact gZ_snoc k s1
      rw [← hs2] at HN
      rw [← hzk] at hI
      obtain ⟨x, hx⟩ : ∃ x, x = (gN s2).1 := ⟨_, rfl⟩
      obtain ⟨s3, hs3⟩ : ∃ s3, s3 = (gN s2).2 := ⟨_, rfl⟩
      rw [← hx, ← hs3] at hsn HN
      have HSN := Lib.hid hsn
      have HLE := Lib.hid hlen
      clear hr hs2 hzk hx hs3 hsn
      go_wp2_with fail
      refine HN.out.mono ?_
      rintro e w3 ⟨rfl, g3, hg3, h3, hk3, hs3⟩
      have hI3 := hI.keep (hk3.block y (by omega) (by omega) (by omega)) (by omega)
      obtain ⟨v0, hv0⟩ := hI3.some_ k hkn
      have hf0 := hI3.fr k
      have hput := hI3.put (by rw [hlen]; exact hkn) x
      rw [hlen] at hput
      clear hlen hI
      go_wp2
      go_roundw
      case rel =>
        refine ⟨k + 1, g3, by omega, by go_num, by omega, ?_, ?_, (hkw.both hk3).newset (o := k) hyw _, by simpa using hs3.trans hsz⟩
        · rw [HSN.out]; exact h3.other (by omega) (by omega) (by omega) _
        · rw [HSN.out]; exact hput
      case measure => simp [intOf]; omega
    · obtain rfl : k = n := by omega
      go_wp2
      go_ret
      exact ⟨y, k, rfl, (gZ_len k s1).symm, hI, hyw, g', hg', hr, hkw⟩
end
end Go.Proofs.Ytabalhhodcajmaa
