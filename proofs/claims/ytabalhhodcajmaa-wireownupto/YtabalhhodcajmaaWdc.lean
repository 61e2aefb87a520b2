/- What word's Read, Reader.spoil, take, Int, Bytes and Done do. -/
import Derived.BigQuiet
import Derived.Test.YtabalhhodcajmaaWda
import Derived.Test.YtabalhhodcajmaaClo
import Derived.Test.YtabalhhodcajmaaSlx
namespace Go.Proofs.Ytabalhhodcajmaa
open Go.RowKit Go.Shelf Gw Pol

/-- The first k bytes, without room behind. -/
theorem rw_taken {w : World} {p g c k : Nat} {A : Option Addr} {l : List Nat} (h : Rw w p g A c l) (hk : k ≤ l.length) (hg : g < w.heap.size) :
    ∃ AT, sliced A 0 k k 1 = .slice AT k k ∧ SlA w p p AT (l.take k) ∧ (AT = none → k = 0) := by
  rcases h with ⟨rfl, rfl, rfl, _⟩ | ⟨hne, off, rfl, hR⟩
  · obtain rfl : k = 0 := by simpa using hk
    exact ⟨none, rfl, fun i x hx => by simp at hx, fun _ => rfl⟩
  · refine ⟨some ⟨g, off, none⟩, ?_, fun i x hx => ?_, fun e => by cases e⟩
    · unfold sliced
      by_cases h0 : k = 0
      · subst h0; rfl
      · rw [if_neg h0]; simp [Option.map, Addr.add]
    · rw [List.getElem?_take] at hx
      split at hx
      · obtain ⟨h1, h2⟩ := hR.cell i x hx
        exact ⟨h1, g, off, rfl, ⟨hne, hne⟩, hg, h2⟩
      · cases hx
/-- What is left behind them. -/
theorem rw_rest {w : World} {p g c k : Nat} {A : Option Addr} {l : List Nat} (h : Rw w p g A c l) (hk : k ≤ l.length) :
    ∃ AR cR, sliced A k l.length c 1 = .slice AR (l.length - k) cR ∧ Rw w p g AR cR (l.drop k) := by
  rcases h with ⟨rfl, rfl, rfl, rfl⟩ | ⟨hne, off, rfl, hR⟩
  · obtain rfl : k = 0 := by simpa using hk
    exact ⟨none, 0, rfl, .inl ⟨rfl, rfl, rfl, rfl⟩⟩
  · by_cases hc : c = k
    · refine ⟨some ⟨g, off, none⟩, 0, by unfold sliced; rw [if_pos hc, hc, Nat.sub_self], .inr ⟨hne, off, rfl, ?_⟩⟩
      have hcap := hR.cap
      have hd : l.drop k = [] := List.drop_eq_nil_of_le (by omega)
      rw [hd]
      exact ⟨hR.lt, fun i x hx => by simp at hx, fun j hj => by omega, by simp⟩
    · exact ⟨some ⟨g, off + k, none⟩, c - k, by unfold sliced; rw [if_neg hc, Option.map_some, Nat.mul_one, addr_add], .inr ⟨hne, off + k, rfl, hR.drop k hk⟩⟩
theorem run_taken (w : World) (A : Option Addr) (n c k : Nat) (hk : k ≤ c) : (Instr.sliceAt 25 (.slice A n c) none (some (.int .i64 (k : Int))) (some (.int .i64 (k : Int)))).run Try.prog w = .ok (sliced A 0 k k 1) w := by
  rw [run_sliceAt_slice w _ _ _ _ _ slice_elem, run_slice_hm w _ A n c slice_elem .i64 .i64 (k : Int) (k : Int) (by omega) (by omega) (by omega), slice_one, Result.andThen_ok, Int.toNat_natCast]
theorem run_rest (w : World) (A : Option Addr) (n c k : Nat) (hk : k ≤ n) : (Instr.sliceAt 25 (.slice A n c) (some (.int .i64 (k : Int))) none none).run Try.prog w = .ok (sliced A k n c 1) w := by
  rw [run_sliceAt_slice w _ _ _ _ _ slice_elem, run_slice_l w _ A n c slice_elem .i64 (k : Int) (by omega) (by omega), slice_one, Result.andThen_ok, Int.toNat_natCast]

set_option maxRecDepth 100000 in
theorem rread_any (A : Option Addr) (n c : Nat) (l : List Nat) (w : World) (hn : n = l.length) (hI : In w w.heap.size A c l) (hl : l.length ≤ 140737488355328) :
    Calls Try.prog 25 #[.slice A n c] w fun e w' => ∃ p g, e = .returned (.pointer (some ⟨p, 0, none⟩)) ∧ Bx w' p g l false ∧ w.heap.size ≤ p ∧ w.heap.size ≤ g ∧ Below w.heap.size w w' := by
  subst hn
  have HC := Lib.hid (clone_any A c l w hI hl)
  obtain ⟨n, hn⟩ : ∃ n, n = l.length := ⟨_, rfl⟩
  rw [← hn] at HC
  have HN := Lib.hid hn
  rw [← hn]
  clear hn
  go_enter Try.func25, Try.ntmps25
  go_wp2_with fail
  refine HC.out.mono ?_
  rintro e w1 ⟨A2, c2, rfl, hown, hb⟩
  obtain ⟨w2, hw2⟩ : ∃ w2, w2 = w1.alloc (.cells #[.slice A2 n c2, .bool false] 71) := ⟨_, rfl⟩
  go_wp2
  go_ret
  rw [← hw2]
  have hs := hb.size
  have hz2 : w2.heap.size = w1.heap.size + 1 := by rw [hw2]; simp
  have hb2 : Below w.heap.size w w2 := by rw [hw2]; exact hb.alloc hs _
  have hc0 : w2.cell? ⟨w1.heap.size, 0, none⟩ = some (.slice A2 n c2) := by rw [hw2]; exact World.cell?_alloc_new w1 #[.slice A2 n c2, .bool false] _ 0
  have hc1 : w2.cell? ⟨w1.heap.size, 1, none⟩ = some (.bool false) := by rw [hw2]; exact World.cell?_alloc_new w1 #[.slice A2 n c2, .bool false] _ 1
  have hf : ∀ k, w2.frozen? ⟨w1.heap.size, k, none⟩ = false := fun k => by rw [hw2]; unfold World.frozen?; rw [show (⟨w1.heap.size, k, none⟩ : Addr).block = w1.heap.size from rfl, heap_alloc_new w1 _]; simp
  have ho2 : Gw.Own w2 w.heap.size 5 A2 c2 l := by rw [hw2]; exact hown.alloc _
  rw [HN.out] at hc0
  rcases ho2.1.2 with ⟨hv, h0⟩ | ⟨g, cap, cur, hv, hbg, hgb, hnc, hm, hsz, ht⟩
  · injection hv with hA _ hc
    subst hA hc
    have hl0 : l = [] := List.eq_nil_of_length_eq_zero h0
    subst hl0
    exact ⟨w1.heap.size, w1.heap.size, rfl, ⟨by omega, by omega, hc1, hf, none, 0, hc0, .inl ⟨rfl, rfl, rfl, rfl⟩⟩, hs, hs, hb2⟩
  · injection hv with hA _ hc
    subst hA hc
    have hglt := (Array.getElem?_eq_some_iff.1 hgb).1
    have hne : g ≠ w1.heap.size := fun e => by
      have := (hown.1.lt g rfl).2
      omega
    refine ⟨w1.heap.size, g, rfl, ⟨by omega, hglt, hc1, hf, some ⟨g, 0, none⟩, c2, hc0, .inr ⟨hne, 0, rfl, ⟨hglt, fun i x hx => ?_, fun j hj => ⟨?_, ?_⟩, hnc⟩⟩⟩, hs, hbg, hb2⟩
    · obtain ⟨h1, b, off, h2, _, h4⟩ := ho2.sl i x hx
      injection h2 with h2
      injection h2 with h3 h5
      subst h3 h5
      exact ⟨h1, h4⟩
    · rw [Nat.zero_add]
      unfold World.cell?
      simp only [hgb]
      simp
      omega
    · rw [Nat.zero_add]
      exact ho2.frozen j
set_option maxRecDepth 100000 in
theorem rspoil_any (p g : Nat) (l : List Nat) (bad : Bool) (w : World) (h : Bx w p g l bad) : Calls Try.prog 38 #[.pointer (some ⟨p, 0, none⟩)] w fun e w' => e = .returned (.tuple #[]) ∧ Bx w' p p [] true ∧ K2 w w' p p ∧ w'.heap.size = w.heap.size := by
  obtain ⟨A, c, hc, hR⟩ := h.row
  have hu := h.flag
  have hf := h.fr
  have hf0 := hf 0
  have hf1 := hf 1
  have hplt := h.lt
  have hu2 : ∀ v, (w.setCell ⟨p, 0, none⟩ v).cell? ⟨p, 1, none⟩ = some (.bool bad) := fun v => (World.cell?_setCell_other _ _ _ _ (by simp)).trans hu
  go_enter Try.func38, Try.ntmps38
  go_wp2
  go_end0
  refine ⟨rfl, ?_, (K2.set w p p 0 _).trans (K2.set _ p p 1 _) (.inl rfl), by simp⟩
  exact Bx.turn (Bx.put (L := []) hplt hplt hu hf hc rfl (.inl ⟨rfl, rfl, rfl, rfl⟩)) true
set_option maxRecDepth 100000 in
theorem rtake_none (n : Int) (w : World) : Calls Try.prog 37 #[.pointer none, .int .i64 n] w fun e w' => e = .returned (.tuple #[.slice none 0 0, .bool false]) ∧ w' = w := by
  go_enter Try.func37, Try.ntmps37
  go_wp2
  go_ret2
  exact ⟨rfl, rfl⟩
set_option maxRecDepth 100000 in
theorem rtake_far (p g : Nat) (l : List Nat) (bad : Bool) (k : Nat) (w : World) (h : Bx w p g l bad) (hk : l.length < k) :
    Calls Try.prog 37 #[.pointer (some ⟨p, 0, none⟩), .int .i64 (k : Int)] w fun e w' => e = .returned (.tuple #[.slice none 0 0, .bool false]) ∧ Bx w' p p [] true ∧ K2 w w' p p ∧ w'.heap.size = w.heap.size := by
  obtain ⟨A, c, hc, hR⟩ := h.row
  go_enter Try.func37, Try.ntmps37
  go_wp2_with fail
  refine (rspoil_any p g l bad w h).mono ?_
  rintro e w1 ⟨rfl, h1, h2, h3⟩
  go_wp2
  go_ret2
  exact ⟨rfl, h1, h2, h3⟩
set_option maxRecDepth 100000 in
theorem rtake_any (p g : Nat) (l : List Nat) (bad : Bool) (k : Nat) (w : World) (h : Bx w p g l bad) (hk : k ≤ l.length) :
    Calls Try.prog 37 #[.pointer (some ⟨p, 0, none⟩), .int .i64 (k : Int)] w fun e w' => ∃ AT, e = .returned (.tuple #[.slice AT k k, .bool true]) ∧ SlA w' p p AT (l.take k) ∧ (AT = none → k = 0) ∧ Bx w' p g (l.drop k) bad ∧ K2 w w' p p ∧ w'.heap.size = w.heap.size := by
  obtain ⟨A, c, hc, hR⟩ := h.row
  have hcap := hR.inn.cap
  have hplt := h.lt
  have hglt := h.glt
  have hf := h.fr
  have hf0 := hf 0
  have hu := h.flag
  obtain ⟨AT, hT, hS, hN⟩ := rw_taken hR hk hglt
  obtain ⟨AR, cR, hT2, hR2⟩ := rw_rest hR hk
  have hs1 := fun w => (run_taken w A l.length c k (by omega)).trans (by rw [hT])
  have hs2 := fun w => (run_rest w A l.length c k hk).trans (by rw [hT2])
  obtain ⟨d, hd⟩ : ∃ d, d = l.length - k := ⟨_, rfl⟩
  rw [← hd] at hs2
  have hdl : d = (l.drop k).length := by rw [hd, List.length_drop]
  have hkn : ¬ l.length < k := by omega
  have HDL := Lib.hid hdl
  have HNN := Lib.hid hN
  clear hd hdl hT hT2 hN
  go_enter Try.func37, Try.ntmps37
  go_wp2
  go_ret2
  have hk2 : K2 w (w.setCell ⟨p, 0, none⟩ (.slice AR d cR)) p p := K2.set _ _ _ _ _
  exact ⟨AT, rfl, hS.k2 hk2 (.inl rfl), HNN.out, Bx.put hplt hglt hu hf hc HDL.out hR2, hk2, by simp⟩
/-- The bytes that a number, and a length, is made of. -/
theorem sla_at {w : World} {p g : Nat} {A : Option Addr} {l : List Nat} (h : SlA w p g A l) {k : Nat} (hk : k < l.length) : ∃ b off, A = some ⟨b, off, none⟩ ∧ w.cell? ⟨b, off + k, none⟩ = some (.int .u8 (co l k : Int)) := by
  obtain ⟨_, b, off, h2, _, _, h4⟩ := h k _ (List.getElem?_eq_getElem hk)
  exact ⟨b, off, h2, by rw [co_get hk]; exact h4⟩
set_option maxRecDepth 100000 in
theorem rint_none (w : World) : Calls Try.prog 26 #[.pointer none] w fun e w' => e = .returned (.int .i64 0) ∧ w' = w := by
  go_enter Try.func26, Try.ntmps26
  go_wp2_with fail
  refine (rtake_none 4 w).mono ?_
  rintro e w1 ⟨rfl, rfl⟩
  go_wp2
  go_ret
  exact ⟨rfl, rfl⟩
set_option maxRecDepth 100000 in
theorem rbytes_none (w : World) : Calls Try.prog 30 #[.pointer none] w fun e w' => e = .returned (.slice none 0 0) ∧ w' = w := by
  go_enter Try.func30, Try.ntmps30
  go_wp2_with fail
  refine (rtake_none 2 w).mono ?_
  rintro e w1 ⟨rfl, rfl⟩
  go_wp2
  go_ret
  exact ⟨rfl, rfl⟩
set_option maxRecDepth 100000 in
theorem rdone_none (w : World) : Calls Try.prog 31 #[.pointer none] w fun e w' => e = .returned (.bool false) ∧ w' = w := by
  go_enter Try.func31, Try.ntmps31
  go_wp2
  go_ret
  exact ⟨rfl, rfl⟩
def dn (l : List Nat) (bad : Bool) : Bool := !bad && decide (l.length = 0)
set_option maxRecDepth 100000 in
theorem rdone_any (p g : Nat) (l : List Nat) (bad : Bool) (w : World) (h : Bx w p g l bad) : Calls Try.prog 31 #[.pointer (some ⟨p, 0, none⟩)] w fun e w' => e = .returned (.bool (dn l bad)) ∧ w' = w := by
  obtain ⟨A, c, hc, hR⟩ := h.row
  have hu := h.flag
  obtain ⟨n, hn⟩ : ∃ n, n = l.length := ⟨_, rfl⟩
  have hd : dn l bad = (!bad && decide (n = 0)) := by rw [hn]; rfl
  rw [hd]
  rw [← hn] at hc
  clear hd hn
  cases bad with
  | true =>
    go_enter Try.func31, Try.ntmps31
    go_wp2
    go_ret
    exact ⟨rfl, rfl⟩
  | false =>
    by_cases h0 : n = 0
    · subst h0
      go_enter Try.func31, Try.ntmps31
      go_wp2
      go_ret
      exact ⟨rfl, rfl⟩
    · go_enter Try.func31, Try.ntmps31
      go_wp2
      go_ret
      exact ⟨by simp [h0], rfl⟩
set_option maxRecDepth 100000 in
set_option maxHeartbeats 1000000 in
/-- What Int does to any reader. -/
theorem rint_any (p g : Nat) (l : List Nat) (bad : Bool) (w : World) (h : Bx w p g l bad) : Calls Try.prog 26 #[.pointer (some ⟨p, 0, none⟩)] w fun e w' =>
    e = .returned (.int .i64 (rdN l bad).1) ∧ ∃ g', Bx w' p g' (rdN l bad).2.1 (rdN l bad).2.2 ∧ (g' = g ∨ g' = p) ∧ K2 w w' p p ∧ w'.heap.size = w.heap.size := by
  by_cases h4 : l.length < 4
  · have hno : rdN l bad = (0, [], true) := by unfold rdN; rw [if_neg]; unfold hasN; omega
    rw [hno]
    have HT := Lib.hid (rtake_far p g l bad 4 w h h4)
    clear h4 hno
    go_enter Try.func26, Try.ntmps26
    go_wp2_with fail
    refine HT.out.mono ?_
    rintro e w1 ⟨rfl, h1, h2, h3⟩
    go_wp2
    go_ret
    exact ⟨rfl, p, h1, .inr rfl, h2, h3⟩
  · have hbb := h.bb
    have HT := Lib.hid (rtake_any p g l bad 4 w h (by omega))
    obtain ⟨x0, hx0⟩ : ∃ x, x = co l 0 := ⟨_, rfl⟩
    obtain ⟨x1, hx1⟩ : ∃ x, x = co l 1 := ⟨_, rfl⟩
    obtain ⟨x2, hx2⟩ : ∃ x, x = co l 2 := ⟨_, rfl⟩
    obtain ⟨x3, hx3⟩ : ∃ x, x = co l 3 := ⟨_, rfl⟩
    have b0 : x0 < 256 := by rw [hx0]; exact hbb.co 0
    have b1 : x1 < 256 := by rw [hx1]; exact hbb.co 1
    have b2 : x2 < 256 := by rw [hx2]; exact hbb.co 2
    have b3 : x3 < 256 := by rw [hx3]; exact hbb.co 3
    have h4' : 4 ≤ l.length := by omega
    have hlt : (l.take 4).length = 4 := by rw [List.length_take]; omega
    have cells : ∀ (w1 : World) (AT : Option Addr), SlA w1 p p AT (l.take 4) → ∃ b off, AT = some ⟨b, off, none⟩ ∧ w1.cell? ⟨b, off, none⟩ = some (.int .u8 (x0 : Int)) ∧ w1.cell? ⟨b, off + 1, none⟩ = some (.int .u8 (x1 : Int)) ∧ w1.cell? ⟨b, off + 2, none⟩ = some (.int .u8 (x2 : Int)) ∧ w1.cell? ⟨b, off + 3, none⟩ = some (.int .u8 (x3 : Int)) := fun w1 AT hS => by
      obtain ⟨b, off, e0, c0⟩ := sla_at hS (k := 0) (by rw [hlt]; omega)
      obtain ⟨b', off', e1, c1⟩ := sla_at hS (k := 1) (by rw [hlt]; omega)
      obtain ⟨b'', off'', e2, c2⟩ := sla_at hS (k := 2) (by rw [hlt]; omega)
      obtain ⟨b3, off3, e3, c3⟩ := sla_at hS (k := 3) (by rw [hlt]; omega)
      subst e0
      injection e1 with e1; injection e1 with e1 e1'; subst e1 e1'
      injection e2 with e2; injection e2 with e2 e2'; subst e2 e2'
      injection e3 with e3; injection e3 with e3 e3'; subst e3 e3'
      rw [co_take (by omega)] at c0 c1 c2 c3
      exact ⟨b, off, rfl, by rw [hx0]; exact c0, by rw [hx1]; exact c1, by rw [hx2]; exact c2, by rw [hx3]; exact c3⟩
    have HC := Lib.hid cells
    by_cases h128 : x0 < 128
    · have hyes : rdN l bad = ((((x0 * 16777216 + x1 * 65536 + x2 * 256 + x3 : Nat) : Int) - 2), l.drop 4, bad) := by
        unfold rdN
        rw [if_pos ⟨h4', by rw [← hx0]; exact h128⟩, hx0, hx1, hx2, hx3]; rfl
      rw [hyes]
      clear hyes hx0 hx1 hx2 hx3 cells h4 h4' hlt hbb
      go_enter Try.func26, Try.ntmps26
      go_wp2_with fail
      refine HT.out.mono ?_
      rintro e w1 ⟨AT, rfl, hS, _, h1, h2, h3⟩
      obtain ⟨b, off, rfl, c0, c1, c2, c3⟩ := HC.out w1 AT hS
      go_wp2
      go_quiet (fail)
      go_wp2
      go_ret
      exact ⟨by apply ret_int; omega, g, h1.drewN _, .inl rfl, h2.drewN _, h3⟩
    · have hno : rdN l bad = (0, [], true) := by unfold rdN; rw [if_neg]; unfold hasN; rw [← hx0]; omega
      rw [hno]
      clear hno hx0 hx1 hx2 hx3 cells h4 h4' hlt hbb
      go_enter Try.func26, Try.ntmps26
      go_wp2_with fail
      refine HT.out.mono ?_
      rintro e w1 ⟨AT, rfl, hS, _, h1, h2, h3⟩
      obtain ⟨b, off, rfl, c0, c1, c2, c3⟩ := HC.out w1 AT hS
      go_wp2_with fail
      refine (rspoil_any p g (l.drop 4) bad w1 h1).mono ?_
      rintro e w2 ⟨rfl, h5, h6, h7⟩
      go_wp2
      go_ret
      exact ⟨rfl, p, h5, .inr rfl, h2.trans h6 (.inl rfl), h7.trans h3⟩
set_option maxRecDepth 100000 in
set_option maxHeartbeats 1000000 in
/-- What Bytes does to any reader. -/
theorem rbytes_any (p g : Nat) (l : List Nat) (bad : Bool) (w : World) (h : Bx w p g l bad) : Calls Try.prog 30 #[.pointer (some ⟨p, 0, none⟩)] w fun e w' =>
    ∃ AT m, e = .returned (.slice AT m m) ∧ m = (rdL l bad).1.length ∧ SlA w' p p AT (rdL l bad).1 ∧ (AT = none → m = 0) ∧ ∃ g', Bx w' p g' (rdL l bad).2.1 (rdL l bad).2.2 ∧ (g' = g ∨ g' = p) ∧ K2 w w' p p ∧ w'.heap.size = w.heap.size := by
  by_cases h2 : l.length < 2
  · have hno : rdL l bad = ([], [], true) := by unfold rdL; rw [if_neg]; unfold hasL; omega
    rw [hno]
    have HT := Lib.hid (rtake_far p g l bad 2 w h h2)
    clear h2 hno
    go_enter Try.func30, Try.ntmps30
    go_wp2_with fail
    refine HT.out.mono ?_
    rintro e w1 ⟨rfl, h1, h2, h3⟩
    go_wp2
    go_ret
    exact ⟨none, 0, rfl, rfl, fun i x hx => by simp at hx, fun _ => rfl, p, h1, .inr rfl, h2, h3⟩
  · have hbb := h.bb
    have HT := Lib.hid (rtake_any p g l bad 2 w h (by omega))
    obtain ⟨x0, hx0⟩ : ∃ x, x = co l 0 := ⟨_, rfl⟩
    obtain ⟨x1, hx1⟩ : ∃ x, x = co l 1 := ⟨_, rfl⟩
    have b0 : x0 < 256 := by rw [hx0]; exact hbb.co 0
    have b1 : x1 < 256 := by rw [hx1]; exact hbb.co 1
    obtain ⟨k, hk⟩ : ∃ k, k = x0 * 256 + x1 := ⟨_, rfl⟩
    have hwk : IntKind.i64.wrap (IntKind.i64.wrap (IntKind.i64.wrap (x0 : Int) * 256) + IntKind.i64.wrap (x1 : Int)) = (k : Int) := by simp only [IntKind.wrap_i64]; omega
    have HWK := Lib.hid hwk
    clear hwk
    have hw2 : w2 l = k := by unfold w2; rw [← hx0, ← hx1]; exact hk.symm
    have h2' : 2 ≤ l.length := by omega
    have hlt : (l.take 2).length = 2 := by rw [List.length_take]; omega
    have cells : ∀ (w1 : World) (AT : Option Addr), SlA w1 p p AT (l.take 2) → ∃ b off, AT = some ⟨b, off, none⟩ ∧ w1.cell? ⟨b, off, none⟩ = some (.int .u8 (x0 : Int)) ∧ w1.cell? ⟨b, off + 1, none⟩ = some (.int .u8 (x1 : Int)) := fun w1 AT hS => by
      obtain ⟨b, off, e0, c0⟩ := sla_at hS (k := 0) (by rw [hlt]; omega)
      obtain ⟨b', off', e1, c1⟩ := sla_at hS (k := 1) (by rw [hlt]; omega)
      subst e0
      injection e1 with e1; injection e1 with e1 e1'; subst e1 e1'
      rw [co_take (by omega)] at c0 c1
      exact ⟨b, off, rfl, by rw [hx0]; exact c0, by rw [hx1]; exact c1⟩
    have key : ∀ w1, Bx w1 p g (l.drop 2) bad → Calls Try.prog 37 #[.pointer (some ⟨p, 0, none⟩), .int .i64 (k : Int)] w1 fun e w' => ∃ AT m ok, e = .returned (.tuple #[.slice AT m m, .bool ok]) ∧ m = (rdL l bad).1.length ∧ SlA w' p p AT (rdL l bad).1 ∧ (AT = none → m = 0) ∧ ∃ g', Bx w' p g' (rdL l bad).2.1 (rdL l bad).2.2 ∧ (g' = g ∨ g' = p) ∧ K2 w1 w' p p ∧ w'.heap.size = w1.heap.size := fun w1 h1 => by
      by_cases hf : k + 2 ≤ l.length
      · have hyes : rdL l bad = ((l.drop 2).take k, (l.drop 2).drop k, bad) := by
          unfold rdL
          rw [if_pos ⟨h2', by rw [hw2]; exact hf⟩, hw2, List.drop_drop]
        rw [hyes]
        refine (rtake_any p g (l.drop 2) bad k w1 h1 (by rw [List.length_drop]; omega)).mono ?_
        rintro e w' ⟨AT, rfl, h3, h4, h5, h6, h7⟩
        exact ⟨AT, k, true, rfl, by simp only [List.length_take, List.length_drop]; omega, h3, h4, g, h5, .inl rfl, h6, h7⟩
      · have hno : rdL l bad = ([], [], true) := by unfold rdL; rw [if_neg]; unfold hasL; rw [hw2]; omega
        rw [hno]
        refine (rtake_far p g (l.drop 2) bad k w1 h1 (by rw [List.length_drop]; omega)).mono ?_
        rintro e w' ⟨rfl, h3, h4, h5⟩
        exact ⟨none, 0, false, rfl, rfl, fun i x hx => by simp at hx, fun _ => rfl, p, h3, .inr rfl, h4, h5⟩
    have HC := Lib.hid cells
    have HK := Lib.hid key
    clear hx0 hx1 cells key h2 h2' hlt hbb hw2 hk
    go_enter Try.func30, Try.ntmps30
    go_wp2_with fail
    refine HT.out.mono ?_
    rintro e w1 ⟨AT, rfl, hS, _, h1, h2, h3⟩
    obtain ⟨b, off, rfl, c0, c1⟩ := HC.out w1 AT hS
    have HB := Lib.hid h1
    have HKW := Lib.hid h2
    clear h1 h2
    go_wp2
    go_region_with (go_at_call 37; rw [HWK.out]; refine (HK.out _ HB.out.drew).mono ?_; rintro e w2 ⟨AT, m, ok, rfl, h4, h5, h6, g2, h7, h8, h9, h10⟩; have H4 := Lib.hid h4; clear h4)
    all_goals (go_wp2; go_ret; exact ⟨AT, m, rfl, H4.out, h5, h6, g2, h7, h8, HKW.out.drew.trans h9 (.inl rfl), h10.trans h3⟩)
end Go.Proofs.Ytabalhhodcajmaa
