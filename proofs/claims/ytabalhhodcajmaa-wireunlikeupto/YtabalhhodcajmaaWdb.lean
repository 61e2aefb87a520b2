/- What word's New, Writer.spoil, put, Int, Bytes and Out do. -/
import Derived.Test.YtabalhhodcajmaaWda
import Derived.Test.YtabalhhodcajmaaClo
namespace Go.Proofs.Ytabalhhodcajmaa
open Go.RowKit Go.Shelf Gw Pol

set_option maxRecDepth 100000 in
theorem wnew_any (w : World) : Calls Try.prog 13 #[] w fun e w' => e = .returned (.pointer (some ⟨w.heap.size, 0, none⟩)) ∧ w' = w.alloc (.cells #[.slice none 0 0, .bool false] 64) := by
  go_enter Try.func13, Try.ntmps13
  go_wp2
  go_ret
  exact ⟨rfl, rfl⟩
set_option maxRecDepth 100000 in
theorem wint_none (n : Int) (w : World) : Calls Try.prog 18 #[.pointer none, .int .i64 n] w fun e w' => e = .returned (.tuple #[]) ∧ w' = w := by
  go_enter Try.func18, Try.ntmps18
  go_wp2
  (try simp only [Exit.inBlock, Exit.then]); refine bodyPost_ret (results_none rfl _ _ _) rfl ?_
  exact ⟨rfl, rfl⟩
set_option maxRecDepth 100000 in
theorem wbytes_none (A : Option Addr) (n c : Nat) (w : World) : Calls Try.prog 19 #[.pointer none, .slice A n c] w fun e w' => e = .returned (.tuple #[]) ∧ w' = w := by
  go_enter Try.func19, Try.ntmps19
  go_wp2
  (try simp only [Exit.inBlock, Exit.then]); refine bodyPost_ret (results_none rfl _ _ _) rfl ?_
  exact ⟨rfl, rfl⟩
set_option maxRecDepth 100000 in
theorem wout_none (w : World) : Calls Try.prog 20 #[.pointer none] w fun e w' => e = .returned (.tuple #[.slice none 0 0, .bool false]) ∧ w' = w := by
  go_enter Try.func20, Try.ntmps20
  go_wp2
  go_ret2
  exact ⟨rfl, rfl⟩
set_option maxRecDepth 100000 in
theorem wspoil_any (p g : Nat) (l : List Nat) (bad : Bool) (w : World) (h : Bx w p g l bad) : Calls Try.prog 32 #[.pointer (some ⟨p, 0, none⟩)] w fun e w' => e = .returned (.tuple #[]) ∧ Bx w' p p [] true ∧ K2 w w' p p ∧ w'.heap.size = w.heap.size := by
  obtain ⟨A, c, hc, hR⟩ := h.row
  have hu := h.flag
  have hf := h.fr
  have hf0 := hf 0
  have hf1 := hf 1
  have hplt := h.lt
  have hu2 : ∀ v, (w.setCell ⟨p, 0, none⟩ v).cell? ⟨p, 1, none⟩ = some (.bool bad) := fun v => (World.cell?_setCell_other _ _ _ _ (by simp)).trans hu
  go_enter Try.func32, Try.ntmps32
  go_wp2
  go_end0
  refine ⟨rfl, ?_, (K2.set w p p 0 _).trans (K2.set _ p p 1 _) (.inl rfl), by simp⟩
  exact Bx.turn (Bx.put (L := []) hplt hplt hu hf hc rfl (.inl ⟨rfl, rfl, rfl, rfl⟩)) true
set_option maxRecDepth 100000 in
theorem wput_bad (p g : Nat) (l : List Nat) (A : Option Addr) (m c : Nat) (w : World) (h : Bx w p g l true) : Calls Try.prog 33 #[.pointer (some ⟨p, 0, none⟩), .slice A m c] w fun e w' => e = .returned (.tuple #[]) ∧ w' = w := by
  have hu := h.flag
  go_enter Try.func33, Try.ntmps33
  go_wp2
  go_end0
  exact ⟨rfl, rfl⟩
set_option maxRecDepth 100000 in
theorem wput_any (p g : Nat) (l : List Nat) (A : Option Addr) (m c : Nat) (b : List Nat) (w : World) (h : Bx w p g l false) (hm : m = b.length) (hI : Sl w w.heap.size A b) (hl : l.length + b.length ≤ 140737488355328) :
    Calls Try.prog 33 #[.pointer (some ⟨p, 0, none⟩), .slice A m c] w fun e w' => e = .returned (.tuple #[]) ∧ ∃ g', Bx w' p g' (l ++ b) false ∧ (g' = g ∨ w.heap.size ≤ g') ∧ K2 w w' p g := by
  obtain ⟨Ao, co', hc, hR⟩ := h.row
  have hu := h.flag
  have hf := h.fr
  have hplt := h.lt
  obtain ⟨i0, hi0, hz0, hz1, hz2⟩ := info_parts pbyte_info
  obtain ⟨A2, c2, g2, w2, hrun, hR2, hg2, hlt2, hk2, hp2⟩ := run_tape (P := Try.prog) 25 25 5 i0 _ Try.underlying25 hi0 hz0 hz1 hz2 rfl p g l.length co' m c Ao A l b rfl hm hR h.lt h.glt hI hl
  have hf2 : w2.frozen? ⟨p, 0, none⟩ = false := (frozen_heap hp2).trans (hf 0)
  have hc2 : w2.cell? ⟨p, 0, none⟩ = some (.slice Ao l.length co') := (cell_heap hp2).trans hc
  have hu2 : w2.cell? ⟨p, 1, none⟩ = some (.bool false) := (cell_heap hp2).trans hu
  obtain ⟨N, hN⟩ : ∃ N, N = (l ++ b).length := ⟨_, rfl⟩
  rw [← hN] at hrun
  have HR := Lib.hid hrun
  have HN := Lib.hid hN
  clear hrun hN
  go_enter Try.func33, Try.ntmps33
  go_wp2_with (at_builtin; refine wpList_append1 rfl (.tmp 13) (.tmp 14) 25 (.slice Ao l.length co') (.slice A m c) (.slice A2 N c2) rfl rfl rfl HR.out ?_)
  go_end0
  exact ⟨rfl, g2, Bx.put (Nat.lt_of_lt_of_le hplt hk2.size) hlt2 hu2 (fun k => (frozen_heap hp2).trans (hf k)) hc2 HN.out hR2, hg2, hk2.trans (K2.set _ _ _ _ _) (.inl rfl)⟩
/-- What is put stands in a block that was laid just now. -/
theorem wput_lit (p g : Nat) (l b : List Nat) (m c : Nat) (w : World) (h : Bx w p g l false) (hm : m = b.length) (hb : BB b) (hl : l.length + b.length ≤ 140737488355328) :
    Calls Try.prog 33 #[.pointer (some ⟨p, 0, none⟩), .slice (some ⟨w.heap.size, 0, none⟩) m c] (w.alloc (.cells (bys b).toArray 5)) fun e w' => e = .returned (.tuple #[]) ∧ ∃ g', Bx w' p g' (l ++ b) false ∧ (g' = g ∨ w.heap.size ≤ g') ∧ K2 w w' p g := by
  refine (wput_any p g l (some ⟨w.heap.size, 0, none⟩) m c b _ (h.alloc _) hm ((Sl.lit w _ b hb).more (by simp)) hl).mono ?_
  rintro e w' ⟨rfl, g', h1, h2, h3⟩
  refine ⟨rfl, g', h1, ?_, (K2.alloc w _ p g).trans h3 (.inl rfl)⟩
  rcases h2 with h2 | h2
  · exact .inl h2
  · rw [World.size_alloc] at h2; exact .inr (by omega)
theorem i4_int (v : Nat) (hv : v ≤ 2147483647) : num ((v : Int) - 2) = [v / 16777216, v / 65536 % 256, v / 256 % 256, v % 256] := by
  have h1 : ((v : Int) - 2 + 2).toNat = v := by omega
  have h2 : v / 16777216 % 256 = v / 16777216 := by omega
  unfold num i4
  rw [h1, h2]
set_option maxRecDepth 100000 in
theorem wint_spoil (p g : Nat) (l : List Nat) (bad : Bool) (n : Int) (w : World) (h : Bx w p g l bad) (hn : n < -2 ∨ 2147483645 < n) :
    Calls Try.prog 18 #[.pointer (some ⟨p, 0, none⟩), .int .i64 n] w fun e w' => e = .returned (.tuple #[]) ∧ Bx w' p p [] true ∧ K2 w w' p p ∧ w'.heap.size = w.heap.size := by
  by_cases h0 : n < -2
  · clear hn
    go_enter Try.func18, Try.ntmps18
    go_wp2_with fail
    refine (wspoil_any p g l bad w h).mono ?_
    rintro e w1 ⟨rfl, h1, h2, h3⟩
    go_wp2
    (try simp only [Exit.inBlock, Exit.then]); refine bodyPost_ret (results_none rfl _ _ _) rfl ?_
    exact ⟨rfl, h1, h2, h3⟩
  · have hn' : 2147483645 < n := by omega
    clear hn
    go_enter Try.func18, Try.ntmps18
    go_wp2_with fail
    refine (wspoil_any p g l bad w h).mono ?_
    rintro e w1 ⟨rfl, h1, h2, h3⟩
    go_wp2
    (try simp only [Exit.inBlock, Exit.then]); refine bodyPost_ret (results_none rfl _ _ _) rfl ?_
    exact ⟨rfl, h1, h2, h3⟩
set_option maxRecDepth 100000 in
theorem wint_ok (p g : Nat) (l : List Nat) (bad : Bool) (n : Int) (w : World) (h : Bx w p g l bad) (hbad : bad = true → l = []) (h0 : -2 ≤ n) (h1 : n ≤ 2147483645) (hl : l.length ≤ 140737488355324) :
    Calls Try.prog 18 #[.pointer (some ⟨p, 0, none⟩), .int .i64 n] w fun e w' => e = .returned (.tuple #[]) ∧ ∃ g', Bx w' p g' (wrN l bad n).1 (wrN l bad n).2 ∧ (g' = g ∨ w.heap.size ≤ g') ∧ K2 w w' p g := by
  obtain ⟨v, hv⟩ : ∃ v : Nat, n + 2 = (v : Int) := ⟨(n + 2).toNat, by omega⟩
  have hok : okN n = true := okN_iff.2 ⟨h0, h1⟩
  have hn : n = (v : Int) - 2 := by omega
  have hvb : v ≤ 2147483647 := by omega
  have hnum := i4_int v hvb
  have hw : IntKind.i64.wrap (n + 2) = (v : Int) := by rw [IntKind.wrap_i64]; omega
  have key : ∀ (c : Nat), Calls Try.prog 33 #[.pointer (some ⟨p, 0, none⟩), .slice (some ⟨w.heap.size, 0, none⟩) 4 c] (w.alloc (.cells (bys [v / 16777216, v / 65536 % 256, v / 256 % 256, v % 256]).toArray 5)) fun e w' => e = .returned (.tuple #[]) ∧ ∃ g', Bx w' p g' (wrN l bad n).1 (wrN l bad n).2 ∧ (g' = g ∨ w.heap.size ≤ g') ∧ K2 w w' p g := fun c => by
    unfold wrN
    rw [if_pos hok]
    cases bad with
    | true =>
      obtain rfl := hbad rfl
      refine (wput_bad p g [] _ _ _ _ (h.alloc _)).mono ?_
      rintro e w' ⟨rfl, rfl⟩
      exact ⟨rfl, g, h.alloc _, .inl rfl, K2.alloc w _ p g⟩
    | false =>
      rw [hn, hnum]
      exact wput_lit p g l _ 4 c w h rfl (by rw [← hnum]; exact num_bb _) (by show l.length + 4 ≤ _; omega)
  have HK := Lib.hid key
  clear key hnum hn hok hv
  go_enter Try.func18, Try.ntmps18
  go_wp2_with fail
  refine (HK.out 4).mono ?_
  rintro e w1 ⟨rfl, g1, h1, h2, h3⟩
  go_wp2
  go_end0
  exact ⟨rfl, g1, h1, h2, h3⟩
/-- What Int does to any writer. -/
theorem wint_any (p g : Nat) (l : List Nat) (bad : Bool) (n : Int) (w : World) (h : Bx w p g l bad) (hbad : bad = true → l = []) (hl : l.length ≤ 140737488355324) :
    Calls Try.prog 18 #[.pointer (some ⟨p, 0, none⟩), .int .i64 n] w fun e w' => e = .returned (.tuple #[]) ∧ ∃ g', Bx w' p g' (wrN l bad n).1 (wrN l bad n).2 ∧ (g' = g ∨ g' = p ∨ w.heap.size ≤ g') ∧ K2 w w' p g := by
  by_cases ho : okN n = true
  · have := okN_iff.1 ho
    refine (wint_ok p g l bad n w h hbad this.1 this.2 hl).mono ?_
    rintro e w' ⟨rfl, g', h1, h2, h3⟩
    exact ⟨rfl, g', h1, by omega, h3⟩
  · refine (wint_spoil p g l bad n w h (okN_not ho)).mono ?_
    rintro e w' ⟨rfl, h1, h2, _⟩
    refine ⟨rfl, p, ?_, .inr (.inl rfl), h2.wk⟩
    unfold wrN
    rw [if_neg ho]
    exact h1
set_option maxRecDepth 100000 in
theorem wbytes_spoil (p g : Nat) (l : List Nat) (bad : Bool) (A : Option Addr) (m c : Nat) (w : World) (h : Bx w p g l bad) (hm : 65535 < m) :
    Calls Try.prog 19 #[.pointer (some ⟨p, 0, none⟩), .slice A m c] w fun e w' => e = .returned (.tuple #[]) ∧ Bx w' p p [] true ∧ K2 w w' p p ∧ w'.heap.size = w.heap.size := by
  go_enter Try.func19, Try.ntmps19
  go_wp2_with fail
  refine (wspoil_any p g l bad w h).mono ?_
  rintro e w1 ⟨rfl, h1, h2, h3⟩
  go_wp2
  (try simp only [Exit.inBlock, Exit.then]); refine bodyPost_ret (results_none rfl _ _ _) rfl ?_
  exact ⟨rfl, h1, h2, h3⟩
set_option maxRecDepth 100000 in
theorem wbytes_ok (p g : Nat) (l : List Nat) (bad : Bool) (A : Option Addr) (m c : Nat) (b : List Nat) (w : World) (h : Bx w p g l bad) (hbad : bad = true → l = []) (hm : m = b.length) (hS : SlA w p g A b) (hb : m ≤ 65535) (hl : l.length ≤ 140737488200000) :
    Calls Try.prog 19 #[.pointer (some ⟨p, 0, none⟩), .slice A m c] w fun e w' => e = .returned (.tuple #[]) ∧ ∃ g', Bx w' p g' (wrL l bad b).1 (wrL l bad b).2 ∧ (g' = g ∨ w.heap.size ≤ g') ∧ K2 w w' p g := by
  have hok : okL b = true := okL_iff.2 (by omega)
  have hlay : lay b = [m / 256, m % 256] ++ b := by
    have : m / 256 % 256 = m / 256 := by omega
    unfold lay; rw [← hm, this]; rfl
  have k1 : ∀ (c : Nat), Calls Try.prog 33 #[.pointer (some ⟨p, 0, none⟩), .slice (some ⟨w.heap.size, 0, none⟩) 2 c] (w.alloc (.cells (bys [m / 256, m % 256]).toArray 5)) fun e w' => e = .returned (.tuple #[]) ∧ ∃ g', Bx w' p g' (if bad then [] else l ++ [m / 256, m % 256]) bad ∧ (g' = g ∨ w.heap.size ≤ g') ∧ K2 w w' p g := fun c => by
    cases bad with
    | true =>
      obtain rfl := hbad rfl
      refine (wput_bad p g [] _ _ _ _ (h.alloc _)).mono ?_
      rintro e w' ⟨rfl, rfl⟩
      exact ⟨rfl, g, h.alloc _, .inl rfl, K2.alloc w _ p g⟩
    | false =>
      exact wput_lit p g l _ 2 c w h rfl (BB.cons (by omega) (BB.cons (by omega) BB.nil)) (by show l.length + 2 ≤ _; omega)
  have k2 : ∀ (g' : Nat) (w' : World), Bx w' p g' (if bad then [] else l ++ [m / 256, m % 256]) bad → (g' = g ∨ w.heap.size ≤ g') → K2 w w' p g → Calls Try.prog 33 #[.pointer (some ⟨p, 0, none⟩), .slice A m c] w' fun e w'' => e = .returned (.tuple #[]) ∧ ∃ g'', Bx w'' p g'' (wrL l bad b).1 (wrL l bad b).2 ∧ (g'' = g ∨ w.heap.size ≤ g'') ∧ K2 w w'' p g := fun g' w' h1 h2 h3 => by
    unfold wrL
    rw [if_pos hok]
    cases bad with
    | true =>
      refine (wput_bad p g' [] _ _ _ _ h1).mono ?_
      rintro e w'' ⟨rfl, rfl⟩
      exact ⟨rfl, g', h1, h2, h3⟩
    | false =>
      have hS' := hS.k2 h3 (show g' = g ∨ g' = p ∨ w.heap.size ≤ g' by omega)
      refine (wput_any p g' _ A m c b w' h1 hm hS'.sl (by show (l ++ [m / 256, m % 256]).length + b.length ≤ _; rw [List.length_append]; show l.length + 2 + b.length ≤ _; omega)).mono ?_
      rintro e w'' ⟨rfl, g'', h4, h5, h6⟩
      have hz := h3.size
      refine ⟨rfl, g'', ?_, by omega, h3.trans h6 h2⟩
      have h7 : Bx w'' p g'' (l ++ [m / 256, m % 256] ++ b) false := h4
      rw [List.append_assoc, ← hlay] at h7
      exact h7
  have HK1 := Lib.hid k1
  have HK2 := Lib.hid k2
  clear k1 k2 hlay hok hm
  go_enter Try.func19, Try.ntmps19
  go_wp2_with fail
  refine (HK1.out 2).mono ?_
  rintro e w1 ⟨rfl, g1, h1, h2, h3⟩
  go_wp2_with fail
  refine (HK2.out g1 w1 h1 h2 h3).mono ?_
  rintro e w2 ⟨rfl, g2, h4, h5, h6⟩
  go_wp2
  go_end0
  exact ⟨rfl, g2, h4, h5, h6⟩
/-- What Bytes does to any writer. -/
theorem wbytes_any (p g : Nat) (l : List Nat) (bad : Bool) (A : Option Addr) (m c : Nat) (b : List Nat) (w : World) (h : Bx w p g l bad) (hbad : bad = true → l = []) (hm : m = b.length) (hS : SlA w p g A b) (hl : l.length ≤ 140737488200000) :
    Calls Try.prog 19 #[.pointer (some ⟨p, 0, none⟩), .slice A m c] w fun e w' => e = .returned (.tuple #[]) ∧ ∃ g', Bx w' p g' (wrL l bad b).1 (wrL l bad b).2 ∧ (g' = g ∨ g' = p ∨ w.heap.size ≤ g') ∧ K2 w w' p g := by
  by_cases ho : m ≤ 65535
  · refine (wbytes_ok p g l bad A m c b w h hbad hm hS ho hl).mono ?_
    rintro e w' ⟨rfl, g', h1, h2, h3⟩
    exact ⟨rfl, g', h1, by omega, h3⟩
  · refine (wbytes_spoil p g l bad A m c w h (by omega)).mono ?_
    rintro e w' ⟨rfl, h1, h2, _⟩
    refine ⟨rfl, p, ?_, .inr (.inl rfl), h2.wk⟩
    unfold wrL
    rw [if_neg (by rw [okL_iff]; omega)]
    exact h1
set_option maxRecDepth 100000 in
theorem wout_bad (p g : Nat) (l : List Nat) (w : World) (h : Bx w p g l true) : Calls Try.prog 20 #[.pointer (some ⟨p, 0, none⟩)] w fun e w' => e = .returned (.tuple #[.slice none 0 0, .bool false]) ∧ w' = w := by
  have hu := h.flag
  go_enter Try.func20, Try.ntmps20
  go_wp2
  go_ret2
  exact ⟨rfl, rfl⟩
set_option maxRecDepth 100000 in
theorem wout_any (p g : Nat) (l : List Nat) (w : World) (h : Bx w p g l false) (hl : l.length ≤ 140737488355328) : Calls Try.prog 20 #[.pointer (some ⟨p, 0, none⟩)] w fun e w' =>
    ∃ A2 c2, e = .returned (.tuple #[.slice A2 l.length c2, .bool true]) ∧ Gw.Own w' w.heap.size 5 A2 c2 l ∧ Below w.heap.size w w' := by
  obtain ⟨A, c, hc, hR⟩ := h.row
  have hu := h.flag
  have HC := Lib.hid (clone_any A c l w hR.inn hl)
  go_enter Try.func20, Try.ntmps20
  go_wp2_with fail
  refine HC.out.mono ?_
  rintro e w1 ⟨A2, c2, rfl, h1, h2⟩
  go_wp2
  go_ret2
  exact ⟨A2, c2, rfl, h1, h2⟩
end Go.Proofs.Ytabalhhodcajmaa
