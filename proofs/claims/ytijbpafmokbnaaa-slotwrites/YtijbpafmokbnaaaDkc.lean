/- What disk's Write, Read and Turn do. -/
import Derived.Test.YtijbpafmokbnaaaDkb
import Derived.StillTailTactics
import Derived.Laws.BitsAllLaws
namespace Go.Proofs.Ytijbpafmokbnaaa
open Go.RowKit Go.Shelf Gw Pol
set_option maxRecDepth 100000 in
theorem dwrite_none (k : Int) (A : Option Addr) (m c : Nat) (w : World) : Calls Try.prog 31 #[.pointer none, .int .i64 k, .slice A m c] w fun e w' => e = .returned (.int .i64 1) ∧ w' = w := by
  go_enter Try.func31, Try.ntmps31
  go_wp2_with fail
  refine (dhas_none k w).mono ?_
  rintro e w' ⟨rfl, rfl⟩
  go_wp2
  go_ret
  exact ⟨rfl, rfl⟩
set_option maxRecDepth 100000 in
theorem dwrite_arg (p g n : Nat) (L : List Nat) (dn fu : Bool) (lf wr : Nat) (k : Int) (A : Option Addr) (m c : Nat) (w : World) (h : Dk w p g n L dn fu lf wr) (hb : hs n k = false ∨ m ≠ 32) :
    Calls Try.prog 31 #[.pointer (some ⟨p, 0, none⟩), .int .i64 k, .slice A m c] w fun e w' => e = .returned (.int .i64 1) ∧ w' = w := by
  have HC := Lib.hid (dhas_any p g n L dn fu lf wr k w h)
  clear h
  cases hh : hs n k with
  | false =>
    rw [hh] at HC
    clear hb hh
    go_enter Try.func31, Try.ntmps31
    go_wp2_with fail
    refine HC.out.mono ?_
    rintro e w' ⟨rfl, rfl⟩
    go_wp2
    go_ret
    exact ⟨rfl, rfl⟩
  | true =>
    have hm : m ≠ 32 := by
      rcases hb with h | h
      · rw [hh] at h; cases h
      · exact h
    rw [hh] at HC
    have hne : ((m : Int) != 32) = true := by simp; omega
    clear hb hh
    go_enter Try.func31, Try.ntmps31
    go_wp2_with fail
    refine HC.out.mono ?_
    rintro e w' ⟨rfl, rfl⟩
    go_wp2
    go_ret
    exact ⟨rfl, rfl⟩
theorem hs_yes {n k : Nat} (h : k < n) : hs n (k : Int) = true := by
  unfold hs
  simp
  omega
set_option maxRecDepth 100000 in
/-- No power. -/
theorem dwrite_down (p g n : Nat) (L : List Nat) (wr k : Nat) (fu : Bool) (lf : Nat) (A : Option Addr) (c : Nat) (w : World) (h : Dk w p g n L true fu lf wr) (hk : k < n) (hd : fu = true → lf ≠ 0) :
    Calls Try.prog 31 #[.pointer (some ⟨p, 0, none⟩), .int .i64 (k : Int), .slice A 32 c] w fun e w' => e = .returned (.int .i64 3) ∧ w' = w := by
  have c1 : w.cell? ⟨p, 1, none⟩ = some (.bool true) := h.cell 1
  have c2 : w.cell? ⟨p, 2, none⟩ = some (.bool fu) := h.cell 2
  have c3 : w.cell? ⟨p, 3, none⟩ = some (.int .i64 (lf : Int)) := h.cell 3
  have HC := Lib.hid (dhas_any p g n L true fu lf wr k w h)
  rw [hs_yes hk] at HC
  clear h hk
  cases fu with
  | true =>
    have hne : ((lf : Int) == 0) = false := by have := hd rfl; simp; omega
    clear hd
    go_enter Try.func31, Try.ntmps31
    go_wp2_with fail
    refine HC.out.mono ?_
    rintro e w' ⟨rfl, rfl⟩
    go_wp2
    go_ret
    exact ⟨rfl, rfl⟩
  | false =>
    clear hd
    go_enter Try.func31, Try.ntmps31
    go_wp2_with fail
    refine HC.out.mono ?_
    rintro e w' ⟨rfl, rfl⟩
    go_wp2
    go_ret
    exact ⟨rfl, rfl⟩
set_option maxRecDepth 100000 in
/-- The power goes. -/
theorem dwrite_goes (p g n : Nat) (L : List Nat) (dn : Bool) (wr k : Nat) (A : Option Addr) (c : Nat) (w : World) (h : Dk w p g n L dn true 0 wr) (hk : k < n) :
    Calls Try.prog 31 #[.pointer (some ⟨p, 0, none⟩), .int .i64 (k : Int), .slice A 32 c] w fun e w' => e = .returned (.int .i64 3) ∧ Dk w' p g n L true true 0 wr ∧ K2 w w' p g := by
  have c1 : w.cell? ⟨p, 1, none⟩ = some (.bool dn) := h.cell 1
  have c2 : w.cell? ⟨p, 2, none⟩ = some (.bool true) := h.cell 2
  have c3 : w.cell? ⟨p, 3, none⟩ = some (.int .i64 0) := h.cell 3
  have f1 := h.fr 1
  have HC := Lib.hid (dhas_any p g n L dn true 0 wr k w h)
  rw [hs_yes hk] at HC
  have HD := Lib.hid (show Dk (w.setCell ⟨p, 1, none⟩ (.bool true)) p g n L true true 0 wr from h.set 1 _)
  clear h hk
  go_enter Try.func31, Try.ntmps31
  go_wp2_with fail
  refine HC.out.mono ?_
  rintro e w' ⟨rfl, rfl⟩
  go_wp2
  go_ret
  exact ⟨rfl, HD.out, K2.set _ p g 1 _⟩
set_option maxRecDepth 100000 in
/-- A Write, where there is no fuse. -/
theorem dwrite_ok (p g n : Nat) (L : List Nat) (lf wr k : Nat) (A : Option Addr) (c B : Nat) (b : List Nat) (w : World) (h : Dk w p g n L false false lf wr) (hk : k < n) (hb : Sl w B A b) (hl : b.length = 32) (hw : wr < 4611686018427387904) :
    Calls Try.prog 31 #[.pointer (some ⟨p, 0, none⟩), .int .i64 (k : Int), .slice A 32 c] w fun e w' => e = .returned (.int .i64 0) ∧ Dk w' p g n (laid L (k * 32) b) false false lf (wr + 1) ∧ K2 w w' p g := by
  have c0 : w.cell? ⟨p, 0, none⟩ = some (.slice (some ⟨g, 0, none⟩) n n) := h.cell 0
  have c1 : w.cell? ⟨p, 1, none⟩ = some (.bool false) := h.cell 1
  have c2 : w.cell? ⟨p, 2, none⟩ = some (.bool false) := h.cell 2
  have HC := Lib.hid (dhas_any p g n L false false lf wr k w h)
  rw [hs_yes hk] at HC
  have hL := h.len
  obtain ⟨w2, hcp, hBk, hgr⟩ := run_copyK (P := Try.prog) 28 3 5 Try.underlying28 (by kernel_rfl) g (k * 32) 32 32 32 c hb h.row hl.symm (Nat.le_refl _) (by omega)
  have hD2 : Dk w2 p g n (laid L (k * 32) b) false false lf wr := h.lay hgr hBk (laid_len (by omega)) (laid_bb h.bb hb.bb)
  have HD := Lib.hid (show Dk (w2.setCell ⟨p, 4, none⟩ (.int .i64 ((wr : Int) + 1))) p g n (laid L (k * 32) b) false false lf (wr + 1) from hD2.set 4 _)
  have c4 : w2.cell? ⟨p, 4, none⟩ = some (.int .i64 (wr : Int)) := hD2.cell 4
  have f4 := hD2.fr 4
  have HK := Lib.hid (show K2 w (w2.setCell ⟨p, 4, none⟩ (.int .i64 ((wr : Int) + 1))) p g from (K2.grown hgr (.inr rfl)).sm (K2.set _ p g 4 _))
  have hwr : IntKind.i64.wrap ((wr : Int) + 1) = (wr : Int) + 1 := by rw [IntKind.wrap_i64]; omega
  have hkn : (k : Int) < (n : Int) := by omega
  clear h hBk hgr hD2 hb hl hL hw hk
  go_enter Try.func31, Try.ntmps31
  go_wp2_with fail
  refine HC.out.mono ?_
  rintro e w' ⟨rfl, rfl⟩
  go_wp2
  go_ret
  exact ⟨rfl, HD.out, HK.out⟩
set_option maxRecDepth 100000 in
/-- A Write that the fuse lets through. -/
theorem dwrite_fuse (p g n : Nat) (L : List Nat) (lf wr k : Nat) (A : Option Addr) (c B : Nat) (b : List Nat) (w : World) (h : Dk w p g n L false true (lf + 1) wr) (hk : k < n) (hb : Sl w B A b) (hp : ∀ o, A ≠ some ⟨p, o, none⟩) (hl : b.length = 32) (hw : wr < 4611686018427387904) (hlf : lf < 9223372036854775807) :
    Calls Try.prog 31 #[.pointer (some ⟨p, 0, none⟩), .int .i64 (k : Int), .slice A 32 c] w fun e w' => e = .returned (.int .i64 0) ∧ Dk w' p g n (laid L (k * 32) b) false true lf (wr + 1) ∧ K2 w w' p g := by
  have c1 : w.cell? ⟨p, 1, none⟩ = some (.bool false) := h.cell 1
  have c2 : w.cell? ⟨p, 2, none⟩ = some (.bool true) := h.cell 2
  have c3 : w.cell? ⟨p, 3, none⟩ = some (.int .i64 ((lf + 1 : Nat) : Int)) := h.cell 3
  obtain ⟨z, hz⟩ : ∃ z : Int, z = ((lf + 1 : Nat) : Int) := ⟨_, rfl⟩
  rw [← hz] at c3
  have f3 := h.fr 3
  have HC := Lib.hid (dhas_any p g n L false true (lf + 1) wr k w h)
  rw [hs_yes hk] at HC
  have hL := h.len
  obtain ⟨w1, hw1⟩ : ∃ w1, w1 = w.setCell ⟨p, 3, none⟩ (.int .i64 (lf : Int)) := ⟨_, rfl⟩
  have hD1 : Dk w1 p g n L false true lf wr := by rw [hw1]; exact h.set 3 _
  have hb1 : Sl w1 B A b := fun i x hx => by
    obtain ⟨h1, b', off, h2, h3, h4⟩ := hb i x hx
    refine ⟨h1, b', off, h2, h3, ?_⟩
    rw [hw1, cell_heap (heap_set_other w p 3 b' _ (fun e => hp off (by rw [h2, e])))]; exact h4
  have c0 : w1.cell? ⟨p, 0, none⟩ = some (.slice (some ⟨g, 0, none⟩) n n) := hD1.cell 0
  have c1' : w1.cell? ⟨p, 1, none⟩ = some (.bool false) := hD1.cell 1
  obtain ⟨w2, hcp, hBk, hgr⟩ := run_copyK (P := Try.prog) 28 3 5 Try.underlying28 (by kernel_rfl) g (k * 32) 32 32 32 c hb1 hD1.row hl.symm (Nat.le_refl _) (by omega)
  have hD2 : Dk w2 p g n (laid L (k * 32) b) false true lf wr := hD1.lay hgr hBk (laid_len (by omega)) (laid_bb h.bb hb.bb)
  have HD := Lib.hid (show Dk (w2.setCell ⟨p, 4, none⟩ (.int .i64 ((wr : Int) + 1))) p g n (laid L (k * 32) b) false true lf (wr + 1) from hD2.set 4 _)
  have c4 : w2.cell? ⟨p, 4, none⟩ = some (.int .i64 (wr : Int)) := hD2.cell 4
  have f4 := hD2.fr 4
  have HK := Lib.hid (show K2 w (w2.setCell ⟨p, 4, none⟩ (.int .i64 ((wr : Int) + 1))) p g from ((by rw [hw1]; exact K2.set w p g 3 _ : K2 w w1 p g).sm (K2.grown hgr (.inr rfl))).sm (K2.set _ p g 4 _))
  have hwr : IntKind.i64.wrap ((wr : Int) + 1) = (wr : Int) + 1 := by rw [IntKind.wrap_i64]; omega
  have hwl : IntKind.i64.wrap (z - 1) = (lf : Int) := by rw [IntKind.wrap_i64]; omega
  have hz0 : (z == 0) = false := by simp; omega
  have hkn : (k : Int) < (n : Int) := by omega
  subst hw1
  have c00 : w.cell? ⟨p, 0, none⟩ = some (.slice (some ⟨g, 0, none⟩) n n) := h.cell 0
  clear h hBk hgr hD2 hb hb1 hD1 hl hL hw hk hz hlf hp
  go_enter Try.func31, Try.ntmps31
  go_wp2_with fail
  refine HC.out.mono ?_
  rintro e w' ⟨rfl, rfl⟩
  go_wp2
  go_ret
  exact ⟨rfl, HD.out, HK.out⟩
theorem hs_no {n : Nat} {k : Int} (h : hs n k = false) : ¬ (0 ≤ k ∧ k < (n : Int)) := by
  unfold hs at h
  simp at h
  omega
set_option maxRecDepth 100000 in
theorem dread_none (k : Int) (w : World) : Calls Try.prog 22 #[.pointer none, .int .i64 k] w fun e w' => e = .returned (.tuple #[.slice none 0 0, .bool false]) ∧ w' = w := by
  go_enter Try.func22, Try.ntmps22
  go_wp2_with fail
  refine (dhas_none k w).mono ?_
  rintro e w' ⟨rfl, rfl⟩
  go_wp2
  go_ret2
  exact ⟨rfl, rfl⟩
set_option maxRecDepth 100000 in
theorem dread_no (p g n : Nat) (L : List Nat) (dn fu : Bool) (lf wr : Nat) (k : Int) (w : World) (h : Dk w p g n L dn fu lf wr) (hb : hs n k = false) :
    Calls Try.prog 22 #[.pointer (some ⟨p, 0, none⟩), .int .i64 k] w fun e w' => e = .returned (.tuple #[.slice none 0 0, .bool false]) ∧ w' = w := by
  have HC := Lib.hid (dhas_any p g n L dn fu lf wr k w h)
  rw [hb] at HC
  clear h hb
  go_enter Try.func22, Try.ntmps22
  go_wp2_with fail
  refine HC.out.mono ?_
  rintro e w' ⟨rfl, rfl⟩
  go_wp2
  go_ret2
  exact ⟨rfl, rfl⟩
/-- Block k. -/
def piece (L : List Nat) (k : Nat) : List Nat := (L.drop (k * 32)).take 32
theorem piece_len {L : List Nat} {n k : Nat} (hL : L.length = 32 * n) (hk : k < n) : (piece L k).length = 32 := by
  unfold piece; rw [List.length_take, List.length_drop]; omega
/-- 32 noughts. -/
def z32 : List Nat := List.replicate 32 0
theorem zero32 (w : World) : (zeroValue 57).run Try.prog w = .ok (.agg (bys z32).toArray) w := by kernel_rfl
theorem bysK_one (L : List Nat) : (bys L).toArray.all (·.oneCell') = true := by
  rw [Array.all_eq_true_iff_forall_mem]
  intro u hu
  exact bys_one L u (by simpa using hu)
set_option maxRecDepth 100000 in
theorem dread_yes (p g n : Nat) (L : List Nat) (dn fu : Bool) (lf wr k : Nat) (w : World) (h : Dk w p g n L dn fu lf wr) (hk : k < n) :
    Calls Try.prog 22 #[.pointer (some ⟨p, 0, none⟩), .int .i64 (k : Int)] w fun e w' => ∃ r, e = .returned (.tuple #[.slice (some ⟨r, 0, none⟩) 32 32, .bool true]) ∧ Bk w' r 57 (piece L k) ∧ w.heap.size ≤ r ∧ Below w.heap.size w w' := by
  have HC := Lib.hid (dhas_any p g n L dn fu lf wr k w h)
  rw [hs_yes hk] at HC
  have c0 : w.cell? ⟨p, 0, none⟩ = some (.slice (some ⟨g, 0, none⟩) n n) := h.cell 0
  have HR := Lib.hid (show w.rangeAt g (k * 32) (bys (piece L k)) from h.row.range (k * 32) 32)
  have hpl := piece_len h.len hk
  have HLN := Lib.hid (show (Try.prog.info? 57).map (·.size) = some (bys (piece L k)).length by rw [bys_len, hpl]; exact arr_info)
  have HLA := Lib.hid (show (Try.prog.info? 57).map (·.size) = some (bys (piece L k)).toArray.size by rw [List.size_toArray, bys_len, hpl]; exact arr_info)
  have HSZ := Lib.hid (show (bys z32).toArray.size = (bys (piece L k)).toArray.size by rw [List.size_toArray, List.size_toArray, bys_len, bys_len, hpl]; rfl)
  have HNW := Lib.hid (heap_alloc_new w (.cells (bys z32).toArray 57))
  have HB := Lib.hid (show Below w.heap.size w (w.alloc (.cells (bys z32).toArray 57)) from (Below.refl _ w).alloc (Nat.le_refl _) _)
  have hkn : (k : Int) < (n : Int) := by omega
  have hzz := zero32
  clear h hk hpl
  go_enter Try.func22, Try.ntmps22
  go_wp2_with fail
  refine HC.out.mono ?_
  rintro e w' ⟨rfl, rfl⟩
  go_wp2_with (first | (refine wpList_load_mid rfl 57 (.tmp 16) rfl g (k * 32) rfl (bys (piece L k)) _ HR.out Try.underlying57 rfl HLN.out ?_) | (refine wpList_store_row rfl 57 (.tmp 6) (.tmp 17) rfl _ _ rfl rfl _ _ HNW.out HLA.out HSZ.out (bysK_one _) ?_) | fail)
  go_ret2
  exact ⟨_, rfl, setRow_heap _ _ _ _ _ _ HNW.out, Nat.le_refl _, below_setRow HB.out (Nat.le_refl _) _⟩
theorem u8_xor_lt {a b : Nat} (ha : a < 256) (hb : b < 256) : a ^^^ b < 256 := Nat.xor_lt_two_pow (n := 8) ha hb
set_option maxRecDepth 100000 in
theorem dturn_none (k a : Int) (y : Nat) (w : World) : Calls Try.prog 36 #[.pointer none, .int .i64 k, .int .i64 a, .int .u8 (y : Int)] w fun e w' => e = .returned (.bool false) ∧ w' = w := by
  go_enter Try.func36, Try.ntmps36
  go_wp2_with fail
  refine (dhas_none k w).mono ?_
  rintro e w' ⟨rfl, rfl⟩
  go_wp2
  go_ret
  exact ⟨rfl, rfl⟩
set_option maxRecDepth 100000 in
theorem dturn_no (p g n : Nat) (L : List Nat) (dn fu : Bool) (lf wr : Nat) (k a : Int) (y : Nat) (w : World) (h : Dk w p g n L dn fu lf wr) (hb : (hs n k && hs 32 a) = false) :
    Calls Try.prog 36 #[.pointer (some ⟨p, 0, none⟩), .int .i64 k, .int .i64 a, .int .u8 (y : Int)] w fun e w' => e = .returned (.bool false) ∧ w' = w := by
  have HC := Lib.hid (dhas_any p g n L dn fu lf wr k w h)
  clear h
  cases hh : hs n k with
  | false =>
    rw [hh] at HC
    clear hb hh
    go_enter Try.func36, Try.ntmps36
    go_wp2_with fail
    refine HC.out.mono ?_
    rintro e w' ⟨rfl, rfl⟩
    go_wp2
    go_ret
    exact ⟨rfl, rfl⟩
  | true =>
    rw [hh, Bool.true_and] at hb
    have hn := hs_no hb
    rw [hh] at HC
    clear hb hh
    by_cases h0 : a < 0
    · clear hn
      go_enter Try.func36, Try.ntmps36
      go_wp2_with fail
      refine HC.out.mono ?_
      rintro e w' ⟨rfl, rfl⟩
      go_wp2
      go_ret
      exact ⟨rfl, rfl⟩
    · have h32 : (32 : Int) ≤ a := by omega
      clear hn
      go_enter Try.func36, Try.ntmps36
      go_wp2_with fail
      refine HC.out.mono ?_
      rintro e w' ⟨rfl, rfl⟩
      go_wp2
      go_ret
      exact ⟨rfl, rfl⟩
set_option maxRecDepth 100000 in
theorem dturn_yes (p g n : Nat) (L : List Nat) (dn fu : Bool) (lf wr k a y : Nat) (w : World) (h : Dk w p g n L dn fu lf wr) (hk : k < n) (ha : a < 32) (hy : y < 256) :
    Calls Try.prog 36 #[.pointer (some ⟨p, 0, none⟩), .int .i64 (k : Int), .int .i64 (a : Int), .int .u8 (y : Int)] w fun e w' => e = .returned (.bool true) ∧ Dk w' p g n (L.set (k * 32 + a) (co L (k * 32 + a) ^^^ y)) dn fu lf wr ∧ K2 w w' p g := by
  have HC := Lib.hid (dhas_any p g n L dn fu lf wr k w h)
  rw [hs_yes hk] at HC
  have c0 : w.cell? ⟨p, 0, none⟩ = some (.slice (some ⟨g, 0, none⟩) n n) := h.cell 0
  have hlt : k * 32 + a < L.length := by rw [h.len]; omega
  have cg := h.row.cell' hlt
  have fg := h.row.frozen (k * 32 + a)
  have hxb : co L (k * 32 + a) < 256 := h.bb.co _
  have HD := Lib.hid (show Dk ((w.drew).setCell ⟨g, k * 32 + a, none⟩ (.int .u8 ((co L (k * 32 + a) ^^^ y : Nat) : Int))) p g n (L.set (k * 32 + a) (co L (k * 32 + a) ^^^ y)) dn fu lf wr from Bxs.turn (w := w.drew) (Bxs.keep h rfl rfl) _ _ (u8_xor_lt hxb hy))
  obtain ⟨x, hx⟩ : ∃ x, x = co L (k * 32 + a) := ⟨_, rfl⟩
  rw [← hx] at cg hxb HD
  have hxor : bits .xor .u8 (x : Int) (y : Int) = ((x ^^^ y : Nat) : Int) := u8_xor_nat x y hxb hy
  have hkn : (k : Int) < (n : Int) := by omega
  have ha0 : ¬ (a : Int) < 0 := by omega
  have ha1 : ¬ (32 : Int) ≤ (a : Int) := by omega
  have ha2 : (a : Int) < 32 := by omega
  have HX := Lib.hid hx
  clear h hk hlt hx hy hxb ha
  go_enter Try.func36, Try.ntmps36
  go_wp2_with fail
  refine HC.out.mono ?_
  rintro e w' ⟨rfl, rfl⟩
  go_wp2
  go_still_tail 13, (by kernel_rfl)
  change wpList _ _ _ _ _ w'.drew
  go_wp2
  go_ret
  have hk2 := K2.setg w'.drew p g (k * 32 + a) (.int .u8 ((x ^^^ y : Nat) : Int))
  exact ⟨rfl, by rw [← HX.out]; exact HD.out, ⟨hk2.os, hk2.tape, hk2.output, hk2.size, hk2.block⟩⟩
end Go.Proofs.Ytijbpafmokbnaaa
