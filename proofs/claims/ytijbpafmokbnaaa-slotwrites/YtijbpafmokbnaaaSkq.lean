/- What the program's slot reads of its root, and how it writes one. -/
import Derived.Test.YtijbpafmokbnaaaSkp
import Derived.Deep.MidRow
import Derived.ChangeKeysEq
namespace Go
/-- One result that lies in a box. -/
theorem results_cell1 {P : Program} {fn : Func} {p : Tmp} {t : TypeId} (h : fn.results = #[.cell p t]) (tmps : Array Value) (w : World) {b : Addr} {x : Value} (h1 : tmps.getD p undef = .pointer (some b)) (c1 : (loadVar t b).run P w = .ok x w) : (results fn tmps).run P w = .ok x w := by
  have h1' : tmps[p]?.getD undef = .pointer (some b) := by simpa using h1
  simp [results, h, h1', asAddr, c1]
end Go
namespace Go.Proofs.Ytijbpafmokbnaaa
open Go.RowKit Go.Shelf Gw Pol
theorem root_info : (Try.prog.info? 54).map (·.size) = some 2 := by kernel_rfl
/-- A root that lies in a box. -/
theorem load_root (w : World) (b : Nat) (x y : Int) (c0 : w.cell? ⟨b, 0, none⟩ = some (.int .i64 x)) (c1 : w.cell? ⟨b, 1, none⟩ = some (.int .i64 y)) : (loadVar 54 ⟨b, 0, none⟩).run Try.prog w = .ok (.agg #[.int .i64 x, .int .i64 y]) w := by
  refine run_loadVar_mid (P := Try.prog) w b 0 54 [.int .i64 x, .int .i64 y] _ (fun j v hv => ?_) Try.underlying54 rfl root_info
  match j, hv with
  | 0, hv => simp at hv; rw [← hv]; exact c0
  | 1, hv => simp at hv; rw [← hv]; exact c1
  | j + 2, hv => simp at hv
theorem or_byteI {z x : Nat} (hz : z < 16777216) (hx : x < 256) : bits .or .i64 ((z : Int) * 256) (x : Int) = ((z * 256 + x : Nat) : Int) := by
  have e : (z : Int) * 256 = ((z * 256 : Nat) : Int) := by simp
  have h1 : bits .or .i64 ((z * 256 : Nat) : Int) (x : Int) = ((z * 256 ||| x : Nat) : Int) := by
    unfold bits
    show IntKind.i64.wrap ((BitVec.ofInt 64 ((z * 256 : Nat) : Int) ||| BitVec.ofInt 64 (x : Int)).toNat : Int) = _
    have h2 : z * 256 ||| x < 2 ^ 33 := Nat.or_lt_two_pow (by omega) (by omega)
    rw [BitVec.toNat_or, ofInt_i64 _ (by omega), ofInt_i64 x (by omega), IntKind.wrap_i64]; omega
  rw [e, h1, Nat.mul_comm z 256, show (256 : Nat) = 2 ^ 8 from rfl, ← Nat.two_pow_add_eq_or_of_lt (show x < 2 ^ 8 from hx)]
/-- The first q digits of m, of four; the digit behind them. -/
def szq (m q : Nat) : Nat := m / 256 ^ (4 - q)
def dgq (m q : Nat) : Nat := m / 256 ^ (3 - q) % 256
theorem szq_step (m q : Nat) (hq : q < 4) : szq m q * 256 + dgq m q = szq m (q + 1) := by
  unfold szq dgq
  rcases (by omega : q = 0 ∨ q = 1 ∨ q = 2 ∨ q = 3) with rfl | rfl | rfl | rfl <;> simp only [Nat.reduceSub, Nat.reduceAdd, Nat.reducePow, Nat.div_one] <;> omega
theorem szq_lt (m q : Nat) (hm : m ≤ 16384) : szq m q < 16777216 := by
  unfold szq
  exact Nat.lt_of_le_of_lt (Nat.div_le_self _ _) (by omega)
theorem szq_all (m : Nat) : szq m 4 = m := by unfold szq; simp
theorem szq_none (m : Nat) (hm : m ≤ 16384) : szq m 0 = 0 := by unfold szq; simp only [Nat.sub_zero, Nat.reducePow]; omega
theorem dgq_at (side m q : Nat) (hq : q < 4) : co (rootB side m) (1 + q) = dgq m q := by
  obtain ⟨_, h1, h2, h3, h4⟩ := root_at side m
  unfold dgq
  rcases (by omega : q = 0 ∨ q = 1 ∨ q = 2 ∨ q = 3) with rfl | rfl | rfl | rfl <;> simp only [Nat.reduceSub, Nat.reduceAdd, Nat.reducePow, Nat.div_one]
  · exact h1
  · exact h2
  · exact h3
  · exact h4
theorem dgq_lt (m q : Nat) : dgq m q < 256 := Nat.mod_lt _ (by omega)
theorem set2 {w : World} {b : Nat} {x y v v' : Value} (h0 : w.cell? ⟨b, 0, none⟩ = some v) (h1 : w.cell? ⟨b, 1, none⟩ = some v') :
    ((w.setCell ⟨b, 0, none⟩ x).setCell ⟨b, 1, none⟩ y).cell? ⟨b, 0, none⟩ = some x ∧ ((w.setCell ⟨b, 0, none⟩ x).setCell ⟨b, 1, none⟩ y).cell? ⟨b, 1, none⟩ = some y := by
  have n1 : (⟨b, 1, none⟩ : Addr) ≠ ⟨b, 0, none⟩ := fun h => by injection h with _ h; omega
  have n2 : (⟨b, 0, none⟩ : Addr) ≠ ⟨b, 1, none⟩ := fun h => n1 h.symm
  refine ⟨?_, World.cell?_setCell_same _ ⟨b, 1, none⟩ _ (by rw [World.cell?_setCell_other _ _ _ _ n2]; exact h1)⟩
  rw [World.cell?_setCell_other _ _ _ _ n1]
  exact World.cell?_setCell_same w ⟨b, 0, none⟩ _ h0
def RoRel (m : Nat) (w : World) (z i : Value) (wr : World) : Prop := ∃ q : Nat, q ≤ 4 ∧ i = .int .i64 (q : Int) ∧ z = .int .i64 (szq m q : Int) ∧ wr = w
set_option maxRecDepth 100000 in
set_option maxHeartbeats 1000000 in
/-- What its root tells. -/
theorem zroot_any (a p g r side : Nat) (L K : List Nat) (s : Pw) (w : World) (h : Sz w a p g r L s) (hd : Sd r L side K) :
    Calls Try.prog 28 #[.pointer (some ⟨a, 0, none⟩)] w fun e w' => e = .returned (.agg #[.int .i64 (side : Int), .int .i64 (K.length : Int)]) ∧ Below w.heap.size w w' := by
  obtain ⟨m, hm⟩ : ∃ m, m = K.length := ⟨_, rfl⟩
  have hm2 : m ≤ 16384 := by have := hd.fit; have := hd.few; omega
  have hmr : m ≤ r * 32 := by have := hd.fit; omega
  obtain ⟨W0, hW0⟩ : ∃ W0, W0 = w.alloc (.cells #[.int .i64 0, .int .i64 0] 54) := ⟨_, rfl⟩
  have hb0 : Below w.heap.size w W0 := by rw [hW0]; exact (Below.refl _ w).alloc (Nat.le_refl _) _
  have h0 : Sz W0 a p g r L s := h.below hb0 (Nat.le_refl _)
  have hs0 : W0.heap.size = w.heap.size + 1 := by rw [hW0]; simp
  have hn0 : W0.heap[w.heap.size]? = some (.cells #[.int .i64 0, .int .i64 0] 54 (0, 0)) := by rw [hW0]; exact World.alloc_heap_new w _
  have hrp := hd.rootp
  rw [← hm] at hrp
  have HR := Lib.hid (dz_read p g (1 + 2 * r) L s 0 W0 h0.dz (by omega))
  rw [hrp] at HR
  have c0 := h0.cell
  rw [hW0] at c0
  have h2 := hd.two
  have hr1 := h0.few
  rw [← hm]
  have H0 := Lib.hid h0
  have HB0 := Lib.hid hb0
  have HN0 := Lib.hid hn0
  have HS0 := Lib.hid hs0
  clear h hd h0 hrp hb0 hn0 hs0 hm
  go_enter Try.func28, Try.ntmps28
  go_wp2_with fail
  rw [← hW0]
  refine HR.out.mono ?_
  rintro e w1 ⟨b, rfl, hbk, hb, hb1⟩
  have hb1n : w1.heap[w.heap.size]? = some (.cells #[.int .i64 0, .int .i64 0] 54 (0, 0)) := (hb1.block _ (by rw [HS0.out]; omega)).trans HN0.out
  have x0 : w1.cell? ⟨b, 0, none⟩ = some (.int .u8 (side : Int)) := by
    rw [← (root_at side m).1]
    exact hbk.cell' (by rw [rootB_len]; omega)
  have xq : ∀ q, q < 4 → w1.cell? ⟨b, 1 + q, none⟩ = some (.int .u8 (dgq m q : Int)) := fun q hq => by
    rw [← dgq_at side m q hq]
    exact hbk.cell' (by rw [rootB_len]; omega)
  have HX := Lib.hid xq
  have HB1 := Lib.hid (HB0.out.trans (hb1.mono HB0.out.size))
  have HZ1 := Lib.hid (zroom_any a p g r L s w1 (H0.out.below hb1 (Nat.le_refl _)))
  have HNB := Lib.hid hb1n
  clear HR c0 hbk xq hb1 hb1n
  go_wp2
  go_loopw [6, 27] (RoRel m w1) (fun _ i _ => 4 - (intOf i).toNat)
  case atStart => exact ⟨0, by omega, rfl, by rw [szq_none m hm2]; rfl, rfl⟩
  case round =>
    obtain ⟨q, hq, rfl, rfl, rfl⟩ := hrel
    have hzl := szq_lt m q hm2
    by_cases hlt : q < 4
    · have h4 : (q : Int) < 4 := by omega
      have xx := HX.out q hlt
      have hdl := dgq_lt m q
      have hor := or_byteI hzl hdl
      rw [szq_step m q hlt] at hor
      obtain ⟨z, hz⟩ : ∃ z, z = szq m q := ⟨_, rfl⟩
      obtain ⟨d, hdd⟩ : ∃ d, d = dgq m q := ⟨_, rfl⟩
      rw [← hz, ← hdd] at hor
      rw [← hz] at hzl ⊢
      rw [← hdd] at xx hdl
      clear hz hdd
      go_wp2
      go_roundw
      case rel => exact ⟨q + 1, by omega, by go_num, rfl, rfl⟩
      case measure => simp [intOf]; omega
    · obtain rfl : q = 4 := by omega
      have h4 : ¬ (4 : Int) < 4 := by omega
      rw [szq_all]
      clear hzl
      have c0 : wr.cell? ⟨w.heap.size, 0, none⟩ = some (.int .i64 0) := by rw [cell_of_row wr _ 0 _ _ (0, 0) HNB.out]; rfl
      have c1 : wr.cell? ⟨w.heap.size, 1, none⟩ = some (.int .i64 0) := by rw [cell_of_row wr _ 1 _ _ (0, 0) HNB.out]; rfl
      have f0 : wr.frozen? ⟨w.heap.size, 0, none⟩ = false := frozen_of HNB.out
      have f1 : wr.frozen? ⟨w.heap.size, 1, none⟩ = false := frozen_of HNB.out
      have hn1 : ¬ (1 : Int) < (side : Int) := by omega
      have hn2 : ¬ (m : Int) < 0 := by omega
      have hn3 : ¬ (r : Int) * 32 < (m : Int) := by omega
      go_wp2_with fail
      refine HZ1.out.mono ?_
      rintro e w2 ⟨rfl, rfl⟩
      go_wp2
      refine bodyPost_ret (results_cell1 rfl _ _ rfl (load_root _ _ (side : Int) (m : Int) (set2 c0 c1).1 (set2 c0 c1).2)) rfl ?_
      · refine ⟨rfl, ?_⟩
        exact (HB1.out.setCell (p := ⟨w.heap.size, 0, none⟩) (Nat.le_refl _) _).setCell (p := ⟨w.heap.size, 1, none⟩) (Nat.le_refl _) _
theorem blk_info : (Try.prog.info? 58).map (·.size) = some 32 := by kernel_rfl
/-- A block that lies in a box. -/
theorem load_blk {w : World} {b : Nat} {t : TypeId} {L : List Nat} (h : Bk w b t L) (hl : L.length = 32) : (loadVar 58 ⟨b, 0, none⟩).run Try.prog w = .ok (.agg (bys L).toArray) w := by
  have hr := h.range 0 32
  rw [List.drop_zero, List.take_of_length_le (by omega)] at hr
  exact run_loadVar_mid (P := Try.prog) w b 0 58 (bys L) _ hr Try.underlying58 rfl (by rw [bys_len, hl]; exact blk_info)
theorem loadAt_blk {w : World} {b : Nat} {t : TypeId} {L : List Nat} (h : Bk w b t L) (hl : L.length = 32) : (Instr.loadAt 58 (.pointer (some ⟨b, 0, none⟩))).run Try.prog w = .ok (.agg (bys L).toArray) w := by
  have hr := h.range 0 32
  rw [List.drop_zero, List.take_of_length_le (by omega)] at hr
  exact run_loadAt_mid (P := Try.prog) w b 0 58 (bys L) _ hr Try.underlying58 rfl (by rw [bys_len, hl]; exact blk_info)
theorem zero_blk (w : World) : (zeroValue 58).run Try.prog w = .ok (.agg (bys z32).toArray) w := by kernel_rfl
theorem root_made (side m : Nat) (hm : m ≤ 16384) : Value.agg ((((((bys z32).set 0 (.int .u8 (side : Int))).set 1 (.int .u8 ((m : Int) / 16777216))).set 2 (.int .u8 ((m : Int) / 65536))).set 3 (.int .u8 ((m : Int) / 256))).set 4 (.int .u8 ((m : Int) % 256))).toArray = .agg (bys (rootB side m)).toArray := by
  have e1 : (m : Int) / 16777216 = ((m / 16777216 : Nat) : Int) := by omega
  have e2 : (m : Int) / 65536 = ((m / 65536 : Nat) : Int) := by omega
  have e3 : (m : Int) / 256 = ((m / 256 : Nat) : Int) := by omega
  have e4 : (m : Int) % 256 = ((m % 256 : Nat) : Int) := by omega
  rw [e1, e2, e3, e4, bys_set, bys_set, bys_set, bys_set, bys_set]
  have hl : ((((z32.set 0 side).set 1 (m / 16777216)).set 2 (m / 65536)).set 3 (m / 256)).set 4 (m % 256) = rootB side m := by
    unfold rootB
    rw [show m / 16777216 % 256 = m / 16777216 by omega, show m / 65536 % 256 = m / 65536 by omega, show m / 256 % 256 = m / 256 by omega]
    rfl
  rw [hl]
set_option maxRecDepth 100000 in
set_option maxHeartbeats 1000000 in
/-- A root, as a block tells it. -/
theorem zblock_any (side m : Nat) (w : World) (h2 : side ≤ 1) (hm : m ≤ 16384) :
    Calls Try.prog 30 #[.agg #[.int .i64 (side : Int), .int .i64 (m : Int)]] w fun e w' => e = .returned (.agg (bys (rootB side m)).toArray) ∧ Below w.heap.size w w' := by
  have hzz := zero_blk
  have hnw := heap_alloc_new (w.alloc (.cells #[.int .i64 (side : Int), .int .i64 (m : Int)] 54)) (.cells (bys z32).toArray 58)
  rw [World.size_alloc] at hnw
  have HNW := Lib.hid hnw
  clear hnw
  have HBR := Lib.hid (root_made side m hm)
  have HSA := Lib.hid (show (Try.prog.info? 58).map (·.size) = some (bys (rootB side m)).toArray.size by rw [List.size_toArray, bys_len, rootB_len]; exact blk_info)
  have HSZ := Lib.hid (show (bys z32).toArray.size = (bys (rootB side m)).toArray.size by rw [List.size_toArray, List.size_toArray, bys_len, bys_len, rootB_len]; rfl)
  have HB := Lib.hid (show Below w.heap.size w ((w.alloc (.cells #[.int .i64 (side : Int), .int .i64 (m : Int)] 54)).alloc (.cells (bys z32).toArray 58)) from ((Below.refl _ w).alloc (Nat.le_refl _) _).alloc (by simp) _)
  go_enter Try.func30, Try.ntmps30
  go_wp2_with (first | (refine wpList_store_row rfl 58 (.tmp 2) (.tmp 20) rfl _ (bys (rootB side m)).toArray rfl HBR.out _ _ HNW.out HSA.out HSZ.out (bysK_one _) ?_) | fail)
  refine bodyPost_ret (results_cell1 rfl _ _ rfl (load_blk (t := 58) (L := rootB side m) ?_ (rootB_len _ _))) rfl ?_
  · exact setRow_heap _ _ _ _ _ _ HNW.out
  · exact ⟨rfl, below_setRow HB.out (by simp) _⟩
theorem items_eq (d : Nat) (l l' : List Nat) (w : World) : ∀ is : List Nat, (∀ i ∈ is, i < l.length ∧ i < l'.length) → (Op.eqItems (d + 1) 5 1 (bys l).toArray (bys l').toArray is).run Try.prog w = .ok (is.all fun i => co l i == co l' i) w
  | [], _ => by simp [Op.eqItems]
  | i :: is, h => by
    obtain ⟨h1, h2⟩ := h i (by simp)
    have he : Try.prog.plainKey 5 = true := by kernel_rfl
    have g1 : (bys l).toArray[i * 1]? = some (.int .u8 (co l i : Int)) := by
      rw [Nat.mul_one, List.getElem?_toArray]
      exact bys_at (by rw [List.getElem?_eq_getElem h1, co_get h1])
    have g2 : (bys l').toArray[i * 1]? = some (.int .u8 (co l' i : Int)) := by
      rw [Nat.mul_one, List.getElem?_toArray]
      exact bys_at (by rw [List.getElem?_eq_getElem h2, co_get h2])
    have p1 := run_part_plain (P := Try.prog) w he g1
    have p2 := run_part_plain (P := Try.prog) w he g2
    have p3 := run_equalIn_int (P := Try.prog) w d 5 .u8 .u8 (co l i : Int) (co l' i : Int) Try.underlying5
    have ih := items_eq d l l' w is (fun j hj => h j (by simp [hj]))
    simp only [Op.eqItems, Sem.run_bind, p1, p2, p3, Result.andThen_ok, List.all_cons]
    by_cases c : co l i = co l' i
    · rw [c]
      simpa using ih
    · have c2 : ((co l i : Int) == (co l' i : Int)) = false := by simp; omega
      have c3 : (co l i == co l' i) = false := by simp; omega
      rw [c2, c3]
      simp
/-- Two blocks as values: are they the same? -/
theorem blocks_eq (l l' : List Nat) (h : l.length = 32) (h' : l'.length = 32) (w : World) : (Op.equalIn 10000 58 (.agg (bys l).toArray) (.agg (bys l').toArray)).run Try.prog w = .ok (decide (l = l')) w := by
  have hi : ∃ i, Try.prog.info? 5 = some i := by
    cases hq : Try.prog.info? 5 with
    | none => exact absurd (show (Try.prog.info? 5).isSome = true by kernel_rfl) (by rw [hq]; simp)
    | some i => exact ⟨i, rfl⟩
  obtain ⟨i, hi⟩ := hi
  rw [show (10000 : Nat) = 9999 + 1 from rfl, run_equalIn_array w 9999 _ _ Try.underlying58 hi, show Try.prog.cellsOf 5 = 1 by kernel_rfl, show (9999 : Nat) = 9998 + 1 from rfl, items_eq 9998 l l' w _ (fun j hj => by rw [List.mem_range] at hj; omega)]
  congr 1
  by_cases c : l = l'
  · rw [c]; simp
  · rw [decide_eq_false c]
    cases hb : (List.range 32).all fun i => co l i == co l' i with
    | false => rfl
    | true =>
      refine absurd (ext32 h h' fun t ht => ?_) c
      have := List.all_eq_true.1 hb t (List.mem_range.2 ht)
      simpa using this
end Go.Proofs.Ytijbpafmokbnaaa
