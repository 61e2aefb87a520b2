import Derived.RangeFuncNested
import Derived.RangeFuncBound
import Derived.RangeFuncCalls
import Derived.RangeFuncLeaves
import Derived.Test.YtaknffdokkfmgaaJ1
import Derived.Test.YtaknffdokkfmgaaJ2
import Derived.Test.YtaknffdokkfmgaaJ4
import Derived.Test.YtaknffdokkfmgaaJ6
import Derived.Test.YtaknffdokkfmgaaJ7
import Derived.Test.YtaknffdokkfmgaaJ8
section
/- A document's columns in numbers. -/
namespace Sp
open Pol
/-- Column i of k bytes. -/
def col (d : List Nat) (k i : Nat) : List Nat := (List.range k).map fun j => co d (i * k + j)
theorem col_len (d : List Nat) (k i : Nat) : (col d k i).length = k := by simp [col]
theorem col_at {d : List Nat} {k i j : Nat} (hj : j < k) : co (col d k i) j = co d (i * k + j) := by
  simp [co, col, hj]
theorem col_bb {d : List Nat} (h : BB d) (k i : Nat) : BB (col d k i) := fun x hx => by
  obtain ⟨j, _, rfl⟩ := List.mem_map.1 hx
  exact h.co _
/-- How many there are. -/
def cnt (n k : Nat) : Nat := if n = 0 ∨ k = 0 then 0 else (n - 1) / k + 1
theorem cnt_none (n : Nat) : cnt n 0 = 0 := by simp [cnt]
theorem cnt_lt {n k i : Nat} (hk : 0 < k) : i < cnt n k ↔ i * k < n := by
  unfold cnt
  by_cases h0 : n = 0
  · subst h0; simp
  · rw [if_neg (by omega), Nat.lt_succ_iff, Nat.le_div_iff_mul_le hk]
    omega
theorem cnt_le (n k : Nat) : cnt n k ≤ n := by
  by_cases hk : k = 0
  · subst hk; rw [cnt_none]; exact Nat.zero_le _
  by_cases h : cnt n k = 0
  · omega
  · have h1 := (cnt_lt (n := n) (k := k) (by omega) (i := cnt n k - 1)).1 (by omega)
    have h2 : cnt n k - 1 ≤ (cnt n k - 1) * k := Nat.le_mul_of_pos_right _ (by omega)
    omega
/-- The columns hold all. -/
theorem cnt_all {n k : Nat} (hk : 0 < k) : n ≤ cnt n k * k := by
  have h := (cnt_lt (n := n) (k := k) (i := cnt n k) hk)
  omega
theorem cnt_room {n k : Nat} (hk : 0 < k) : cnt n k * k ≤ n + k := by
  by_cases h : cnt n k = 0
  · rw [h]; omega
  · have h1 := (cnt_lt (n := n) (k := k) hk (i := cnt n k - 1)).1 (by omega)
    obtain ⟨q, hq⟩ : ∃ q, cnt n k = q + 1 := ⟨cnt n k - 1, by omega⟩
    rw [hq] at h1 ⊢
    rw [Nat.add_sub_cancel] at h1
    rw [Nat.succ_mul]; omega
theorem cnt_zero {n k : Nat} (hk : 0 < k) : cnt n k = 0 ↔ n = 0 := by
  have h := cnt_lt (n := n) (k := k) (i := 0) hk
  rw [Nat.zero_mul] at h
  omega
/-- A byte more. -/
theorem cnt_more {n k : Nat} (hk : 0 < k) : cnt (n + 1) k = cnt n k + (if n % k = 0 then 1 else 0) := by
  unfold cnt
  rw [if_neg (by omega), Nat.add_sub_cancel]
  by_cases h0 : n = 0
  · subst h0; simp
  · rw [if_neg (by omega)]
    obtain ⟨m, rfl⟩ : ∃ m, n = m + 1 := ⟨n - 1, by omega⟩
    rw [Nat.add_sub_cancel, Nat.succ_div]
    by_cases hd : k ∣ m + 1
    · rw [if_pos hd, if_pos (Nat.mod_eq_zero_of_dvd hd)]
    · rw [if_neg hd, if_neg (fun h => hd (Nat.dvd_of_mod_eq_zero h))]
theorem col_more {d : List Nat} {k i x : Nat} (h : i * k + k ≤ d.length) : col (d ++ [x]) k i = col d k i := by
  unfold col
  refine List.map_congr_left fun j hj => ?_
  have := List.mem_range.1 hj
  exact co_append_left (by omega)
/-- The same of any ints. -/
def colsZ (s k : Int) : Int := if s ≤ 0 ∨ k < 1 then 0 else (s - 1) / k + 1
theorem colsZ_nat (n k : Nat) : colsZ (n : Int) (k : Int) = (cnt n k : Int) := by
  unfold colsZ cnt
  by_cases h : n = 0 ∨ k = 0
  · rw [if_pos (by omega), if_pos h]; rfl
  · rw [if_neg (by omega), if_neg h]
    have : (n : Int) - 1 = ((n - 1 : Nat) : Int) := by omega
    rw [this]
    simp
/-- Rows one behind the other. -/
def cat (l : Nat → List Nat) : Nat → List Nat
  | 0 => []
  | k + 1 => cat l k ++ l k
theorem cat_len {l : Nat → List Nat} {k R : Nat} (h : ∀ i, i < R → (l i).length = k) : (cat l R).length = R * k := by
  induction R with
  | zero => simp [cat]
  | succ R ih => rw [cat, List.length_append, ih (fun i hi => h i (by omega)), h R (by omega), Nat.succ_mul]
theorem cat_co {l : Nat → List Nat} {k R : Nat} (h : ∀ i, i < R → (l i).length = k) {i j : Nat} (hi : i < R) (hj : j < k) : co (cat l R) (i * k + j) = co (l i) j := by
  induction R with
  | zero => omega
  | succ R ih =>
    have hl := cat_len (l := l) (k := k) (R := R) (fun i hi => h i (by omega))
    rw [cat]
    by_cases hiR : i < R
    · have : i * k + j < R * k := by
        have := Nat.mul_le_mul_right k (show i + 1 ≤ R from hiR)
        rw [Nat.succ_mul] at this
        omega
      rw [co_append_left (by omega)]
      exact ih (fun i hi => h i (by omega)) hiR
    · have : i = R := by omega
      subst this
      rw [co_append_right (by omega), hl]
      congr 1; omega
/-- The columns one behind the other begin with the document. -/
theorem cat_col {d : List Nat} {k : Nat} (hk : 0 < k) : (cat (col d k) (cnt d.length k)).take d.length = d := by
  have hlen := cat_len (l := col d k) (k := k) (R := cnt d.length k) (fun i _ => col_len d k i)
  have hall := cnt_all (n := d.length) hk
  apply List.ext_getElem
  · rw [List.length_take]; omega
  · intro i h1 h2
    have hq : i / k < cnt d.length k := (cnt_lt hk).2 (by have := Nat.div_mul_le_self i k; omega)
    have hi : i = i / k * k + i % k := by have := Nat.div_add_mod i k; rw [Nat.mul_comm] at this; omega
    have h3 : co (cat (col d k) (cnt d.length k)) i = co d i := by
      have h4 := cat_co (l := col d k) (k := k) (fun i _ => col_len d k i) hq (Nat.mod_lt i hk)
      rw [← hi, col_at (Nat.mod_lt i hk), ← hi] at h4
      exact h4
    rw [co_get (by omega), co_get h2] at h3
    rw [List.getElem_take]
    exact h3
/-- The first i bytes of a column, and noughts. -/
def pre (d : List Nat) (k q i : Nat) : List Nat := (List.range k).map fun j => if j < i then co d (q * k + j) else 0
theorem pre_len (d : List Nat) (k q i : Nat) : (pre d k q i).length = k := by simp [pre]
theorem pre_zero (d : List Nat) (k q : Nat) : pre d k q 0 = List.replicate k 0 := by
  apply List.ext_getElem
  · simp [pre]
  · intro i h1 h2; simp [pre]
theorem pre_set {d : List Nat} {k q i : Nat} : (pre d k q i).set i (co d (q * k + i)) = pre d k q (i + 1) := by
  apply List.ext_getElem
  · simp [pre]
  · intro j h1 h2
    simp only [pre, List.getElem_set, List.getElem_map, List.getElem_range]
    by_cases hj : i = j
    · subst hj; simp
    · rw [if_neg hj]
      by_cases h3 : j < i
      · rw [if_pos h3, if_pos (by omega)]
      · rw [if_neg h3, if_neg (by omega)]
theorem pre_done {d : List Nat} {k q i : Nat} (h : k ≤ i ∨ d.length ≤ q * k + i) : pre d k q i = col d k q := by
  apply List.ext_getElem
  · simp [pre, col]
  · intro j h1 h2
    simp only [pre, col, List.getElem_map, List.getElem_range]
    by_cases hj : j < i
    · rw [if_pos hj]
    · rw [if_neg hj, co_far]
      have : j < k := by simpa [pre] using h1
      omega
end Sp
end
section
/- What the definition's own Split (package shamrockref06) does: columns, in memory of its own. -/
namespace Go.Proofs.Ytaknffdokkfmgaa
open Go.RowKit Go.Shelf Gw Pol
theorem srow_info : (Try.prog.info? 28).map (fun i => (i.zero, i.size, i.bytes)) = some (some (.slice none 0 0), 1, 24) := by kernel_rfl
def RspRel (w : World) (N k : Nat) (d : List Nat) (v i : Value) (wr : World) : Prop :=
  ∃ (q a : Nat) (pa : Nat → Option Addr) (cp : Nat → Nat), i = .int .i64 (a : Int) ∧ a = q * k ∧ q ≤ Sp.cnt N k ∧ Grow w wr 28 5 v k q pa cp (Sp.col d k)

set_option maxRecDepth 100000 in
set_option maxHeartbeats 2000000 in
theorem rsplit_any (A : Option Addr) (c N k : Nat) (d : List Nat) (w : World) (hN : N = d.length) (hI : In w w.heap.size A c d) (hk : 0 < k) (hk2 : k ≤ 1048576) (hNb : N ≤ 1048576) :
    Calls Try.prog 22 #[.slice A N c, .int .i64 (k : Int)] w fun e w' => ∃ v pa cp, e = .returned v ∧ Grow w w' 28 5 v k (Sp.cnt N k) pa cp (Sp.col d k) := by
  obtain ⟨i1, hj0, hj1, hj2, hj3⟩ := info_parts srow_info
  have hmk := run_make_row' (P := Try.prog) 28 5 (.int .u8 0) 1 Try.underlying28 pbyte_info rfl .i64 .i64 k (by omega) (by omega)
  have HN := Lib.hid hN
  clear hN
  have hle := Sp.cnt_le N k
  go_enter Try.func22, Try.ntmps22
  go_wp2
  go_loopw [5, 6] (RspRel w N k d) (fun _ i _ => N - (intOf i).toNat)
  case atStart => exact ⟨0, 0, _, _, rfl, by simp, Nat.zero_le _, Grow.start _ _ _ _ _⟩
  case round =>
    obtain ⟨q, a, pa, cp, rfl, ha, hq, hG⟩ := hrel
    have hs := hG.bel.size
    by_cases hlt : a < N
    · have hq1 : q < Sp.cnt N k := (Sp.cnt_lt hk).2 (by rw [← ha]; exact hlt)
      have HA := Lib.hid ha
      have HG := Lib.hid hG
      clear hG ha
      obtain ⟨w0, rfl⟩ : ∃ w0, w0 = wr := ⟨_, rfl⟩
      have hm0 := Own.made w0 5 k (by omega)
      rw [← Sp.pre_zero d k q] at hm0
      have hb0 : Below w0.heap.size w0 (w0.alloc (.cells (madeCells #[.int .u8 0] k) 5)) := (Below.refl _ _).alloc (Nat.le_refl _) _
      have HI := Lib.hid (hI.below HG.out.bel)
      go_wp2
      go_loopw [8] (fun i wi => ∃ j : Nat, i = .int .i64 (j : Int) ∧ j ≤ k ∧ a + j ≤ N ∧ Gw.Own wi w0.heap.size 5 (some ⟨w0.heap.size, 0, none⟩) k (Sp.pre d k q j) ∧ Below w0.heap.size w0 wi) (fun i _ => k - (intOf i).toNat)
      case atStart => exact ⟨0, rfl, Nat.zero_le _, by omega, hm0, hb0⟩
      case round =>
        obtain ⟨j, rfl, hj, hjN, hown, hb⟩ := hrel
        have hsb := hb.size
        clear hm0 hb0
        obtain ⟨t, ht⟩ : ∃ t, t = a + j := ⟨_, rfl⟩
        have hwt : IntKind.i64.wrap ((a : Int) + (j : Int)) = (t : Int) := by rw [IntKind.wrap_i64]; omega
        by_cases hjk : j < k
        · by_cases htN : t < N
          · obtain ⟨x, b, off, hx, hxb, rfl, hbo, hcell⟩ := (HI.out.below (hb.mono hs)).sl.at_ (k := t) (by rw [← HN.out]; exact htN)
            have hcap := HI.out.cap
            rw [← HN.out] at hcap
            have H1 := Lib.hid (hown.put (k := j) (by rw [Sp.pre_len]; exact hjk) hxb)
            have HX := Lib.hid (show co d (q * k + j) = x by rw [← HA.out, ← ht]; exact co_of' hx)
            have H2 := Lib.hid (hb.setCell (p := ⟨w0.heap.size, j, none⟩) (by show w0.heap.size ≤ w0.heap.size; exact Nat.le_refl _) (.int .u8 (x : Int)))
            have hfr := hown.frozen j
            have hc0 := hown.cell (k := j) (by rw [Sp.pre_len]; exact hjk)
            have HT := Lib.hid ht
            clear hx hown hb ht
            go_wp2
            go_roundw
            case rel => exact ⟨j + 1, by go_num, by omega, by have := HT.out; omega, by have h3 := H1.out; rw [← HX.out, Sp.pre_set] at h3; rw [← HX.out]; exact h3, H2.out⟩
            case measure => simp [intOf]; omega
          · have H1 := Lib.hid (show Gw.Own wr w0.heap.size 5 (some ⟨w0.heap.size, 0, none⟩) k (Sp.col d k q) by rw [← Sp.pre_done (d := d) (k := k) (q := q) (i := j) (by rw [← HA.out, ← HN.out]; omega)]; exact hown)
            have HB := Lib.hid hb
            have H3 := Lib.hid (show a + k = (q + 1) * k by rw [HA.out, Nat.succ_mul])
            clear hown hb ht
            go_wp2_with (first
              | (at_builtin; refine wpList_append_own _ rfl (.tmp 40) (.tmp 42) 35 rfl w.heap.size 28 i1 (.slice none 0 0) 1 24 Try.underlying35 hj0 hj1 hj2 hj3 rfl (by decide) _ q (rvs pa cp k q) rfl ((HG.out.own2 HB.out).alloc _) ⟨wr.heap.size, 0, none⟩ 1 1 [.slice (some ⟨w0.heap.size, 0, none⟩) k k] rfl rfl (fun j u hj => by
                    match j, hj with
                    | 0, hj => simp at hj; subst hj; exact cell_new wr _ _) (fun u hu => by simp at hu; subst hu; rfl) (by simp only [maxLen]; omega) (by omega) (by rw [World.size_alloc]; omega) ?_; intro v' w3 hown3 hgr3 _)
              | fail)
            have HS := Lib.hid (HG.out.step (by decide) HB.out H1.out _ hown3 hgr3)
            clear hown3 hgr3
            go_roundw
            case rel => exact ⟨q + 1, a + k, _, _, by go_num, H3.out, by omega, HS.out⟩
            case measure => simp [intOf]; omega
        · have H1 := Lib.hid (show Gw.Own wr w0.heap.size 5 (some ⟨w0.heap.size, 0, none⟩) k (Sp.col d k q) by rw [← Sp.pre_done (d := d) (k := k) (q := q) (i := j) (by rw [← HA.out, ← HN.out]; omega)]; exact hown)
          have HB := Lib.hid hb
          have H3 := Lib.hid (show a + k = (q + 1) * k by rw [HA.out, Nat.succ_mul])
          clear hown hb ht
          go_wp2_with (first
            | (at_builtin; refine wpList_append_own _ rfl (.tmp 40) (.tmp 42) 35 rfl w.heap.size 28 i1 (.slice none 0 0) 1 24 Try.underlying35 hj0 hj1 hj2 hj3 rfl (by decide) _ q (rvs pa cp k q) rfl ((HG.out.own2 HB.out).alloc _) ⟨wr.heap.size, 0, none⟩ 1 1 [.slice (some ⟨w0.heap.size, 0, none⟩) k k] rfl rfl (fun j u hj => by
                  match j, hj with
                  | 0, hj => simp at hj; subst hj; exact cell_new wr _ _) (fun u hu => by simp at hu; subst hu; rfl) (by simp only [maxLen]; omega) (by omega) (by rw [World.size_alloc]; omega) ?_; intro v' w3 hown3 hgr3 _)
            | fail)
          have HS := Lib.hid (HG.out.step (by decide) HB.out H1.out _ hown3 hgr3)
          clear hown3 hgr3
          go_roundw
          case rel => exact ⟨q + 1, a + k, _, _, by go_num, H3.out, by omega, HS.out⟩
          case measure => simp [intOf]; omega
    · have hqe : q = Sp.cnt N k := by
        have := (Sp.cnt_lt (n := N) (i := q) hk)
        rw [← ha] at this
        omega
      obtain rfl := hqe
      have HG := Lib.hid hG
      have HA := Lib.hid ha
      clear hG ha
      go_wp2
      go_ret
      exact ⟨_, pa, cp, rfl, HG.out⟩
end Go.Proofs.Ytaknffdokkfmgaa
end
section
/- What the definition's own Times (package shamrockref10) does. -/
namespace Gw
open Go Go.RowKit Go.Shelf
theorem GrowL.from {w w1 wr : World} {te tb : TypeId} {v : Value} {k : Nat} {pa : Nat → Option Addr} {cp : Nat → Nat} {l : Nat → List Nat} (h : GrowL w1 wr te tb v k pa cp l) (hb : Below w.heap.size w w1) : GrowL w wr te tb v k pa cp l := by
  refine ⟨⟨h.own.1, ?_⟩, fun i hi => (h.row i hi).base hb.size, h.dis, hb.trans (h.bel.mono hb.size)⟩
  rcases h.own.2 with h0 | ⟨g, cap, cur, hv, hg, h0⟩
  · exact .inl h0
  · exact .inr ⟨g, cap, cur, hv, Nat.le_trans hb.size hg, h0⟩
end Gw
namespace Go.Proofs.Ytaknffdokkfmgaa
open Go.RowKit Go.Shelf Gw Pol
/-- Column c's random bytes. -/
def chunk (rnd : List Nat) (m c : Nat) : List Nat := (rnd.drop (c * m)).take m
theorem chunk_len {rnd : List Nat} {m c n : Nat} (h : n * m ≤ rnd.length) (hc : c < n) : (chunk rnd m c).length = m := by
  have := Nat.mul_le_mul_right m (show c + 1 ≤ n from hc)
  rw [Nat.succ_mul] at this
  rw [chunk, List.length_take, List.length_drop]; omega
theorem chunk_cut (rnd : List Nat) (m c : Nat) : (rnd.take (c * m + m)).drop (c * m) = chunk rnd m c := by
  rw [chunk, List.drop_take]; congr 1; omega
/-- Polynomials of random bytes, each times a factor. -/
def timL (fac rnd : List Nat) (m c : Nat) : List Nat := tr (mul fac (chunk rnd m c))
def TimRel (w1 : World) (fac rnd : List Nat) (m cols : Nat) (v i : Value) (wr : World) : Prop :=
  ∃ (q : Nat) (pa : Nat → Option Addr) (cp : Nat → Nat), i = .int .i64 (q : Int) ∧ q ≤ cols ∧ GrowL w1 wr 28 5 v q pa cp (timL fac rnd m)
set_option maxRecDepth 100000 in
set_option maxHeartbeats 2000000 in
theorem rtim_any (N : Int) (t k : Nat) (E R kind : Int) (ht : 1 ≤ t) (htk : t + k ≤ 255) (cols m : Nat) (hm : m = eachN t k kind) (Ar Af : Option Addr) (cr cf nr nf : Nat) (rnd fac : List Nat) (hnr : nr = rnd.length) (hnf : nf = fac.length) (w : World)
    (hr : In w w.heap.size Ar cr rnd) (hf : In w w.heap.size Af cf fac) (hlen : cols * m ≤ rnd.length) (hcols : cols ≤ 4096) (hfl : fac.length ≤ 1024) :
    Calls Try.prog 46 #[pv N t k E R, .int .i64 kind, .int .i64 (cols : Int), .slice Ar nr cr, .slice Af nf cf] w fun e w' => ∃ v pa cp, e = .returned v ∧ GrowL w w' 28 5 v cols pa cp (timL fac rnd m) := by
  obtain ⟨i1, hj0, hj1, hj2, hj3⟩ := info_parts srow_info
  have hme : m ≤ 255 := by rw [hm]; unfold eachN; split <;> (try split) <;> (try split) <;> omega
  have hb0 : Below w.heap.size w (w.alloc (.cells #[.int .i64 N, .int .i64 (t : Int), .int .i64 (k : Int), .int .i64 E, .int .i64 R] 23)) := (Below.refl _ w).alloc (Nat.le_refl _) _
  have HE := Lib.hid (reach_any N t k E R kind ht htk (w.alloc (.cells #[.int .i64 N, .int .i64 (t : Int), .int .i64 (k : Int), .int .i64 E, .int .i64 R] 23)))
  rw [← hm] at HE
  clear hm
  have HNR := Lib.hid hnr
  have HNF := Lib.hid hnf
  clear hnr hnf
  go_enter Try.func46, Try.ntmps46
  go_wp2_with fail
  refine HE.out.mono ?_
  rintro e w1 ⟨rfl, hb1⟩
  have HB1 := Lib.hid (hb0.trans (hb1.mono hb0.size))
  clear hb0 hb1 HE
  have HI := Lib.hid (hr.below HB1.out)
  have HF := Lib.hid (hf.below HB1.out)
  go_wp2
  go_loopw [11, 13] (TimRel w1 fac rnd m cols) (fun _ i _ => cols - (intOf i).toNat)
  case atStart => exact ⟨0, _, _, rfl, Nat.zero_le _, GrowL.start _ _ _ _⟩
  case round =>
    obtain ⟨q, pa, cp, rfl, hq, hG⟩ := hrel
    have hs := hG.bel.size
    have HBR := Lib.hid (HB1.out.trans (hG.bel.mono HB1.out.size))
    have hs0 := HBR.out.size
    by_cases hlt : q < cols
    · have hqm : q * m + m ≤ rnd.length := by
        have := Nat.mul_le_mul_right m (show q + 1 ≤ cols from hlt)
        rw [Nat.succ_mul] at this
        omega
      have hqb : q * m ≤ 4096 * 255 := Nat.mul_le_mul (by omega) hme
      obtain ⟨AT, cT, hsl, hIT⟩ := slice_lh_any (hr.below HBR.out) HNR.out (k := q * m) (h := q * m + m) (by omega) (by rw [HNR.out]; exact hqm)
      rw [chunk_cut] at hIT
      have HLC := Lib.hid (chunk_len hlen hlt)
      obtain ⟨s, hse⟩ : ∃ s, s = q * m := ⟨_, rfl⟩
      have e1 : (q : Int) * (m : Int) = (s : Int) := by rw [hse]; simp
      have e2 : (s : Int) + (m : Int) = ((s + m : Nat) : Int) := by simp
      obtain ⟨s2, hs2⟩ : ∃ s2, s2 = s + m := ⟨_, rfl⟩
      have e3 : s2 - s = m := by omega
      rw [← hse] at hsl hqb hqm
      rw [← hs2] at hsl e2 hqm
      rw [e3] at hsl
      have HIT := Lib.hid hIT
      obtain ⟨nl, hnl⟩ : ∃ nl, nl = (timL fac rnd m q).length := ⟨_, rfl⟩
      have hT : Calls Try.prog 50 #[.slice Af nf cf, .slice AT m cT] wr fun e w' => ∃ A2 c2, e = .returned (.slice A2 nl c2) ∧ Gw.Own w' wr.heap.size 5 A2 c2 (timL fac rnd m q) ∧ Below wr.heap.size wr w' := by
        rw [hnl]; exact rtimes' Af AT cf cT nf m fac (chunk rnd m q) wr HNF.out HLC.out.symm ((hf.below HBR.out).more hs0) (hIT.more hs0) (by rw [HLC.out]; omega)
      have HT := Lib.hid hT
      have HNL := Lib.hid hnl
      have HG := Lib.hid hG
      clear hG hIT hse hs2 e3 hT hnl
      go_wp2_with fail
      refine HT.out.mono ?_
      rintro e w2 ⟨A2, c2, rfl, hown2, hb2⟩
      have HO2 := Lib.hid hown2
      have HB2 := Lib.hid hb2
      have hs2 := hb2.size
      clear hown2 hb2 hsl
      go_wp2_with (first
        | (at_builtin; refine wpList_append_own _ rfl (.tmp 22) (.tmp 35) 35 rfl w1.heap.size 28 i1 (.slice none 0 0) 1 24 Try.underlying35 hj0 hj1 hj2 hj3 rfl (by decide) _ q (rvl pa cp (timL fac rnd m) q) rfl ((HG.out.own2 HB2.out).alloc _) ⟨w2.heap.size, 0, none⟩ 1 1 [.slice A2 nl c2] rfl rfl (fun j u hj => by
              match j, hj with
              | 0, hj => simp at hj; subst hj; exact cell_new w2 _ _) (fun u hu => by simp at hu; subst hu; rfl) (by simp only [maxLen]; omega) (by omega) (by rw [World.size_alloc]; omega) ?_; intro v' w3 hown3 hgr3 _)
        | fail)
      rw [HNL.out] at hown3
      have HS := Lib.hid (HG.out.step (by decide) HB2.out HO2.out _ hown3 hgr3)
      clear hown3 hgr3
      go_roundw
      case rel => exact ⟨q + 1, _, _, by go_num, by omega, HS.out⟩
      case measure => simp [intOf]; omega
    · obtain rfl : q = cols := by omega
      have HG := Lib.hid (hG.from HB1.out)
      clear hG
      go_wp2
      go_ret
      exact ⟨_, _, _, rfl, HG.out⟩
end Go.Proofs.Ytaknffdokkfmgaa
end
section
/- What a round keeps that appends to the rows of a table: all blocks of cells that are none of the table's, as the table's own cells tell. -/
namespace Gw
open Go Go.RowKit Go.Shelf
/-- Block b is none of those that the table at g names. -/
def NotT (g R : Nat) (W : World) (b : Nat) : Prop := b ≠ g ∧ ∀ i, i < R → ∀ o n c, W.cell? ⟨g, i, none⟩ ≠ some (.slice (some ⟨b, o, none⟩) n c)
theorem NotT.same {g R b : Nat} {W X : World} (h : NotT g R W b) (hg : X.heap[g]? = W.heap[g]?) : NotT g R X b :=
  ⟨h.1, fun i hi o n c e => h.2 i hi o n c ((World.cell?_of_block (w := W) (a := ⟨g, i, none⟩) hg).symm.trans e)⟩
structure KpR (g R : Nat) (A B : World) : Prop where
  size : A.heap.size ≤ B.heap.size
  keep : ∀ b ob, A.heap[b]? = some ob → ob.isCells = true → NotT g R A b → B.heap[b]? = some ob ∧ NotT g R B b
  new : (∀ b, A.heap.size ≤ b → NotT g R A b) → ∀ b, B.heap.size ≤ b → NotT g R B b
section
variable {g R : Nat} {A B C : World}
theorem KpR.refl (g R : Nat) (A : World) : KpR g R A A := ⟨Nat.le_refl _, fun _ _ h _ h2 => ⟨h, h2⟩, fun h => h⟩
theorem KpR.trans (h : KpR g R A B) (k : KpR g R B C) : KpR g R A C :=
  ⟨Nat.le_trans h.size k.size, fun b ob h1 h2 h3 => by
    obtain ⟨h4, h5⟩ := h.keep b ob h1 h2 h3
    exact k.keep b ob h4 h2 h5, fun h1 => k.new (h.new h1)⟩
theorem KpR.below (h : Below A.heap.size A B) (hg : g < A.heap.size) : KpR g R A B :=
  ⟨h.size, fun b _ h1 _ h3 => ⟨(h.block b (Array.getElem?_eq_some_iff.1 h1).1).trans h1, h3.same (h.block g hg)⟩, fun h1 b hb => (h1 b (Nat.le_trans h.size hb)).same (h.block g hg)⟩
theorem KpR.put {l : Nat} {W : World} {o o' : Obj} (hl : g < l) (h : W.heap[l]? = some o) (hc : o.isCells = false) : KpR g R W (W.putObj l o') := by
  have hg : (W.putObj l o').heap[g]? = W.heap[g]? := World.putObj_heap_other (by omega)
  refine ⟨by simp, fun b o2 h2 h3 h4 => ⟨?_, h4.same hg⟩, fun h1 b hb => (h1 b (by simpa using hb)).same hg⟩
  by_cases e : b = l
  · subst e; rw [h] at h2; injection h2 with h2; subst h2; rw [hc] at h3; cases h3
  · exact (World.putObj_heap_other e).trans h2
theorem KpR.block (h : KpR g R A B) {b o : Nat} {v : Value} (hv : A.cell? ⟨b, o, none⟩ = some v) (hb : NotT g R A b) : B.heap[b]? = A.heap[b]? := by
  obtain ⟨ob, h1, h2⟩ := cells_of_cell hv
  exact (h.keep b ob h1 h2 hb).1.trans h1.symm
theorem KpR.cell (h : KpR g R A B) {b o : Nat} {v : Value} (hv : A.cell? ⟨b, o, none⟩ = some v) (hb : NotT g R A b) : B.cell? ⟨b, o, none⟩ = some v :=
  (World.cell?_of_block (w := A) (a := ⟨b, o, none⟩) (h.block hv hb)).trans hv
theorem KpR.row (h : KpR g R A B) {b n : Nat} {f : Nat → Value} (hr : Row A b n f) (hb : NotT g R A b) : Row B b n f := fun o ho =>
  ⟨h.cell (hr o ho).1 hb, (World.frozen?_of_block (w := A) (a := ⟨b, o, none⟩) (h.block (hr o ho).1 hb)).trans (hr o ho).2⟩
theorem KpR.inn (h : KpR g R A B) {n c : Nat} {ad : Option Addr} {l : List Nat} (hs : In A n ad c l) (hb : ∀ b o, ad = some ⟨b, o, none⟩ → NotT g R A b) : In B n ad c l :=
  ⟨fun i x hx => by
    obtain ⟨h1, b, off, h2, h3, h4⟩ := hs.sl i x hx
    exact ⟨h1, b, off, h2, h3, h.cell h4 (hb b off h2)⟩, hs.cap, hs.none_⟩
theorem KpR.own (h : KpR g R A B) {base c : Nat} {e : TypeId} {ad : Option Addr} {l : List Nat} (hs : Own A base e ad c l) (hb : ∀ b o, ad = some ⟨b, o, none⟩ → NotT g R A b) : Own B base e ad c l := by
  refine ⟨⟨hs.1.1, ?_⟩, hs.2⟩
  rcases hs.1.2 with h0 | ⟨k, cap, cur, hv, h1, h2, h3⟩
  · exact .inl h0
  · refine .inr ⟨k, cap, cur, hv, h1, (h.keep k _ h2 rfl (hb k 0 ?_)).1, h3⟩
    injection hv
/-- From what is known of the table itself. -/
theorem Otb.notT {base : Nat} {tb : TypeId} {pa : Nat → Option Addr} {cp : Nat → Nat} {l : Nat → List Nat} (h : Otb A base tb g R pa cp l) {b : Nat} : NotT g R A b ↔ NT g R pa b := by
  constructor
  · intro k
    exact ⟨k.1, fun i hi o e => k.2 i hi o (l i).length (cp i) (by rw [← e]; exact (h.out i hi).1)⟩
  · intro k
    refine ⟨k.1, fun i hi o n c e => ?_⟩
    have h1 := (h.out i hi).1
    rw [h1] at e
    injection e with e
    injection e with e
    exact k.2 i hi o e
theorem Tbr.kpr {base base' : Nat} {tb : TypeId} {pa pb : Nat → Option Addr} {cp cq : Nat → Nat} {l m : Nat → List Nat} (h : Tbr g R pa pb A B) (hA : Otb A base tb g R pa cp l) (hB : Otb B base' tb g R pb cq m) : KpR g R A B :=
  ⟨h.size, fun b _ h1 _ h3 => ⟨(h.blk b (Array.getElem?_eq_some_iff.1 h1).1 (hA.notT.1 h3)).trans h1, hB.notT.2 (h.nt (Array.getElem?_eq_some_iff.1 h1).1 (hA.notT.1 h3))⟩, fun _ _ hb => hB.notT.2 (hB.ntNew hb)⟩
theorem Otb.fresh {base : Nat} {tb : TypeId} {pa : Nat → Option Addr} {cp : Nat → Nat} {l : Nat → List Nat} (h : Otb A base tb g R pa cp l) : ∀ b, A.heap.size ≤ b → NotT g R A b := fun _ hb => h.notT.2 (h.ntNew hb)
end
end Gw
namespace Pol
theorem cnt_mul {n C : Nat} (hn : 0 < n) : Sp.cnt (n * C) n = C := by
  have key : ∀ i, i < Sp.cnt (n * C) n ↔ i < C := fun i => by
    rw [Sp.cnt_lt hn, Nat.mul_comm n C]
    exact Nat.mul_lt_mul_right hn
  have h1 := key C
  have h2 := key (Sp.cnt (n * C) n)
  omega
theorem col_chunk {rnd : List Nat} {n C i : Nat} (hl : rnd.length = n * C) (hi : i < C) : Sp.col rnd n i = Go.Proofs.Ytaknffdokkfmgaa.chunk rnd n i := by
  have h1 : (i + 1) * n ≤ C * n := Nat.mul_le_mul_right n hi
  rw [Nat.succ_mul] at h1
  rw [Nat.mul_comm C n, ← hl] at h1
  apply List.ext_getElem
  · rw [Sp.col_len, Go.Proofs.Ytaknffdokkfmgaa.chunk, List.length_take, List.length_drop]; omega
  · intro j h2 h3
    have hj : j < n := by rw [Sp.col_len] at h2; exact h2
    simp only [Sp.col, Go.Proofs.Ytaknffdokkfmgaa.chunk, List.getElem_map, List.getElem_range, List.getElem_take, List.getElem_drop]
    unfold co
    rw [List.getD_eq_getElem?_getD, List.getElem?_eq_getElem (by omega)]
    rfl
end Pol
end
section
/- Columns in memory of their own. -/
namespace Gw
open Go Go.RowKit Go.Shelf
/-- What a call has made: R rows of n bytes, l i; nothing of it was there before. -/
structure Cs (w w' : World) (A : Option Addr) (c R n : Nat) (pa : Nat → Option Addr) (cp : Nat → Nat) (l : Nat → List Nat) : Prop where
  min : MIn w' w'.heap.size A c R pa cp l
  bel : Below w.heap.size w w'
  spine : ∀ g o, A = some ⟨g, o, none⟩ → 0 < R → w.heap.size ≤ g
  rows : ∀ i, i < R → ∀ b o, pa i = some ⟨b, o, none⟩ → w.heap.size ≤ b ∧ (∀ g o', A = some ⟨g, o', none⟩ → b ≠ g) ∧ ∀ j, j < n → w'.frozen? ⟨b, o + j, none⟩ = false
end Gw
end
section
/- A range over a function, no round of which leaves early: what is handed out may hang on what was handed out before, and on the world in which the round begins. -/
namespace Gq
open Go Go.RowKit

section
variable {P : Program} {n : Nat}

/-- The function's contract: where it has handed pre out, and in whatever world it hands x out, Rd pre x holds of that world. -/
def SeqPre {α : Type} (n : Nat) (P : Program) (gf : Nat) (lb : Array Value) (encs : α → Array Value) (Rd : List α → α → World → Prop) (Kp : World → World → Prop) (S : List α → Prop) (w : World) : Prop :=
  ∀ (l : Nat) (J : List α → World → Prop) (W : World), Below w.heap.size w W → (∀ s A B, J s A → A.grownBy B none → J s B) →
    (∀ pre x W1, J pre W1 → Rd pre x W1 → YieldAt Fence.wide (n - 1) P l (encs x) W1 fun e W' => e = .returned (.bool true) ∧ J (pre ++ [x]) W' ∧ Kp W1 W') →
    J [] W → CallsIn Fence.wide n P gf (#[.func (.yield l) #[] #[]] ++ lb) W fun e W' => (∃ v, e = .returned v) ∧ ∃ xs, S xs ∧ J xs W'

/-- How a round is left. -/
def prePost {α : Type} (Kp : World → World → Prop) (I : List α → World → Prop) (xs : List α) (W : World) : Exit → Act → World → Prop
  | .normal, _, W' => KeepsOthers W W' ∧ Kp W W' ∧ I xs W'
  | _, _, _ => False

theorem range_pre {α : Type} {g : Operand} {ps : Array Tmp} {assign body : Code} {Q : Exit → Act → World → Prop} {a : Act} {w : World} (h1 : 1 ≤ n) {gf : Nat} {lb : Array Value} (hg : a.eval g = .func (.func gf) #[] lb)
    (eg : ∀ args w, (callFunc gf args).run P w = .ok (.enter gf args) w) {encs : α → Array Value} {Rd : List α → α → World → Prop} {Kp : World → World → Prop} {S : List α → Prop} (hseq : SeqPre (n - 1) P gf lb encs Rd Kp S w)
    (hKt : ∀ {A B C : World}, Kp A B → Kp B C → Kp A C) (hKb : ∀ (W : World) (l : Nat) (o o' : Obj), w.heap.size ≤ l → W.heap[l]? = some o → o.isCells = false → Kp W (W.putObj l o')) (hps : ∀ x, (encs x).size = ps.size)
    (hRd : ∀ pre, OwnFrom w.heap.size (Rd pre)) (I : List α → World → Prop) (hI : OwnFrom w.heap.size I) (h0 : I [] w) (a₁ : α → Act)
    (hassign : ∀ (l : Nat) (x : α) (W : World) (K : Act → World → Prop), K (a₁ x) W →
      assign.wpIn (Fence.wide.inRound l) (n - 1 - 1) P (Exit.then K (fun _ _ _ => False)) { tmps := (ps.zip (encs x)).foldl (fun t (p, v) => t.setIfInBounds p v) a.tmps, defers := [] } W)
    (hbody : ∀ (l : Nat) (pre : List α) (x : α) (W : World), I pre W → Rd pre x W → body.wpIn (Fence.wide.inRound l) (n - 1 - 1) P (prePost Kp I (pre ++ [x]) W) (a₁ x) W)
    (hdone : ∀ (D : Nat) (xs : List α) (W : World), w.heap.size ≤ D → S xs → I xs W → W.heap[D]? = some (.deferred (some [])) → Q .normal { a with defers := { target := .collected D, args := #[] } :: a.defers } W) :
    (Code.rangeFunc g ps assign body).wpIn Fence.wide n P Q a w := by
  refine wpIn_rangeFunc fun fn hfn => ?_
  obtain ⟨rc, hrc⟩ : ∃ rc : LoopState → Option Code → Loop, rc = fun st pe => { state := st, pending := pe, fn, tmps := a.tmps, params := ps, assign, body, defers := w.heap.size } := ⟨_, rfl⟩
  obtain ⟨W1, hW1⟩ : ∃ W1, W1 = (w.alloc (.deferred (some []))).alloc (.loop (rc .ready none)) := ⟨_, rfl⟩
  have hsz : W1.heap.size = w.heap.size + 2 := by rw [hW1]; simp
  have hL1 : W1.heap[w.heap.size + 1]? = some (.loop (rc .ready none)) := by
    have := World.alloc_heap_new (w.alloc (.deferred (some []))) (.loop (rc .ready none)); rw [World.size_alloc] at this; rw [hW1]; exact this
  have hK1 : W1.heap[w.heap.size]? = some (.deferred (some [])) := by
    rw [hW1]; exact (Below.heap_alloc _ _ _ (by simp)).trans (World.alloc_heap_new w _)
  have hI1 : I [] W1 := by rw [hW1]; exact hI.alloc _ (hI.alloc _ h0)
  have hb1 : Below w.heap.size w W1 := by rw [hW1]; exact ((Below.refl _ w).alloc (Nat.le_refl _) _).alloc (by simp) _
  refine ⟨w.heap.size + 1, [{ target := .collected w.heap.size, args := #[] }], W1, { target := .fn (.func gf) lb, args := #[.func (.yield (w.heap.size + 1)) #[] #[]] }, W1, gf, #[.func (.yield (w.heap.size + 1)) #[] #[]] ++ lb, W1, ?_, ?_, ?_, ?_, fun _ => h1, ?_⟩
  · rw [hW1, hrc]; exact run_enterLoop_outer _ _ _ _ _
  · simp only [resolve, hg]; simp [go_sem]
  · intro _ _; exact trivial
  · simp [invoke, go_sem, eg]
  · have fin : ∀ W3 : World, W3.heap[w.heap.size + 1]? = some (.loop { rc .ready none with state := .busy }) → (Instr.endRound (w.heap.size + 1) none).run P W3 = .ok (.bool true) (W3.putObj (w.heap.size + 1) (.loop (rc .ready none))) := fun W3 h3 => by
      have := run_endRound (P := P) none h3
      rw [hrc] at this ⊢
      exact this
    refine (hseq (w.heap.size + 1) (fun pre W => I pre W ∧ W.heap[w.heap.size + 1]? = some (.loop (rc .ready none)) ∧ W.heap[w.heap.size]? = some (.deferred (some []))) W1 hb1 ?_ ?_ ⟨hI1, hL1, hK1⟩).mono ?_
    · rintro s A B ⟨h2, h3, h4⟩ hgr
      refine ⟨hI s A B none h2 hgr (fun r e => by cases e), ?_, ?_⟩
      · exact (hgr.block _ (Array.getElem?_eq_some_iff.1 h3).1 (by simp)).trans h3
      · exact (hgr.block _ (Array.getElem?_eq_some_iff.1 h4).1 (by simp)).trans h4
    · rintro pre x W ⟨hi, hl, hk⟩ hrd
      have hlt := (Array.getElem?_eq_some_iff.1 hl).1
      have hy := run_yield (P := P) (args := encs x) hl (by rw [hrc]; exact hps x)
      rw [hrc] at hy
      obtain ⟨W2, hW2⟩ : ∃ W2, W2 = W.putObj (w.heap.size + 1) (.loop { rc .ready none with state := .busy }) := ⟨_, rfl⟩
      have hl2 : W2.heap[w.heap.size + 1]? = some (.loop { rc .ready none with state := .busy }) := by rw [hW2]; exact World.putObj_heap_same hlt
      have hk2 : W2.heap[w.heap.size]? = some (.deferred (some [])) := by rw [hW2]; exact (World.putObj_heap_other (by omega)).trans hk
      have hq2 : Kp W W2 := by rw [hW2]; exact hKb _ _ _ _ (by omega) hl rfl
      have hi2 : I pre W2 := by rw [hW2]; exact hI.putObj _ hi (by omega) hl rfl
      have hr2 : Rd pre x W2 := by rw [hW2]; exact (hRd pre).putObj _ hrd (by omega) hl rfl
      refine ⟨fn, _, assign, body, hy, roundIn_of_wpIn hfn (hassign _ x W _ ⟨W2, by rw [hW2]; exact run_beginRound hl (by rw [hrc]), ?_⟩)⟩
      refine wpIn_mono (hbody _ pre x W2 hi2 hr2) ?_
      intro e a3 W3 hp
      cases e with
      | normal =>
        obtain ⟨hk3, hq3, hi3⟩ := hp
        have hl3 := hk3.same _ _ hl2 rfl
        have hk4 := hk3.same _ _ hk2 rfl
        refine ⟨_, _, fin W3 hl3, rfl, ⟨hI.putObj _ hi3 (by omega) hl3 rfl, World.putObj_heap_same (Array.getElem?_eq_some_iff.1 hl3).1, (World.putObj_heap_other (by omega)).trans hk4⟩, hKt (hKt hq2 hq3) (hKb _ _ _ _ (by omega) hl3 rfl)⟩
      | _ => exact hp.elim
    · rintro e W2 ⟨⟨v, rfl⟩, xs, hS, hi, hl, hk⟩
      exact ⟨none, _, by have := run_endLoop (P := P) hl (by rw [hrc]; simp); rw [hrc] at this; exact this, hdone _ xs _ (Nat.le_refl _) hS (hI.putObj _ hi (by omega) hl rfl) ((World.putObj_heap_other (by omega)).trans hk)⟩
end
end Gq
end
section
/- stripe: Columns, and the pieces of a document one by one. -/
namespace Sp
/-- As the program reckons it. -/
theorem cnt_div {n k : Nat} (hk : 0 < k) : cnt n k = if 0 < n % k then n / k + 1 else n / k := by
  have h := Nat.div_add_mod n k
  have hm := Nat.mod_lt n hk
  have hc : (n / k) * k + n % k = n := by rw [Nat.mul_comm]; exact h
  have h1 := cnt_lt (n := n) (k := k) (i := n / k) hk
  have h2 := cnt_lt (n := n) (k := k) (i := n / k + 1) hk
  rw [Nat.succ_mul] at h2
  by_cases h0 : 0 < n % k
  · rw [if_pos h0]; omega
  · rw [if_neg h0]
    have h3 : n / k ≠ 0 → n / k - 1 < cnt n k := fun hq => by
      refine (cnt_lt hk).2 ?_
      obtain ⟨q, hq'⟩ : ∃ q, n / k = q + 1 := ⟨n / k - 1, by omega⟩
      rw [hq', Nat.add_sub_cancel]
      rw [hq', Nat.succ_mul] at hc
      omega
    omega
theorem colsZ_no {s k : Int} (h : s < 0 ∨ k < 1) : colsZ s k = 0 := by
  unfold colsZ; rw [if_pos (by omega)]
end Sp
namespace Go.Proofs.Ytaknffdokkfmgaa
open Go.RowKit Go.Shelf Gw Pol
attribute [local go_sem] Oper.semAt_some

/-- Columns: the world stands. -/
theorem scols_same (s k : Int) (hs : (Lit.int .i64 s).wf = true) (hk : (Lit.int .i64 k).wf = true) (w : World) :
    Calls Try.prog 52 #[.int .i64 s, .int .i64 k] w fun e w' => e = .returned (.int .i64 (Sp.colsZ s k)) ∧ w' = w := by
  have hs' : s ≤ 9223372036854775807 := by
    have h2 : IntKind.i64.min ≤ s ∧ s ≤ 9223372036854775807 := by simpa [Lit.wf] using hs
    exact h2.2
  have hk' : k ≤ 9223372036854775807 := by
    have h2 : IntKind.i64.min ≤ k ∧ k ≤ 9223372036854775807 := by simpa [Lit.wf] using hk
    exact h2.2
  by_cases h : s < 0 ∨ k < 1
  · have HZ := Lib.hid (Sp.colsZ_no h)
    go_enter Try.func52, Try.ntmps52
    rcases h with h | h
    · go_wp2
      go_ret
      exact ⟨by rw [HZ.out]; rfl, rfl⟩
    · go_wp2
      all_goals (go_ret; exact ⟨by rw [HZ.out]; rfl, rfl⟩)
  · obtain ⟨n, rfl⟩ : ∃ n : Nat, s = (n : Int) := ⟨s.toNat, by omega⟩
    obtain ⟨m, rfl⟩ : ∃ m : Nat, k = (m : Int) := ⟨k.toNat, by omega⟩
    have hm : 0 < m := by omega
    have HZ := Lib.hid ((Sp.colsZ_nat n m).trans (congrArg (fun x : Nat => (x : Int)) (Sp.cnt_div hm)))
    have hq : (n : Int) / (m : Int) = ((n / m : Nat) : Int) := rfl
    have hr : (n : Int) % (m : Int) = ((n % m : Nat) : Int) := rfl
    have hqn : n / m ≤ n := Nat.div_le_self n m
    have hrn : n % m < m := Nat.mod_lt n hm
    by_cases h0 : 0 < n % m
    · rw [if_pos h0] at HZ
      have hqm : n / m + 1 ≤ n := by
        have h1 := Nat.div_add_mod n m
        have h2 : n / m ≤ m * (n / m) := Nat.le_mul_of_pos_left _ hm
        omega
      obtain ⟨q, hqe⟩ : ∃ q, q = n / m := ⟨_, rfl⟩
      obtain ⟨r, hre⟩ : ∃ r, r = n % m := ⟨_, rfl⟩
      rw [← hqe] at hq hqm HZ
      rw [← hre] at hr hrn h0
      clear hqe hre hqn
      go_enter Try.func52, Try.ntmps52
      go_wp2
      go_ret
      refine ⟨?_, rfl⟩
      rw [HZ.out]
      go_num
    · rw [if_neg h0] at HZ
      obtain ⟨q, hqe⟩ : ∃ q, q = n / m := ⟨_, rfl⟩
      obtain ⟨r, hre⟩ : ∃ r, r = n % m := ⟨_, rfl⟩
      rw [← hqe] at hq hqn HZ
      rw [← hre] at hr hrn h0
      clear hqe hre
      obtain rfl : r = 0 := by omega
      go_enter Try.func52, Try.ntmps52
      go_wp2
      go_ret
      refine ⟨?_, rfl⟩
      rw [HZ.out]
      go_num
theorem scols_any (s k : Int) (hs : (Lit.int .i64 s).wf = true) (hk : (Lit.int .i64 k).wf = true) (w : World) : Calls Try.prog 52 #[.int .i64 s, .int .i64 k] w fun e w' => e = .returned (.int .i64 (Sp.colsZ s k)) ∧ Below w.heap.size w w' :=
  (scols_same s k hs hk w).mono fun e w' h => ⟨h.1, by rw [h.2]; exact Below.refl _ _⟩
theorem wf_nat {n : Nat} (h : n ≤ 9223372036854775807) : (Lit.int .i64 (n : Int)).wf = true := by
  have h1 : IntKind.i64.min ≤ (n : Int) := by have : IntKind.i64.min = -9223372036854775808 := by decide
                                              omega
  simp [Lit.wf]
  exact ⟨h1, by omega⟩
theorem scols_nat (n k : Nat) (hn : n ≤ 9223372036854775807) (hk : k ≤ 9223372036854775807) (w : World) : Calls Try.prog 52 #[.int .i64 (n : Int), .int .i64 (k : Int)] w fun e w' => e = .returned (.int .i64 (Sp.cnt n k : Int)) ∧ w' = w :=
  (scols_same n k (wf_nat hn) (wf_nat hk) w).mono fun e w' h => ⟨by rw [← Sp.colsZ_nat]; exact h.1, h.2⟩

/-- Two blocks stand. -/
def KpT (b1 b2 : Nat) (W W' : World) : Prop := ∀ b, b = b1 ∨ b = b2 → W'.heap[b]? = W.heap[b]?
theorem KpT.refl (b1 b2 : Nat) (W : World) : KpT b1 b2 W W := fun _ _ => rfl
theorem KpT.trans {b1 b2 : Nat} {A B C : World} (h : KpT b1 b2 A B) (k : KpT b1 b2 B C) : KpT b1 b2 A C := fun b h1 => (k b h1).trans (h b h1)
theorem KpT.below {b1 b2 n : Nat} {A B : World} (h : Below n A B) (h1 : b1 < n) (h2 : b2 < n) : KpT b1 b2 A B := fun b h3 => h.block b (by omega)
theorem KpT.one {b1 b2 o : Nat} {A B : World} (h : KpT b1 b2 A B) : B.cell? ⟨b1, o, none⟩ = A.cell? ⟨b1, o, none⟩ := World.cell?_of_block (h b1 (.inl rfl))
theorem KpT.two {b1 b2 o : Nat} {A B : World} (h : KpT b1 b2 A B) : B.cell? ⟨b2, o, none⟩ = A.cell? ⟨b2, o, none⟩ := World.cell?_of_block (h b2 (.inr rfl))

theorem spieces_mk (A : Option Addr) (n c k : Nat) (w : World) :
    Calls Try.prog 53 #[.slice A n c, .int .i64 (k : Int)] w fun e w' =>
      e = .returned (.func (.func 65) #[] #[.pointer (some ⟨w.heap.size, 0, none⟩), .pointer (some ⟨w.heap.size + 1, 0, none⟩)]) ∧
      w' = (w.alloc (.cells #[.slice A n c] 28)).alloc (.cells #[.int .i64 (k : Int)] 3) := by
  go_enter Try.func53, Try.ntmps53
  go_wp2
  go_ret
  exact ⟨rfl, rfl⟩

/-- Piece i of k bytes of n, that lie at b, off. -/
abbrev sencs (b off n c k : Nat) (i : Nat) : Array Value := #[.int .i64 (i : Int), .slice (some ⟨b, off + i * k, none⟩) (min k (n - i * k)) (c - i * k)]
def SpRel (J : List Nat → World → Prop) (w : World) (bd bk b off n c k : Nat) (v i : Value) (wr : World) : Prop :=
  ∃ q : Nat, q ≤ Sp.cnt n k ∧ i = .int .i64 (q : Int) ∧ (q < Sp.cnt n k → v = .slice (some ⟨b, off + q * k, none⟩) (n - q * k) (c - q * k)) ∧ J (List.range q) wr ∧ KpT bd bk w wr
set_option maxRecDepth 100000 in
set_option maxHeartbeats 1000000 in
/-- The pieces come one by one. -/
theorem spieces_pre (m : Nat) (hm : 1 ≤ m) (bd bk b off n c k : Nat) (A : Option Addr) (hA : 0 < n → A = some ⟨b, off, none⟩) (hk : 0 < k) (hk2 : k ≤ 9223372036854775807) (hn : n ≤ 140737488355328) (hc : n ≤ c) (w : World)
    (h1 : w.cell? ⟨bd, 0, none⟩ = some (.slice A n c)) (h2 : w.cell? ⟨bk, 0, none⟩ = some (.int .i64 (k : Int))) :
    Gq.SeqPre m Try.prog 65 #[.pointer (some ⟨bd, 0, none⟩), .pointer (some ⟨bk, 0, none⟩)] (sencs b off n c k) (fun pre x _ => pre = List.range x ∧ x < Sp.cnt n k) (KpT bd bk) (fun xs => xs = List.range (Sp.cnt n k)) w := fun l J W hW hJ hY h0 => by
  have q0 : KpT bd bk w W := KpT.below hW (cell_lt h1) (cell_lt h2)
  have c1 := q0.one.trans h1
  have c2 := q0.two.trans h2
  have hcn := Sp.cnt_le n k
  have HC := Lib.hid (scols_nat n k (by omega) hk2 W)
  obtain ⟨R, hR⟩ : ∃ R, R = Sp.cnt n k := ⟨_, rfl⟩
  rw [← hR] at HC hcn
  have HR := Lib.hid hR
  clear hR
  refine callsIn_of_wp Try.func65 rfl trivial ?_ rfl
  simp only [Try.ntmps65, List.size_toArray, List.length_cons, List.length_nil, Nat.reduceAdd, Nat.reduceSub, Array.replicate_succ, Array.replicate_zero, List.push_toArray, List.append_toArray, List.nil_append, List.cons_append]
  gi_wp2_with fail
  refine ⟨trivial, ?_⟩
  refine (callsIn_wide.2 HC.out).mono ?_
  rintro e _ ⟨rfl, rfl⟩
  gi_wp2
  gi_loopw [4, 12] (SpRel J w bd bk b off n c k) (fun _ i _ => R - (intOf i).toNat)
  case atStart => exact ⟨0, Nat.zero_le _, rfl, fun h => by rw [hA ((Sp.cnt_lt hk).1 h |> fun h => by omega)]; simp, h0, q0⟩
  case round =>
    obtain ⟨q, hq, rfl, hv, hJs, hK⟩ := hrel
    rw [← HR.out] at hq hv
    by_cases hlt : q < R
    · have hv' := hv hlt
      subst hv'
      have hqn := (Sp.cnt_lt (n := n) hk).1 (by rw [← HR.out]; exact hlt)
      have HN := Lib.hid (Sp.cnt_lt (n := n) (i := q + 1) hk)
      rw [← HR.out, Nat.succ_mul] at HN
      have d2 := hK.two.trans h2
      obtain ⟨fn, tmps, assign, body, hy, hRd⟩ := hY (List.range q) q wr hJs ⟨rfl, by rw [← HR.out]; exact hlt⟩
      dsimp only [sencs] at hy
      obtain ⟨s, hs⟩ : ∃ s, s = q * k := ⟨_, rfl⟩
      obtain ⟨len, hlen⟩ : ∃ t, t = n - q * k := ⟨_, rfl⟩
      obtain ⟨cap, hcap⟩ : ∃ t, t = c - q * k := ⟨_, rfl⟩
      obtain ⟨o, ho⟩ : ∃ t, t = off + q * k := ⟨_, rfl⟩
      obtain ⟨p, hp⟩ : ∃ t, t = min k len := ⟨_, rfl⟩
      rw [← hlen, ← hcap, ← ho, ← hp] at hy
      rw [← hlen, ← hcap, ← ho]
      rw [← hs] at hqn hlen hcap ho HN
      obtain ⟨vr, hsl, hvr⟩ : ∃ vr, (∀ w', (Instr.sliceAt 28 (.slice (some ⟨b, o, none⟩) len cap) (some (.int .i64 (p : Int))) none none).run Try.prog w' = .ok vr w') ∧ (p < cap → vr = .slice (some ⟨b, o + p, none⟩) (len - p) (cap - p)) := by
        refine ⟨sliced (some ⟨b, o, none⟩) p len cap 1, fun w' => ?_, fun h => ?_⟩
        · rw [run_sliceAt_slice w' _ _ _ _ _ slice_elem, run_slice_l w' _ _ len cap slice_elem .i64 (p : Int) (by omega) (by omega), slice_one, Result.andThen_ok, Int.toNat_natCast]
        · unfold sliced
          rw [if_neg (by omega), Option.map_some, Nat.mul_one, addr_add]
      have HV := Lib.hid (show q + 1 < R → vr = .slice (some ⟨b, off + (q + 1) * k, none⟩) (n - (q + 1) * k) (c - (q + 1) * k) from fun h => by
        have h3 := HN.out.1 h
        have e1 : o + p = off + (s + k) := by omega
        have e2 : len - p = n - (s + k) := by omega
        have e3 : cap - p = c - (s + k) := by omega
        rw [hvr (by omega), Nat.succ_mul, ← hs, e1, e2, e3])
      have hcase : (p = k ∧ k ≤ len ∧ p ≤ cap) ∨ (p = len ∧ len < k ∧ p ≤ cap) := by omega
      clear hvr hp hs hlen hcap ho hqn
      rcases hcase with ⟨rfl, hkl, hpc⟩ | ⟨rfl, hkl, hpc⟩
      · gi_wp2_with fail
        refine hRd.mono ?_
        rintro e W3 ⟨rfl, hJ3, hK3⟩
        gi_wp2
        go_roundw
        case rel => exact ⟨q + 1, by rw [← HR.out]; omega, by go_num, fun h => HV.out (by rw [HR.out]; exact h), by rw [List.range_succ]; exact hJ3, hK.trans hK3⟩
        case measure => simp [intOf]; omega
      · gi_wp2_with fail
        refine hRd.mono ?_
        rintro e W3 ⟨rfl, hJ3, hK3⟩
        gi_wp2
        go_roundw
        case rel => exact ⟨q + 1, by rw [← HR.out]; omega, by go_num, fun h => HV.out (by rw [HR.out]; exact h), by rw [List.range_succ]; exact hJ3, hK.trans hK3⟩
        case measure => simp [intOf]; omega
    · obtain rfl : q = R := by omega
      gi_wp2
      go_end0
      exact ⟨⟨_, rfl⟩, _, by rw [HR.out], hJs⟩
end Go.Proofs.Ytaknffdokkfmgaa
end
section
/- Columns in numbers: a column is a piece of the document and noughts; a document put together piece by piece. -/
namespace Sp
open Pol
/-- A column: what is left of the document, at most k bytes of it, and noughts. -/
theorem col_piece (d : List Nat) (k i m : Nat) (hm : m = min k (d.length - i * k)) : col d k i = (d.drop (i * k)).take m ++ List.replicate (k - m) 0 := by
  have hl : ((d.drop (i * k)).take m).length = m := by rw [List.length_take, List.length_drop]; omega
  apply List.ext_getElem
  · rw [col_len, List.length_append, hl, List.length_replicate]; omega
  · intro j h1 h2
    have hj : j < k := by rw [col_len] at h1; exact h1
    simp only [col, List.getElem_map, List.getElem_range]
    by_cases hjm : j < m
    · rw [List.getElem_append_left (by omega), List.getElem_take, List.getElem_drop, co_get (by omega)]
    · rw [List.getElem_append_right (by omega), List.getElem_replicate, co_far (by omega)]
/-- A document of s bytes that q columns have been laid into. -/
def part (l : Nat → List Nat) (s k q : Nat) : List Nat := (cat l q).take s ++ List.replicate (s - q * k) 0
theorem part_zero (l : Nat → List Nat) (s k : Nat) : part l s k 0 = List.replicate s 0 := by simp [part, cat]
theorem part_len {l : Nat → List Nat} {s k q : Nat} (h : ∀ i, i < q → (l i).length = k) : (part l s k q).length = s := by
  rw [part, List.length_append, List.length_take, cat_len h, List.length_replicate]; omega
theorem part_done {l : Nat → List Nat} {s k q : Nat} (h : s ≤ q * k) : part l s k q = (cat l q).take s := by
  rw [part, show s - q * k = 0 by omega]; simp
theorem part_step {l : Nat → List Nat} {s k q m : Nat} (h : ∀ i, i < q + 1 → (l i).length = k) (hq : q * k < s) (hm : m = min k (s - q * k)) :
    (part l s k q).take (q * k) ++ ((l q).take m ++ (part l s k q).drop (q * k + m)) = part l s k (q + 1) := by
  have hc := cat_len (l := l) (k := k) (R := q) (fun i hi => h i (by omega))
  have hk := h q (by omega)
  have e1 : part l s k q = cat l q ++ List.replicate (s - q * k) 0 := by
    rw [part, List.take_of_length_le (by omega)]
  have e2 : (part l s k q).take (q * k) = cat l q := by
    rw [e1, ← hc, List.take_left']
    rfl
  have e3 : (part l s k q).drop (q * k + m) = List.replicate (s - q * k - m) 0 := by
    rw [e1, ← hc, List.drop_append, List.drop_replicate, List.drop_of_length_le (by omega), List.nil_append]
    congr 1; omega
  have t1 : (cat l q).take s = cat l q := List.take_of_length_le (by omega)
  have t2 : (l q).take m = (l q).take (s - q * k) := by
    by_cases hks : k ≤ s - q * k
    · rw [List.take_of_length_le (i := m) (by omega), List.take_of_length_le (i := s - q * k) (by omega)]
    · rw [show m = s - q * k by omega]
  have t3 : s - q * k - m = s - (q * k + k) := by omega
  rw [e2, e3, part, cat, List.take_append, t1, hc, List.append_assoc, Nat.succ_mul, t2, t3]
end Sp
end
