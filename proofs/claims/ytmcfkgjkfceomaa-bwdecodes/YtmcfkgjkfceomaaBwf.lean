/- What bw's Decode answers where nothing is to be looked for: none. -/
import Derived.Test.YtmcfkgjkfceomaaBwd
import Derived.Test.YtmcfkgjkfceomaaBwe
import Derived.OwnWalkIn
namespace Go
/-- Three results, the second in a box. -/
theorem results_tct {P : Program} {fn : Func} {p u v : Tmp} {t : TypeId} (h : fn.results = #[.tmp p, .cell u t, .tmp v]) (ha : ∀ w, (isAgg t).run P w = .ok false w) (tmps : Array Value) (w : World)
    {b : Addr} {x : Value} (h2 : tmps.getD u undef = .pointer (some b)) (c2 : (load b).run P w = .ok x w) : (results fn tmps).run P w = .ok (.tuple #[tmps.getD p undef, x, tmps.getD v undef]) w := by
  have h2' : tmps[u]?.getD undef = .pointer (some b) := by simpa using h2
  simp [results, h, h2', asAddr, loadVar, Sem.run_bind, Result.andThen, ha, c2]
end Go
namespace Go.Proofs.Ytmcfkgjkfceomaa
open Go.RowKit Go.Shelf Gw Pol

/-- What Decode answers. -/
def DcYes (w : World) (xs ys : List Nat) (d e : Int) (en : Ending) (w' : World) : Prop :=
  ∃ (p : List Nat) (A A' : Option Addr) (c c' : Nat), en = .returned (.tuple #[.slice A p.length c, .slice A' (wrTo p xs ys xs.length).length c', .bool true]) ∧ Agd xs ys d e p ∧ Gw.Own w' w.heap.size 5 A c p ∧ OwnJ w' w.heap.size 3 A' c' (wrTo p xs ys xs.length) ∧ Below w.heap.size w w'
def DcNo (w : World) (en : Ending) (w' : World) : Prop := en = .returned (.tuple #[.slice none 0 0, .slice none 0 0, .bool false]) ∧ Below w.heap.size w w'
def DcAns (w : World) (xs ys : List Nat) (d e : Int) (en : Ending) (w' : World) : Prop := DcYes w xs ys d e en w' ∨ (DcNo w en w' ∧ ∀ p, ¬ Agd xs ys d e p)

theorem zeroInts (w : World) : (zeroValue 24).run Try.prog w = .ok (.slice none 0 0) w := by kernel_rfl
theorem aggInts (w : World) : (isAgg 24).run Try.prog w = .ok false w := by kernel_rfl
/-- The box of the places. -/
structure DcB (w W : World) : Prop where
  c : W.cell? ⟨w.heap.size, 0, none⟩ = some (.slice none 0 0)
  f : W.frozen? ⟨w.heap.size, 0, none⟩ = false
  sz : W.heap.size = w.heap.size + 1
  bl : Below w.heap.size w W
theorem dcB (w : World) : DcB w (w.alloc (.cells #[.slice none 0 0] 24)) := ⟨new_cell w _ _ _ rfl, new_frozen w _ _ _ rfl, by simp, (Below.refl _ w).alloc (Nat.le_refl _) _⟩
/-- When nothing is put into it. -/
theorem dc_set {w W : World} (hc : W.cell? ⟨w.heap.size, 0, none⟩ = some (.slice none 0 0)) (hb : Below w.heap.size w W) : (load ⟨w.heap.size, 0, none⟩).run Try.prog (W.setCell ⟨w.heap.size, 0, none⟩ (.slice none 0 0)) = .ok (.slice none 0 0) (W.setCell ⟨w.heap.size, 0, none⟩ (.slice none 0 0)) ∧ Below w.heap.size w (W.setCell ⟨w.heap.size, 0, none⟩ (.slice none 0 0)) := by
  refine ⟨?_, hb.setCell (p := ⟨w.heap.size, 0, none⟩) (Nat.le_refl _) _⟩
  have := World.cell?_setCell_same W ⟨w.heap.size, 0, none⟩ (.slice none 0 0) hc
  simp [this]

theorem dc_load {w W : World} (hB : DcB w W) : (load ⟨w.heap.size, 0, none⟩).run Try.prog W = .ok (.slice none 0 0) W ∧ Below w.heap.size w W := ⟨by simp [hB.c], hB.bl⟩

set_option maxRecDepth 100000 in
set_option maxHeartbeats 1000000 in
theorem bdec_len (bf : Nat) (A A' : Option Addr) (c c' : Nat) (xs ys : List Nat) (d e : Int) (w : World) (he : xs.length ≠ ys.length) :
    Calls Try.prog 9 #[.pointer (some ⟨bf, 0, none⟩), .slice A xs.length c, .slice A' ys.length c', .int .i64 d, .int .i64 e] w (DcNo w) := by
  have hz := zeroInts
  have hB := dcB w
  have hne : (((xs.length : Int)) != ((ys.length : Int))) = true := by rw [bne_iff_ne]; omega
  have hS := Lib.hid (dc_load hB)
  clear hB
  go_enter Try.func9, Try.ntmps9
  go_wp2
  refine bodyPost_ret (results_tct rfl aggInts _ _ rfl hS.out.1) rfl ?_
  exact ⟨rfl, hS.out.2⟩

set_option maxRecDepth 100000 in
set_option maxHeartbeats 1000000 in
theorem bdec_many (bf : Nat) (A A' : Option Addr) (c c' : Nat) (xs ys : List Nat) (d e : Int) (w : World) (he : xs.length = ys.length) (hl : 255 < xs.length) :
    Calls Try.prog 9 #[.pointer (some ⟨bf, 0, none⟩), .slice A xs.length c, .slice A' ys.length c', .int .i64 d, .int .i64 e] w (DcNo w) := by
  have hz := zeroInts
  have hB := dcB w
  have hS := Lib.hid (dc_load hB)
  rw [← he]
  clear hB he
  go_enter Try.func9, Try.ntmps9
  go_wp2
  refine bodyPost_ret (results_tct rfl aggInts _ _ rfl hS.out.1) rfl ?_
  exact ⟨rfl, hS.out.2⟩

set_option maxRecDepth 100000 in
set_option maxHeartbeats 1000000 in
theorem bdec_bad (bf : Nat) (A A' : Option Addr) (c c' : Nat) (xs ys : List Nat) (d e : Int) (w : World) (hI : In w w.heap.size A c xs) (he : xs.length = ys.length) (hl : xs.length ≤ 255) (hbad : unB xs = false ∨ witB d = false ∨ witB e = false) :
    Calls Try.prog 9 #[.pointer (some ⟨bf, 0, none⟩), .slice A xs.length c, .slice A' ys.length c', .int .i64 d, .int .i64 e] w (DcNo w) := by
  have hz := zeroInts
  have hB := dcB w
  have T1 := Lib.hid (repeated_any A c xs _ ((hI.below hB.bl).more hB.bl.size) (by omega))
  have HB := Lib.hid hB
  rw [← he]
  clear hB he
  have after : ∀ w1, Below (w.alloc (.cells #[.slice none 0 0] 24)).heap.size (w.alloc (.cells #[.slice none 0 0] 24)) w1 → w1.cell? ⟨w.heap.size, 0, none⟩ = some (.slice none 0 0) ∧ w1.frozen? ⟨w.heap.size, 0, none⟩ = false ∧ Below w.heap.size w w1 := fun w1 hb => by
    have hs := HB.out.sz
    refine ⟨(hb.cell (p := ⟨w.heap.size, 0, none⟩) (by show w.heap.size < _; omega)).trans HB.out.c, (World.frozen?_of_block (hb.block w.heap.size (by omega))).trans HB.out.f, HB.out.bl.trans (hb.mono (by omega))⟩
  have HA := Lib.hid after
  clear after
  by_cases hu : unB xs = false
  · rw [hu] at T1
    clear hu hbad
    go_enter Try.func9, Try.ntmps9
    go_wp2_with fail
    refine T1.out.mono ?_
    rintro en w1 ⟨rfl, hb1⟩
    obtain ⟨hc, hf, hb⟩ := HA.out w1 hb1
    have hS := Lib.hid (dc_set hc hb)
    go_wp2
    refine bodyPost_ret (results_tct rfl aggInts _ _ rfl hS.out.1) rfl ?_
    exact ⟨rfl, hS.out.2⟩
  · have hu' : unB xs = true := by revert hu; cases unB xs <;> simp
    rw [hu'] at T1 hbad
    clear hu hu'
    have T2 := Lib.hid (within_any d)
    have T3 := Lib.hid (within_any e)
    by_cases hd : witB d = false
    · rw [hd] at T2
      clear hbad hd
      go_enter Try.func9, Try.ntmps9
      go_wp2_with fail
      refine T1.out.mono ?_
      rintro en w1 ⟨rfl, hb1⟩
      obtain ⟨hc, hf, hb⟩ := HA.out w1 hb1
      have hS := Lib.hid (dc_set hc hb)
      go_wp2_with fail
      refine (T2.out w1).mono ?_
      rintro en w2 ⟨rfl, rfl⟩
      go_wp2
      refine bodyPost_ret (results_tct rfl aggInts _ _ rfl hS.out.1) rfl ?_
      exact ⟨rfl, hS.out.2⟩
    · have hd' : witB d = true := by revert hd; cases witB d <;> simp
      have hee : witB e = false := by rw [hd'] at hbad; simpa using hbad
      rw [hd'] at T2
      rw [hee] at T3
      clear hbad hd hd' hee
      go_enter Try.func9, Try.ntmps9
      go_wp2_with fail
      refine T1.out.mono ?_
      rintro en w1 ⟨rfl, hb1⟩
      obtain ⟨hc, hf, hb⟩ := HA.out w1 hb1
      have hS := Lib.hid (dc_set hc hb)
      go_wp2_with fail
      refine (T2.out w1).mono ?_
      rintro en w2 ⟨rfl, rfl⟩
      go_wp2_with fail
      refine (T3.out w1).mono ?_
      rintro en w2 ⟨rfl, rfl⟩
      go_wp2
      refine bodyPost_ret (results_tct rfl aggInts _ _ rfl hS.out.1) rfl ?_
      exact ⟨rfl, hS.out.2⟩

set_option maxRecDepth 100000 in
set_option maxHeartbeats 1000000 in
/-- Too few, or nothing near: none. -/
theorem bdec_few (bf : Nat) (A A' : Option Addr) (c c' : Nat) (xs ys : List Nat) (D E : Nat) (w : World) (hI : In w w.heap.size A c xs) (he : xs.length = ys.length) (hl : xs.length ≤ 255) (hu : unB xs = true) (hD : D ≤ 255) (hE : E ≤ 255) (hfew : xs.length < D + 1 + E) :
    Calls Try.prog 9 #[.pointer (some ⟨bf, 0, none⟩), .slice A xs.length c, .slice A' ys.length c', .int .i64 (D : Int), .int .i64 (E : Int)] w (DcNo w) := by
  have hz := zeroInts
  have hB := dcB w
  have T1 := Lib.hid (repeated_any A c xs _ ((hI.below hB.bl).more hB.bl.size) (by omega))
  rw [hu] at T1
  have T2 := Lib.hid (within_any (D : Int))
  have T3 := Lib.hid (within_any (E : Int))
  have hwd : witB (D : Int) = true := decide_eq_true (by omega)
  have hwe : witB (E : Int) = true := decide_eq_true (by omega)
  rw [hwd] at T2
  rw [hwe] at T3
  have HB := Lib.hid hB
  rw [← he]
  clear hB he hu hwd hwe
  have after : ∀ w1, Below (w.alloc (.cells #[.slice none 0 0] 24)).heap.size (w.alloc (.cells #[.slice none 0 0] 24)) w1 → w1.cell? ⟨w.heap.size, 0, none⟩ = some (.slice none 0 0) ∧ w1.frozen? ⟨w.heap.size, 0, none⟩ = false ∧ Below w.heap.size w w1 := fun w1 hb => by
    have hs := HB.out.sz
    refine ⟨(hb.cell (p := ⟨w.heap.size, 0, none⟩) (by show w.heap.size < _; omega)).trans HB.out.c, (World.frozen?_of_block (hb.block w.heap.size (by omega))).trans HB.out.f, HB.out.bl.trans (hb.mono (by omega))⟩
  have HA := Lib.hid after
  clear after
  have hneg : (xs.length : Int) - ((D : Int) + 1 + (E : Int)) < 0 := by omega
  have hneg2 : (xs.length : Int) - ((D : Int) + 1 + (E : Int)) < (E : Int) := by omega
  go_enter Try.func9, Try.ntmps9
  go_wp2_with fail
  refine T1.out.mono ?_
  rintro en w1 ⟨rfl, hb1⟩
  obtain ⟨hc, hf, hb⟩ := HA.out w1 hb1
  have hS := Lib.hid (dc_set hc hb)
  go_wp2_with fail
  refine (T2.out w1).mono ?_
  rintro en w2 ⟨rfl, rfl⟩
  go_wp2_with fail
  refine (T3.out w1).mono ?_
  rintro en w2 ⟨rfl, rfl⟩
  go_wp2
  refine bodyPost_ret (results_tct rfl aggInts _ _ rfl hS.out.1) rfl ?_
  exact ⟨rfl, hS.out.2⟩
end Go.Proofs.Ytmcfkgjkfceomaa
