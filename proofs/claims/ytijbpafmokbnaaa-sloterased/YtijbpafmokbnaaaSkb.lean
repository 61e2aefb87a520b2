/- What the definition's small functions of slots do: takes, write, solid, New. -/
import Derived.Test.YtijbpafmokbnaaaSka
import Derived.Test.YtijbpafmokbnaaaPby
import Derived.Test.YtijbpafmokbnaaaSlx
import Derived.BigQuiet
namespace Go.Proofs.Ytijbpafmokbnaaa
open Go.RowKit Go.Shelf Gw Pol Go.BigFrame
/-- The box of the definition's slot. -/
def Rb (w : World) (q : Nat) (room Z u : Int) (gone dirty : Bool) (v : Value) : Prop := w.heap[q]? = some (.cells #[.int .i64 room, .int .i64 Z, .int .i64 u, .bool gone, .bool dirty, v] 32 (0, 0))
theorem Rb.cell {w : World} {q : Nat} {room Z u : Int} {gone dirty : Bool} {v : Value} (h : Rb w q room Z u gone dirty v) (k : Nat) : w.cell? ⟨q, k, none⟩ = (#[.int .i64 room, .int .i64 Z, .int .i64 u, .bool gone, .bool dirty, v] : Array Value)[k]? := cell_of_row w q k _ _ (0, 0) h
theorem Rb.lt {w : World} {q : Nat} {room Z u : Int} {gone dirty : Bool} {v : Value} (h : Rb w q room Z u gone dirty v) : q < w.heap.size := (Array.getElem?_eq_some_iff.1 h).1
theorem i64w (x y : Int) (h : x = y) (h0 : -9223372036854775808 ≤ y) (h1 : y ≤ 9223372036854775807) : IntKind.i64.wrap x = y ∧ wrap64 x = y := by
  subst h
  exact ⟨by rw [IntKind.wrap_i64]; omega, by unfold wrap64; omega⟩
set_option maxRecDepth 100000 in
theorem takes_any (A : Option Addr) (n c : Nat) (w : World) (hn : n ≤ 4611686018427387904) : Calls Try.prog 24 #[.slice A n c] w fun e w' => e = .returned (.int .i64 (tk n : Int)) ∧ w' = w := by
  obtain ⟨t, ht⟩ : ∃ t, t = tk n := ⟨_, rfl⟩
  rw [← ht]
  obtain ⟨m, hm⟩ : ∃ m : Nat, m = n + 31 := ⟨_, rfl⟩
  have hq : ((m : Int) / 32) = (t : Int) := by unfold tk at ht; omega
  have hws : (IntKind.i64.wrap ((n : Int) + 31) = (m : Int) ∧ wrap64 ((n : Int) + 31) = (m : Int)) ∧ (IntKind.i64.wrap (t : Int) = (t : Int) ∧ wrap64 (t : Int) = (t : Int)) := ⟨i64w _ _ (by omega) (by omega) (by omega), i64w _ _ rfl (by omega) (by unfold tk at ht; omega)⟩
  obtain ⟨⟨ha1, hb1⟩, ha2, hb2⟩ := hws
  clear ht hm hn
  go_enter Try.func24, Try.ntmps24
  go_wp2
  go_ret
  exact ⟨rfl, rfl⟩
set_option maxRecDepth 100000 in
theorem rwrite_no (q : Nat) (room Z u : Int) (gone dirty : Bool) (v : Value) (w : World) (h : Rb w q room Z u gone dirty v) (hc : gone = true ∨ Z = 0) :
    Calls Try.prog 25 #[.pointer (some ⟨q, 0, none⟩)] w fun e w' => e = .returned (.bool false) ∧ Rb w' q room Z u true dirty v ∧ K2 w w' q q := by
  have c1 := h.cell 1
  have c3 := h.cell 3
  have f3 : w.frozen? ⟨q, 3, none⟩ = false := frozen_of h
  have HH := Lib.hid h
  have HK := Lib.hid (K2.refl w q q)
  clear h
  by_cases hz : Z = 0
  · subst hz
    clear hc
    go_enter Try.func25, Try.ntmps25
    go_wp2
    go_ret
    exact ⟨rfl, heap_set_same HH.out, K2.set w q q 3 _⟩
  · obtain rfl : gone = true := hc.resolve_right hz
    have hz' : (Z == 0) = false := by simpa using hz
    clear hc hz
    go_enter Try.func25, Try.ntmps25
    go_wp2
    go_ret
    exact ⟨rfl, HH.out, HK.out⟩
set_option maxRecDepth 100000 in
theorem rwrite_yes (q : Nat) (room Z u Z2 u2 : Int) (dirty : Bool) (v : Value) (w : World) (h : Rb w q room Z u false dirty v) (hz : Z ≠ 0) (hZ : Z2 = if 0 < Z then Z - 1 else Z) (hl : Z ≤ 9223372036854775807) (hu : u2 = u + 1) (hu0 : 0 ≤ u) (hu1 : u2 ≤ 9223372036854775807) :
    Calls Try.prog 25 #[.pointer (some ⟨q, 0, none⟩)] w fun e w' => e = .returned (.bool true) ∧ Rb w' q room Z2 u2 false dirty v ∧ K2 w w' q q := by
  have c1 := h.cell 1
  have c2 := h.cell 2
  have c3 := h.cell 3
  have f1 : w.frozen? ⟨q, 1, none⟩ = false := frozen_of h
  have f2 : w.frozen? ⟨q, 2, none⟩ = false := frozen_of h
  have HH := Lib.hid h
  have hz' : (Z == 0) = false := by simpa using hz
  clear h
  by_cases hp : 0 < Z
  · rw [if_pos hp] at hZ
    have hws := (⟨i64w (u + 1) u2 (by omega) (by omega) (by omega), i64w (Z - 1) Z2 (by omega) (by omega) (by omega)⟩ : (_ ∧ _) ∧ (_ ∧ _))
    obtain ⟨⟨ha1, hb1⟩, ha2, hb2⟩ := hws
    clear hu hu0 hu1 hl hZ hz
    go_enter Try.func25, Try.ntmps25
    go_wp2
    go_ret
    exact ⟨rfl, heap_set_same (heap_set_same HH.out), (K2.set w q q 1 _).sm (K2.set _ q q 2 _)⟩
  · rw [if_neg hp] at hZ
    subst hZ
    obtain ⟨ha1, hb1⟩ := i64w (u + 1) u2 (by omega) (by omega) (by omega)
    have hp' : ¬ 0 < Z2 := hp
    clear hu hu0 hu1 hl hz hp
    go_enter Try.func25, Try.ntmps25
    go_wp2
    go_ret
    exact ⟨rfl, heap_set_same HH.out, K2.set w q q 2 _⟩
/-- One write of the definition's. -/
theorem rwrite_any (q : Nat) (room : Int) (s : Pw) (dirty : Bool) (v : Value) (w : World) (h : Rb w q room s.Z s.u s.gone dirty v) (hf : s.fit) (hu : s.u < 4611686018427387904) :
    Calls Try.prog 25 #[.pointer (some ⟨q, 0, none⟩)] w fun e w' => e = .returned (.bool s.can) ∧ Rb w' q room s.one.Z s.one.u s.one.gone dirty v ∧ K2 w w' q q := by
  have hff : -1 ≤ s.Z ∧ s.Z ≤ 9223372036854775807 := hf
  cases hc : s.can with
  | true =>
    obtain ⟨h1, h2⟩ := Pw.can_yes hc
    rw [h1] at h
    rw [Pw.one_yes hc]
    exact rwrite_yes q room s.Z s.u _ ((s.u + 1 : Nat) : Int) dirty v w h h2 rfl hff.2 (by omega) (by omega) (by omega)
  | false =>
    rw [Pw.one_no hc]
    exact rwrite_no q room s.Z s.u s.gone dirty v w h (Pw.can_no hc)
/-- Some Boolean. -/
def ABool (e : Ending) : Prop := ∃ d, e = .returned (.bool d)
theorem ABool.mk' (d : Bool) : ABool (.returned (.bool d)) := ⟨d, rfl⟩
/-- While solid looks. -/
def SoRel (w : World) (m : Nat) (v5 : Value) (wr : World) : Prop := ∃ j : Nat, v5 = .int .i64 (j : Int) ∧ j ≤ m ∧ wr = w
set_option maxRecDepth 100000 in
theorem solid_any (A : Option Addr) (n c B k : Nat) (l : List Nat) (w : World) (hn : n = l.length) (hI : In w B A c l) (hk : k ≤ 1048576) (hm : n ≤ 4611686018427387904) :
    Calls Try.prog 26 #[.slice A n c, .int .i64 (k : Int)] w fun e w' => ABool e ∧ w' = w := by
  have HI := Lib.hid hI
  obtain ⟨o, ho⟩ : ∃ o, o = k * 32 := ⟨_, rfl⟩
  obtain ⟨e, he⟩ : ∃ e, e = o + 32 := ⟨_, rfl⟩
  obtain ⟨m, hmm⟩ : ∃ m, m = n + o := ⟨_, rfl⟩
  have hws := (⟨i64w ((k : Int) * 32) (o : Int) (by omega) (by omega) (by omega), i64w ((o : Int) + 32) (e : Int) (by omega) (by omega) (by omega)⟩ : (_ ∧ _) ∧ (_ ∧ _))
  obtain ⟨⟨ha1, hb1⟩, ha2, hb2⟩ := hws
  have hmi : m ≤ 4611686018427387904 + 33554432 := by omega
  have hom : o ≤ m := by omega
  have hnm : n ≤ m := by omega
  have HN := Lib.hid hn
  clear hI hn ho he hmm hk hm
  go_enter Try.func26, Try.ntmps26
  go_wp2
  go_loopw [5] (SoRel w m) (fun i _ => m + 1 - (intOf i).toNat)
  case atStart => exact ⟨o, rfl, hom, rfl⟩
  case round =>
    obtain ⟨j, rfl, hj, rfl⟩ := hrel
    by_cases hjn : j < n
    · have h1 : (j : Int) < (n : Int) := by omega
      by_cases hje : j < e
      · have h2 : (j : Int) < (e : Int) := by omega
        obtain ⟨x, b, off, hx, hxb, rfl, _, hcx⟩ := HI.out.sl.at_ (k := j) (by rw [← HN.out]; exact hjn)
        clear hx
        by_cases hx0 : x = 0
        · subst hx0
          go_wp2
          go_roundw
          case rel => exact ⟨j + 1, by go_num, by omega, rfl⟩
          case measure => simp [intOf]; omega
        · have hx1 : ((x : Int) != 0) = true := by simp; omega
          go_wp2
          go_ret
          exact ⟨ABool.mk' _, rfl⟩
      · have h2 : ¬ (j : Int) < (e : Int) := by omega
        go_wp2
        go_ret
        exact ⟨ABool.mk' _, rfl⟩
    · have h1 : ¬ (j : Int) < (n : Int) := by omega
      go_wp2
      go_ret
      exact ⟨ABool.mk' _, rfl⟩
/-- How much room there is. -/
def nr (a : Int) : Nat := min a.toNat 512
set_option maxRecDepth 100000 in
theorem rnew_any (a : Int) (w : World) : Calls Try.prog 9 #[.int .i64 a] w fun e w' => e = .returned (.pointer (some ⟨w.heap.size, 0, none⟩)) ∧ Rb w' w.heap.size (nr a : Int) (-1) 0 false false (.slice none 0 0) ∧ Below w.heap.size w w' := by
  have HB := Lib.hid (show ∀ o : Obj, Below w.heap.size w (w.alloc o) from fun o => (Below.refl _ _).alloc (Nat.le_refl _) o)
  obtain ⟨b, hb⟩ : ∃ b : Int, b = (nr a : Int) := ⟨_, rfl⟩
  rw [← hb]
  have HE := Lib.hid (show ∀ b, Rb (w.alloc (.cells #[.int .i64 b, .int .i64 (-1), .int .i64 0, .bool false, .bool false, .slice none 0 0] 32)) w.heap.size b (-1) 0 false false (.slice none 0 0) from fun b => heap_alloc_new w _)
  have hcase : (a < 0 ∧ b = 0) ∨ (512 < a ∧ b = 512) ∨ (0 ≤ a ∧ a ≤ 512 ∧ b = a) := by unfold nr at hb; omega
  clear hb
  rcases hcase with ⟨h, rfl⟩ | ⟨h, rfl⟩ | ⟨h, h2, rfl⟩
  · have h1 : ¬ (512 : Int) < 0 := by omega
    go_enter Try.func9, Try.ntmps9
    go_wp2
    go_ret
    exact ⟨rfl, HE.out _, HB.out _⟩
  · have h1 : ¬ a < 0 := by omega
    go_enter Try.func9, Try.ntmps9
    go_wp2
    go_ret
    exact ⟨rfl, HE.out _, HB.out _⟩
  · have h3 : ¬ b < 0 := by omega
    have h4 : ¬ (512 : Int) < b := by omega
    clear h h2
    go_enter Try.func9, Try.ntmps9
    go_wp2
    go_ret
    exact ⟨rfl, HE.out _, HB.out _⟩
end Go.Proofs.Ytijbpafmokbnaaa
