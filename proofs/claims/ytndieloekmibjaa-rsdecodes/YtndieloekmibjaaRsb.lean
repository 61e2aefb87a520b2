/- What rs's Decode does: the polynomial of a small degree through all values, in memory of its own, or that there is none. -/
import Derived.Test.YtndieloekmibjaaRsm
import Derived.Test.YtndieloekmibjaaPpl
namespace Go.Proofs.Ytndieloekmibjaa
open Go.RowKit Go.Shelf Gw Pol

/-- Is there a polynomial of a degree of d at most? -/
def decB (xs ys : List Nat) (d : Int) : Bool := decide (0 ≤ d ∧ d < xs.length) && (decide (xs.length = ys.length) && (unB xs && decide (((thr xs ys).length : Int) - 1 ≤ d)))
/-- What Decode answers. -/
def DecAns (xs ys : List Nat) (d : Int) (w : World) (e : Ending) (w' : World) : Prop :=
  Below w.heap.size w w' ∧ ((decB xs ys d = false ∧ e = .returned (.tuple #[.slice none 0 0, .bool false])) ∨
    (decB xs ys d = true ∧ ∃ A2 c2, e = .returned (.tuple #[.slice A2 (thr xs ys).length c2, .bool true]) ∧ Gw.Own w' w.heap.size 5 A2 c2 (thr xs ys)))
set_option maxRecDepth 100000 in
set_option maxHeartbeats 1000000 in
theorem decode_any (bf : Nat) (A A' : Option Addr) (c c' : Nat) (xs ys : List Nat) (d : Int) (w : World) (hF : IsField w bf) (hI : In w w.heap.size A c xs) (hI' : In w w.heap.size A' c' ys) (hcm : xs.length ≤ 70368744177664) :
    Calls Try.prog 12 #[.pointer (some ⟨bf, 0, none⟩), .slice A xs.length c, .slice A' ys.length c', .int .i64 d] w (DecAns xs ys d w) := by
  by_cases hd0 : d < 0
  · have HB := Lib.hid (show decB xs ys d = false by unfold decB; rw [decide_eq_false (by omega)]; rfl)
    go_enter Try.func12, Try.ntmps12
    go_wp2
    go_ret2
    exact ⟨Below.refl _ _, .inl ⟨HB.out, rfl⟩⟩
  · by_cases hdl : (xs.length : Int) ≤ d
    · have HB := Lib.hid (show decB xs ys d = false by unfold decB; rw [decide_eq_false (by omega)]; rfl)
      go_enter Try.func12, Try.ntmps12
      go_wp2
      go_ret2
      exact ⟨Below.refl _ _, .inl ⟨HB.out, rfl⟩⟩
    · have HD := Lib.hid (show decide (0 ≤ d ∧ d < (xs.length : Int)) = true by rw [decide_eq_true_eq]; omega)
      by_cases hl : xs.length = ys.length
      · cases hu : unB xs with
        | false =>
          have HB := Lib.hid (show decB xs ys d = false by unfold decB; rw [hu]; simp)
          have HT := Lib.hid (pthr_twice bf A A' c c' xs ys w hI (by omega) hl hu)
          clear hl hu
          go_enter Try.func12, Try.ntmps12
          go_wp2_with fail
          refine HT.out.mono ?_
          rintro e w1 ⟨rfl, hb1⟩
          go_wp2
          go_ret2
          exact ⟨hb1, .inl ⟨HB.out, rfl⟩⟩
        | true =>
          have HT := Lib.hid (pthr_any bf A A' c c' xs ys w hF hI hI' hcm hl hu)
          have HB := Lib.hid (show decB xs ys d = decide (((thr xs ys).length : Int) - 1 ≤ d) by unfold decB; rw [hu, HD.out, decide_eq_true hl]; rfl)
          have hln := thr_len xs ys
          have HTT := Lib.hid (tr_thr xs ys)
          clear hl hu
          go_enter Try.func12, Try.ntmps12
          go_wp2_with fail
          refine HT.out.mono ?_
          rintro e w1 ⟨A2, c2, rfl, ho, hb1⟩
          have HG := Lib.hid (degree_any A2 c2 (thr xs ys) w1 _ ho.inn (by omega))
          rw [HTT.out] at HG
          clear HT
          by_cases hdg : ((thr xs ys).length : Int) - 1 ≤ d
          · have HB2 := Lib.hid (HB.out.trans (decide_eq_true hdg))
            clear HB
            go_wp2_with fail
            refine HG.out.mono ?_
            rintro e w2 ⟨rfl, rfl⟩
            go_wp2
            go_ret2
            exact ⟨hb1, .inr ⟨HB2.out, _, _, rfl, ho⟩⟩
          · have HB2 := Lib.hid (HB.out.trans (decide_eq_false hdg))
            clear HB
            go_wp2_with fail
            refine HG.out.mono ?_
            rintro e w2 ⟨rfl, rfl⟩
            go_wp2
            go_ret2
            exact ⟨hb1, .inl ⟨HB2.out, rfl⟩⟩
      · have HB := Lib.hid (show decB xs ys d = false by unfold decB; rw [decide_eq_false hl]; simp)
        have HT := Lib.hid (pthr_lens bf A A' c c' xs ys w hl)
        clear hl
        go_enter Try.func12, Try.ntmps12
        go_wp2_with fail
        refine HT.out.mono ?_
        rintro e w1 ⟨rfl, hb1⟩
        go_wp2
        go_ret2
        exact ⟨hb1, .inl ⟨HB.out, rfl⟩⟩
theorem decode' (bf : Nat) (A A' : Option Addr) (c c' n m : Nat) (xs ys : List Nat) (d : Int) (w : World) (hn : n = xs.length) (hm : m = ys.length) (hF : IsField w bf) (hI : In w w.heap.size A c xs) (hI' : In w w.heap.size A' c' ys) (hcm : xs.length ≤ 70368744177664) :
    Calls Try.prog 12 #[.pointer (some ⟨bf, 0, none⟩), .slice A n c, .slice A' m c', .int .i64 d] w (DecAns xs ys d w) := by
  subst hn hm; exact decode_any bf A A' c c' xs ys d w hF hI hI' hcm
end Go.Proofs.Ytndieloekmibjaa
