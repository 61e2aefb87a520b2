/- What bw's nearest does: the low rest divided by its factor, if nothing is left and its Degree is d at most. -/
import Derived.Test.YtmcfkgjkfceomaaBwc
import Derived.Test.YtmcfkgjkfceomaaPpl
namespace Go.Proofs.Ytmcfkgjkfceomaa
open Go.RowKit Go.Shelf Gw Pol

/-- What nearest answers. -/
def NrAns (w : World) (d : Nat) (xs ys : List Nat) (e : Ending) (w' : World) : Prop :=
  ∃ (r0 v0 r1 v1 q r : List Nat), Eu xs ys r0 v0 r1 v1 ∧ xs.length + d + 3 ≤ 2 * r0.length ∧ 2 * r1.length < xs.length + d + 3 ∧ DivOf r1 v1 q r ∧
    ((∃ A c, e = .returned (.tuple #[.slice A q.length c, .bool true]) ∧ r = [] ∧ q.length ≤ d + 1 ∧ Gw.Own w' w.heap.size 5 A c q) ∨ (e = .returned (.tuple #[.slice none 0 0, .bool false]) ∧ ¬ (r = [] ∧ q.length ≤ d + 1))) ∧ Below w.heap.size w w'
theorem rt_tr (xs : List Nat) : tr (rt xs) = rt xs := tr_self (.inr (by rw [(rt_top xs).1, Nat.add_sub_cancel, (rt_top xs).2]; omega))

set_option maxRecDepth 100000 in
set_option maxHeartbeats 2000000 in
theorem nearest_any (bf : Nat) (A A' : Option Addr) (c c' d : Nat) (xs ys : List Nat) (w : World) (hF : IsField w bf) (hI : In w w.heap.size A c xs) (hI' : In w w.heap.size A' c' ys) (he : xs.length = ys.length) (hl : xs.length ≤ 255) (hun : unB xs = true) (hd : d ≤ 255) (hdn : d < xs.length) :
    Calls Try.prog 21 #[.pointer (some ⟨bf, 0, none⟩), .slice A xs.length c, .slice A' ys.length c', .int .i64 (d : Int)] w (NrAns w d xs ys) := by
  have hlf := hF.lt
  have T1 := Lib.hid (pthr_any bf A A' c c' xs ys w hF hI hI' (by omega) he hun)
  have HX := Lib.hid hI.bb
  have HY := Lib.hid hI'.bb
  have HU := Lib.hid (show xs.Nodup from of_decide_eq_true hun)
  have HEQ := Lib.hid he
  have HTL := Lib.hid (thr_len xs ys)
  have HRT := Lib.hid (rt_top xs).1
  clear he hun
  go_enter Try.func21, Try.ntmps21
  go_wp2_with fail
  refine T1.out.mono ?_
  rintro e w1 ⟨A1, c1, rfl, ho1, hb1⟩
  have T2 := Lib.hid (proots_any bf A c xs w1 (hF.below hb1 hlf) ((hI.below hb1).more hb1.size) (by omega))
  go_wp2_with fail
  refine T2.out.mono ?_
  rintro e w2 ⟨A2, c2, rfl, ho2, hb2⟩
  have hb12 : Below w.heap.size w w2 := hb1.trans (hb2.mono hb1.size)
  have T3 := Lib.hid (lowRest_any bf A2 A1 c2 c1 d xs ys (rt xs) (thr xs ys) w2 HX.out HY.out hl hd (hF.below hb12 hlf) ho2.inn (ho1.kept hb2).inn (rt_tr xs) (Eu.start HX.out HY.out HU.out) HRT.out hdn)
  clear T1 T2 ho1 ho2
  go_wp2_with fail
  refine T3.out.mono ?_
  rintro e w3 ⟨r0, v0, r1, v1, A3, A4, c3, c4, rfl, hEu, hhigh, hlow, hi3, hi4, hb3⟩
  have hb13 : Below w.heap.size w w3 := hb12.trans (hb3.mono hb12.size)
  have hsum := hEu.sum
  have hfall := hEu.fall
  have hv1 : v1 ≠ [] := fun e => by have := hEu.rise; rw [e] at this; simp at this
  have T4 := Lib.hid (pdiv_any bf A3 A4 c3 c4 r1 v1 w3 (hF.below hb13 hlf) hi3 hi4 (by rw [hEu.u1]; exact hv1) (by omega) (by omega))
  have HEU := Lib.hid hEu
  clear T3 hi3 hi4 hEu hv1
  go_wp2_with fail
  refine T4.out.mono ?_
  rintro e w4 ⟨q, r, Aq, Ar, cq, cr, rfl, hdiv, hoq, _, _, hb4⟩
  have HB := Lib.hid (hb13.trans (hb4.mono hb13.size))
  have HD := Lib.hid hdiv
  have hql := hdiv.lq
  have HO := Lib.hid (hoq.base (base' := w.heap.size) hb13.size)
  have HIQ := Lib.hid hoq.inn
  clear T4 hdiv hoq hb4
  by_cases hr : r = []
  · subst hr
    have T5 := Lib.hid (degree_any Aq cq q w4 _ HIQ.out (by omega))
    rw [HD.out.tq] at T5
    by_cases hqd : q.length ≤ d + 1
    · have hdec : (((q.length : Int) - 1) > (d : Int)) = False := eq_false (by omega)
      have hdec2 : ¬ ((d : Int) < (q.length : Int) - 1) := by omega
      have hrl : ((List.length ([] : List Nat) : Nat) : Int) = 0 := rfl
      go_wp2_with fail
      refine T5.out.mono ?_
      rintro e w5 ⟨rfl, rfl⟩
      go_wp2
      go_ret2
      exact ⟨r0, v0, r1, v1, q, [], HEU.out, hhigh, hlow, HD.out, .inl ⟨_, _, rfl, rfl, hqd, HO.out⟩, HB.out⟩
    · have hdec2 : (d : Int) < (q.length : Int) - 1 := by omega
      go_wp2_with fail
      refine T5.out.mono ?_
      rintro e w5 ⟨rfl, rfl⟩
      go_wp2
      go_ret2
      exact ⟨r0, v0, r1, v1, q, [], HEU.out, hhigh, hlow, HD.out, .inr ⟨rfl, fun h => hqd h.2⟩, HB.out⟩
  · have hrl : 0 < r.length := List.length_pos_iff.2 hr
    go_wp2
    go_ret2
    exact ⟨r0, v0, r1, v1, q, r, HEU.out, hhigh, hlow, HD.out, .inr ⟨rfl, fun h => hr h.1⟩, HB.out⟩
end Go.Proofs.Ytmcfkgjkfceomaa
