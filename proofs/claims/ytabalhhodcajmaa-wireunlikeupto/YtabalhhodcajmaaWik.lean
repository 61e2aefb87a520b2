/- What the statements' own answers (layer 13) does, and the definition's Same (layers 12, 13 and 16). -/
import Derived.Test.YtabalhhodcajmaaWid
import Derived.Test.YtabalhhodcajmaaWif
import Derived.Test.YtabalhhodcajmaaWij
namespace Gw
open Go Go.RowKit Go.Shelf Pol
/-- The message that answers writes and reads. -/
def m9 : Mg := ⟨3, 0, 0, 0, 0, 0, 0, [], [], 0, 0, 0, [], [], 0, [9]⟩
theorem m9_ok : m9.ok = true := by decide
theorem m9_len : m9.en.length = 61 := by decide
theorem m9_sz : m9.sz' = 61 := by decide
theorem dec_nil : dec [] = (Mg.none, false) := by
  have h : fin (rdS ([] : List Nat).length []) = false := by decide
  unfold dec
  rw [h]; rfl
theorem dec_no {l : List Nat} (h : (dec l).2 = false) : (dec l).1 = Mg.none := by
  by_cases hf : fin (rdS l.length l) = true
  · have e : dec l = (rdM l.length l, true) := by unfold dec; rw [if_pos hf]
    rw [e] at h; cases h
  · have e : dec l = (Mg.none, false) := by unfold dec; rw [if_neg hf]
    rw [e]
theorem dec_yes {l : List Nat} (hb : BB l) (h : (dec l).2 = true) : (dec l).1.ok = true ∧ (dec l).1.en = l := dec_back hb (by rw [← h])
theorem dec_ok {l : List Nat} (hb : BB l) : (dec l).1.ok = true := by
  cases h : (dec l).2 with
  | true => exact (dec_yes hb h).1
  | false => rw [dec_no h]; exact none_ok
theorem dec_sz {l : List Nat} (hb : BB l) : (dec l).1.sz' ≤ 60 + l.length := by
  rw [← Mg.en_len]
  cases h : (dec l).2 with
  | true => rw [(dec_yes hb h).2]; omega
  | false => rw [dec_no h, none_len]; omega
/-- Bytes that are none's. -/
structure DecNo (l : List Nat) : Prop where
  no : (dec l).2 = false
theorem str_9 : str [9] = { data := #[9] } := by decide +kernel
end Gw
namespace Go.Proofs.Ytabalhhodcajmaa
open Go.RowKit Go.Shelf Gw Pol
set_option maxRecDepth 100000 in
theorem same12_any (A B : Option Addr) (n c n' c' : Nat) (x y : Bool) (a b : List Nat) (w : World) (hA : Sl w w.heap.size A a) (hB : Sl w w.heap.size B b) (hn : n = a.length) (hn' : n' = b.length) :
    Calls Try.prog 10 #[.slice A n c, .bool x, .slice B n' c', .bool y] w fun e w' => e = .returned (.bool (x == y && (!x || decide (a = b)))) ∧ w' = w := by
  have h1 := conv_n (c := c) hA hn
  have h2 := conv_n (c := c') hB hn'
  have hs := str_same hA.bb hB.bb
  obtain ⟨S, hS⟩ : ∃ S, S = str a := ⟨_, rfl⟩
  obtain ⟨T, hT⟩ : ∃ T, T = str b := ⟨_, rfl⟩
  rw [← hS] at h1 hs
  rw [← hT] at h2 hs
  obtain ⟨d, hd⟩ : ∃ d, d = decide (a = b) := ⟨_, rfl⟩
  rw [← hd] at hs ⊢
  clear hn hn' hA hB hS hT hd
  cases x with
  | true =>
    cases y with
    | true =>
      go_enter Try.func10, Try.ntmps10
      go_wp2
      go_ret
      exact ⟨by simp, rfl⟩
    | false =>
      go_enter Try.func10, Try.ntmps10
      go_wp2
      go_ret
      exact ⟨rfl, rfl⟩
  | false =>
    cases y with
    | true =>
      go_enter Try.func10, Try.ntmps10
      go_wp2
      go_ret
      exact ⟨rfl, rfl⟩
    | false =>
      go_enter Try.func10, Try.ntmps10
      go_wp2
      go_ret
      exact ⟨rfl, rfl⟩
theorem same12_yes (A B : Option Addr) (n c n' c' : Nat) (a : List Nat) (w : World) (hA : Sl w w.heap.size A a) (hB : Sl w w.heap.size B a) (hn : n = a.length) (hn' : n' = a.length) :
    Calls Try.prog 10 #[.slice A n c, .bool true, .slice B n' c', .bool true] w fun e w' => e = .returned (.bool true) ∧ w' = w := by
  refine (same12_any A B n c n' c' true true a a w hA hB hn hn').mono ?_
  rintro e w' ⟨rfl, rfl⟩
  exact ⟨by simp, rfl⟩
theorem same12_no (A B : Option Addr) (n c n' c' : Nat) (a b : List Nat) (w : World) (hA : Sl w w.heap.size A a) (hB : Sl w w.heap.size B b) (hn : n = a.length) (hn' : n' = b.length) :
    Calls Try.prog 10 #[.slice A n c, .bool false, .slice B n' c', .bool false] w fun e w' => e = .returned (.bool true) ∧ w' = w := by
  refine (same12_any A B n c n' c' false false a b w hA hB hn hn').mono ?_
  rintro e w' ⟨rfl, rfl⟩
  exact ⟨by simp, rfl⟩
/-- Where its bytes lie. -/
def a9 (w : World) : Ma := ⟨none, 0, 0, none, 0, 0, none, 0, 0, some ⟨w.heap.size, 0, none⟩, 1, 1⟩
theorem m9_in (w : World) (e : TypeId) : MgIn (w.alloc (.cells #[.int .u8 9] e)) (w.alloc (.cells #[.int .u8 9] e)).heap.size m9 (a9 w) := by
  have h := Own.litn w e [9] (BB.cons (by omega) BB.nil) (by simp)
  exact ⟨HIn.nil _ _, rfl, BB.nil, InZ.nil _ _, rfl, InZ.nil _ _, rfl, h.inn, rfl, fun x hx => by simp [Mg.ints, m9] at hx; rcases hx with rfl | rfl <;> exact wf_int (by omega) (by omega)⟩
set_option maxRecDepth 100000 in
set_option maxHeartbeats 1000000 in
theorem answers_any (w : World) : Calls Try.prog 11 #[] w fun e w' => e = .returned (.bool true) ∧ Below w.heap.size w w' := by
  obtain ⟨w1, hw1⟩ : ∃ w1, w1 = w.alloc (.cells #[.int .u8 9] 5) := ⟨_, rfl⟩
  have hb1 : Below w.heap.size w w1 := by rw [hw1]; exact (Below.refl _ _).alloc (Nat.le_refl _) _
  have hz1 : w1.heap.size = w.heap.size + 1 := by rw [hw1]; simp
  have HE := Lib.hid (encode_any m9 (a9 w) w1 (by rw [hw1]; exact m9_in w _) (by rw [m9_sz]; omega))
  rw [hw1] at HE
  go_enter Try.func11, Try.ntmps11
  go_wp2_with fail
  refine HE.out.mono ?_
  rintro e w2 ⟨hb2, ⟨_, A2, N2, c2, rfl, hN2, hown⟩ | ⟨h, _⟩⟩
  rotate_left
  · rw [m9_ok] at h; cases h
  rw [← hw1] at hb2 hown
  rw [m9_len] at hN2
  subst hN2
  have HD := Lib.hid (decode_any A2 61 c2 m9.en w2 m9_len.symm hown.inn (by rw [m9_len]; omega))
  clear HE hw1 hown
  have hs2 := hb2.size
  go_wp2_with fail
  refine HD.out.mono ?_
  rintro e w3 ⟨hb3, a3, he, hm3, _⟩
  rw [dec_en m9_ok] at he hm3
  subst he
  have hs3 := hb3.size
  obtain ⟨z, hz⟩ : ∃ z, z = w3.heap.size := ⟨_, rfl⟩
  obtain ⟨w4, hw4⟩ : ∃ w4, w4 = w3.alloc (.cells (mcs m9 a3).toArray 27) := ⟨_, rfl⟩
  have hbx : MBox w4 z m9 a3 := by rw [hw4, hz]; exact MBox.new w3 m9 a3 _
  have hb4 : Below w3.heap.size w3 w4 := by rw [hw4]; exact (Below.refl _ _).alloc (Nat.le_refl _) _
  have hs4 : w4.heap.size = w3.heap.size + 1 := by rw [hw4]; simp
  have HD2 := Lib.hid (decode_any none 0 0 [] w4 rfl (In.nil _ _) (by simp))
  have hq4 := hm3.da.below hb4
  have HQN := Lib.hid (show a3.QN = 1 from hm3.qn)
  rw [hw4] at HD2
  have HW4 := Lib.hid hw4
  clear HD hm3 hw4
  go_wp2_with fail
  refine HD2.out.mono ?_
  rintro e w5 ⟨hb5, a5, he, _, _⟩
  rw [dec_nil] at he
  subst he
  rw [← HW4.out] at hb5
  have hbx5 := hbx.keep (hb5.block z hbx.lt)
  have c0 : w5.cell? ⟨z, 0, none⟩ = some (.int .i64 3) := hbx5 0 _ rfl
  have c15 : w5.cell? ⟨z, 15, none⟩ = some (.slice a3.QA a3.QN a3.QC) := hbx5 15 _ rfl
  have hz5 := hbx5.lt
  rw [hz] at c0 c15 hz5
  have hcv : ∀ o, (convert 25 9 (.slice a3.QA a3.QN a3.QC)).run Try.prog (w5.alloc o) = .ok (.string { data := #[9] }) (w5.alloc o) := fun o => by
    rw [← str_9]
    exact conv_n (B := w3.heap.size) (((hq4.below (hb5.mono (by omega))).alloc (by have := hb5.size; omega) o).sl) HQN.out
  have hB : Below w.heap.size w w5 := (((hb1.trans (hb2.mono (by omega))).trans (hb3.mono (by omega))).trans (hb4.mono (by omega))).trans (hb5.mono (by omega))
  have HB := Lib.hid hB
  have hs5 := hb5.size
  clear hbx hbx5 hb1 hb2 hb3 hb4 hb5 hq4 HD2 hB
  go_wp2
  go_ret
  exact ⟨rfl, HB.out.alloc (by omega) _⟩
end Go.Proofs.Ytabalhhodcajmaa
