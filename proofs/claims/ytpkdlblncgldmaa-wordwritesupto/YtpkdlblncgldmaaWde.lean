/- What the statements' own answers does: it returns true. -/
import Derived.Test.YtpkdlblncgldmaaWdb
import Derived.Test.YtpkdlblncgldmaaWdc
namespace Go.Proofs.Ytpkdlblncgldmaa
open Go.RowKit Go.Shelf Gw Pol
/-- New. -/
theorem wnew' (w : World) : Calls Try.prog 7 #[] w fun e w1 => e = .returned (.pointer (some ⟨w.heap.size, 0, none⟩)) ∧ Bx w1 w.heap.size w.heap.size [] false ∧ Below w.heap.size w w1 ∧ w.heap.size < w1.heap.size := by
  refine (wnew_any w).mono ?_
  rintro e w1 ⟨rfl, rfl⟩
  exact ⟨rfl, Bx.new w _, (Below.refl _ _).alloc (Nat.le_refl _) _, by simp⟩
theorem conv_n {w : World} {B : Nat} {A : Option Addr} {c n : Nat} {l : List Nat} (h : Sl w B A l) (hn : n = l.length) : (convert 26 9 (.slice A n c)).run Try.prog w = .ok (.string (str l)) w := by
  subst hn; exact conv_sl (P := Try.prog) h Try.underlying26 Try.underlying5 Try.underlying9 c
/-- A row that was there lies in no newer block. -/
theorem own_far {w : World} {base k : Nat} {e : TypeId} {A : Option Addr} {c : Nat} {l : List Nat} (h : Gw.Own w base e A c l) (hk : w.heap.size ≤ k) : ∀ o, A ≠ some ⟨k, o, none⟩ := by
  rintro o rfl
  have := h.1.lt k rfl
  omega
theorem BB.seven : BB [7] := BB.cons (by omega) BB.nil
theorem ans_int (p g : Nat) (w : World) (h : Bx w p g [] false) : Calls Try.prog 10 #[.pointer (some ⟨p, 0, none⟩), .int .i64 (-1)] w fun e w' => e = .returned (.tuple #[]) ∧ ∃ g', Bx w' p g' [0, 0, 0, 1] false ∧ (g' = g ∨ g' = p ∨ w.heap.size ≤ g') ∧ K2 w w' p g := by
  have e1 : wrN [] false (-1) = ([0, 0, 0, 1], false) := by decide
  refine (wint_any p g [] false (-1) w h (fun e => by cases e) (by simp)).mono ?_
  rw [e1]
  exact fun e w' h => h
theorem ans_bytes (p g : Nat) (w : World) (h : Bx w p g [0, 0, 0, 1] false) (c : Nat) : Calls Try.prog 8 #[.pointer (some ⟨p, 0, none⟩), .slice (some ⟨w.heap.size, 0, none⟩) 1 c] (w.alloc (.cells #[.int .u8 7] 5)) fun e w' =>
    e = .returned (.tuple #[]) ∧ ∃ g', Bx w' p g' [0, 0, 0, 1, 0, 1, 7] false ∧ (g' = g ∨ g' = p ∨ w.heap.size ≤ g') ∧ K2 w w' p g := by
  have e1 : wrL [0, 0, 0, 1] false [7] = ([0, 0, 0, 1, 0, 1, 7], false) := by decide
  have hS : SlA (w.alloc (.cells #[.int .u8 7] 5)) p g (some ⟨w.heap.size, 0, none⟩) [7] := fun i x hx => by
    have h1 := h.lt
    have h2 := h.glt
    obtain ⟨h3, b, off, h4, h5, h6⟩ := Sl.lit w 5 [7] BB.seven i x hx
    injection h4 with h4; injection h4 with h4 h7; subst h4 h7
    exact ⟨h3, w.heap.size, 0, rfl, by omega, by simp, h6⟩
  refine (wbytes_any p g [0, 0, 0, 1] false (some ⟨w.heap.size, 0, none⟩) 1 c [7] _ (h.alloc _) (fun e => by cases e) rfl hS (by simp)).mono ?_
  rw [e1]
  rintro e w' ⟨rfl, g', h1, h2, h3⟩
  refine ⟨rfl, g', h1, ?_, (K2.alloc w _ p g).trans h3 (.inl rfl)⟩
  rw [World.size_alloc] at h2; omega
def L7 : List Nat := [0, 0, 0, 1, 0, 1, 7]
theorem L7_len : 7 = L7.length := rfl
theorem ans_out (p g : Nat) (w : World) (h : Bx w p g [0, 0, 0, 1, 0, 1, 7] false) : Calls Try.prog 12 #[.pointer (some ⟨p, 0, none⟩)] w fun e w' =>
    ∃ A2 c2, e = .returned (.tuple #[.slice A2 7 c2, .bool true]) ∧ Gw.Own w' w.heap.size 5 A2 c2 L7 ∧ Below w.heap.size w w' := wout_any p g L7 w h (by decide)
theorem ans_rint (p g : Nat) (w : World) (h : Bx w p g L7 false) : Calls Try.prog 17 #[.pointer (some ⟨p, 0, none⟩)] w fun e w' =>
    e = .returned (.int .i64 (-1)) ∧ ∃ g', Bx w' p g' [0, 1, 7] false ∧ (g' = g ∨ g' = p) ∧ K2 w w' p p ∧ w'.heap.size = w.heap.size := by
  have e1 : rdN L7 false = (-1, [0, 1, 7], false) := by decide
  refine (rint_any p g L7 false w h).mono ?_
  rw [e1]
  exact fun e w' h => h
theorem ans_rbytes (p g : Nat) (w : World) (h : Bx w p g [0, 1, 7] false) : Calls Try.prog 16 #[.pointer (some ⟨p, 0, none⟩)] w fun e w' =>
    ∃ AT, e = .returned (.slice AT 1 1) ∧ SlA w' p p AT [7] ∧ ∃ g', Bx w' p g' [] false ∧ K2 w w' p p := by
  have e1 : rdL [0, 1, 7] false = ([7], [], false) := by decide
  refine (rbytes_any p g [0, 1, 7] false w h).mono ?_
  rw [e1]
  rintro e w' ⟨AT, m, rfl, hm, h1, _, g', h2, _, h3, _⟩
  have hm' : m = 1 := hm
  subst hm'
  exact ⟨AT, rfl, h1, g', h2, h3⟩
set_option maxRecDepth 100000 in
set_option maxHeartbeats 1000000 in
theorem answers_any (w : World) : Calls Try.prog 13 #[] w fun e w' => e = .returned (.bool true) ∧ Below w.heap.size w w' := by
  obtain ⟨p, hp⟩ : ∃ p, p = w.heap.size := ⟨_, rfl⟩
  have HNEW := Lib.hid (wnew' w)
  rw [← hp] at HNEW
  have hpl : w.heap.size ≤ p := by omega
  clear hp
  go_enter Try.func13, Try.ntmps13
  go_wp2_with fail
  refine HNEW.out.mono ?_
  rintro e w1 ⟨rfl, h1, hb1, hz1⟩
  go_wp2_with fail
  refine (ans_int p p w1 h1).mono ?_
  rintro e w2 ⟨rfl, g2, h2, hg2, hk2⟩
  go_wp2_with fail
  refine (ans_bytes p g2 w2 h2 1).mono ?_
  rintro e w3 ⟨rfl, g3, h3, hg3, hk3⟩
  have hz2 := hk2.size
  have hz3 := hk3.size
  go_wp2_with fail
  refine (ans_out p g3 w3 h3).mono ?_
  rintro e w4 ⟨A4, c4, rfl, hown, hb4⟩
  have hz4 := hb4.size
  have hB4 : Below w.heap.size w w4 := (((hb1.mono hpl).trans (hk2.below (by omega) hpl hpl)).trans (hk3.below (by omega) hpl (by omega))).trans (hb4.mono (by omega))
  clear h1 h2 h3 hk2 hk3 hb1 hb4
  go_wp2_with fail
  refine (rread_any A4 7 c4 L7 w4 L7_len hown.inn (by decide)).mono ?_
  rintro e w5 ⟨q, g5, rfl, h5, hq, hg5, hb5⟩
  have ho5 := hown.kept hb5
  have hz5 := hb5.size
  go_wp2_with fail
  refine (ans_rint q g5 w5 h5).mono ?_
  rintro e w6 ⟨rfl, g6, h6, hg6, hk6, hz6⟩
  have ho6 := ho5.k2 hk6 (own_far hown hq) (own_far hown hq)
  go_wp2_with fail
  refine (ans_rbytes q g6 w6 h6).mono ?_
  rintro e w7 ⟨AT, rfl, hS, g7, h7, hk7⟩
  have ho7 := ho6.k2 hk7 (own_far hown hq) (own_far hown hq)
  have hB7 : Below w.heap.size w w7 := ((hB4.trans (hb5.mono (by omega))).trans (hk6.below (by omega) (by omega) (by omega))).trans (hk7.below (by omega) (by omega) (by omega))
  have hs1 : str L7 = { data := #[0, 0, 0, 1, 0, 1, 7] } := by decide +kernel
  have hs2 : str [7] = { data := #[7] } := by decide +kernel
  have hc1 := conv_n (c := c4) ho7.sl L7_len
  rw [hs1] at hc1
  have hc2 := conv_n (c := 1) hS.sl (show 1 = [7].length from rfl)
  rw [hs2] at hc2
  have hd := rdone_any q g7 [] false w7 h7
  have HD := Lib.hid (show Calls Try.prog 15 #[.pointer (some ⟨q, 0, none⟩)] w7 fun e w' => e = .returned (.bool true) ∧ w' = w7 from hd)
  clear hd hown ho5 ho6 ho7 hS h5 h6 h7 hk6 hk7 hb5 hs1 hs2
  go_wp2_with fail
  refine HD.out.mono ?_
  rintro e w8 ⟨rfl, rfl⟩
  go_wp2
  go_ret
  exact ⟨rfl, hB7⟩
end Go.Proofs.Ytpkdlblncgldmaa
