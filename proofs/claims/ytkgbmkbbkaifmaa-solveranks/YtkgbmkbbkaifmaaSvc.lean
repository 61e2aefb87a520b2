/- What solve's change and sweep do: a row of the table made 1 in a column, and taken off all others. -/
import Derived.Test.YtkgbmkbbkaifmaaSva
import Derived.Test.YtkgbmkbbkaifmaaGfi
namespace Gw
open Go Go.RowKit Go.Shelf
theorem Tab.rowc {W : World} {lo hi g R n : Nat} {bs cp : Nat → Nat} {M : Sv.Mx} (h : Tab W lo hi g bs cp M R n) {i : Nat} (hi' : i < R) : W.cell? ⟨g, i, none⟩ = some (.slice (some ⟨bs i, 0, none⟩) n (cp i)) := (h.out i hi').1
theorem Tab.rowf {W : World} {lo hi g R n : Nat} {bs cp : Nat → Nat} {M : Sv.Mx} (h : Tab W lo hi g bs cp M R n) {i : Nat} (hi' : i < R) : W.frozen? ⟨g, i, none⟩ = false := (h.out i hi').2
theorem Tab.byc {W : World} {lo hi g R n : Nat} {bs cp : Nat → Nat} {M : Sv.Mx} (h : Tab W lo hi g bs cp M R n) {i j : Nat} (hi' : i < R) (hj : j < n) : W.cell? ⟨bs i, j, none⟩ = some (.int .u8 (M i j : Int)) := (h.inn i hi' j hj).1
theorem Tab.byf {W : World} {lo hi g R n : Nat} {bs cp : Nat → Nat} {M : Sv.Mx} (h : Tab W lo hi g bs cp M R n) {i j : Nat} (hi' : i < R) (hj : j < n) : W.frozen? ⟨bs i, j, none⟩ = false := (h.inn i hi' j hj).2
end Gw
namespace Go.Proofs.Ytkgbmkbbkaifmaa
open Go.RowKit Go.Shelf Gw Pol
theorem IsField.kt {W W' : World} {b lo hi : Nat} (h : IsField W b) (hk : Kt lo hi W W') (hb : ¬ (lo ≤ b ∧ b < hi)) : IsField W' b := Row.kt h hk hb

set_option maxRecDepth 100000 in
set_option maxHeartbeats 1000000 in
theorem sw1_any (p1 p2 p3 bf b n c j a x : Nat) (w : World) (hF : IsField w bf) (h1 : w.cell? ⟨p1, 0, none⟩ = some (.pointer (some ⟨bf, 0, none⟩))) (h2 : w.cell? ⟨p2, 0, none⟩ = some (.int .u8 (a : Int)))
    (h3 : w.cell? ⟨p3, 0, none⟩ = some (.slice (some ⟨b, 0, none⟩) n c)) (h4 : w.cell? ⟨b, j, none⟩ = some (.int .u8 (x : Int))) (hj : j < n) (ha : a < 256) (hx : x < 256) :
    Calls Try.prog 30 #[.int .i64 (j : Int), .pointer (some ⟨p1, 0, none⟩), .pointer (some ⟨p2, 0, none⟩), .pointer (some ⟨p3, 0, none⟩)] w fun e w' => e = .returned (.int .u8 (Gf.gm a x : Int)) ∧ ∃ q, w' = w.drewN q := by
  go_enter Try.func30, Try.ntmps30
  go_wp2
  go_quiet ((go_at_call 31; exact Calls.quiet_of (mul_any bf a x ha hx _ (hF.drewN _))))
  go_wp2
  go_ret
  exact ⟨rfl, _, rfl⟩

set_option maxRecDepth 100000 in
set_option maxHeartbeats 1000000 in
theorem sw2_any (p1 p2 p3 p4 bf b n c b' c' j a x y : Nat) (w : World) (hF : IsField w bf) (h1 : w.cell? ⟨p1, 0, none⟩ = some (.slice (some ⟨b, 0, none⟩) n c)) (h2 : w.cell? ⟨p2, 0, none⟩ = some (.pointer (some ⟨bf, 0, none⟩))) (h3 : w.cell? ⟨p3, 0, none⟩ = some (.int .u8 (a : Int)))
    (h4 : w.cell? ⟨p4, 0, none⟩ = some (.slice (some ⟨b', 0, none⟩) n c')) (h5 : w.cell? ⟨b, j, none⟩ = some (.int .u8 (x : Int))) (h6 : w.cell? ⟨b', j, none⟩ = some (.int .u8 (y : Int))) (hj : j < n) (ha : a < 256) (hx : x < 256) (hy : y < 256) :
    Calls Try.prog 32 #[.int .i64 (j : Int), .pointer (some ⟨p1, 0, none⟩), .pointer (some ⟨p2, 0, none⟩), .pointer (some ⟨p3, 0, none⟩), .pointer (some ⟨p4, 0, none⟩)] w fun e w' => e = .returned (.int .u8 ((x ^^^ Gf.gm a y : Nat) : Int)) ∧ ∃ q, w' = w.drewN q := by
  have hxor : bits .xor .u8 (x : Int) (Gf.gm a y : Int) = ((x ^^^ Gf.gm a y : Nat) : Int) := u8_xor_nat _ _ hx (Gf.gm_lt _ _)
  go_enter Try.func32, Try.ntmps32
  go_wp2
  go_quiet ((go_at_call 31; exact Calls.quiet_of (mul_any bf a y ha hy _ (hF.drewN _))))
  go_wp2
  go_ret
  exact ⟨rfl, _, rfl⟩

def Ch1Rel (W : World) (lo hi g : Nat) (bs cp : Nat → Nat) (M : Sv.Mx) (R n k a : Nat) (i : Value) (wr : World) : Prop :=
  ∃ t : Nat, t ≤ n ∧ i = .int .i64 (t : Int) ∧ Tab wr lo hi g bs cp (fun i j => if i = k ∧ j < t then Gf.gm a (M k j) else M i j) R n ∧ Kt lo hi W wr

set_option maxRecDepth 100000 in
set_option maxHeartbeats 1000000 in
theorem change1_any (p1 p2 p3 bf lo hi g R n k a : Nat) (bs cp : Nat → Nat) (M : Sv.Mx) (w : World) (hT : Tab w lo hi g bs cp M R n) (hF : IsField w bf) (hbf : bf < lo) (hk : k < R) (hn : n ≤ 4294967296) (hM : Sv.Bm M) (ha : a < 256)
    (h1 : w.cell? ⟨p1, 0, none⟩ = some (.pointer (some ⟨bf, 0, none⟩))) (h2 : w.cell? ⟨p2, 0, none⟩ = some (.int .u8 (a : Int))) (h3 : w.cell? ⟨p3, 0, none⟩ = some (.slice (some ⟨bs k, 0, none⟩) n (cp k))) (q1 : hi ≤ p1) (q2 : hi ≤ p2) (q3 : hi ≤ p3) :
    Calls Try.prog 29 #[.slice (some ⟨bs k, 0, none⟩) n (cp k), .func (.func 30) #[] #[.pointer (some ⟨p1, 0, none⟩), .pointer (some ⟨p2, 0, none⟩), .pointer (some ⟨p3, 0, none⟩)]] w fun e w' =>
      e = .returned (.tuple #[]) ∧ Tab w' lo hi g bs cp (fun i j => if i = k then Gf.gm a (M k j) else M i j) R n ∧ Kt lo hi w w' := by
  have hblo := hT.blo k hk
  go_enter Try.func29, Try.ntmps29
  go_wp2
  go_loopw [7] (Ch1Rel w lo hi g bs cp M R n k a) (fun i _ => n - (intOf i).toNat)
  case atStart => exact ⟨0, Nat.zero_le _, rfl, hT.congr fun i j _ _ => by simp, Kt.refl _ _ _⟩
  case round =>
    obtain ⟨t, ht, rfl, hTr, hK⟩ := hrel
    by_cases hlt : t < n
    · have c1 := hK.cell h1 (by omega)
      have c2 := hK.cell h2 (by omega)
      have c3 := hK.cell h3 (by omega)
      have hFr : IsField wr bf := hF.kt hK (by omega)
      have c4 := hTr.byc hk hlt
      have f4 := hTr.byf hk hlt
      simp only [Nat.lt_irrefl, and_false, if_false] at c4
      have HS := Lib.hid (fun q => (hTr.drewN q).put hk hlt (Gf.gm a (M k t)))
      have HK := Lib.hid hK
      have HC := Lib.hid (sw1_any p1 p2 p3 bf (bs k) n (cp k) t a (M k t) wr hFr c1 c2 c3 c4 hlt ha (hM _ _))
      clear hTr hK hFr c1 c2 c3 h1 h2 h3
      go_wp2_with (go_at_call 30; refine HC.out.mono ?_; rintro e w' ⟨rfl, q, rfl⟩)
      go_roundw
      case rel => exact ⟨t + 1, by omega, by go_num, (HS.out q).congr fun i j _ _ => by
          by_cases e : i = k
          · subst e
            by_cases e2 : j = t
            · subst e2; simp
            · simp only [true_and, if_neg e2]
              by_cases e3 : j < t
              · rw [if_pos e3, if_pos (by omega)]
              · rw [if_neg e3, if_neg (by omega)]
          · simp [e], (HK.out.drewN q).set ⟨hblo.1, hblo.2⟩ _⟩
      case measure => simp [intOf]; omega
    · have HT := Lib.hid hTr
      have HK := Lib.hid hK
      clear hTr hK
      go_wp2
      go_end0
      exact ⟨rfl, HT.out.congr fun i j _ hj => by
        by_cases e : i = k
        · rw [if_pos ⟨e, by omega⟩, if_pos e]
        · rw [if_neg (fun h => e h.1), if_neg e], HK.out⟩

def Ch2Rel (W : World) (lo hi g : Nat) (bs cp : Nat → Nat) (M : Sv.Mx) (R n k m a : Nat) (i : Value) (wr : World) : Prop :=
  ∃ t : Nat, t ≤ n ∧ i = .int .i64 (t : Int) ∧ Tab wr lo hi g bs cp (fun i j => if i = m ∧ j < t then M m j ^^^ Gf.gm a (M k j) else M i j) R n ∧ Kt lo hi W wr

set_option maxRecDepth 100000 in
set_option maxHeartbeats 1000000 in
theorem change2_any (p1 p2 p3 p4 bf lo hi g R n k m a : Nat) (bs cp : Nat → Nat) (M : Sv.Mx) (w : World) (hT : Tab w lo hi g bs cp M R n) (hF : IsField w bf) (hbf : bf < lo) (hk : k < R) (hm : m < R) (hmk : m ≠ k) (hn : n ≤ 4294967296) (hM : Sv.Bm M) (ha : a < 256)
    (h1 : w.cell? ⟨p1, 0, none⟩ = some (.slice (some ⟨bs m, 0, none⟩) n (cp m))) (h2 : w.cell? ⟨p2, 0, none⟩ = some (.pointer (some ⟨bf, 0, none⟩))) (h3 : w.cell? ⟨p3, 0, none⟩ = some (.int .u8 (a : Int))) (h4 : w.cell? ⟨p4, 0, none⟩ = some (.slice (some ⟨bs k, 0, none⟩) n (cp k))) (q1 : hi ≤ p1) (q2 : hi ≤ p2) (q3 : hi ≤ p3) (q4 : hi ≤ p4) :
    Calls Try.prog 29 #[.slice (some ⟨bs m, 0, none⟩) n (cp m), .func (.func 32) #[] #[.pointer (some ⟨p1, 0, none⟩), .pointer (some ⟨p2, 0, none⟩), .pointer (some ⟨p3, 0, none⟩), .pointer (some ⟨p4, 0, none⟩)]] w fun e w' =>
      e = .returned (.tuple #[]) ∧ Tab w' lo hi g bs cp (fun i j => if i = m then M m j ^^^ Gf.gm a (M k j) else M i j) R n ∧ Kt lo hi w w' := by
  have hblo := hT.blo m hm
  go_enter Try.func29, Try.ntmps29
  go_wp2
  go_loopw [7] (Ch2Rel w lo hi g bs cp M R n k m a) (fun i _ => n - (intOf i).toNat)
  case atStart => exact ⟨0, Nat.zero_le _, rfl, hT.congr fun i j _ _ => by simp, Kt.refl _ _ _⟩
  case round =>
    obtain ⟨t, ht, rfl, hTr, hK⟩ := hrel
    by_cases hlt : t < n
    · have c1 := hK.cell h1 (by omega)
      have c2 := hK.cell h2 (by omega)
      have c3 := hK.cell h3 (by omega)
      have c4 := hK.cell h4 (by omega)
      have hFr : IsField wr bf := hF.kt hK (by omega)
      have c5 := hTr.byc hm hlt
      have f5 := hTr.byf hm hlt
      have c6 := hTr.byc hk hlt
      simp only [Nat.lt_irrefl, and_false, if_false] at c5 c6
      have HS := Lib.hid (fun q => (hTr.drewN q).put hm hlt (M m t ^^^ Gf.gm a (M k t)))
      have HK := Lib.hid hK
      have HC := Lib.hid (sw2_any p1 p2 p3 p4 bf (bs m) n (cp m) (bs k) (cp k) t a (M m t) (M k t) wr hFr c1 c2 c3 c4 c5 c6 hlt ha (hM _ _) (hM _ _))
      clear hTr hK hFr c1 c2 c3 c4 c6 h1 h2 h3 h4
      go_wp2_with (go_at_call 32; refine HC.out.mono ?_; rintro e w' ⟨rfl, q, rfl⟩)
      go_roundw
      case rel => exact ⟨t + 1, by omega, by go_num, (HS.out q).congr fun i j _ _ => by
          by_cases e : i = m
          · subst e
            by_cases e2 : j = t
            · subst e2; simp
            · simp only [true_and, if_neg e2]
              by_cases e3 : j < t
              · rw [if_pos e3, if_pos (by omega)]
              · rw [if_neg e3, if_neg (by omega)]
          · simp [e], (HK.out.drewN q).set ⟨hblo.1, hblo.2⟩ _⟩
      case measure => simp [intOf]; omega
    · have HT := Lib.hid hTr
      have HK := Lib.hid hK
      clear hTr hK
      go_wp2
      go_end0
      exact ⟨rfl, HT.out.congr fun i j _ hj => by
        by_cases e : i = m
        · rw [if_pos ⟨e, by omega⟩, if_pos e]
        · rw [if_neg (fun h => e h.1), if_neg e], HK.out⟩
end Go.Proofs.Ytkgbmkbbkaifmaa
