/- What poly's Degree, trim and addTimes do: the greatest power whose byte is not 0; the same memory without the noughts at its end; c times p added to what the caller has made, and nothing else turned. -/
import Derived.Test.YtmcfkgjkfceomaaGfc
import Derived.Test.YtmcfkgjkfceomaaByt
import Derived.Deep.RegionWith
namespace Go.Proofs.Ytmcfkgjkfceomaa
open Go.RowKit Go.Shelf Gw Pol

set_option maxRecDepth 100000 in
set_option maxHeartbeats 1000000 in
theorem degree_any (A : Option Addr) (c : Nat) (l : List Nat) (w : World) (B : Nat) (hI : In w B A c l) (hcm : l.length ≤ 140737488355328) :
    Calls Try.prog 31 #[.slice A l.length c] w fun e w' => e = .returned (.int .i64 (((tr l).length : Int) - 1)) ∧ w = w' := by
  obtain ⟨hS, hc, hnil⟩ := hI
  go_enter Try.func31, Try.ntmps31
  go_wp2
  go_loop [3] (fun i => ∃ n : Nat, n ≤ l.length ∧ i = .int .i64 ((n : Int) - 1) ∧ Dg l n) (fun i => (intOf i + 1).toNat)
  case atStart => exact ⟨l.length, Nat.le_refl _, by go_num, Dg.len (Nat.le_refl _)⟩
  case round =>
    obtain ⟨n, hn, rfl, hd⟩ := hrel
    by_cases hout : n = 0 ∨ co l (n - 1) ≠ 0
    · have hfin : (tr l).length = n := by rw [tr_take l n hn hd hout, List.length_take]; omega
      have HF := Lib.hid hfin
      clear hfin
      by_cases h0 : n = 0
      · subst h0
        clear hout
        go_wp2
        go_ret
        exact ⟨by rw [HF.out]; rfl, rfl⟩
      · obtain ⟨x, b, off, hx, hxb, rfl, hb, hcell⟩ := hS.at_ (k := n - 1) (by omega)
        have ecast : (n : Int) - 1 = ((n - 1 : Nat) : Int) := by omega
        have hx0 : x ≠ 0 := by
          rcases hout with h | h
          · exact absurd h h0
          · simpa [co, hx] using h
        have hxz : ((x : Int) == 0) = false := beq_eq_false_iff_ne.2 (by omega)
        clear hout hx hx0
        go_wp2
        go_ret
        exact ⟨by rw [HF.out, ecast]; rfl, rfl⟩
    · have h0 : n ≠ 0 := fun h => hout (.inl h)
      obtain ⟨x, b, off, hx, hxb, rfl, hb, hcell⟩ := hS.at_ (k := n - 1) (by omega)
      have ecast : (n : Int) - 1 = ((n - 1 : Nat) : Int) := by omega
      have hx0 : x = 0 := Decidable.byContradiction fun h => hout (.inr (by simpa [co, hx] using h))
      subst hx0
      clear hout
      have HX := Lib.hid hx
      clear hx
      go_wp2
      go_round
      case rel => exact ⟨n - 1, by omega, by go_num, fun i hi => by
        by_cases e : i = n - 1
        · subst e; simp [co, HX.out]
        · exact hd i (by omega)⟩
      case measure => simp [intOf]; omega

set_option maxRecDepth 100000 in
set_option maxHeartbeats 1000000 in
theorem ptrim_any (A : Option Addr) (c : Nat) (l : List Nat) (w : World) (B : Nat) (hI : In w B A c l) (hcm : l.length ≤ 140737488355328) :
    Calls Try.prog 44 #[.slice A l.length c] w fun e w' => e = .returned (.slice A (tr l).length c) ∧ w = w' := by
  have hcap := hI.cap
  have hnil := hI.none_
  obtain ⟨d, hd⟩ : ∃ d, d = (tr l).length := ⟨_, rfl⟩
  have hdl : d ≤ l.length := by rw [hd]; exact tr_len l
  have hdc : d ≤ c := by omega
  have HC := degree_any A c l w B hI hcm
  rw [← hd] at HC ⊢
  have HD := Lib.hid HC
  clear HC hd
  go_enter Try.func44, Try.ntmps44
  go_wp2_with fail
  refine HD.out.mono ?_
  rintro e w' ⟨rfl, rfl⟩
  have hs1 : IntKind.i64.wrap ((d : Int) - 1 + 1) = (d : Int) := by rw [IntKind.wrap_i64]; omega
  cases A with
  | none =>
    obtain rfl := hnil rfl
    obtain rfl : d = 0 := by omega
    go_wp2
    go_ret
    exact ⟨rfl, rfl⟩
  | some ad =>
    go_wp2
    go_ret
    exact ⟨rfl, rfl⟩
theorem ptrim' (A : Option Addr) (c n : Nat) (l : List Nat) (w : World) (B : Nat) (hn : n = l.length) (hI : In w B A c l) (hcm : l.length ≤ 140737488355328) :
    Calls Try.prog 44 #[.slice A n c] w fun e w' => e = .returned (.slice A (tr l).length c) ∧ w = w' := by
  subst hn; exact ptrim_any A c l w B hI hcm

theorem IsField.grown {w w' : World} {b g : Nat} (h : IsField w b) (hg : w.grownBy w' (some g)) (hne : b ≠ g) : IsField w' b := fun o ho =>
  ⟨hg.cell (h o ho).1 (fun e => hne (by injection e)), (World.frozen?_of_block (w := w) (a := ⟨b, o, none⟩) (hg.block b h.lt (fun e => hne (by injection e)))).trans (h o ho).2⟩

def ATRel (w : World) (base g C : Nat) (L : List Nat) (o c : Nat) (l : List Nat) (i : Value) (wr : World) : Prop :=
  ∃ k : Nat, k ≤ l.length ∧ i = .int .i64 (k : Int) ∧ Gw.Own wr base 5 (some ⟨g, 0, none⟩) C (addAt L o c (l.take k)) ∧ w.grownBy wr (some g)
set_option maxRecDepth 100000 in
set_option maxHeartbeats 1000000 in
/-- c times p is added to the caller's own row. -/
theorem addTimes_any (bf g o m cs base C : Nat) (L : List Nat) (A : Option Addr) (cp : Nat) (l : List Nat) (c : Nat) (hc : c < 256) (w : World) (hF : IsField w bf) (hne : bf ≠ g)
    (hown : Gw.Own w base 5 (some ⟨g, 0, none⟩) C L) (hfit : o + l.length ≤ L.length) (hm : l.length ≤ m) (hp : SlN w g A l) (hcm : L.length ≤ 140737488355328) :
    Calls Try.prog 43 #[.pointer (some ⟨bf, 0, none⟩), .slice (some ⟨g, o, none⟩) m cs, .slice A l.length cp, .int .u8 (c : Int)] w fun e w' =>
      e = .returned (.tuple #[]) ∧ Gw.Own w' base 5 (some ⟨g, 0, none⟩) C (addAt L o c l) ∧ w.grownBy w' (some g) := by
  go_enter Try.func43, Try.ntmps43
  go_wp2
  go_loopw [12] (ATRel w base g C L o c l) (fun i _ => l.length - (intOf i).toNat)
  case atStart => exact ⟨0, Nat.zero_le _, rfl, by rw [List.take_zero, addAt_nil]; exact hown, World.grownBy.refl _ _⟩
  case round =>
    obtain ⟨k, hk, rfl, hown', hg⟩ := hrel
    by_cases hlt : k < l.length
    · obtain ⟨x, b, off, hx, hxb, rfl, hbg, hcell⟩ := (hp.grown hg).at_ hlt
      have hkl : o + k < (addAt L o c (l.take k)).length := by rw [addAt_len]; omega
      have hkm : k < m := by omega
      have hcg := hown'.cell hkl
      have hfr := Own.frozen hown' (o + k)
      have hF' := hF.grown hg hne
      have hvl := hown'.2.co (o + k)
      obtain ⟨v, hv⟩ : ∃ v, v = co (addAt L o c (l.take k)) (o + k) := ⟨_, rfl⟩
      rw [← hv] at hcg hvl
      have hxor : bits .xor .u8 (v : Int) (Gf.gm c x : Int) = ((v ^^^ Gf.gm c x : Nat) : Int) := u8_xor_nat _ _ hvl (Gf.gm_lt _ _)
      have hset := hown'.put hkl (Gf.xor_lt hvl (Gf.gm_lt c x))
      rw [hv, addAt_snoc hfit hx, ← hv] at hset
      have HS := Lib.hid hset
      have HG := Lib.hid (grown_put (k := o + k) hg (.int .u8 ((v ^^^ Gf.gm c x : Nat) : Int)))
      clear hset hx hv hown' hg hkl
      go_wp2
      go_region_with (go_at_call 50; refine (mul_any bf c x hc hxb _ (hF'.drewN _)).mono ?_; rintro e w' ⟨rfl, n, rfl⟩)
      all_goals (
        go_wp2
        go_roundw
        case rel => exact ⟨k + 1, by omega, by go_num, HS.out, ⟨HG.out.os, HG.out.tape, HG.out.output, HG.out.size, HG.out.block⟩⟩
        case measure => simp [intOf]; omega)
    · obtain rfl : k = l.length := by omega
      rw [List.take_length] at hown'
      go_wp2
      go_end0
      exact ⟨rfl, hown', hg⟩
theorem addTimes' (bf g o m cs base C : Nat) (L : List Nat) (A : Option Addr) (cp nl : Nat) (l : List Nat) (c : Nat) (hnl : nl = l.length) (hc : c < 256) (w : World) (hF : IsField w bf) (hne : bf ≠ g)
    (hown : Gw.Own w base 5 (some ⟨g, 0, none⟩) C L) (hfit : o + l.length ≤ L.length) (hm : l.length ≤ m) (hp : SlN w g A l) (hcm : L.length ≤ 140737488355328) :
    Calls Try.prog 43 #[.pointer (some ⟨bf, 0, none⟩), .slice (some ⟨g, o, none⟩) m cs, .slice A nl cp, .int .u8 (c : Int)] w fun e w' =>
      e = .returned (.tuple #[]) ∧ Gw.Own w' base 5 (some ⟨g, 0, none⟩) C (addAt L o c l) ∧ w.grownBy w' (some g) := by
  subst hnl; exact addTimes_any bf g o m cs base C L A cp l c hc w hF hne hown hfit hm hp hcm
end Go.Proofs.Ytmcfkgjkfceomaa
