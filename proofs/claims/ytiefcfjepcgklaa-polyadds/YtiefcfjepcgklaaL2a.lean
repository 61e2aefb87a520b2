/- What the laws' own helpers short and spoil do: are all lists short; every byte of a list of the caller's own is turned, and nothing else. -/
import Derived.Test.YtiefcfjepcgklaaProg
import Derived.Test.YtiefcfjepcgklaaBys
namespace Go.Proofs.Ytiefcfjepcgklaa
open Go.RowKit Go.Shelf Gw Pol

/-- Are all at most 200? -/
def shB (lens : List Nat) : Bool := lens.all (fun n => decide (n ≤ 200))
/-- Slices of these lengths lie at block b. -/
def SlRow (w : World) (b : Nat) (lens : List Nat) : Prop := ∀ i n, lens[i]? = some n → ∃ A c, w.cell? ⟨b, i, none⟩ = some (.slice A n c)
theorem shB_no {lens : List Nat} {i n : Nat} (h : lens[i]? = some n) (hn : 200 < n) : shB lens = false := by
  unfold shB; rw [List.all_eq_false]
  exact ⟨n, List.mem_of_getElem? h, by simp; omega⟩
theorem shB_yes {lens : List Nat} (h : ∀ (i n : Nat), lens[i]? = some n → n ≤ 200) : shB lens = true := by
  unfold shB; rw [List.all_eq_true]
  intro n hn
  obtain ⟨i, hi⟩ := List.getElem?_of_mem hn
  simpa using h i n hi
set_option maxRecDepth 100000 in
set_option maxHeartbeats 1000000 in
theorem short_any (b c : Nat) (lens : List Nat) (w : World) (hS : SlRow w b lens) (hl : lens.length ≤ 100) :
    Calls Try.prog 15 #[.slice (some ⟨b, 0, none⟩) lens.length c] w fun e w' => e = .returned (.bool (shB lens)) ∧ w = w' := by
  go_enter Try.func15, Try.ntmps15
  go_wp2
  go_loop [3] (fun i => ∃ k : Nat, k ≤ lens.length ∧ i = .int .i64 (k : Int) ∧ ∀ j n, j < k → lens[j]? = some n → n ≤ 200) (fun i => lens.length - (intOf i).toNat)
  case atStart => exact ⟨0, Nat.zero_le _, rfl, fun j n h => by omega⟩
  case round =>
    obtain ⟨k, hk, rfl, hall⟩ := hrel
    have HA := Lib.hid hall
    clear hall
    by_cases hkp : k < lens.length
    · obtain ⟨n, hn⟩ : ∃ n, lens[k]? = some n := ⟨_, List.getElem?_eq_getElem hkp⟩
      obtain ⟨A, c2, hcell⟩ := hS k n hn
      have HN := Lib.hid hn
      clear hn
      by_cases h200 : 200 < n
      · have HB := Lib.hid (shB_no HN.out h200)
        go_wp2
        go_ret
        exact ⟨by rw [HB.out]; rfl, rfl⟩
      · go_wp2
        go_round
        case rel => exact ⟨k + 1, by omega, by go_num, fun j m hj hm => by
          by_cases e : j = k
          · subst e; have := HN.out; rw [hm] at this; injection this with this; omega
          · exact HA.out j m (by omega) hm⟩
        case measure => simp [intOf]; omega
    · obtain rfl : k = lens.length := by omega
      have HB := Lib.hid (shB_yes (lens := lens) (fun i n hi => HA.out i n (List.getElem?_eq_some_iff.1 hi).1 hi))
      go_wp2
      go_ret
      exact ⟨by rw [HB.out]; rfl, rfl⟩

set_option maxRecDepth 100000 in
set_option maxHeartbeats 1000000 in
theorem spoil_any (A : Option Addr) (c : Nat) (l : List Nat) (w : World) (base : Nat) (hown : Gw.Own w base 5 A c l) (hcm : l.length ≤ 140737488355328) :
    Calls Try.prog 28 #[.slice A l.length c] w fun e w' => e = .returned (.tuple #[]) ∧ Below base w w' := by
  go_enter Try.func28, Try.ntmps28
  go_wp2
  go_loopw [2] (fun i wr => ∃ (k : Nat) (l' : List Nat), k ≤ l.length ∧ i = .int .i64 (k : Int) ∧ l'.length = l.length ∧ Gw.Own wr base 5 A c l' ∧ Below base w wr) (fun i _ => l.length - (intOf i).toNat)
  case atStart => exact ⟨0, l, Nat.zero_le _, rfl, rfl, hown, Below.refl _ _⟩
  case round =>
    obtain ⟨k, l', hk, rfl, hll, hown', hbel⟩ := hrel
    by_cases hkp : k < l.length
    · obtain ⟨g, rfl, hg, hst⟩ := Own.store hown' (by omega : k < l'.length)
      obtain ⟨x, b', off', hx, hxb, e', _, hcell⟩ := hown'.sl.at_ (by omega : k < l'.length)
      injection e' with e'
      injection e' with e1 e2
      subst e1 e2
      rw [Nat.zero_add] at hcell
      have hfr := Own.frozen hown' k
      have hxor : bits .xor .u8 (x : Int) 255 = ((x ^^^ 255 : Nat) : Int) := u8_xor_nat x 255 hxb (by omega)
      have H1 := Lib.hid (hst (x ^^^ 255) (Gf.xor_lt hxb (by omega)))
      have H2 := Lib.hid (hbel.setCell (p := ⟨g, k, none⟩) hg (.int .u8 ((x ^^^ 255 : Nat) : Int)))
      have HL := Lib.hid hll
      clear hx hll hst
      go_wp2
      go_roundw
      case rel => exact ⟨k + 1, l'.set k (x ^^^ 255), by omega, by go_num, by rw [List.length_set]; exact HL.out, H1.out, H2.out⟩
      case measure => simp [intOf]; omega
    · obtain rfl : k = l.length := by omega
      go_wp2
      go_end0
      exact ⟨rfl, hbel⟩
end Go.Proofs.Ytiefcfjepcgklaa
