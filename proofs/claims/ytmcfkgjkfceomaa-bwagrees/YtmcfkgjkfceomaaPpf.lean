/- What poly's Roots and distinct do: the polynomial of some roots, in memory of its own; are all unlike. -/
import Derived.Test.YtmcfkgjkfceomaaPpc
import Derived.Test.YtmcfkgjkfceomaaRpd
namespace Go.Proofs.Ytmcfkgjkfceomaa
open Go.RowKit Go.Shelf Gw Pol

def PrRel (w : World) (xs : List Nat) (v i : Value) (wr : World) : Prop :=
  ∃ (k : Nat) (A : Option Addr) (c : Nat), v = .slice A (k + 1) c ∧ i = .int .i64 (k : Int) ∧ k ≤ xs.length ∧ Gw.Own wr w.heap.size 5 A c (rt (xs.take k)) ∧ Below w.heap.size w wr
set_option maxRecDepth 100000 in
set_option maxHeartbeats 1000000 in
/-- The polynomial of some roots. -/
theorem proots_any (bf : Nat) (A : Option Addr) (c : Nat) (xs : List Nat) (w : World) (hF : IsField w bf) (hI : In w w.heap.size A c xs) (hcm : xs.length ≤ 70368744177664) :
    Calls Try.prog 29 #[.pointer (some ⟨bf, 0, none⟩), .slice A xs.length c] w fun e w' => ∃ A2 c2, e = .returned (.slice A2 (rt xs).length c2) ∧ Gw.Own w' w.heap.size 5 A2 c2 (rt xs) ∧ Below w.heap.size w w' := by
  have hlf := hF.lt
  go_enter Try.func29, Try.ntmps29
  go_wp2
  go_loopw [5, 11] (PrRel w xs) (fun _ i _ => xs.length - (intOf i).toNat)
  case atStart => exact ⟨0, some ⟨w.heap.size, 0, none⟩, 1, rfl, rfl, Nat.zero_le _, ⟨World.ownsRow_lit w #[.int .u8 1] 1 (Nat.le_refl _) (by simp [maxLen]) rfl, rt_bb _⟩, (Below.refl _ _).alloc (Nat.le_refl _) _⟩
  case round =>
    obtain ⟨k, Ao, co', rfl, rfl, hk, hown, hbel⟩ := hrel
    have hbs := hbel.size
    by_cases hkp : k < xs.length
    · obtain ⟨x, b, off, hx, hxb, rfl, hb, hcell⟩ := (hI.below hbel).sl.at_ hkp
      have HT := Lib.hid (show rt (xs.take (k + 1)) = tr (mul [x, 1] (rt (xs.take k))) by rw [← take_snoc hx, rt_snoc, lin_mul (rt_bb _)])
      have HL := Lib.hid (rt_len_take (xs := xs) (k := k) hk)
      have HL2 := Lib.hid (rt_len_take (xs := xs) (k := k + 1) hkp)
      have hF' := hF.below hbel hlf
      clear hx
      go_wp2_with fail
      refine (pmul' bf (some ⟨wr.heap.size, 0, none⟩) Ao 2 co' 2 (k + 1) [x, 1] (rt (xs.take k)) _ rfl HL.out.symm (hF'.below ((Below.refl _ _).alloc (Nat.le_refl _) _) hF'.lt) ⟨(Sl.two wr 5 x 1 hxb (by omega)).more (by simp), by simp, fun h => by cases h⟩ (hown.alloc _).inn (by rw [HL.out]; simp; omega)).mono ?_
      rintro e w' ⟨A2, c2, rfl, hown2, hb2⟩
      rw [← HT.out] at hown2 ⊢
      rw [HL2.out]
      have hb3 := (hbel.alloc hbs (.cells #[.int .u8 (x : Int), .int .u8 1] 5)).trans (hb2.mono (by simp; omega))
      have hown3 := hown2.base (base' := w.heap.size) (by simp; omega)
      clear hown2 hb2
      go_wp2
      go_roundw
      case rel => exact ⟨k + 1, A2, c2, rfl, by go_num, by omega, hown3, hb3⟩
      case measure => simp [intOf]; omega
    · obtain rfl : k = xs.length := by omega
      have HT := Lib.hid (rt_len_take (xs := xs) (k := xs.length) (Nat.le_refl _))
      rw [List.take_length] at hown
      go_wp2
      go_ret
      exact ⟨Ao, co', by rw [(rt_top xs).1]; rfl, hown, hbel⟩
theorem proots' (bf : Nat) (A : Option Addr) (c n : Nat) (xs : List Nat) (w : World) (hn : n = xs.length) (hF : IsField w bf) (hI : In w w.heap.size A c xs) (hcm : xs.length ≤ 70368744177664) :
    Calls Try.prog 29 #[.pointer (some ⟨bf, 0, none⟩), .slice A n c] w fun e w' => ∃ A2 c2, e = .returned (.slice A2 (rt xs).length c2) ∧ Gw.Own w' w.heap.size 5 A2 c2 (rt xs) ∧ Below w.heap.size w w' := by
  subst hn; exact proots_any bf A c xs w hF hI hcm

def seenZero : Array Value := (List.replicate 256 (Value.bool false)).toArray
theorem zeroSeen (w : World) : (zeroValue 55).run Try.prog w = .ok (.agg seenZero) w := by kernel_rfl
def seenF (l : List Nat) (j : Nat) : Value := .bool (decide (j ∈ l))
theorem seen_new (w : World) : Row (w.alloc (.cells seenZero 55)) w.heap.size 256 (seenF []) := Row.new w seenZero _ 256 _ (fun o ho => by
  unfold seenZero seenF
  rw [List.getElem?_toArray, List.getElem?_replicate, if_pos ho]; simp)
def PsRel (w : World) (xs : List Nat) (i : Value) (wr : World) : Prop :=
  ∃ k : Nat, i = .int .i64 (k : Int) ∧ k ≤ xs.length ∧ UnTo xs k ∧ Row wr w.heap.size 256 (seenF (xs.take k)) ∧ Below w.heap.size w wr
set_option maxRecDepth 100000 in
set_option maxHeartbeats 1000000 in
theorem distinct_any (A : Option Addr) (c : Nat) (xs : List Nat) (w : World) (hI : In w w.heap.size A c xs) (hcm : xs.length ≤ 140737488355328) :
    Calls Try.prog 39 #[.slice A xs.length c] w fun e w' => e = .returned (.bool (unB xs)) ∧ Below w.heap.size w w' := by
  have hz := zeroSeen
  go_enter Try.func39, Try.ntmps39
  go_wp2
  clear hz
  go_loopw [8] (PsRel w xs) (fun i _ => xs.length - (intOf i).toNat)
  case atStart => exact ⟨0, rfl, Nat.zero_le _, fun i j h => by omega, seen_new w, (Below.refl _ _).alloc (Nat.le_refl _) _⟩
  case round =>
    obtain ⟨k, rfl, hk, hun, hrow, hbel⟩ := hrel
    by_cases hkp : k < xs.length
    · obtain ⟨x, b, off, hx, hxb, rfl, hb, hcell⟩ := (hI.below hbel).sl.at_ hkp
      have hc1 := (hrow x hxb).1
      have hf1 := (hrow x hxb).2
      by_cases hin : x ∈ xs.take k
      · have hs : seenF (xs.take k) x = .bool true := by unfold seenF; simp [hin]
        rw [hs] at hc1
        obtain ⟨j, hj, hje⟩ := List.getElem_of_mem hin
        have hjk : j < k := by rw [List.length_take] at hj; omega
        have HN := Lib.hid (unB_no hkp hjk (by rw [co_of' hx, co_get (by omega), ← hje, List.getElem_take]))
        clear hs hx hje hj hin
        go_wp2
        go_ret
        exact ⟨by rw [HN.out]; rfl, hbel⟩
      · have hs : seenF (xs.take k) x = .bool false := by unfold seenF; simp [hin]
        rw [hs] at hc1
        have hrow2 := (hrow.set hxb (.bool true)).congr (g := seenF (xs.take (k + 1))) (fun o _ => by
          unfold seenF
          rw [← take_snoc hx]
          by_cases e : o = x
          · rw [if_pos e, e]; simp
          · rw [if_neg e]; simp [e])
        have hun2 : UnTo xs (k + 1) := fun i j hi hj => by
          by_cases e : i = k
          · subst e
            rw [co_of' hx]
            intro h
            refine hin ?_
            rw [h, co_get (by omega), ← List.getElem_take (j := i) (h := by rw [List.length_take]; omega)]
            exact List.getElem_mem _
          · exact hun i j (by omega) hj
        have H1 := Lib.hid hrow2
        have H2 := Lib.hid hun2
        have H3 := Lib.hid (hbel.setCell (p := ⟨w.heap.size, x, none⟩) (Nat.le_refl _) (.bool true))
        clear hs hx hrow hrow2 hun2 hun hin
        go_wp2
        go_roundw
        case rel => exact ⟨k + 1, by go_num, by omega, H2.out, H1.out, H3.out⟩
        case measure => simp [intOf]; omega
    · obtain rfl : k = xs.length := by omega
      have HN := Lib.hid (unB_yes hun)
      go_wp2
      go_ret
      exact ⟨by rw [HN.out]; rfl, hbel⟩
end Go.Proofs.Ytmcfkgjkfceomaa
