/- What rs's Encode does: a polynomial's values at all points, in memory of its own. -/
import Derived.Test.YtmcfkgjkfceomaaRsm
import Derived.Test.YtmcfkgjkfceomaaPpl
namespace Go.Proofs.Ytmcfkgjkfceomaa
open Go.RowKit Go.Shelf Gw Pol

def EnRel (w : World) (p xs : List Nat) (_a _b i : Value) (wr : World) : Prop :=
  ∃ k : Nat, k ≤ xs.length ∧ i = .int .i64 (k : Int) ∧ Gw.Own wr w.heap.size 5 (some ⟨w.heap.size, 0, none⟩) xs.length (encTo p xs k) ∧ Below w.heap.size w wr
set_option maxRecDepth 100000 in
set_option maxHeartbeats 1000000 in
theorem encode_any (bf : Nat) (A A' : Option Addr) (c c' : Nat) (p xs : List Nat) (w : World) (hF : IsField w bf) (hp : In w w.heap.size A c p) (hx : In w w.heap.size A' c' xs) (hcm : p.length ≤ 140737488355328) (hcx : xs.length ≤ 140737488355328) :
    Calls Try.prog 33 #[.pointer (some ⟨bf, 0, none⟩), .slice A p.length c, .slice A' xs.length c'] w fun e w' => ∃ A2 c2, e = .returned (.slice A2 (enc p xs).length c2) ∧ Gw.Own w' w.heap.size 5 A2 c2 (enc p xs) ∧ Below w.heap.size w w' := by
  have hlf := hF.lt
  have hmk := run_make_row' (P := Try.prog) 22 5 (.int .u8 0) 1 Try.underlying22 pbyte_info rfl .i64 .i64 xs.length (by omega) (by omega)
  have hown0 := Own.made w 5 xs.length hcx
  rw [← encTo_zero p] at hown0
  have HO := Lib.hid hown0
  clear hown0
  go_enter Try.func33, Try.ntmps33
  go_wp2
  clear hmk
  go_loopw [8, 9, 15] (EnRel w p xs) (fun _ _ i _ => xs.length - (intOf i).toNat)
  case atStart => exact ⟨0, Nat.zero_le _, rfl, HO.out, (Below.refl _ _).alloc (Nat.le_refl _) _⟩
  case round =>
    obtain ⟨k, hk, rfl, hown', hbel⟩ := hrel
    by_cases hlt : k < xs.length
    · obtain ⟨x, b, off, hxx, hxb, rfl, hb, hcell⟩ := (hx.below hbel).sl.at_ hlt
      have HST := Lib.hid (encTo_step (p := p) hxx)
      have HV := Lib.hid (peval_any bf A c p x hxb _ (hF.below hbel hlf) ((hp.below hbel).more hbel.size) hcm)
      have hle := ev_lt hp.bb x
      have HW := Lib.hid hown'
      clear hxx hown'
      go_wp2_with fail
      refine HV.out.mono ?_
      rintro e w2 ⟨rfl, hb2⟩
      have hown2 := HW.out.kept hb2
      have hbel2 := hbel.trans (hb2.mono hbel.size)
      have hkl : k < (encTo p xs k).length := by rw [encTo_len]; exact hlt
      have hcg := hown2.cell hkl
      have hfr := Own.frozen hown2 k
      have hset := hown2.put hkl hle
      rw [HST.out] at hset
      have HS := Lib.hid hset
      have HG := Lib.hid (hbel2.setCell (p := ⟨w.heap.size, k, none⟩) (Nat.le_refl _) (.int .u8 (ev x p : Int)))
      obtain ⟨v, hv⟩ : ∃ v, v = co (encTo p xs k) k := ⟨_, rfl⟩
      rw [← hv] at hcg
      clear hset hv hown2 hkl HV hb2 hbel2 hcell
      go_wp2
      go_roundw
      case rel => exact ⟨k + 1, by omega, by go_num, HS.out, HG.out⟩
      case measure => simp [intOf]; omega
    · obtain rfl : k = xs.length := by omega
      rw [encTo_all] at hown'
      go_wp2
      go_ret
      exact ⟨_, _, by rw [enc_len]; rfl, hown', hbel⟩
theorem encode' (bf : Nat) (A A' : Option Addr) (c c' n m : Nat) (p xs : List Nat) (w : World) (hn : n = p.length) (hm : m = xs.length) (hF : IsField w bf) (hp : In w w.heap.size A c p) (hx : In w w.heap.size A' c' xs) (hcm : p.length ≤ 140737488355328) (hcx : xs.length ≤ 140737488355328) :
    Calls Try.prog 33 #[.pointer (some ⟨bf, 0, none⟩), .slice A n c, .slice A' m c'] w fun e w' => ∃ A2 c2, e = .returned (.slice A2 (enc p xs).length c2) ∧ Gw.Own w' w.heap.size 5 A2 c2 (enc p xs) ∧ Below w.heap.size w w' := by
  subst hn hm; exact encode_any bf A A' c c' p xs w hF hp hx hcm hcx
end Go.Proofs.Ytmcfkgjkfceomaa
