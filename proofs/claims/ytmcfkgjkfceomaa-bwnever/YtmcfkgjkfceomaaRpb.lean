/- What the definition's own Add (package shamrockref01) does: the sum, without noughts at its end, in memory of its own. -/
import Derived.Test.YtmcfkgjkfceomaaRpa
namespace Go.Proofs.Ytmcfkgjkfceomaa
open Go.RowKit Go.Shelf Gw Pol

theorem add_get (p q : List Nat) (k : Nat) (h : k < p.length ∨ k < q.length) : (add p q)[k]? = some (co p k ^^^ co q k) := by
  have hl : k < (add p q).length := by rw [add_len]; omega
  rw [List.getElem?_eq_getElem hl, ← co_get hl, co_add]
theorem co_of {l : List Nat} {k x : Nat} (h : l[k]? = some x) : co l k = x := by simp [co, h]

def AddRel (w : World) (p q : List Nat) (v i : Value) (wr : World) : Prop :=
  ∃ (k : Nat) (A : Option Addr) (c : Nat), v = .slice A k c ∧ i = .int .i64 (k : Int) ∧ k ≤ (add p q).length ∧ Gw.Own wr w.heap.size 5 A c ((add p q).take k) ∧ Below w.heap.size w wr

theorem add_step {w wr w2 : World} {p q : List Nat} {k : Nat} {A A2 : Option Addr} {c c2 y : Nat} {o : Obj} (hk : k + 1 ≤ (add p q).length) (hy : (add p q)[k]? = some y)
    (hown : Gw.Own wr w.heap.size 5 A c ((add p q).take k)) (hbel : Below w.heap.size w wr) (hown2 : Gw.Own w2 w.heap.size 5 A2 c2 ((add p q).take k ++ [y]))
    (hgr : (wr.alloc o).grownBy w2 (Value.slice A k c).ownBlock) : AddRel w p q (.slice A2 (k + 1) c2) (.int .i64 ((k : Int) + 1)) w2 :=
  ⟨k + 1, A2, c2, rfl, rfl, hk, by rw [take_snoc hy] at hown2; exact hown2, below_app hbel hbel.size hown hgr⟩

set_option maxRecDepth 100000 in
set_option maxHeartbeats 1000000 in
theorem radd_any (A A' : Option Addr) (c c' : Nat) (p q : List Nat) (w : World) (hp : In w w.heap.size A c p) (hq : In w w.heap.size A' c' q) (hcm : p.length + q.length ≤ 140737488355328) :
    Calls Try.prog 37 #[.slice A p.length c, .slice A' q.length c'] w fun e w' => ∃ A2 c2, e = .returned (.slice A2 (tr (add p q)).length c2) ∧ Gw.Own w' w.heap.size 5 A2 c2 (tr (add p q)) ∧ Below w.heap.size w w' := by
  obtain ⟨i0, hi0, hz0, hz1, hz2⟩ := info_parts byte_info
  have hlen := add_len p q
  have HLen := Lib.hid hlen
  have hl1 : (add p q).length ≤ p.length + q.length := by omega
  have hl2 : p.length ≤ (add p q).length := by omega
  have hl3 : q.length ≤ (add p q).length := by omega
  clear hlen
  go_enter Try.func37, Try.ntmps37
  go_wp2
  go_loopw [5, 6] (AddRel w p q) (fun _ i _ => (add p q).length - (intOf i).toNat)
  case atStart => exact ⟨0, none, 0, rfl, rfl, Nat.zero_le _, Own.none_ _ _ _, Below.refl _ _⟩
  case round =>
    obtain ⟨k, Ao, co', rfl, rfl, hk, hown, hbel⟩ := hrel
    have hP := (hp.below hbel).sl
    have hQ := (hq.below hbel).sl
    have hbs := hbel.size
    by_cases hkp : k < p.length
    · obtain ⟨x, b, off, hx, hxb, rfl, hb, hcell⟩ := hP.at_ hkp
      have z0 : bits .xor .u8 0 (x : Int) = (x : Int) := by simpa using u8_xor_nat 0 x (by omega) hxb
      by_cases hkq : k < q.length
      · obtain ⟨y, b2, off2, hy, hyb, rfl, hb2, hcell2⟩ := hQ.at_ hkq
        have z1 : bits .xor .u8 (x : Int) (y : Int) = ((x ^^^ y : Nat) : Int) := u8_xor_nat x y hxb hyb
        have HG := Lib.hid (show (add p q)[k]? = some (x ^^^ y) by rw [add_get p q k (.inl hkp), co_of hx, co_of hy])
        clear hx hy hP hQ
        go_wp2_with (at_builtin; refine wpList_app rfl (.tmp 40) (.tmp 42) 22 rfl w.heap.size 5 i0 _ Try.underlying22 hi0 hz0 hz1 hz2 rfl Ao k co' ((add p q).take k) rfl (by simp; omega) (hown.alloc _) _ _ 1 1 [x ^^^ y] rfl rfl (fun h => by cases h) (Sl.one wr 5 _ (Gf.xor_lt hxb hyb)) (by simp; omega) (by simp; omega) ?_; intro A2 c2 w2 hown2 hgr)
        go_roundw
        case rel => exact add_step (by omega) HG.out hown hbel hown2 hgr
        case measure => simp [intOf]; omega
      · have HG := Lib.hid (show (add p q)[k]? = some x by rw [add_get p q k (.inl hkp), co_of hx, co_far (by omega), Nat.xor_zero])
        clear hx hP hQ
        go_wp2_with (at_builtin; refine wpList_app rfl (.tmp 40) (.tmp 42) 22 rfl w.heap.size 5 i0 _ Try.underlying22 hi0 hz0 hz1 hz2 rfl Ao k co' ((add p q).take k) rfl (by simp; omega) (hown.alloc _) _ _ 1 1 [x] rfl rfl (fun h => by cases h) (Sl.one wr 5 _ hxb) (by simp; omega) (by simp; omega) ?_; intro A2 c2 w2 hown2 hgr)
        go_roundw
        case rel => exact add_step (by omega) HG.out hown hbel hown2 hgr
        case measure => simp [intOf]; omega
    · by_cases hkq : k < q.length
      · obtain ⟨y, b2, off2, hy, hyb, rfl, hb2, hcell2⟩ := hQ.at_ hkq
        have z1 : bits .xor .u8 0 (y : Int) = (y : Int) := by simpa using u8_xor_nat 0 y (by omega) hyb
        have HG := Lib.hid (show (add p q)[k]? = some y by rw [add_get p q k (.inr hkq), co_of hy, co_far (by omega), Nat.zero_xor])
        clear hy hP hQ
        go_wp2_with (at_builtin; refine wpList_app rfl (.tmp 40) (.tmp 42) 22 rfl w.heap.size 5 i0 _ Try.underlying22 hi0 hz0 hz1 hz2 rfl Ao k co' ((add p q).take k) rfl (by simp; omega) (hown.alloc _) _ _ 1 1 [y] rfl rfl (fun h => by cases h) (Sl.one wr 5 _ hyb) (by simp; omega) (by simp; omega) ?_; intro A2 c2 w2 hown2 hgr)
        go_roundw
        case rel => exact add_step (by omega) HG.out hown hbel hown2 hgr
        case measure => simp [intOf]; omega
      · obtain rfl : k = (add p q).length := by have := HLen.out; omega
        rw [List.take_length] at hown
        clear hP hQ
        go_wp2_with fail
        refine (trim_any Ao co' (add p q) wr wr.heap.size hown.inn (Nat.le_refl _) (by omega)).mono ?_
        rintro e w' ⟨A2, c2, rfl, hown2, hb2⟩
        go_wp2
        go_ret
        exact ⟨A2, c2, rfl, hown2.base hbs, hbel.trans (hb2.mono hbs)⟩
end Go.Proofs.Ytmcfkgjkfceomaa
