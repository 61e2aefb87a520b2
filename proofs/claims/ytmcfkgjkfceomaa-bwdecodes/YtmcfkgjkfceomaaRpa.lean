/- What the definition's own Trim and Eval (package shamrockref01) do: a polynomial without noughts at its end, in memory of its own; its value. -/
import Derived.Test.YtmcfkgjkfceomaaProg
import Derived.Test.YtmcfkgjkfceomaaRfa
import Derived.Test.YtmcfkgjkfceomaaBys
namespace Go.Proofs.Ytmcfkgjkfceomaa
open Go.RowKit Go.Shelf Gw Pol

theorem byte_info : (Try.prog.info? 5).map (fun i => (i.zero, i.size, i.bytes)) = some (some (.int .u8 0), 1, 1) := by kernel_rfl

set_option maxRecDepth 100000 in
set_option maxHeartbeats 1000000 in
theorem trim_any (A : Option Addr) (c : Nat) (l : List Nat) (w : World) (B : Nat) (hI : In w B A c l) (hB : B ≤ w.heap.size) (hcm : l.length ≤ 140737488355328) :
    Calls Try.prog 17 #[.slice A l.length c] w fun e w' => ∃ A' c', e = .returned (.slice A' (tr l).length c') ∧ Gw.Own w' w.heap.size 5 A' c' (tr l) ∧ Below w.heap.size w w' := by
  obtain ⟨hS, hc, hnil⟩ := hI
  obtain ⟨i0, hi0, hz0, hz1, hz2⟩ := info_parts byte_info
  go_enter Try.func17, Try.ntmps17
  go_wp2
  go_loop [3] (fun i => ∃ n : Nat, n ≤ l.length ∧ i = .int .i64 (n : Int) ∧ Dg l n) (fun i => (intOf i).toNat)
  case atStart => exact ⟨l.length, Nat.le_refl _, rfl, Dg.len (Nat.le_refl _)⟩
  case round =>
    obtain ⟨n, hn, rfl, hd⟩ := hrel
    by_cases hout : n = 0 ∨ co l (n - 1) ≠ 0
    · have hfin := Lib.hid (tr_take l n hn hd hout)
      have hlen : (l.take n).length = n := by simp; omega
      have HL := Lib.hid hlen
      clear hlen
      by_cases h0 : n = 0
      · subst h0
        clear hout
        go_wp2_with (at_builtin; refine wpList_app rfl (.tmp 18) (.tmp 21) 22 rfl w.heap.size 5 i0 _ Try.underlying22 hi0 hz0 hz1 hz2 rfl (some ⟨w.heap.size, 0, none⟩) 0 0 [] rfl rfl (Own.lit0 w w.heap.size 5 (Nat.le_refl _)) B A 0 c [] rfl rfl hnil Sl.nil (by simp) (by simp) ?_; intro A2 c2 w2 hown hgr)
        go_ret
        refine ⟨A2, c2, ?_, ?_, ?_⟩
        · rw [hfin.out]; rfl
        · rw [hfin.out]; exact hown
        · exact ((Below.refl _ w).alloc (Nat.le_refl _) _).grown hgr (by simp) (fun k hk => by simp [Value.ownBlock] at hk; omega)
      · obtain ⟨x, b, off, hx, hxb, rfl, hb, hcell⟩ := hS.at_ (k := n - 1) (by omega)
        have ecast : (n : Int) - 1 = ((n - 1 : Nat) : Int) := by omega
        have hx0 : x ≠ 0 := by
          rcases hout with h | h
          · exact absurd h h0
          · simpa [co, hx] using h
        have hxz : ((x : Int) == 0) = false := beq_eq_false_iff_ne.2 (by omega)
        clear hout hx hx0
        go_wp2_with (at_builtin; refine wpList_app rfl (.tmp 18) (.tmp 21) 22 rfl w.heap.size 5 i0 _ Try.underlying22 hi0 hz0 hz1 hz2 rfl (some ⟨w.heap.size, 0, none⟩) 0 0 [] rfl rfl (Own.lit0 w w.heap.size 5 (Nat.le_refl _)) B (some ⟨b, off, none⟩) n c (l.take n) rfl HL.out.symm hnil ((hS.take n).alloc hB _) (by rw [HL.out]; simp; omega) (by simp) ?_; intro A2 c2 w2 hown hgr)
        go_ret
        refine ⟨A2, c2, ?_, ?_, ?_⟩
        · rw [hfin.out, HL.out]; rfl
        · rw [hfin.out]; exact hown
        · exact ((Below.refl _ w).alloc (Nat.le_refl _) _).grown hgr (by simp) (fun k hk => by simp [Value.ownBlock] at hk; omega)
    · have h0 : n ≠ 0 := fun h => hout (.inl h)
      obtain ⟨x, b, off, hx, hxb, rfl, hb, hcell⟩ := hS.at_ (k := n - 1) (by omega)
      have ecast : (n : Int) - 1 = ((n - 1 : Nat) : Int) := by omega
      have hx0 : x = 0 := Decidable.byContradiction fun h => hout (.inr (by simpa [co, hx] using h))
      subst hx0
      clear hout
      have HX := Lib.hid hx
      clear hx
      go_wp2
      go_round
      case rel => exact ⟨n - 1, by omega, rfl, fun i hi => by
        by_cases e : i = n - 1
        · subst e; simp [co, HX.out]
        · exact hd i (by omega)⟩
      case measure => simp [intOf]; omega

theorem ev_snoc {p : List Nat} (hp : BB p) {a x : Nat} (ha : a < 256) (hx : x < 256) : ev x (p ++ [a]) = ev x p ^^^ Gf.gm a (Gf.gp x p.length) := by
  induction p with
  | nil => simp [ev, Gf.gp, Gf.gm_zero_right, Gf.gm_one ha]
  | cons b p ih =>
    show b ^^^ Gf.gm x (ev x (p ++ [a])) = (b ^^^ Gf.gm x (ev x p)) ^^^ Gf.gm a (Gf.gp x (p.length + 1))
    rw [ih hp.tail, Gf.gm_xor_right hx (ev_lt hp.tail x) (Gf.gm_lt _ _), Nat.xor_assoc]
    congr 2
    show Gf.gm x (Gf.gm a (Gf.gp x p.length)) = Gf.gm a (Gf.gm (Gf.gp x p.length) x)
    rw [← Gf.gm_assoc hx ha (Gf.gp_lt _ _), Gf.gm_comm x a, Gf.gm_assoc ha hx (Gf.gp_lt _ _), Gf.gm_comm x]
theorem ev_take_succ {l : List Nat} (hl : BB l) {k y x : Nat} (hk : l[k]? = some y) (hx : x < 256) : ev x (l.take (k + 1)) = ev x (l.take k) ^^^ Gf.gm y (Gf.gp x k) := by
  have hlt : k < l.length := (List.getElem?_eq_some_iff.1 hk).1
  have e : l.take (k + 1) = l.take k ++ [y] := by rw [List.take_add_one, hk]; rfl
  rw [e, ev_snoc (hl.take k) (hl y (List.mem_of_getElem? hk)) hx, List.length_take, Nat.min_eq_left (by omega)]
set_option maxRecDepth 100000 in
set_option maxHeartbeats 1000000 in
theorem reval_any (A : Option Addr) (c : Nat) (l : List Nat) (x : Nat) (hx : x < 256) (w : World) (B : Nat) (hI : In w B A c l) (hcm : l.length ≤ 140737488355328) :
    Calls Try.prog 18 #[.slice A l.length c, .int .u8 (x : Int)] w fun e w' => e = .returned (.int .u8 (ev x l : Int)) ∧ w = w' := by
  obtain ⟨hS, hc, hnil⟩ := hI
  go_enter Try.func18, Try.ntmps18
  go_wp2
  go_loop [5, 6, 7] (fun s p i => ∃ k : Nat, k ≤ l.length ∧ i = .int .i64 (k : Int) ∧ s = .int .u8 (ev x (l.take k) : Int) ∧ p = .int .u8 (Gf.gp x k : Int)) (fun _ _ i => l.length - (intOf i).toNat)
  case atStart => exact ⟨0, Nat.zero_le _, rfl, rfl, rfl⟩
  case round =>
    obtain ⟨k, hk, rfl, rfl, rfl⟩ := hrel
    by_cases hlt : k < l.length
    · obtain ⟨y, b, off, hy, hyb, rfl, hb, hcell⟩ := hS.at_ hlt
      have e1 := ev_lt (hS.bb.take k) x
      have HV := Lib.hid (ev_take_succ hS.bb hy hx)
      have hxor : bits .xor .u8 (ev x (l.take k) : Int) (Gf.gm y (Gf.gp x k) : Int) = ((ev x (l.take k) ^^^ Gf.gm y (Gf.gp x k) : Nat) : Int) := u8_xor_nat _ _ e1 (Gf.gm_lt _ _)
      clear hy e1
      go_wp2_with fail
      refine (rmul_any y (Gf.gp x k) hyb (Gf.gp_lt _ _) _).mono ?_
      rintro e w' ⟨rfl, rfl⟩
      go_wp2_with fail
      refine (rmul_any (Gf.gp x k) x (Gf.gp_lt _ _) hx _).mono ?_
      rintro e w' ⟨rfl, rfl⟩
      go_wp2
      go_round
      case rel => exact ⟨k + 1, by omega, by go_num, by rw [HV.out], rfl⟩
      case measure => simp [intOf]; omega
    · obtain rfl : k = l.length := by omega
      have HV := Lib.hid (List.take_length (l := l))
      go_wp2
      go_ret
      exact ⟨by rw [← HV.out]; simp, rfl⟩
end Go.Proofs.Ytmcfkgjkfceomaa
